import PyProof.Rows.All
import Wide.All
import OpenK.AllK
import Wide.FinOn
import PyProof.EqAt
import PyProof.EqKinds
import PyProof.NeKinds
import PyProof.TupleCall
import PyProof.StrWalks
import PyProof.EnumMake
import PyProof.WalksEnum
import PyProof.ZipIter
import PyProof.Rows.ZipGen
import PyProof.Rows.SortWalk
import KE.KSortedM
import PyProof.StrLawsIdx
import PyProof.StrLawsNeg
import PyProof.ExcInit
import PyProof.InstStoreFacts
import PyProof.AttrMissHeap
import PyProof.FactsAll.enumerate
import PyProof.FactsAll.dict_1
import KE.KDictOf
import KE.KItemsList
import PyProof.ReprRoads
import PyProof.FitsInt
import PySem.Challenge.RW_farthestcut_k17_whole_more_taken_is_no_s
set_option compiler.extract_closed false
set_option Elab.async false
set_option linter.all false
set_option maxRecDepth 100000
set_option maxHeartbeats 4000000
noncomputable section
namespace L2
open PySem PySem.Spec PyProof.Rows
abbrev Key:=Sum Int Str
def zr3:Key->Value->Bool
 | .inl k,v=>Value.isInt k v
 | .inr x,v=>Value.isStrOf x v
def zEu (w:World):Key->Int
 | .inl k=>hashInt k
 | .inr x=>hashStr w x
theorem zbB:∀ {k:Key}{v:Value},zr3 k v=true->(∃ i t,k=Sum.inl i/\v=Value.int i t)∨(∃ x t,k=Sum.inr x/\v=Value.str x t)
 | .inl i,v,h=>by
  obtain⟨t,e⟩:=Value.isInt_shape (k:=i) (v:=v) h;exact .inl ⟨i,t,rfl,e⟩
 | .inr x,v,h=>by
  obtain⟨t,e⟩:=Value.isStrOf_shape (x:=x) (v:=v) h;exact .inr ⟨x,t,rfl,e⟩
theorem ztK (i:Int)(t:Tok):zr3 (.inl i) (.int i t)=true:=by simp [zr3,Value.isInt]
theorem ztJ (x:Str)(t:Tok):zr3 (.inr x) (.str x t)=true:=by simp [zr3,Value.isStrOf]
theorem zBi (a b:Int):decide ((Sum.inl a:Key)=Sum.inl b)=(a==b):=by
 by_cases e:a=b
 .subst e;simp
 .have h:¬ (Sum.inl a:Key)=Sum.inl b:=fun q=>e (Sum.inl.inj q)
  rw[decide_eq_false h];exact(beq_eq_false_iff_ne.mpr e).symm
theorem zBf (a b:Str):decide ((Sum.inr a:Key)=Sum.inr b)=decide (a=b):=by
 by_cases e:a=b
 .subst e;simp
 .have h:¬ (Sum.inr a:Key)=Sum.inr b:=fun q=>e (Sum.inr.inj q)
  rw[decide_eq_false h,decide_eq_false e]
theorem zBh (a:Int)(b:Str):decide ((Sum.inl a:Key)=Sum.inr b)=false:=decide_eq_false (fun q=>nomatch q)
theorem zBg (a:Str)(b:Int):decide ((Sum.inr a:Key)=Sum.inl b)=false:=decide_eq_false (fun q=>nomatch q)
noncomputable def zbV (prog:Program) (w:World):PySem.KeyKind prog w Key where
 is:=zr3
 hash:=zEu w
 inj:=fun v a b ha hb=>by
  rcases zbB ha with⟨i,t,rfl,rfl⟩ | ⟨x,t,rfl,rfl⟩
  .rcases zbB hb with⟨j,u,rfl,e⟩ | ⟨y,u,rfl,e⟩
   .injection e with e1 _;rw[e1]
   .exact nomatch e
  .rcases zbB hb with⟨j,u,rfl,e⟩ | ⟨y,u,rfl,e⟩
   .exact nomatch e
   .injection e with e1 _;rw[e1]
 byValue:=fun k v h=>by
  rcases zbB h with⟨i,t,rfl,rfl⟩ | ⟨x,t,rfl,rfl⟩<;>rfl
 pyHash:=fun hv h=>by
  rcases zbB hv with⟨i,t,rfl,rfl⟩ | ⟨x,t,rfl,rfl⟩
  .exact wpAny_pyHash_int h
  .exact wpAny_pyHash_str h
 eqBool:=fun hu hv h=>by
  rcases zbB hu with⟨i,t,rfl,rfl⟩ | ⟨x,t,rfl,rfl⟩
  .rcases zbB hv with⟨j,u,rfl,rfl⟩ | ⟨y,u,rfl,rfl⟩
   .rw[zBi] at h;exact wpAny_eqBool_int h
   .rw[zBh] at h;exact SeqAt.EqAt.int_str i t y u _ _ _ _ h
  .rcases zbB hv with⟨j,u,rfl,rfl⟩ | ⟨y,u,rfl,rfl⟩
   .rw[zBg] at h;exact SeqAt.EqAt.str_int x t j u _ _ _ _ h
   .rw[zBf] at h;exact wpAny_eqBool_str h
 «strs»:=fun k x t v h=>by
  rcases zbB h with⟨i,u,rfl,e⟩ | ⟨y,u,rfl,e⟩
  .exact nomatch e
  .injection e with e1 _
   subst e1;cases v<;>rfl
theorem zpV (prog:Program)(w:World)(i:Int)(t:Tok):(zbV prog w).is (.inl i) (.int i t)=true:=ztK i t
theorem zpU (prog:Program)(w:World)(x:Str)(t:Tok):(zbV prog w).is (.inr x) (.str x t)=true:=ztJ x t
inductive V where
 | non | bl (b:Bool) | int (i:Int) | str (x:Str) | byt (b:Array UInt8) | flt (b:UInt64) | ref (a:Addr) | ty (n:String)
 deriving DecidableEq
noncomputable def zbw:V->Value->Prop
 | .non,u=>u=Value.none
 | .bl b,u=>u=Value.bool b
 | .int i,u=>∃ t,u=Value.int i t
 | .str x,u=>∃ t,u=Value.str x t
 | .byt b,u=>∃ t,u=Value.bytes b t
 | .flt b,u=>∃ t,u=Value.float b t
 | .ref a,u=>u=Value.ref a
 | .ty n,u=>u=Value.type n
abbrev zbO:List V->List Value->Prop:=Paired zbw
theorem zbO.length {xs:List V}{us:List Value}(r:zbO xs us):xs.length=us.length:=Paired.length r
theorem zbO.get:∀ {xs:List V}{us:List Value}{i:Nat}{x:V},zbO xs us->xs[i]?=some x->∃ u,us[i]?=some u/\zbw x u
 | _,_,_,_,.nil,e=>by simp at e
 | _,_,0,_,.cons r _,e=>by simp at e;subst e;exact⟨_,rfl,r⟩
 | _,_,i+1,x,.cons _ t,e=>by
  obtain⟨u,h1,h2⟩:=zbO.get (i:=i) (x:=x) t (by simpa using e);exact⟨u,by simpa using h1,h2⟩
theorem zbO.set {x:V}{u:Value}(r:zbw x u):∀ {xs:List V}{us:List Value}(i:Nat),zbO xs us->zbO (xs.set i x) (us.set i u)
 | _,_,_,.nil=>.nil
 | _,_,0,.cons _ t=>.cons r t
 | _,_,i+1,.cons q t=>.cons q (zbO.set r i t)
theorem zbO.append:∀ {xs ys:List V}{us ws:List Value},zbO xs us->zbO ys ws->zbO (xs++ys) (us++ws)
 | _,_,_,_,.nil,s=>s
 | _,_,_,_,.cons r t,s=>.cons r (zbO.append t s)
theorem zbO.take:∀ {xs:List V}{us:List Value}(n:Nat),zbO xs us->zbO (xs.take n) (us.take n)
 | _,_,0,_=>.nil
 | _,_,_+1,.nil=>.nil
 | _,_,n+1,.cons r t=>.cons r (zbO.take n t)
theorem zbO.drop:∀ {xs:List V}{us:List Value}(n:Nat),zbO xs us->zbO (xs.drop n) (us.drop n)
 | _,_,0,r=>r
 | _,_,_+1,.nil=>.nil
 | _,_,n+1,.cons _ t=>zbO.drop n t
def zxV:Option V->Option Value->Prop
 | some v,some u=>zbw v u
 | none,none=>True
 | _,_=>False
noncomputable def KV {κ:Type}:List (κ×V)->List (κ×Value)->Prop:=Paired fun(p:κ×V) (q:κ×Value)=>p.1=q.1/\zbw p.2 q.2
def kV:Key->V
 | .inl i=>.int i
 | .inr x=>.str x
inductive HO where
 | lst (xs:List V)
 | tup (xs:List V)
 | dK (kvs:List (Key×V)) | dT (kvs:List (List Key×V))
 | set (S:Int->Bool) (n:Nat)
 | ins (C dx:Addr) (fs:List (Str×V))
 | own (x:Addr)
 | xd (fs:List (Str×V))
 | met (f x:Addr)
 | rng (lo hi:Int)
 | frz (o:Obj) (u:HO)
 | tbl (ps:Array Value)
 | ext (φ:Heap->Prop)
abbrev Hp:=Addr->Option HO
def upd (H:Hp)(a:Addr)(o:HO):Hp:=fun b=>if b=a then some o else H b
theorem zar {H:Hp}{a:Addr}{o:HO}:upd H a o a=some o:=by unfold upd;rw[if_pos rfl]
theorem zal {H:Hp}{a b:Addr}{o:HO}(h:b≠a):upd H a o b=H b:=by unfold upd;rw[if_neg h]
theorem zCU {H:Hp}{a b:Addr}{o u:HO}(h:H a=some o)(h':H b=some u)(d:o≠u):a≠b:=by
 intro e;subst e;rw[h] at h';exact d (Option.some.inj h')
theorem zaQ {H:Hp}{a b:Addr}{o:HO}(h:H a=some o)(h':H b=none):a≠b:=by
 intro e;subst e;rw[h] at h';cases h'
section
variable (P:Program) (w:World)
noncomputable def zdg (H:Hp) (h:Heap) (a:Addr):HO->Prop
 | .lst xs=>xs.length<=sizeLine/\∃ (its:List Value) (n:Nat),zbO xs its/\h.get? a=some { cls:=.type "list",data:=.seq its.toArray n }
 | .tup xs=>xs.length<=sizeLine/\∃ its:List Value,zbO xs its/\IsTup h a its.toArray
 | .dK kvs=>kvs.length<=sizeLine/\(a==sysModules)=false/\∃ vs,KV kvs vs/\h.DictOf (zbV P w) a vs
 | .dT kvs=>kvs.length<=sizeLine/\(a==sysModules)=false/\∃ xs:List (List Key×Addr×Value),
   Paired (fun(p:List Key×V) (q:List Key×Addr×Value)=>p.1=q.1/\H q.2.1=some (.tup (p.1.map kV))/\zbw p.2 q.2.2) kvs xs /\
   ∃ o es ep,h.get? a=some o/\o.ExactDict/\o.data=.dict es ep/\es.toList=xs.map (entryOfKey (tupleKind (zbV P w)))/\(xs.map (·.1)).Nodup
 | .set S n=>h.SetOf (intKind P w) a S n
 | .ins C dx fs=>H dx=some (.own a)/\fs.length<=1000/\dx≠a/\h.get? a=some (W.instObj C dx) /\
   ∃ mA,h.Ns1 dx mA/\(∀ f,zxV (fs.lookup f) (mA f))/\PySem.Within mA (fs.map (·.1))
 | .own _=>∃ o,h.get? a=some o
 | .xd fs=>∃ mA,h.Ns1 a mA/\∀ f,zxV (fs.lookup f) (mA f)
 | .rng lo hi=>∃ t u v,h.get? a=some { cls:=.type "range",data:=.fields #[.int lo t,.int hi u,.int 1 v] }
 | .frz o u=>h.get? a=some o/\zdg H h a u
 | .tbl ps=>h.get? a=some { cls:=.none,data:=.fields ps }
 | .met f x=>h.get? a=some (W.methodObj (.ref f) (.ref x))
 | .ext φ=>φ h/\(∃ o,h.get? a=some o)/\∀ h1 h2:Heap,φ h1->(∀ o,h1.get? a=some o->h2.get? a=some o)->φ h2
def HOk (H:Hp)(h:Heap):Prop:=∀ a o,H a=some o->zdg P w H h a o
end
section
variable {P:Program}{w:World}{H H':Hp}{h h':Heap}{a:Addr}{o:HO}
theorem zdg.lt (x:zdg P w H h a o):a < h.objs.size:=by
 cases o with
 | lst xs=>obtain⟨_,_,_,_,e⟩:=x;exact Heap.lt_size e
 | tup xs=>obtain⟨_,_,_,p⟩:=x;exact p.lt
 | dK kvs=>obtain⟨_,_,_,_,o,_,_,e,_⟩:=x;exact Heap.lt_size e
 | dT kvs=>obtain⟨_,_,_,_,o,_,_,e,_⟩:=x;exact Heap.lt_size e
 | set S n=>obtain⟨o,_,_,_,e,_⟩:=x;exact Heap.lt_size e
 | ins C dx fs=>obtain⟨_,_,_,e,_⟩:=x;exact Heap.lt_size e
 | own y=>obtain⟨_,e⟩:=x;exact Heap.lt_size e
 | xd fs=>obtain⟨_,⟨_,_,_,e,_⟩,_⟩:=x;exact Heap.lt_size e
 | rng lo hi=>obtain⟨_,_,_,e⟩:=x;exact Heap.lt_size e
 | frz ob u=>obtain⟨e,_⟩:=x;exact Heap.lt_size e
 | tbl ps=>exact Heap.lt_size (show h.get? a=some _ from x)
 | met f y=>exact Heap.lt_size (show h.get? a=some _ from x)
 | ext φ=>obtain⟨_,⟨_,e⟩,_⟩:=x;exact Heap.lt_size e
theorem zg2 {α β:Type}{F G:α->β->Prop}:∀ {lc:List α}{lb:List β},Paired F lc lb->(∀ a b,F a b->G a b)->Paired G lc lb
 | _,_,.nil,_=>.nil
 | _,_,.cons r t,f=>.cons (f _ _ r) (zg2 t f)
theorem zdg.stay (x:zdg P w H h a o)(k:∀ b u,(b=a∨H b=some (.own a))->h.get? b=some u->h'.get? b=some u)
  (ho:∀ b,H b=some (.own a)->H' b=some (.own a))(ht:∀ b xs,H b=some (.tup xs)->H' b=some (.tup xs)):zdg P w H' h' a o:=by
 induction o with
 | lst xs=>obtain⟨z,its,n,r,e⟩:=x;exact⟨z,its,n,r,k _ _ (.inl rfl) e⟩
 | tup xs=>obtain⟨z,its,r,ob,e,c⟩:=x;exact⟨z,its,r,ob,k _ _ (.inl rfl) e,c⟩
 | dK kvs=>obtain⟨z,y,vs,r,ob,es,ep,e,c⟩:=x;exact⟨z,y,vs,r,ob,es,ep,k _ _ (.inl rfl) e,c⟩
 | dT kvs =>
  obtain⟨z,y,xs,r,ob,es,ep,e,c⟩:=x;exact⟨z,y,xs,zg2 r fun p q z=>⟨z.1,ht _ _ z.2.1,z.2.2⟩,ob,es,ep,k _ _ (.inl rfl) e,c⟩
 | set S n=>obtain⟨ob,es,ep,t,e,c⟩:=x;exact⟨ob,es,ep,t,k _ _ (.inl rfl) e,c⟩
 | ins C dx fs =>
  obtain⟨d,z,ne,e,mA,⟨od,es,ep,e2,c⟩,r⟩:=x;exact⟨ho _ d,z,ne,k _ _ (.inl rfl) e,mA,⟨od,es,ep,k _ _ (.inr d) e2,c⟩,r⟩
 | own y=>obtain⟨ob,e⟩:=x;exact⟨ob,k _ _ (.inl rfl) e⟩
 | xd fs=>obtain⟨mA,⟨od,es,ep,e,c⟩,r⟩:=x;exact⟨mA,⟨od,es,ep,k _ _ (.inl rfl) e,c⟩,r⟩
 | rng lo hi=>obtain⟨t,u,v,e⟩:=x;exact⟨t,u,v,k _ _ (.inl rfl) e⟩
 | frz ob u ih=>obtain⟨e,q⟩:=x;exact⟨k _ _ (.inl rfl) e,ih q⟩
 | tbl ps =>
  have e:h.get? a=some { cls:=.none,data:=.fields ps }:=x;show h'.get? a=some { cls:=.none,data:=.fields ps };exact k a _ (.inl rfl) e
 | met f y =>
  have e:h.get? a=some (W.methodObj (.ref f) (.ref y)):=x;show h'.get? a=some (W.methodObj (.ref f) (.ref y));exact k a _ (.inl rfl) e
 | ext φ=>obtain⟨p,⟨o,e⟩,st⟩:=x;exact⟨st _ _ p fun o q=>k _ _ (.inl rfl) q,⟨o,k _ _ (.inl rfl) e⟩,st⟩
theorem HOk.lt (x:HOk P w H h)(e:H a=some o):a < h.objs.size:=(x a o e).lt
theorem HOk.fresh (x:HOk P w H h)(e:h.objs.size<=a):H a=none:=by
 cases q:H a with
 | none=>rfl
 | some u=>exact absurd (Nat.lt_of_lt_of_le (x.lt q) e) (Nat.lt_irrefl _)
theorem HOk.kept (x:HOk P w H h)(k:∀ b u,h.get? b=some u->h'.get? b=some u):HOk P w H h':=fun a o e =>
 (x a o e).stay (fun b u _ q=>k b u q) (fun _ q=>q) fun _ _ q=>q
theorem HOk.laid (x:HOk P w H h)(k:∀ b u,h.get? b=some u->h'.get? b=some u)(hp:h.objs.size<=a)(new:zdg P w (upd H a o) h' a o):HOk P w (upd H a o) h':=fun b u e=>by
 have hn:=x.fresh hp
 by_cases hb:b=a
 .subst hb;rw[zar] at e;cases e;exact new
 .rw[zal hb] at e
  exact(x b u e).stay (fun c v _ q=>k c v q) (fun c q=>by rw[zal (zaQ q hn)];exact q) fun c xs q=>by rw[zal (zaQ q hn)];exact q
end
def Rd (H:Hp)(a:Addr)(u:HO):Prop:=H a=some u∨∃ o,H a=some (.frz o u)
theorem Rd.ok {P:Program}{w:World}{H:Hp}{h:Heap}{a:Addr}{u:HO}(r:Rd H a u)(x:HOk P w H h):zdg P w H h a u:=by
 rcases r with r | ⟨o,r⟩
 .exact x a u r
 .obtain⟨_,q⟩:=x a _ r
  exact q
noncomputable def Mut:Option HO->Prop
 | some (.lst _)=>True
 | some (.dK _)=>True
 | some (.dT _)=>True
 | some (.set _ _)=>True
 | some (.ins _ _ _)=>True
 | some (.ext _)=>True
 | _=>False
section
variable {P:Program}{w:World}{H:Hp}{h h':Heap}{x e:Addr}{o':HO}
theorem HOk.write (ok:HOk P w H h)(mu:Mut (H x))(he:e=x∨H e=some (.own x))(k:∀ b u,b≠e->h.get? b=some u->h'.get? b=some u)(heo:∃ u,h'.get? e=some u)
  (new:zdg P w (upd H x o') h' x o'):HOk P w (upd H x o') h':=fun b u q=>by
 have nown:∀ c y,H c=some (.own y)->c≠x:=fun c y r z=>by subst z;rw[r] at mu;exact mu
 have ntup:∀ c xs,H c=some (.tup xs)->c≠x:=fun c xs r z=>by subst z;rw[r] at mu;exact mu
 by_cases hb:b=x
 .subst hb;rw[zar] at q;cases q;exact new
 .rw[zal hb] at q
  by_cases hbe:b=e
  .have q':H b=some (.own x):=by
    rcases he with z | z
    .exact absurd (hbe.trans z) hb
    .rw[hbe];exact z
   rw[q] at q';cases q';obtain⟨v,hv⟩:=heo;exact⟨v,by rw[hbe];exact hv⟩
  .refine(ok b u q).stay (fun c v hc r=>k c v ?_ r) (fun c r=>by rw[zal (nown c b r)];exact r) fun c xs r=>by rw[zal (ntup c xs r)];exact r
   rcases hc with rfl | hc
   .exact hbe
   .rintro rfl
    rcases he with z | z
    .exact nown c b hc z
    .rw[hc] at z;cases z;exact hb rfl
end
structure Un (fs ex:List Addr) (H H':Hp) (h h':Heap):Prop where
 keep:∀ b o,h.get? b=some o->H b=none->b∉fs->b∉ex->h'.get? b=some o
 slot:∀ b o,h.get? b=some o->H b=none->b∈fs->b∉ex->∃ sl,h'.get? b=some { o with slots:=sl }
 free:∀ b o,h.get? b=some o->H b=none->b∉ex->H' b=none
 there:∀ b o,h.get? b=some o->b∉ex->∃ o',h'.get? b=some o'
 tups:∀ b xs,H b=some (.tup xs)->H' b=some (.tup xs)
 frzs:∀ b o u,H b=some (.frz o u)->H' b=some (.frz o u)
 tbls:∀ b ps,H b=some (.tbl ps)->∃ more,H' b=some (.tbl (ps++more))
section
variable {fs fs' ex ex':List Addr}{H H1 H2:Hp}{h h1 h2 h':Heap}{a x e:Addr}{o:HO}
theorem Un.any (u:Un fs ex H H1 h h1){b:Addr}{ob:Obj}(q:h.get? b=some ob)(n:H b=none)(hx:b∉ex):∃ sl,h1.get? b=some { ob with slots:=sl }:=by
 by_cases hb:b∈fs
 .exact u.slot b ob q n hb hx
 .exact⟨ob.slots,u.keep b ob q n hb hx⟩
theorem Un.kept (k:∀ b u,h.get? b=some u->h'.get? b=some u):Un fs ex H H h h' :=
 ⟨fun b ob q _ _ _=>k b ob q,fun b ob q _ _ _=>⟨ob.slots,k b ob q⟩,fun _ _ _ n _=>n,fun b ob q _=>⟨ob,k b ob q⟩,fun _ _ q=>q,fun _ _ _ q=>q,fun _ ps q=>⟨#[],by rw[q];simp⟩⟩
theorem Un.refl:Un fs ex H H h h:=Un.kept fun _ _ q=>q
theorem Un.laid (k:∀ b u,h.get? b=some u->h'.get? b=some u)(hp:h.objs.size<=a)(hn:H a=none):Un fs ex H (upd H a o) h h' where
 keep:=fun b u q _ _ _=>k b u q
 slot:=fun b u q _ _ _=>⟨u.slots,k b u q⟩
 free:=fun b u q n _=>by rw[zal (Nat.ne_of_lt (Nat.lt_of_lt_of_le (Heap.lt_size q) hp))];exact n
 there:=fun b u q _=>⟨u,k b u q⟩
 tups:=fun b xs q=>by rw[zal (zaQ q hn)];exact q
 frzs:=fun b u xs q=>by rw[zal (zaQ q hn)];exact q
 tbls:=fun b ps q=>⟨#[],by rw[zal (zaQ q hn),q];simp⟩
theorem Un.write (mu:Mut (H x))(he:e=x∨H e=some (.own x))(k:∀ b u,b≠e->h.get? b=some u->h'.get? b=some u)(heo:∃ u,h'.get? e=some u):Un fs ex H (upd H x o) h h':=by
 have hx:∀ b,H b=none->b≠x:=fun b n z=>by subst z;rw[n] at mu;exact mu
 have hb:∀ b,H b=none->b≠e:=fun b n z=>by
  subst z;rcases he with r | r
  .exact hx b n r
  .rw[n] at r;cases r
 have hm:∀ b u,H b=some u->¬ Mut (some u)->b≠x:=fun b u q nm z=>by subst z;rw[q] at mu;exact nm mu
 refine⟨fun b u q n _ _=>k b u (hb b n) q,fun b u q n _ _=>⟨u.slots,k b u (hb b n) q⟩,fun b u q n _=>by rw[zal (hx b n)];exact n,fun b u q _=>?_,
  fun b xs q=>by rw[zal (hm b _ q fun z=>z)];exact q,fun b u xs q=>by rw[zal (hm b _ q fun z=>z)];exact q,fun b ps q=>⟨#[],by rw[zal (hm b _ q fun z=>z),q];simp⟩⟩
 by_cases hbe:b=e
 .subst hbe;exact heo
 .exact⟨u,k b u hbe q⟩
end
def trk (h:Heap)(H:Hp):List Addr:=(List.range h.objs.size).filter fun a=>(H a).isSome
def zww (h:Heap)(H:Hp):Heap:=W.hideAll h (trk h H)
theorem ztV (h:Heap)(H:Hp):(zww h H).objs.size=h.objs.size:=W.hideAll_size _ _
theorem zwv {h:Heap}{H:Hp}{b:Addr}{o:Obj}(e:h.get? b=some o)(n:H b=none):(zww h H).get? b=some o :=
 W.hideAll_get _ e fun hm=>by
  have q:(H b).isSome=true:=(List.mem_filter.mp hm).2;rw[n] at q;simp at q
theorem zyN {h:Heap}{H:Hp}{b:Addr}{o:Obj}(e:(zww h H).get? b=some o):h.get? b=some o/\H b=none:=by
 have e':h.get? b=some o:=W.of_hideAll (trk h H) e;refine⟨e',?_⟩;cases q:H b with
 | none=>rfl
 | some x =>
  have hm:b∈trk h H:=List.mem_filter.mpr ⟨List.mem_range.mpr (Heap.lt_size e'),by simp [q]⟩;have z:(zww h H).get? b=none:=W.hideAll_none (trk h H) hm;rw[z] at e;cases e
structure Mod (K:W.Frag) (mg:Str->Option Value) (base:Heap):Prop where
 kin:K.In base
 glob:base.Ns mainGlobals mg
 blt:∃ mb,base.Ns builtinsNs mb/\∀ x:Str,x≠"__name__"->mb x=bootBuiltins x
 nolimit:base.NoLimit
 sm:∃ mm,base.Ns sysModules mm
structure Cx where
 prog:Program
 w:World
 K:W.Frag
 mg:Str->Option Value
 base:Heap
 A:Around
 N:List Str
 sf:Shared
 Ha:Hp
 env:Env
 outer:List Env
 stack:List Env
 ex:List Addr
 fn:Str->Bool
 calm:Bool
 pn:List (Addr×Obj)
 xe:Value->Shared->Prop
def frs (l:List Env):List Addr:=l.filterMap (·.frame)
abbrev Cx.fs (X:Cx):List Addr:=frs X.outer
noncomputable def Vis (sc:Scope) (x:Str):Prop:=sc.names.lookup x=some .local ∨ sc.names.lookup x=some .cell∨sc.names.lookup x=some .free
def Loc (sc:Scope)(x:Str):Prop:=sc.names.lookup x=some .local ∨ sc.names.lookup x=some .cell
noncomputable def zEI (env:Env) (h:Heap) (m:Str->Option Value) (x:Str) (u:Value):Prop :=
 (env.kindOf x=some .local /\ m x=some u)∨((env.kindOf x=some .cell∨env.kindOf x=some .free)/\∃ c,env.cells.lookup x=some c/\h.IsCell c (some u))
structure Cx.Ok (X:Cx):Prop where
 mod:Mod X.K X.mg X.base
 kind:X.env.scope.kind=.function
 glob:X.env.globals=mainGlobals
 blt:X.env.builtins=builtinsNs
 above:X.sf.heap.objs.size<=X.env.locals
 inj:∀ x y c,X.env.cells.lookup x=some c->X.env.cells.lookup y=some c->x=y
 has:∀ x,(X.env.kindOf x=some .cell∨X.env.kindOf x=some .free)->∃ c,X.env.cells.lookup x=some c
 cab:∀ x c,X.fn x=true->X.env.cells.lookup x=some c->X.sf.heap.objs.size<=c
 hd:X.calm=true->X.A.handled=none
 frames:X.A.frames=some X.stack
 stk:X.stack=X.outer∨(X.stack=X.env::X.outer/\X.env.frame=some X.env.locals)
 exf:∀ b∈X.ex,b≠X.env.locals/\∀ x c,X.env.cells.lookup x=some c->c≠b
 bs:∀ b o,X.base.get? b=some o->X.sf.heap.get? b=some o/\X.Ha b=none
 bsz:X.base.objs.size<=X.sf.heap.objs.size
 noex:∀ b o,X.base.get? b=some o->b∉X.ex
 exfs:∀ b∈X.ex,b∉X.fs
 funs:X.sf.heap.FunFrames X.base X.outer
 frf:∀ b∈X.fs,X.Ha b=none
structure Inv (X:Cx) (pins:List (Addr×Obj)) (σ:List (Option V)) (H:Hp) (s:Shared):Prop where
 ok:X.Ok
 os:s.os=X.sf.os
 bare:AllBare s.gens
 base:Un X.fs X.ex X.Ha H X.sf.heap s.heap
 loc:∃ m,s.heap.Ns X.env.locals m/\∀ (i:Nat) (x:Str) (v:V),X.N[i]?=some x->σ[i]?=some (some v)->Vis X.env.scope x->∃ u,zbw v u/\zEI X.env s.heap m x u
 cell:∀ x c,X.env.cells.lookup x=some c->∃ v,s.heap.IsCell c v
 free:H X.env.locals=none
 freeC:∀ x c,X.env.cells.lookup x=some c->H c=none
 pin:∀ p∈X.pn++pins,s.heap.get? p.1=some p.2/\H p.1=none/\p.1≠X.env.locals/\p.1∉X.fs/\∀ v,p.2.data≠.cell v
 hok:HOk X.prog X.w H s.heap
 len:σ.length=X.N.length
section
variable {X:Cx}{pins:List (Addr×Obj)}{σ:List (Option V)}{H H':Hp}{s:Shared}{h':Heap}
theorem Cx.Ok.nofr (ok:X.Ok){b:Addr}{o:Obj}(e:X.base.get? b=some o):b∉X.fs:=fun hb=>by
 have:=(ok.funs.mem hb).1;rw[e] at this;cases this
theorem Inv.bs (I:Inv X pins σ H s):∀ b o,X.base.get? b=some o->s.heap.get? b=some o/\H b=none:=fun b o e =>
 ⟨I.base.keep b o (I.ok.bs b o e).1 (I.ok.bs b o e).2 (I.ok.nofr e) (I.ok.noex b o e),I.base.free b o (I.ok.bs b o e).1 (I.ok.bs b o e).2 (I.ok.noex b o e)⟩
theorem Inv.bk (I:Inv X pins σ H s):∀ b o,X.base.get? b=some o->s.heap.get? b=some o:=fun b o e=>(I.bs b o e).1
theorem Inv.mod (I:Inv X pins σ H s):Mod X.K X.mg X.base:=I.ok.mod
theorem Inv.kIn (I:Inv X pins σ H s):X.K.In s.heap:=I.ok.mod.kin.keeps I.bk
theorem Inv.lt (I:Inv X pins σ H s):X.env.locals < s.heap.objs.size:=let ⟨_,hn,_⟩:=I.loc;hn.lt
theorem Inv.sz (I:Inv X pins σ H s):X.sf.heap.objs.size<=s.heap.objs.size:=Nat.le_trans I.ok.above (Nat.le_of_lt I.lt)
theorem Inv.nofs (I:Inv X pins σ H s){a:Addr}(h:s.heap.objs.size<=a):a∉X.fs:=fun hb=>by
 obtain⟨_,o,ho,_⟩:=I.ok.funs.mem hb;exact absurd (Nat.lt_of_lt_of_le (Heap.lt_size ho) (Nat.le_trans I.sz h)) (Nat.lt_irrefl _)
theorem Inv.cne (I:Inv X pins σ H s):∀ x c,X.env.cells.lookup x=some c->c≠X.env.locals:=fun x c e z=>by
 obtain⟨v,o,ho,hd⟩:=I.cell x c e;obtain⟨m,⟨o',es,ep,ho',hd',_⟩,_⟩:=I.loc;rw[z,ho'] at ho;cases ho;rw[hd'] at hd;cases hd
theorem Inv.funs (I:Inv X pins σ H s):s.heap.FunFrames X.base X.outer:=by
 have all:∀ (l:List Env),(∀ b∈frs l,b∈X.fs)->X.sf.heap.FunFrames X.base l->s.heap.FunFrames X.base l:=by
  intro l
  induction l with
  | nil=>intro _ _;trivial
  | cons env r ih =>
   intro hs hl;obtain⟨hk,⟨L,o,hf,hn,ho,hd⟩,hr⟩:=hl;have hL:L∈X.fs:=hs L (by unfold frs;rw[List.filterMap_cons,hf];exact List.mem_cons_self);obtain⟨sl,e⟩:=I.base.slot L o ho (I.ok.frf L hL) hL fun z=>I.ok.exfs L z hL;exact⟨hk,⟨L,_,hf,hn,e,hd⟩,ih (fun b hb=>hs b (by unfold frs;rw[List.filterMap_cons,hf];exact List.mem_cons_of_mem _ hb)) hr⟩
 exact all X.outer (fun _ hb=>hb) I.ok.funs
theorem Inv.stack (I:Inv X pins σ H s):s.heap.FunFrames X.base X.stack:=by
 rcases I.ok.stk with e | ⟨e,hf⟩
 .rw[e];exact I.funs
 .rw[e]
  obtain⟨m,hn,_⟩:=I.loc;refine .cons (by rw[I.ok.kind];decide) hf hn ?_ I.funs;exact Heap.get?_none_of_le (Nat.le_trans I.ok.bsz I.ok.above)
theorem Inv.stkSub (I:Inv X pins σ H s):∀ b∈frs X.stack,b∈X.env.locals::X.fs:=fun b hb=>by
 rcases I.ok.stk with e | ⟨e,hf⟩
 .rw[e] at hb;exact List.mem_cons_of_mem _ hb
 .rw[e] at hb
  unfold frs at hb;rw[List.filterMap_cons,hf] at hb;exact hb
theorem Inv.stkFree (I:Inv X pins σ H s):∀ b∈frs X.stack,H b=none:=fun b hb=>by
 rcases List.mem_cons.mp (I.stkSub b hb) with e | hb
 .rw[e];exact I.free
 .obtain⟨_,o,ho,_⟩:=I.ok.funs.mem hb
  exact I.base.free b o ho (I.ok.frf b hb) fun z=>I.ok.exfs b z hb
theorem Inv.step {g':Array GenState}{t':Nat}{d':Drawn}{ch:List Addr}(I:Inv X pins σ H s)
  (hch:∀ b∈ch,(b∈X.ex∨X.sf.heap.objs.size<=b)/\b≠X.env.locals/\(∀ x c,X.env.cells.lookup x=some c->c≠b)/\∀ p∈X.pn++pins,p.1≠b)
  (keep:∀ b o,b≠X.env.locals->b∉X.fs->b∉ch->s.heap.get? b=some o->H b=none->h'.get? b=some o)
  (slot:∀ b o,b≠X.env.locals->b∈X.fs->b∉ch->s.heap.get? b=some o->H b=none->∃ sl,h'.get? b=some { o with slots:=sl })(free:∀ b o,b∉ch->s.heap.get? b=some o->H b=none->H' b=none)
  (there:∀ b o,b∉ch->s.heap.get? b=some o->∃ o',h'.get? b=some o')
  (tups:∀ b xs,H b=some (.tup xs)->H' b=some (.tup xs))(frzs:∀ b o u,H b=some (.frz o u)->H' b=some (.frz o u))(tbls:∀ b ps,H b=some (.tbl ps)->∃ more,H' b=some (.tbl (ps++more)))
  (ns:∀ m,s.heap.Ns X.env.locals m->h'.Ns X.env.locals m)(hok:HOk X.prog X.w H' h')(hg:AllBare g') :
  Inv X pins σ H' { s with heap:=h',gens:=g',drawn:=d',toks:=t' }:=by
 have neL:∀ b o,X.sf.heap.get? b=some o->b≠X.env.locals:=fun b o e=>Nat.ne_of_lt (Nat.lt_of_lt_of_le (Heap.lt_size e) I.ok.above);have neC:∀ b o,X.sf.heap.get? b=some o->b∉X.ex->b∉ch:=fun b o e hx hb=>by
  rcases(hch b hb).1 with z | z
  .exact hx z
  .exact absurd (Nat.lt_of_lt_of_le (Heap.lt_size e) z) (Nat.lt_irrefl _)
 have cellK:∀ x c,X.env.cells.lookup x=some c->∀ v,s.heap.IsCell c v->h'.IsCell c v:=fun x c e v ⟨o,ho,hd⟩=>by
  have nch:c∉ch:=fun z=>(hch c z).2.2.1 x c e rfl
  by_cases hc:c∈X.fs
  .obtain⟨sl,q⟩:=slot c o (I.cne x c e) hc nch ho (I.freeC x c e)
   exact⟨_,q,hd⟩
  .exact⟨o,keep c o (I.cne x c e) hc nch ho (I.freeC x c e),hd⟩
 refine⟨I.ok,I.os,hg,⟨fun b o e n hb hx=>?_,fun b o e n hb hx=>?_,fun b o e n hx=>?_,fun b o e hx=>?_,fun b xs e=>tups b xs (I.base.tups b xs e),fun b o xs e=>frzs b o xs (I.base.frzs b o xs e),fun b ps e=>?_⟩,?_,fun x c e=>?_,?_,fun x c e=>?_,fun p hp=>?_,hok,I.len⟩
 .exact keep b o (neL b o e) hb (neC b o e hx) (I.base.keep b o e n hb hx) (I.base.free b o e n hx)
 .obtain⟨sl,e1⟩:=I.base.slot b o e n hb hx
  obtain⟨sl',e2⟩:=slot b _ (neL b o e) hb (neC b o e hx) e1 (I.base.free b o e n hx);exact⟨sl',e2⟩
 .obtain⟨o',e1⟩:=I.base.there b o e hx
  exact free b o' (neC b o e hx) e1 (I.base.free b o e n hx)
 .obtain⟨o',e1⟩:=I.base.there b o e hx
  exact there b o' (neC b o e hx) e1
 .obtain⟨m1,e1⟩:=I.base.tbls b ps e
  obtain⟨m2,e2⟩:=tbls b _ e1;exact⟨m1++m2,by rw[e2,Array.append_assoc]⟩
 .obtain⟨m,hn,hl⟩:=I.loc
  refine⟨m,ns m hn,fun i x v e1 e2 e3=>?_⟩;obtain⟨u,r,l⟩:=hl i x v e1 e2 e3;refine⟨u,r,?_⟩;rcases l with l | ⟨k,c,e,z⟩
  .exact .inl l
  .exact .inr ⟨k,c,e,cellK x c e _ z⟩
 .obtain⟨v,z⟩:=I.cell x c e
  exact⟨v,cellK x c e v z⟩
 .obtain⟨m,⟨o,_,_,ho,_⟩,_⟩:=I.loc
  exact free _ o (fun z=>(hch _ z).2.1 rfl) ho I.free
 .obtain⟨v,o,ho,hd⟩:=I.cell x c e
  exact free c o (fun z=>(hch c z).2.2.1 x c e rfl) ho (I.freeC x c e)
 .obtain⟨e,n,ne,nf,d⟩:=I.pin p hp
  have nch:p.1∉ch:=fun z=>(hch p.1 z).2.2.2 p hp rfl;exact⟨keep p.1 p.2 ne nf nch e n,free p.1 p.2 nch e n,ne,nf,d⟩
theorem Inv.un {t':Nat}(I:Inv X pins σ H s)(u:Un X.fs [] H H' s.heap h')(hok:HOk X.prog X.w H' h'):Inv X pins σ H' { s with heap:=h',toks:=t' }:=by
 obtain⟨m,⟨o,es,ep,ho,r⟩,_⟩:=id I.loc;obtain⟨sl,hL⟩:=u.any ho I.free (by simp);exact I.step (g':=s.gens) (d':=s.drawn) (ch:=[]) (fun _ z=>nomatch z) (fun b o _ hb _ e n=>u.keep b o e n hb (by simp)) (fun b o _ hb _ e n=>u.slot b o e n hb (by simp)) (fun b o _ e n=>u.free b o e n (by simp)) (fun b o _ e=>u.there b o e (by simp)) u.tups u.frzs u.tbls (fun m' hm=>by
  obtain⟨o',es',ep',ho',r'⟩:=hm;rw[ho] at ho';cases ho';exact⟨_,es',ep',hL,r'⟩) hok I.bare
theorem Inv.call {g':Array GenState}{t':Nat}{d':Drawn}{ch:List Addr}(I:Inv X pins σ H s)(u:Un (frs X.stack) ch H H' s.heap h')(hok:HOk X.prog X.w H' h')(hg:AllBare g')
  (hch:∀ b∈ch,(b∈X.ex∨X.sf.heap.objs.size<=b)/\b≠X.env.locals/\(∀ x c,X.env.cells.lookup x=some c->c≠b)/\∀ p∈X.pn++pins,p.1≠b) :
  Inv X pins σ H' { s with heap:=h',gens:=g',drawn:=d',toks:=t' }:=by
 obtain⟨m,⟨o,es,ep,ho,r⟩,_⟩:=id I.loc;obtain⟨sl,hL⟩:=u.any ho I.free fun z=>(hch _ z).2.1 rfl;exact I.step (ch:=ch) hch (fun b o hL hb hc e n=>u.keep b o e n (fun z=>(List.mem_cons.mp (I.stkSub b z)).elim hL hb) hc) (fun b o _ _ hc e n=>u.any e n hc) (fun b o hc e n=>u.free b o e n hc) (fun b o hc e=>u.there b o e hc) u.tups u.frzs u.tbls (fun m' hm=>by
  obtain⟨o',es',ep',ho',r'⟩:=hm;rw[ho] at ho';cases ho';exact⟨_,es',ep',hL,r'⟩) hok hg
theorem Inv.turned {t':Nat}{it:Addr}(I:Inv X pins σ H s)(k:∀ b o,b≠it->s.heap.get? b=some o->h'.get? b=some o)(hn:H it=none)(hL:it≠X.env.locals)
  (h1:it∈X.ex∨X.sf.heap.objs.size<=it)(h2:∀ x c,X.env.cells.lookup x=some c->c≠it)(h3:∀ p∈X.pn++pins,p.1≠it):Inv X pins σ H { s with heap:=h',toks:=t' }:=by
 have nit:∀ b u,H b=some u->b≠it:=fun b u e z=>by rw[z,hn] at e;cases e
 refine I.step (g':=s.gens) (d':=s.drawn) (ch:=[it]) (fun b hb=>?_) (fun b o _ _ hc e _=>k b o (fun z=>hc (by simp [z])) e) (fun b o _ _ hc e _=>⟨o.slots,k b o (fun z=>hc (by simp [z])) e⟩) (fun _ _ _ _ n=>n)
  (fun b o hc e=>⟨o,k b o (fun z=>hc (by simp [z])) e⟩) (fun _ _ e=>e) (fun _ _ _ e=>e) (fun b ps e=>⟨#[],by rw[e];simp⟩) (fun m hm=>?_) (fun b u e=>?_) I.bare
 .have e:b=it:=by simpa using hb
  subst e;exact⟨h1,hL,h2,h3⟩
 .obtain⟨o,es,ep,ho,r⟩:=hm
  exact⟨o,es,ep,k _ o (Ne.symm hL) ho,r⟩
 .refine(I.hok b u e).stay (fun c v hc q=>k c v ?_ q) (fun _ q=>q) fun _ _ q=>q
  rcases hc with z | z
  .rw[z];exact nit b u e
  .exact nit c _ z
theorem Inv.tok (I:Inv X pins σ H s)(t:Nat):Inv X pins σ H { s with toks:=t }:=I.un (h':=s.heap) (t':=t) Un.refl I.hok
theorem Inv.kept {t':Nat}(I:Inv X pins σ H s)(k:∀ b u,s.heap.get? b=some u->h'.get? b=some u):Inv X pins σ H { s with heap:=h',toks:=t' }:=I.un (Un.kept k) (I.hok.kept k)
theorem Inv.laid {a:Addr}{o:HO}{t':Nat}(I:Inv X pins σ H s)(k:∀ b u,s.heap.get? b=some u->h'.get? b=some u)(hp:s.heap.objs.size<=a)(new:zdg X.prog X.w (upd H a o) h' a o) :
  Inv X pins σ (upd H a o) { s with heap:=h',toks:=t' }:=I.un (Un.laid k hp (I.hok.fresh hp)) (I.hok.laid k hp new)
theorem Inv.write {x e:Addr}{o:HO}{t':Nat}(I:Inv X pins σ H s)(mu:Mut (H x))(he:e=x∨H e=some (.own x))(k:∀ b u,b≠e->s.heap.get? b=some u->h'.get? b=some u)(heo:∃ u,h'.get? e=some u)
  (new:zdg X.prog X.w (upd H x o) h' x o):Inv X pins σ (upd H x o) { s with heap:=h',toks:=t' }:=I.un (Un.write mu he k heo) (I.hok.write mu he k heo new)
theorem Inv.pins_of {pins':List (Addr×Obj)}(I:Inv X pins σ H s)(h:∀ p∈pins',s.heap.get? p.1=some p.2/\H p.1=none/\p.1≠X.env.locals/\p.1∉X.fs/\∀ v,p.2.data≠.cell v):Inv X pins' σ H s :=
 ⟨I.ok,I.os,I.bare,I.base,I.loc,I.cell,I.free,I.freeC,fun p hp=>(List.mem_append.mp hp).elim (fun z=>I.pin p (List.mem_append_left _ z)) (h p),I.hok,I.len⟩
theorem zqK {N:List Str}(hN:N.Nodup){i j:Nat}{x:Str}(a:N[i]?=some x)(b:N[j]?=some x):i=j:=by
 obtain⟨h1,e1⟩:=List.getElem?_eq_some_iff.mp a;obtain⟨h2,e2⟩:=List.getElem?_eq_some_iff.mp b;exact(List.getElem_inj hN).mp (e1.trans e2.symm)
theorem zjq {M:Model}{A:Around}{E:Value->Shared->Prop}{i:Nat}{x:Str}{v:V}{u:Value}{Q:Unit->Shared->Prop}(I:Inv X pins σ H s)(hN:X.N.Nodup)(hi:X.N[i]?=some x)(hx:Loc X.env.scope x)(r:zbw v u)
  (h:∀ s',Inv X pins (σ.set i (some v)) H s'->(∃ a,Heap.SameBut a s.heap s'.heap/\(a=X.env.locals∨X.env.cells.lookup x=some a))->Q () s')(hf:X.fn x=true∨X.env.scope.names.lookup x=some .local := by first | exact .inl rfl | exact .inr rfl | assumption):wpAny M A (storeName X.env x u) Q E s:=by
 obtain⟨m,hn,hl⟩:=id I.loc;have hcls:(X.env.scope.kind==.class||(X.env.scope.kind==.module&&X.env.locals != X.env.globals))=false:=by rw[I.ok.kind];rfl
 have hiσ:i < σ.length:=by rw[I.len];exact(List.getElem?_eq_some_iff.mp hi).1
 have cne:=I.cne;have tracked:∀ {a:Addr}{h':Heap},(∃ o,s.heap.get? a=some o/\H a=none)->Heap.SameBut a s.heap h'->HOk X.prog X.w H h':=fun {a h'} ha hs b ob e=>by
  obtain⟨_,_,hfree⟩:=ha;refine(I.hok b ob e).stay (fun c w' hc q=>(hs.2 c ?_).trans q) (fun _ q=>q) fun _ _ q=>q;rintro rfl;rcases hc with rfl | hc
  .rw[hfree] at e;cases e
  .rw[hfree] at hc;cases hc
 rcases hx with hk | hk
 .refine wpAny_storeName_local hk hn (fun h' hn' hs=>?_) hcls
  obtain⟨oL,_,_,hoL,_⟩:=id hn;refine h _ ⟨I.ok,I.os,I.bare,⟨fun b o e n hb hx=>?_,fun b o e n hb hx=>?_,I.base.free,fun b o e hx=>?_,I.base.tups,I.base.frzs,I.base.tbls⟩,⟨_,hn',fun j y v' e1 e2 e3=>?_⟩,fun y c e=>?_,I.free,I.freeC,fun p hp=>?_,tracked ⟨oL,hoL,I.free⟩ hs,by simpa using I.len⟩ ⟨_,hs,.inl rfl⟩
  .exact(hs.2 b (Nat.ne_of_lt (Nat.lt_of_lt_of_le (Heap.lt_size e) I.ok.above))).trans (I.base.keep b o e n hb hx)
  .obtain⟨sl,e1⟩:=I.base.slot b o e n hb hx
   exact⟨sl,(hs.2 b (Nat.ne_of_lt (Nat.lt_of_lt_of_le (Heap.lt_size e) I.ok.above))).trans e1⟩
  .obtain⟨o',e1⟩:=I.base.there b o e hx
   exact⟨o',(hs.2 b (Nat.ne_of_lt (Nat.lt_of_lt_of_le (Heap.lt_size e) I.ok.above))).trans e1⟩
  .by_cases hj:j=i
   .subst hj
    rw[hi] at e1;cases e1;rw[List.getElem?_set_self hiσ] at e2;cases e2;exact⟨u,r,.inl ⟨hk,by simp⟩⟩
   .rw[List.getElem?_set_ne (Ne.symm hj)] at e2
    obtain⟨u',r',q⟩:=hl j y v' e1 e2 e3;refine⟨u',r',?_⟩;rcases q with⟨k,e⟩ | ⟨k,c,e,z⟩
    .refine .inl ⟨k,?_⟩
     have:y≠x:=fun e=>hj (zqK hN e1 (e▸hi));simp [this,e]
    .exact .inr ⟨k,c,e,z.sameBut hs (cne y c e)⟩
  .obtain⟨w',z⟩:=I.cell y c e
   exact⟨w',z.sameBut hs (cne y c e)⟩
  .obtain⟨e,n,ne,nf,d⟩:=I.pin p hp
   exact⟨(hs.2 p.1 ne).trans e,n,ne,nf,d⟩
 .have hfn:X.fn x=true:=by
   rcases hf with z | z
   .exact z
   .rw[z] at hk;cases hk
  obtain⟨c,hc⟩:=I.ok.has x (.inl hk);obtain⟨w',z⟩:=I.cell x c hc;refine wpAny_storeName_cell I.ok.kind hk hc z (fun h' hc' hs=>?_);obtain⟨oc,hoc,hocd⟩:=id z;refine h { s with heap:=h' } ⟨I.ok,I.os,I.bare,⟨fun b o e n hb hx=>?_,fun b o e n hb hx=>?_,I.base.free,fun b o e hx=>?_,I.base.tups,I.base.frzs,I.base.tbls⟩,⟨m,hn.sameBut hs (Ne.symm (cne x c hc)),fun j y v' e1 e2 e3=>?_⟩,fun y c' e=>?_,I.free,I.freeC,fun p hp=>?_,tracked ⟨oc,hoc,I.freeC x c hc⟩ hs,by simpa using I.len⟩ ⟨c,hs,.inr hc⟩
  .exact(hs.2 b (Nat.ne_of_lt (Nat.lt_of_lt_of_le (Heap.lt_size e) (I.ok.cab x c hfn hc)))).trans (I.base.keep b o e n hb hx)
  .obtain⟨sl,e1⟩:=I.base.slot b o e n hb hx
   exact⟨sl,(hs.2 b (Nat.ne_of_lt (Nat.lt_of_lt_of_le (Heap.lt_size e) (I.ok.cab x c hfn hc)))).trans e1⟩
  .obtain⟨o',e1⟩:=I.base.there b o e hx
   exact⟨o',(hs.2 b (Nat.ne_of_lt (Nat.lt_of_lt_of_le (Heap.lt_size e) (I.ok.cab x c hfn hc)))).trans e1⟩
  .by_cases hj:j=i
   .subst hj
    rw[hi] at e1;cases e1;rw[List.getElem?_set_self hiσ] at e2;cases e2;exact⟨u,r,.inr ⟨.inl hk,c,hc,hc'⟩⟩
   .rw[List.getElem?_set_ne (Ne.symm hj)] at e2
    obtain⟨u',r',q⟩:=hl j y v' e1 e2 e3;refine⟨u',r',?_⟩;rcases q with q | ⟨k,c',e,z'⟩
    .exact .inl q
    .refine .inr ⟨k,c',e,z'.sameBut hs ?_⟩
     rintro rfl;exact hj (zqK hN e1 (I.ok.inj _ _ _ e hc▸hi))
  .by_cases hcc:c'=c
   .subst hcc;exact⟨_,hc'⟩
   .obtain⟨w2,z2⟩:=I.cell y c' e
    exact⟨w2,z2.sameBut hs hcc⟩
  .obtain⟨e,n,ne,nf,d⟩:=I.pin p hp
   refine⟨(hs.2 p.1 ?_).trans e,n,ne,nf,d⟩;intro q;rw[q,hoc] at e;have q':oc=p.2:=Option.some.inj e;exact d w' (by rw[← q'];exact hocd)
theorem zja {M:Model}{A:Around}{E:Value->Shared->Prop}{i:Nat}{x:Str}{v:V}{u:Value}{Q:Unit->Shared->Prop}(I:Inv X pins σ H s)(hN:X.N.Nodup)(hi:X.N[i]?=some x)(hx:Loc X.env.scope x)(r:zbw v u)
  (h:∀ s',Inv X pins (σ.set i (some v)) H s'->Q () s')(hf:X.fn x=true∨X.env.scope.names.lookup x=some .local := by first | exact .inl rfl | exact .inr rfl | assumption):wpAny M A (storeName X.env x u) Q E s :=
 zjq I hN hi hx r (fun s' I' _=>h s' I') hf
theorem Inv.call' {s':Shared}{ch:List Addr}(I:Inv X pins σ H s)(ho:s'.os=s.os)(u:Un (frs X.stack) ch H H' s.heap s'.heap)(hok:HOk X.prog X.w H' s'.heap)(hg:AllBare s'.gens)
  (hch:∀ b∈ch,(b∈X.ex∨X.sf.heap.objs.size<=b)/\b≠X.env.locals/\(∀ x c,X.env.cells.lookup x=some c->c≠b)/\∀ p∈X.pn++pins,p.1≠b):Inv X pins σ H' s':=by
 obtain⟨h',g',d',t',o'⟩:=s';have e:o'=s.os:=ho;subst e;exact I.call (g':=g') (t':=t') (d':=d') u hok hg hch
end
abbrev XK:=Value->Option Addr->Hp->Prop
abbrev St:=List (Option V)
abbrev VK:=V->Hp->Prop
abbrev TE:=St->Hp->VK->Prop
abbrev TT:=St->Hp->(Bool->Hp->Prop)->Prop
abbrev TA:=St->Hp->(List V->Hp->Prop)->Prop
structure zi0 where
 nx:St->Hp->Prop
 rt:VK
 bk:St->Hp->Prop:=fun _ _=>False
 ct:St->Hp->Prop:=fun _ _=>False
abbrev TS:=zi0->St->Hp->Prop
noncomputable def EP (X:Cx) (pins:List (Addr×Obj)) (σ:St) (Q:VK) (u:Value) (s':Shared):Prop:=∃ v H',Inv X pins σ H' s'/\zbw v u/\Q v H'
noncomputable def TP (X:Cx) (pins:List (Addr×Obj)) (σ:St) (Q:Bool->Hp->Prop) (b:Bool) (s':Shared):Prop:=∃ H',Inv X pins σ H' s'/\Q b H'
noncomputable def AP (X:Cx) (pins:List (Addr×Obj)) (σ:St) (Q:List V->Hp->Prop) (us:List Value) (s':Shared):Prop:=∃ vs H',Inv X pins σ H' s'/\zbO vs us/\Q vs H'
noncomputable def SP (X:Cx) (pins:List (Addr×Obj)) (D:zi0) (f:Flow) (s':Shared):Prop :=
 match f with
 | .next=>∃ σ' H',Inv X pins σ' H' s'/\D.nx σ' H'
 | .brk=>∃ σ' H',Inv X pins σ' H' s'/\D.bk σ' H'
 | .cont=>∃ σ' H',Inv X pins σ' H' s'/\D.ct σ' H'
 | .ret u=>∃ v σ' H',Inv X pins σ' H' s'/\zbw v u/\D.rt v H'
noncomputable def PE (X:Cx) (e:Expr) (t:TE):Prop :=
 ∀ (pins:List (Addr×Obj)) (s:Shared) (σ:St) (H:Hp) (Q:VK),Inv X pins σ H s->t σ H Q->wpAny (model X.prog X.w) X.A (eval e X.env) (EP X pins σ Q) X.xe s
noncomputable def PT (X:Cx) (e:Expr) (t:TT):Prop :=
 ∀ (pins:List (Addr×Obj)) (s:Shared) (σ:St) (H:Hp) (Q:Bool->Hp->Prop),Inv X pins σ H s->t σ H Q->wpAny (model X.prog X.w) X.A (isTrue e X.env (eval e X.env)) (TP X pins σ Q) X.xe s
noncomputable def PW (X:Cx) (e:Expr) (t:TT):Prop :=
 ∀ (whole:Sem Value) (pins:List (Addr×Obj)) (s:Shared) (σ:St) (H:Hp) (Q:Bool->Hp->Prop),Inv X pins σ H s->t σ H Q->wpAny (model X.prog X.w) X.A (isTrue e X.env whole) (TP X pins σ Q) X.xe s
theorem PW.pt {X:Cx}{e:Expr}{t:TT}(h:PW X e t):PT X e t:=h _
noncomputable def PA (X:Cx) (es:List Expr) (t:TA):Prop :=
 ∀ (pos:Pos) (pins:List (Addr×Obj)) (s:Shared) (σ:St) (H:Hp) (Q:List V->Hp->Prop),Inv X pins σ H s->t σ H Q->wpAny (model X.prog X.w) X.A (spliced (backTo pos (starEach es X.env))) (AP X pins σ Q) X.xe s
noncomputable def PS (X:Cx) (st:Stmt) (t:TS):Prop :=
 ∀ (pins:List (Addr×Obj)) (s:Shared) (σ:St) (H:Hp) (D:zi0),Inv X pins σ H s->t D σ H->wpAny (model X.prog X.w) X.A (exec st X.env) (SP X pins D) X.xe s
noncomputable def PSs (X:Cx) (st:List Stmt) (t:TS):Prop :=
 ∀ (pins:List (Addr×Obj)) (s:Shared) (σ:St) (H:Hp) (D:zi0),Inv X pins σ H s->t D σ H->wpAny (model X.prog X.w) X.A (execs st X.env) (SP X pins D) X.xe s
theorem thn {α:Type}{t:Sem α}{Q Q':α->Shared->Prop}{M:Model}{A:Around}{E:Value->Shared->Prop}{s:Shared}(h:wpAny M A t Q E s)(hQ:∀ a s,Q a s->Q' a s):wpAny M A t Q' E s:=wpAny_mono h hQ fun _ _ x=>x
section
variable {X:Cx}
theorem bin {a b:Expr}{ta tb:TE}(ha:PE X a ta)(hb:PE X b tb){pins:List (Addr×Obj)}{s:Shared}{σ:St}{H:Hp}{R:V->V->Hp->Prop}(I:Inv X pins σ H s)(h:ta σ H fun x H1=>tb σ H1 fun y H2=>R x y H2)
  {α:Type}{Q:α->Shared->Prop}{f:Value->Value->Sem α}
  (hf:∀ v u s2 x y H2,Inv X pins σ H2 s2->zbw x v->zbw y u->R x y H2->wpAny (model X.prog X.w) X.A (f v u) Q X.xe s2) :
  wpAny (model X.prog X.w) X.A (eval a X.env) (fun v sg=>wpAny (model X.prog X.w) X.A (eval b X.env) (fun u sj=>wpAny (model X.prog X.w) X.A (f v u) Q X.xe sj) X.xe sg) X.xe s:=by
 refine thn (ha pins s σ H _ I h) fun v s1 ⟨x,H1,I1,r1,q1⟩=>?_;refine thn (hb pins s1 σ H1 _ I1 q1) fun u s2 ⟨y,H2,I2,r2,q2⟩=>?_;exact hf v u s2 x y H2 I2 r1 r2 q2
def zD6 (i:Nat):TE:=fun σ H Q=>∃ v,σ[i]?=some (some v)/\Q v H
def tC (v:V):TE:=fun _ H Q=>Q v H
theorem zjF {i:Nat}{x:Str}{pos:Pos}(hN:X.N[i]?=some x)(hv:Vis X.env.scope x)(hd:(x==("__debug__" : Str))=false:=by decide)(hcd:(x==("__classdict__" : Str))=false:=by decide):PE X (.Name x pos) (zD6 i):=by
 intro pins s σ H Q I h;obtain⟨v,e,h⟩:=h;obtain⟨m,hn,hl⟩:=I.loc;obtain⟨u,r,l⟩:=hl i x v hN e hv;have fin:EP X pins σ Q u s:=⟨v,H,I,r,h⟩
 rcases l with⟨hk,hm⟩ | ⟨hk,c,hc,hcell⟩
 .exact wpAny_Name (wpAny_loadName_local I.ok.kind hk hn hm fin) hd
 .rcases hk with hk | hk
  .exact wpAny_Name (wpAny_loadName_cell I.ok.kind hk hc hcell fin) hd
  .exact wpAny_Name (wpAny_loadName_free I.ok.kind hk hc hcell fin hcd) hd
theorem zAY {i j pos}:PE X (.Constant (.int i) j pos) (tC (.int i)):=fun _ _ _ H _ I h=>wpAny_Constant_int ⟨.int i,H,I.tok _,⟨_,rfl⟩,h⟩
theorem zCP {b j pos}:PE X (.Constant (.bool b) j pos) (tC (.bl b)):=fun _ _ _ H _ I h=>Constant_bool ⟨.bl b,H,I,rfl,h⟩
theorem zAW {j pos}:PE X (.Constant .none j pos) (tC .non):=fun _ _ _ H _ I h=>Constant_none ⟨.non,H,I,rfl,h⟩
theorem zAS {x j pos}:PE X (.Constant (.str x) j pos) (tC (.str x)):=fun _ _ _ H _ I h=>Calls.Constant_str ⟨.str x,H,I.tok _,⟨_,rfl⟩,h⟩
def Gl (X:Cx)(x:Str):Prop:=X.env.kindOf x=some .globalImplicit
theorem ztH {E:Value->Shared->Prop}{pins:List (Addr×Obj)}{s:Shared}{σ:St}{H:Hp}{x:Str}{u:Value}{pos:Pos}{Q:Value->Shared->Prop}(I:Inv X pins σ H s)(hg:Gl X x)(hm:X.mg x=some u)(h:Q u s)
  (hd:(x==("__debug__" : Str))=false:=by decide):wpAny (model X.prog X.w) X.A (eval (.Name x pos) X.env) Q E s :=
 Calls.Name_function_global I.ok.kind hg (Calls.loadGlobal_global (by rw[I.ok.glob];exact I.mod.glob.keeps I.bk) hm h) hd
theorem zn6 {E:Value->Shared->Prop}{pins:List (Addr×Obj)}{s:Shared}{σ:St}{H:Hp}{x:Str}{u:Value}{pos:Pos}{Q:Value->Shared->Prop}(I:Inv X pins σ H s)(hg:Gl X x)(hm:X.mg x=none)(hv:bootBuiltins x=some u)(h:Q u s)
  (hn:x≠"__name__":=by decide)(hd:(x==("__debug__" : Str))=false:=by decide):wpAny (model X.prog X.w) X.A (eval (.Name x pos) X.env) Q E s:=by
 obtain⟨mb,h1,h2⟩:=I.mod.blt;exact Calls.Name_function_global I.ok.kind hg (Calls.loadGlobal_builtin (by rw[I.ok.glob];exact I.mod.glob.keeps I.bk) hm (by rw[I.ok.blt];exact h1.keeps I.bk) ((h2 x hn).trans hv) h) hd
theorem zyB {x:Str}{v:V}{u:Value}{pos:Pos}(hg:Gl X x)(hm:X.mg x=some u)(r:zbw v u)(hd:(x==("__debug__" : Str))=false:=by decide):PE X (.Name x pos) (tC v) :=
 fun _ _ _ H _ I h=>ztH I hg hm ⟨v,H,I,r,h⟩ hd
theorem zyF {x:Str}{v:V}{u:Value}{pos:Pos}(hg:Gl X x)(hm:X.mg x=none)(hv:bootBuiltins x=some u)(r:zbw v u)(hn:x≠"__name__":=by decide)(hd:(x==("__debug__" : Str))=false:=by decide):PE X (.Name x pos) (tC v) :=
 fun _ _ _ H _ I h=>zn6 I hg hm hv ⟨v,H,I,r,h⟩ hn hd
variable {a b:Expr}{ta tb:TE}{pos:Pos}
noncomputable def PC (X:Cx) (op:CmpOp) (a b:Expr) (t:TE):Prop :=
 ∀ (pins:List (Addr×Obj)) (s:Shared) (σ:St) (H:Hp) (Q:VK),Inv X pins σ H s->t σ H Q ->
  wpAny (model X.prog X.w) X.A (eval a X.env) (fun v sg=>wpAny (model X.prog X.w) X.A (eval b X.env) (fun u sj=>wpAny (model X.prog X.w) X.A (compareOp op v u) (EP X pins σ Q) X.xe sj) X.xe sg) X.xe s
theorem zqL (b:Expr){op:CmpOp}(h:op≠.In)(h2:op≠.NotIn):behindInMarks op b=false:=by
 have e1:(op==CmpOp.In)=false:=by cases op<;>first | rfl | exact absurd rfl h
 have e2:(op==CmpOp.NotIn)=false:=by cases op<;>first | rfl | exact absurd rfl h2
 cases b<;>simp [behindInMarks,e1,e2]
def tB (t:TE):TT:=fun σ H Q=>t σ H fun x H1=>∃ c,x=.bl c/\Q c H1
theorem zDG {op:CmpOp}{t:TE}(h:PC X op a b t)(h1:behindInMarks op b=false:=by first | exact zqL _ (by decide) (by decide) | rfl):PT X (.Compare a [op] [b] pos) (tB t):=by
 intro pins s σ H Q I hw;refine wpAny_isTrue_Compare1 (thn (h pins s σ H _ I hw) fun v s1 h1=>thn h1 fun u s2 h2=>thn h2 fun c s3 ⟨x,H1,I1,r1,q1⟩=>?_) h1;obtain⟨d,rfl,q⟩:=q1;cases r1;exact wpAny_truthy_bool ⟨H1,I1,q⟩
theorem zxc {e:Expr}{t:TE}(h:PE X e t)(he:∀ whole,isTrue e X.env whole=(do let v ← whole;standAt e.pos;holding [v] (truthy v)):=by intro _;rfl):PT X e (tB t):=by
 intro pins s σ H Q I hw;refine isTrue_plain (thn (h pins s σ H _ I hw) fun v s1 ⟨x,H1,I1,r1,q1⟩=>?_) (he _);obtain⟨d,rfl,q⟩:=q1;cases r1;exact wpAny_truthy_bool ⟨H1,I1,q⟩
variable {tA tB':TT}{rest:List Expr}
def zEh (t u:TT):TT:=fun σ H Q=>t σ H fun c H1=>if c=true then u σ H1 Q else Q false H1
def tOr (t u:TT):TT:=fun σ H Q=>t σ H fun c H1=>if c=true then Q true H1 else u σ H1 Q
def zEc (t:TT):TT:=fun σ H Q=>t σ H fun c H1=>Q (!c) H1
theorem zs6 (ha:PT X a tA):PW X (.BoolOp .And [a] pos) tA:=by
 intro wh pins s σ H Q I h;refine isTrue_and (thn (ha pins s σ H Q I h) fun c s1 e=>?_);cases c with
 | true=>exact isTrue_and_nil e
 | false=>exact e
theorem zw8 (ha:PT X a tA):PW X (.BoolOp .Or [a] pos) tA:=by
 intro wh pins s σ H Q I h;refine isTrue_or (thn (ha pins s σ H Q I h) fun c s1 e=>?_);cases c with
 | false=>exact isTrue_or_nil e
 | true=>exact e
theorem zw9 (ha:PT X a tA)(hb:PW X (.BoolOp .And (b::rest) pos) tB'):PW X (.BoolOp .And (a::b::rest) pos) (zEh tA tB'):=by
 intro wh pins s σ H Q I h;refine isTrue_and (thn (ha pins s σ H _ I h) fun c s1 ⟨H1,I1,q1⟩=>?_);cases c with
 | true=>exact hb wh pins s1 σ H1 Q I1 q1
 | false=>exact⟨H1,I1,q1⟩
theorem zAG (ha:PT X a tA)(hb:PW X (.BoolOp .Or (b::rest) pos) tB'):PW X (.BoolOp .Or (a::b::rest) pos) (tOr tA tB'):=by
 intro wh pins s σ H Q I h;refine isTrue_or (thn (ha pins s σ H _ I h) fun c s1 ⟨H1,I1,q1⟩=>?_);cases c with
 | true=>exact⟨H1,I1,q1⟩
 | false=>exact hb wh pins s1 σ H1 Q I1 q1
theorem zxd (ha:PT X a tA):PT X (.UnaryOp .Not a pos) (zEc tA):=by
 intro pins s σ H Q I h;exact isTrue_not (ha pins s σ H (fun c H1=>Q (!c) H1) I h)
noncomputable def zCw (ta tb:TE):TE:=fun σ H Q=>ta σ H fun x H1=>∃ c,x=.bl c/\if c=true then tb σ H1 Q else Q (.bl false) H1
noncomputable def zEb (ta tb:TE):TE:=fun σ H Q=>ta σ H fun x H1=>∃ c,x=.bl c/\if c=true then Q (.bl true) H1 else tb σ H1 Q
def zCp (ta:TE):TE:=fun σ H Q=>ta σ H fun x H1=>∃ c,x=.bl c/\Q (.bl (!c)) H1
theorem zAU {op}{t:TE}(h:PE X a t):PE X (.BoolOp op [a] pos) t:=fun pins s σ H Q I hw=>BoolOp_one (h pins s σ H Q I hw)
theorem zAZ (ha:PE X a ta)(hb:PE X (.BoolOp .And (b::rest) pos) tb):PE X (.BoolOp .And (a::b::rest) pos) (zCw ta tb):=by
 intro pins s σ H Q I h;refine BoolOp_and (thn (ha pins s σ H _ I h) fun v s1 ⟨x,H1,I1,r1,q1⟩=>?_);obtain⟨c,rfl,q1⟩:=q1;cases r1;refine wpAny_truthy_bool ?_;cases c with
 | true=>exact hb pins s1 σ H1 Q I1 q1
 | false=>exact⟨.bl false,H1,I1,rfl,q1⟩
theorem zCO (ha:PE X a ta)(hb:PE X (.BoolOp .Or (b::rest) pos) tb):PE X (.BoolOp .Or (a::b::rest) pos) (zEb ta tb):=by
 intro pins s σ H Q I h;refine BoolOp_or (thn (ha pins s σ H _ I h) fun v s1 ⟨x,H1,I1,r1,q1⟩=>?_);obtain⟨c,rfl,q1⟩:=q1;cases r1;refine wpAny_truthy_bool ?_;cases c with
 | false=>exact hb pins s1 σ H1 Q I1 q1
 | true=>exact⟨.bl true,H1,I1,rfl,q1⟩
theorem zAV (ha:PE X a ta):PE X (.UnaryOp .Not a pos) (zCp ta):=by
 intro pins s σ H Q I h;refine UnaryOp_ (thn (ha pins s σ H _ I h) fun v s1 ⟨x,H1,I1,r1,q1⟩=>?_);obtain⟨c,rfl,q1⟩:=q1;cases r1;exact not_of (wpAny_truthy_bool ⟨.bl (!c),H1,I1,rfl,q1⟩)
def tIf (t:TT)(ta tb:TE):TE:=fun σ H Q=>t σ H fun c H1=>if c=true then ta σ H1 Q else tb σ H1 Q
theorem zwe {c:Expr}(hc:PT X c tA)(ha:PE X a ta)(hb:PE X b tb):PE X (.IfExp c a b pos) (tIf tA ta tb):=by
 intro pins s σ H Q I h;refine wpAny_IfExp (thn (hc pins s σ H _ I h) fun d s1 ⟨H1,I1,q1⟩=>?_);cases d with
 | true=>exact ha pins s1 σ H1 Q I1 q1
 | false=>exact hb pins s1 σ H1 Q I1 q1
end
noncomputable def SqL (K:W.Frag) (H:Hp) (a:Addr) (xs:List V):Prop :=
 Rd H a (.lst xs) ∨
  ∃ (o:Obj) (its:Array Value) (n:Nat),K.lookup a=some o/\o.cls=.type "list"/\o.dict=none/\o.data=.seq its n/\its.size<=sizeLine/\zbO xs its.toList
noncomputable def SqT (K:W.Frag) (H:Hp) (a:Addr) (xs:List V):Prop :=
 Rd H a (.tup xs) ∨
  ∃ (o:Obj) (its:Array Value) (n:Nat),K.lookup a=some o/\o.cls=.type "tuple"/\o.data=.seq its n/\its.size<=sizeLine/\zbO xs its.toList
noncomputable def zEE:Value->Option V
 | .none=>some .non
 | .bool b=>some (.bl b)
 | .int i _=>some (.int i)
 | .str x _=>some (.str x)
 | .bytes b _=>some (.byt b)
 | .float b _=>some (.flt b)
 | .ref a=>some (.ref a)
 | .type n=>some (.ty n)
 | _=>none
theorem zbw.abs {x:V}{u:Value}(r:zbw x u):zEE u=some x:=by
 cases x with
 | non=>cases r;rfl
 | bl _=>cases r;rfl
 | int _=>obtain⟨t,rfl⟩:=r;rfl
 | str _=>obtain⟨t,rfl⟩:=r;rfl
 | byt _=>obtain⟨t,rfl⟩:=r;rfl
 | flt _=>obtain⟨t,rfl⟩:=r;rfl
 | ref _=>cases r;rfl
 | ty _=>cases r;rfl
theorem zbw.inj {x y:V}{u:Value}(r:zbw x u)(q:zbw y u):x=y:=Option.some.inj (r.abs.symm.trans q.abs)
theorem zbO.inj:∀ {xs ys:List V}{us:List Value},zbO xs us->zbO ys us->xs=ys
 | _,_,_,.nil,.nil=>rfl
 | _,_,_,.cons r t,.cons r' t'=>by rw[r.inj r',zbO.inj t t']
section
variable {X:Cx}{pins:List (Addr×Obj)}{σ:St}{H:Hp}{s:Shared}{a:Addr}{xs ys:List V}
theorem SqL.of {K:W.Frag}(h:H a=some (.lst xs)):SqL K H a xs:=.inl (.inl h)
theorem SqT.of {K:W.Frag}(h:H a=some (.tup xs)):SqT K H a xs:=.inl (.inl h)
theorem Inv.list (I:Inv X pins σ H s)(h:SqL X.K H a xs):∃ its:List Value,zbO xs its/\PlainL s.heap a its.toArray/\xs.length<=sizeLine:=by
 rcases h with h | ⟨o,its,n,hk,hc,hd,hs,hz,r⟩
 .obtain⟨z,its,n,r,e⟩:=h.ok I.hok
  exact⟨its,r,⟨_,n,e,rfl,rfl,rfl⟩,z⟩
 .refine⟨its.toList,r,⟨o,n,I.kIn a o hk,hc,hd,by simpa using hs⟩,?_⟩
  have e:=r.length;simp only[Array.length_toList] at e;omega
theorem Inv.tuple (I:Inv X pins σ H s)(h:SqT X.K H a xs):∃ its:List Value,zbO xs its/\IsTup s.heap a its.toArray/\xs.length<=sizeLine:=by
 rcases h with h | ⟨o,its,n,hk,hc,hs,hz,r⟩
 .obtain⟨z,its,r,p⟩:=h.ok I.hok
  exact⟨its,r,p,z⟩
 .refine⟨its.toList,r,⟨o,I.kIn a o hk,hc,n,by simpa using hs⟩,?_⟩
  have e:=r.length;simp only[Array.length_toList] at e;omega
theorem Inv.list_inj (I:Inv X pins σ H s)(h:SqL X.K H a xs)(h':SqL X.K H a ys):xs=ys:=by
 obtain⟨its,r,⟨o,n,e,_,_,d⟩,_⟩:=I.list h;obtain⟨its',r',⟨o',n',e',_,_,d'⟩,_⟩:=I.list h';rw[e] at e';cases e';rw[d] at d';injection d' with d1 _;have:its=its':=by simpa using congrArg Array.toList d1
 subst this;exact r.inj r'
theorem Inv.tuple_inj (I:Inv X pins σ H s)(h:SqT X.K H a xs)(h':SqT X.K H a ys):xs=ys:=by
 obtain⟨its,r,⟨o,e,_,n,d⟩,_⟩:=I.tuple h;obtain⟨its',r',⟨o',e',_,n',d'⟩,_⟩:=I.tuple h';rw[e] at e';cases e';rw[d] at d';injection d' with d1 _;have:its=its':=by simpa using congrArg Array.toList d1
 subst this;exact r.inj r'
end
abbrev Cx.wish (X:Cx)(E:Value->Shared->Prop):Cx:={ X with xe:=E }
abbrev Cx.nox (X:Cx):Cx:=X.wish fun _ _=>False
theorem Cx.Ok.wish {X:Cx}(ok:X.Ok)(E:Value->Shared->Prop):(X.wish E).Ok :=
 ⟨ok.mod,ok.kind,ok.glob,ok.blt,ok.above,ok.inj,ok.has,ok.cab,ok.hd,ok.frames,ok.stk,ok.exf,ok.bs,ok.bsz,ok.noex,ok.exfs,ok.funs,ok.frf⟩
theorem Cx.Ok.unwish {X:Cx}{E:Value->Shared->Prop}(ok:(X.wish E).Ok):X.Ok :=
 ⟨ok.mod,ok.kind,ok.glob,ok.blt,ok.above,ok.inj,ok.has,ok.cab,ok.hd,ok.frames,ok.stk,ok.exf,ok.bs,ok.bsz,ok.noex,ok.exfs,ok.funs,ok.frf⟩
section
variable {X:Cx}{pins:List (Addr×Obj)}{σ:St}{H:Hp}{s:Shared}{E:Value->Shared->Prop}
theorem Inv.wish (I:Inv X pins σ H s)(E:Value->Shared->Prop):Inv (X.wish E) pins σ H s:=⟨I.ok.wish E,I.os,I.bare,I.base,I.loc,I.cell,I.free,I.freeC,I.pin,I.hok,I.len⟩
theorem Inv.unwish (I:Inv (X.wish E) pins σ H s):Inv X pins σ H s:=⟨I.ok.unwish,I.os,I.bare,I.base,I.loc,I.cell,I.free,I.freeC,I.pin,I.hok,I.len⟩
theorem SP.unwish {D:zi0}{f:Flow}{s':Shared}(h:SP (X.wish E) pins D f s'):SP X pins D f s':=by
 cases f with
 | next=>obtain⟨σ',H',I,q⟩:=h;exact⟨σ',H',I.unwish,q⟩
 | brk=>obtain⟨σ',H',I,q⟩:=h;exact⟨σ',H',I.unwish,q⟩
 | cont=>obtain⟨σ',H',I,q⟩:=h;exact⟨σ',H',I.unwish,q⟩
 | ret u=>obtain⟨v,σ',H',I,r,q⟩:=h;exact⟨v,σ',H',I.unwish,r,q⟩
theorem PSs.nox {st:List Stmt}{t:TS}(h:PSs X.nox st t):PSs X st t:=fun pins s σ H D I hw =>
 wpAny_mono (h pins s σ H D (I.wish _) hw) (fun _ _ q=>q.unwish) fun _ _ z=>False.elim z
end
section
variable {X:Cx}{st:Stmt}{rest:List Stmt}{t u:TS}{e:Expr}{te:TE}{pos:Pos}
def zCq:TS:=fun D σ H=>D.nx σ H
def zD8 (t u:TS):TS:=fun D σ H=>t { D with nx:=u D } σ H
theorem zpG:PSs X [] zCq:=fun _ _ σ H _ I h=>wpAny_execs_nil ⟨σ,H,I,h⟩
theorem zg6 (h1:PS X st t)(h2:PSs X rest u):PSs X (st::rest) (zD8 t u):=by
 intro pins s σ H D I h;refine wpAny_execs_cons (thn (h1 pins s σ H { D with nx:=u D } I h) fun f s1 q=>?_);cases f with
 | next =>
  obtain⟨σ',H',I',q⟩:=q;exact h2 pins s1 σ' H' D I' q
 | ret v=>exact q
 | brk=>exact q
 | cont=>exact q
theorem Inv.quiet {pins:List (Addr×Obj)}{σ:St}{H:Hp}{s:Shared}(I:Inv X pins σ H s):interactive X.env=false:=by simp [interactive,I.ok.kind]
def zCr (te:TE):TS:=fun D σ H=>te σ H fun _ H1=>D.nx σ H1
theorem zpH (he:PE X e te)(hs:swapsWith e none pos.line X.env=pure false:=by rfl):PS X (.Expr e pos) (zCr te):=by
 intro pins s σ H D I h;exact wpAny_Expr_any (thn (he pins s σ H _ I h) fun v s1 ⟨x,H1,I1,r1,q1⟩=>⟨σ,H1,I1,q1⟩) I.quiet hs
def zD9 (te:TE):TS:=fun D σ H=>te σ H D.rt
theorem zqz (he:PE X e te):PS X (.Return (some e) pos) (zD9 te):=by
 intro pins s σ H D I h;exact wpAny_Return_some (thn (he pins s σ H _ I h) fun v s1 ⟨x,H1,I1,r1,q1⟩=>⟨x,σ,H1,I1,r1,q1⟩)
def zEf (c:TT)(t u:TS):TS:=fun D σ H=>c σ H fun b H1=>if b=true then t D σ H1 else u D σ H1
theorem zAL {c:Expr}{a b:List Stmt}{tc:TT}(hc:PT X c tc)(ha:PSs X a t)(hb:PSs X b u):PS X (.If c a b pos) (zEf tc t u):=by
 intro pins s σ H D I h;refine wpAny_If (thn (hc pins s σ H _ I h) fun d s1 ⟨H1,I1,q1⟩=>?_);cases d with
 | true=>exact ha pins s1 σ H1 D I1 q1
 | false=>exact hb pins s1 σ H1 D I1 q1
def zAc:TS:=fun _ _ _=>False
theorem zv9:PS X st zAc:=fun _ _ _ _ _ _ h=>h.elim
end
abbrev TG:=V->St->Hp->(St->Hp->Prop)->Prop
abbrev TGs:=List V->St->Hp->(St->Hp->Prop)->Prop
noncomputable def PG (X:Cx) (target:Expr) (t:TG):Prop :=
 ∀ (pins:List (Addr×Obj)) (s:Shared) (σ:St) (H:Hp) (v:V) (u:Value) (Q:St->Hp->Prop),Inv X pins σ H s->zbw v u->t v σ H Q ->
  wpAny (model X.prog X.w) X.A (assign target X.env u) (fun _ s'=>∃ σ' H',Inv X pins σ' H' s'/\Q σ' H') X.xe s
noncomputable def PGs (X:Cx) (ts:List Expr) (t:TGs):Prop :=
 ∀ (pins:List (Addr×Obj)) (s:Shared) (σ:St) (H:Hp) (vs:List V) (us:List Value) (Q:St->Hp->Prop),Inv X pins σ H s->zbO vs us->t vs σ H Q ->
  wpAny (model X.prog X.w) X.A (assignInOrder ((assignEach ts X.env).map (·.2)) us) (fun _ s'=>∃ σ' H',Inv X pins σ' H' s'/\Q σ' H') X.xe s
abbrev zDl:=V->V->V->Hp->(Hp->Prop)->Prop
noncomputable def zD3 (X:Cx) (t:zDl):Prop :=
 ∀ (pins:List (Addr×Obj)) (s:Shared) (σ:St) (H:Hp) (o i v:V) (ov iv u:Value) (Q:Hp->Prop),Inv X pins σ H s->zbw o ov->zbw i iv->zbw v u->t o i v H Q ->
  wpAny (model X.prog X.w) X.A (setItem ov iv u) (fun _ s'=>∃ H',Inv X pins σ H' s'/\Q H') X.xe s
section
variable {X:Cx}{pos:Pos}
def zwy (i:Nat):TG:=fun v σ H Q=>Q (σ.set i (some v)) H
theorem zte {i:Nat}{x:Str}(hN:X.N.Nodup)(hi:X.N[i]?=some x)(hx:Loc X.env.scope x)(hf:X.fn x=true∨X.env.scope.names.lookup x=some .local := by first | exact .inl rfl | exact .inr rfl | assumption):PG X (.Name x pos) (zwy i):=by
 intro pins s σ H v u Q I r h;exact wpAny_assign_Name (zja I hN hi hx r (fun s' I'=>⟨_,H,I',h⟩) hf)
def zEA:TGs:=fun vs σ H Q=>vs=[]/\Q σ H
def zC5 (t:TG)(u:TGs):TGs:=fun vs σ H Q=>∃ v r,vs=v::r/\t v σ H fun σ' H'=>u r σ' H' Q
theorem zyz:PGs X [] zEA:=by
 intro pins s σ H vs us Q I r h;obtain⟨e,h⟩:=h;subst e;cases r;exact assignInOrder_nil ⟨σ,H,I,h⟩
theorem zwd {e:Expr}{es:List Expr}{t:TG}{u:TGs}(h1:PG X e t)(h2:PGs X es u)
  (hs:(assignEach (e::es) X.env).map (·.2)=assign e X.env::(assignEach es X.env).map (·.2):=by rfl):PGs X (e::es) (zC5 t u):=by
 intro pins s σ H vs us Q I r h;obtain⟨v,vr,e1,h⟩:=h;subst e1;cases r with
 | cons r rr =>
  rw[hs];refine assignInOrder_cons (thn (h1 pins s σ H _ _ _ I r h) fun _ s1 ⟨σ1,H1,I1,q1⟩=>?_);exact h2 pins s1 σ1 H1 _ _ Q I1 rr q1
noncomputable def zEy (K:W.Frag) (n:Nat) (t:TGs):TG:=fun v σ H Q=>∃ a xs,v=.ref a/\SqT K H a xs/\xs.length=n/\t xs σ H Q
theorem zAO {es:List Expr}{k:Nat}{t:TGs}{n:Nat}(hc:X.calm=true)(h:PGs X es t)
  (hn:(assignEach es X.env).length=n:=by rfl)(hst:(assignEach es X.env).findIdx? (·.1)=none:=by rfl):PG X (.Tuple es k pos) (zEy X.K n t):=by
 intro pins s σ H v u Q I r hw;obtain⟨a,xs,e1,hq,hl,hw⟩:=hw;subst e1;cases r;obtain⟨its,rv,ht,hz⟩:=I.tuple hq;refine assign_Tuple_tuple (I.ok.hd hc) ht (by simp [hn,← hl,rv.length]) hst fun h' hx=>?_;have I1:Inv X pins σ H { s with heap:=h' }:=I.kept (t':=s.toks) fun b o e=>hx b o (Nat.ne_of_lt (Heap.lt_size e)) e;exact h pins _ σ H xs _ Q I1 (by simpa using rv) hw
noncomputable def zEz (to ti:TE) (t:zDl):TG:=fun v σ H Q=>to σ H fun o H1=>ti σ H1 fun i H2=>t o i v H2 fun H3=>Q σ H3
theorem zxf {o i:Expr}{to ti:TE}{t:zDl}(ho:PE X o to)(hi:PE X i ti)(hs:zD3 X t)
  (ha:∀ v,assign (.Subscript o i pos) X.env v=(do
   let ov ← holding [v] (eval o X.env)
   let iv ← holding [v,ov] (eval i X.env)
   standAt pos
   holding [v,ov,iv] (setItem ov iv v)
   release [v,ov,iv] []):=by intro _;rfl):PG X (.Subscript o i pos) (zEz to ti t):=by
 intro pins s σ H v u Q I r h;rw[ha];refine wpAny_bind (wpAny_holding (thn (ho pins s σ H _ I h) fun ov s1 ⟨x,H1,I1,r1,q1⟩=>?_));refine wpAny_bind (wpAny_holding (thn (hi pins s1 σ H1 _ I1 q1) fun iv s2 ⟨y,H2,I2,r2,q2⟩=>?_));refine wpAny_bind (wpAny_standAt (wpAny_bind (wpAny_holding (thn (hs pins s2 σ H2 x y v ov iv u _ I2 r1 r2 r q2) fun _ s3 ⟨H3,I3,q3⟩=>?_))));exact wpAny_release ⟨σ,H3,I3,q3⟩
def zB7 (te:TE)(g:TG):TS:=fun D σ H=>te σ H fun x H1=>g x σ H1 D.nx
theorem zxe {tg e:Expr}{te:TE}{g:TG}(he:PE X e te)(hg:PG X tg g)(hs:swapsWithSole [tg] e pos.line X.env=pure false:=by rfl)(hw:swappedStores [tg] e X.env=pure none:=by rfl)
  (h1:(assignEach [tg] X.env).map (·.2)=[assign tg X.env]:=by rfl):PS X (.Assign [tg] e pos) (zB7 te g):=by
 intro pins s σ H D I h;refine wpAny_Assign_stores (thn (he pins s σ H _ I h) fun v s1 ⟨x,H1,I1,r1,q1⟩=>?_) hs hw;rw[h1];exact thn (hg pins s1 σ H1 x v _ I1 r1 q1) fun _ s2 q=>q
theorem zlT {i:Nat}{x:Str}{e:Expr}{te:TE}{pos':Pos}(hN:X.N.Nodup)(hi:X.N[i]?=some x)(hx:Loc X.env.scope x)(he:PE X e te)(hs:swapsWith e (some (.Name x pos')) pos.line X.env=pure false:=by rfl)(hf:X.fn x=true∨X.env.scope.names.lookup x=some .local := by first | exact .inl rfl | exact .inr rfl | assumption) :
  PS X (.Assign [.Name x pos'] e pos) (zB7 te (zwy i)):=by
 intro pins s σ H D I h;refine wpAny_Assign_Name (thn (he pins s σ H _ I h) fun v s1 ⟨y,H1,I1,r1,q1⟩=>?_) hs;exact zja I1 hN hi hx r1 (fun s2 I2=>⟨_,H1,I2,q1⟩) hf
noncomputable def zEa (i j:Nat) (ta:TA):TS:=fun D σ H=>ta σ H fun vs H1=>∃ v w,vs=[v,w]/\D.nx ((σ.set i (some v)).set j (some w)) H1
theorem zAK {i j:Nat}{x y:Str}{a b:Expr}{ta:TA}{px py pt:Pos}{kt k2 pt2}(hc:X.calm=true)(hN:X.N.Nodup)(hi:X.N[i]?=some x)(hj:X.N[j]?=some y)(hij:i≠j)
  (hx:X.env.scope.names.lookup x=some .local)(hy:X.env.scope.names.lookup y=some .local)(ha:PA X [a,b] ta)
  (hw:swappedStores [.Tuple [.Name x px,.Name y py] kt pt] (.Tuple [a,b] k2 pt2) X.env=pure (some [x,y]))
  (hs:swapsWithSole [.Tuple [.Name x px,.Name y py] kt pt] (.Tuple [a,b] k2 pt2) pos.line X.env=pure false:=by rfl) :
  PS X (.Assign [.Tuple [.Name x px,.Name y py] kt pt] (.Tuple [a,b] k2 pt2) pos) (zEa i j ta):=by
 intro pins s σ H D I h;rw[exec_Assign_arm];refine wpAny_bind (wpAny_standAt ?_);rw[hs];refine wpAny_bind (wpAny_pure ?_);rw[if_neg (by decide)];refine wpAny_bind (Tuple_ (thn (ha _ pins s σ H _ I h) fun us s1 ⟨vs,H1,I1,r1,q1⟩=>?_));obtain⟨v,w,e1,q1⟩:=q1;subst e1;obtain⟨u1,u2,rfl,rv,rw'⟩:∃ u1 u2,us=[u1,u2]/\zbw v u1/\zbw w u2:=by
  cases r1 with
  | cons p q =>
   cases q with
   | cons p' q' =>
    cases q';exact⟨_,_,rfl,p,p'⟩
 refine wpAny_newObj_type ?_ (by show 2<=sizeLine;decide);have I2:Inv X pins σ H1 { s1 with heap:=s1.heap.push { cls:=.type "tuple",data:=.seq [u1,u2].toArray } }:=I1.kept (t':=s1.toks) fun b o e=>Heap.get?_push_of_some _ e;rw[hw];refine wpAny_bind (wpAny_pure ?_);show wpAny (model X.prog X.w) X.A (do rule "assign.swapped-stores";let items ← unpackItems (.ref s1.heap.objs.size) 2 none;assignInOrder [fun v=>bindName X.env y v,fun v=>bindName X.env x v] items.reverse;pure Flow.next) _ _ _;refine wpAny_bind (wpAny_rule (wpAny_bind (unpackItems_tuple (items:=#[u1,u2]) (I.ok.hd hc) (IsTup.new s1.heap _) fun h' hx'=>?_)));have I3:=I2.kept (h':=h') (t':=s1.toks) fun b o e=>hx' b o (Nat.ne_of_lt (Heap.lt_size e)) e;show wpAny _ _ (assignInOrder [fun v=>bindName X.env y v,fun v=>bindName X.env x v] [u2,u1] >>= fun _=>pure Flow.next) _ _ _;refine wpAny_bind (assignInOrder_cons (wpAny_bindName (zja I3 hN hj (.inl hy) rw' (fun s2 I4=>?_) (.inr hy))));refine assignInOrder_cons (wpAny_bindName (zja I4 hN hi (.inl hx) rv (fun s3 I5=>assignInOrder_nil (wpAny_pure ?_)) (.inr hx)));rw[List.set_comm _ _ (Ne.symm hij)] at I5;exact⟨_,H1,I5,q1⟩
end
section
variable {X:Cx}{pos:Pos}
noncomputable def zAa (c:TT) (tb:TS):TS:=fun D σ H=>∃ W:Nat->St->Hp->Prop,(∃ m,W m σ H)/\∀ m σ H,W m σ H ->
 c σ H fun b H1=>if b=true then ∃ N:St->Hp->Prop,(∀ σ' H',N σ' H'->∃ m',m' < m/\W m' σ' H')/\tb { D with nx:=N,ct:=N,bk:=D.nx } σ H1 else D.nx σ H1
theorem zv8 {c:Expr}{body:List Stmt}{tc:TT}{tb:TS}(hp:PassesOwn (model X.prog X.w) X.A X.env X.xe)(hc:PT X c tc)(hb:PSs X body tb):PS X (.While c body [] pos) (zAa tc tb):=by
 intro pins s σ H D I h;obtain⟨W,⟨m0,w0⟩,turn⟩:=h;refine wpAny_While (codeAny_whileLoop (fun n s'=>∃ σ' H',Inv X pins σ' H' s'/\W n σ' H') ?_ m0 ⟨σ,H,I,w0⟩);rintro n s1 ⟨σ1,H1,I1,w1⟩;refine wpAny_passesOwn hp (thn (hc pins s1 σ1 H1 _ I1 (turn n σ1 H1 w1)) fun b s2 ⟨H2,I2,q2⟩=>?_);cases b with
 | true =>
  obtain⟨N,hN,q2⟩:=q2;rw[if_pos rfl];refine wpAny_passesOwn hp (thn (hb pins s2 σ1 H2 _ I2 q2) fun f s3 q3=>?_);cases f with
  | next =>
   obtain⟨σ3,H3,I3,n3⟩:=q3;obtain⟨m',hm,w3⟩:=hN σ3 H3 n3;exact⟨m',hm,σ3,H3,I3,w3⟩
  | cont =>
   obtain⟨σ3,H3,I3,n3⟩:=q3;obtain⟨m',hm,w3⟩:=hN σ3 H3 n3;exact⟨m',hm,σ3,H3,I3,w3⟩
  | brk=>exact q3
  | ret v=>exact q3
 | false =>
  rw[if_neg Bool.false_ne_true];exact wpAny_execs_nil ⟨σ1,H2,I2,q2⟩
end
structure It where
 go:Nat->Hp->Prop
 yld:Nat->Hp->V->Hp->Prop
 stop:Nat->Hp->Prop
noncomputable def zrB (X:Cx) (pins:List (Addr×Obj)) (H:Hp) (b:Addr):Prop :=
 H b=none/\b≠X.env.locals/\b∉X.fs/\(b∈X.ex∨X.sf.heap.objs.size<=b)/\(∀ x c,X.env.cells.lookup x=some c->c≠b)/\∀ p∈X.pn++pins,p.1≠b
theorem Inv.fpOk {X:Cx}{pins:List (Addr×Obj)}{σ:St}{H H':Hp}{s:Shared}{b:Addr}(I:Inv X pins σ H s)(hb:s.heap.objs.size<=b)(hn:H' b=none):zrB X pins H' b:=by
 refine⟨hn,Nat.ne_of_gt (Nat.lt_of_lt_of_le I.lt hb),I.nofs hb,.inr (Nat.le_trans I.sz hb),fun x c e z=>?_,fun p hp z=>?_⟩
 .obtain⟨v,q⟩:=I.cell x c e
  exact absurd (Nat.lt_of_lt_of_le q.lt (by rw[z];exact hb)) (Nat.lt_irrefl _)
 .exact absurd (Nat.lt_of_lt_of_le (Heap.lt_size (I.pin p hp).1) (by rw[z];exact hb)) (Nat.lt_irrefl _)
structure zzT (P:Program) (w:World) (K:W.Frag) (tg:Expr) (J:It) (fp:List Addr) (it:Addr) (tn:Nat->Heap->Prop):Prop where
 mem:it∈fp
 obj:∀ i h,tn i h->∀ b∈fp,∃ o,h.get? b=some o/\∀ v,o.data≠.cell v
 keep:∀ i h h',tn i h->(∀ b∈fp,∀ o,h.get? b=some o->h'.get? b=some o)->tn i h'
 item:∀ (X:Cx),X.prog=P->X.w=w->X.K=K->X.calm=true->∀ (i:Nat) (pins:List (Addr×Obj)) (s:Shared) (σ:St) (H:Hp) (E:Value->Shared->Prop),Inv X pins σ H s->(∀ b∈fp,zrB X pins H b)->tn i s.heap->J.go i H ->
  wpAny (model P w) X.A (pyNext (.ref it)) (fun r s1=>∃ u,r=some u /\
   wpAny (model P w) X.A (letOwnedTupleGo tg (.ref it) u) (fun _ s2=>∃ x H',Inv X pins σ H' s2/\zbw x u/\J.yld i H x H'/\tn (i+1) s2.heap/\∀ b∈fp,H' b=none) E s1) E s
 done:∀ (X:Cx),X.prog=P->X.w=w->X.K=K->X.calm=true->∀ (i:Nat) (pins:List (Addr×Obj)) (s:Shared) (σ:St) (H:Hp) (E:Value->Shared->Prop),Inv X pins σ H s->(∀ b∈fp,zrB X pins H b)->tn i s.heap->J.stop i H ->
  wpAny (model P w) X.A (pyNext (.ref it)) (fun r s1=>r=none/\Inv X pins σ H s1) E s
 self:∀ (A:Around) (i:Nat) (s:Shared) (Q:Value->Shared->Prop) (E:Value->Shared->Prop),tn i s.heap->Q (.ref it) s->wpAny (model P w) A (pyIter (.ref it)) Q E s
abbrev TI:=St->Hp->(It->Hp->Prop)->Prop
noncomputable def PIE (X:Cx) (pins:List (Addr×Obj)) (σ:St) (tg:Expr) (R:It->Hp->Prop) (itv:Value) (s2:Shared):Prop :=
 ∃ (it:Addr) (fp:List Addr) (tn:Nat->Heap->Prop) (J:It) (H':Hp),itv=.ref it/\Inv X pins σ H' s2/\zzT X.prog X.w X.K tg J fp it tn/\tn 0 s2.heap/\(∀ b∈fp,zrB X pins H' b)/\R J H'
noncomputable def PI (X:Cx) (tg iter:Expr) (wi:TI):Prop :=
 ∀ (pins:List (Addr×Obj)) (s:Shared) (σ:St) (H:Hp) (R:It->Hp->Prop),Inv X pins σ H s->wi σ H R ->
  wpAny (model X.prog X.w) X.A (eval iter X.env) (fun v s1=>wpAny (model X.prog X.w) X.A (pyIter v) (PIE X pins σ tg R) X.xe s1) X.xe s
theorem zwx {M:Model}{A:Around}{E:Value->Shared->Prop}{s:Shared}{tg:Expr}{it:Addr}{u:Value}{o:Obj}{n:String}{vs:Array Value}{Q:Unit->Shared->Prop}(ho:s.heap.get? it=some o)(hc:o.cls=.type n)(hd:o.data=.fields vs)
  (hn:["enumerate","zip","dict_itemiterator","dict_reverseitemiterator","odict_iterator","itertools.zip_longest","itertools.pairwise"].contains n=false)(hQ:Q () s):wpAny M A (letOwnedTupleGo tg (.ref it) u) Q E s:=by
 unfold letOwnedTupleGo;cases tg<;>first
  | exact wpAny_pure hQ
  | (cases u<;>first
    | exact wpAny_pure hQ
    | (refine wpAny_bind (wpAny_load ho ?_);rw[hc,hd];show wpAny M A (if(["enumerate","zip","dict_itemiterator","dict_reverseitemiterator","odict_iterator","itertools.zip_longest","itertools.pairwise"].contains n&&vs[0]?==some (rawInt _))=true then _ else _) Q E s;rw[if_neg (by intro h;rw[hn,Bool.false_and] at h;cases h)];exact wpAny_pure hQ))
noncomputable def Itl (K:W.Frag) (a:Addr):It :=
 ⟨fun i H=>∃ xs x,SqL K H a xs/\xs[i]?=some x,fun i H x H'=>H'=H/\∀ xs,SqL K H a xs->xs[i]?=some x,fun i H=>∃ xs,SqL K H a xs/\xs.length<=i⟩
def Itr (lo:Int)(n:Nat):It:=⟨fun i _=>i < n,fun i H x H'=>H'=H/\x=.int (lo+i),fun i _=>n<=i⟩
theorem zsI {P:Program}{w:World}{K:W.Frag}{tg:Expr}(a it:Addr):zzT P w K tg (Itl K a) [it] it (fun i h=>h.IsListIter it a i) where
 mem:=by simp
 obj:=fun i h st b hb=>by
  have e:b=it:=by simpa using hb
  subst e;obtain⟨o,e,c,d⟩:=st;exact⟨o,e,fun v z=>by rw[d] at z;cases z⟩
 keep:=fun i h h' st k=>st.at fun o e=>k it (by simp) o e
 item:=by
  intro X hP hw hK hc i pins s σ H E I hf st hg;subst hP hw hK;obtain⟨xs,x,hq,hx⟩:=hg;obtain⟨its,rv,p,hz⟩:=I.list hq;obtain⟨u,hu,ru⟩:=rv.get hx;obtain⟨f0,f1,f2,f3,f4,f5⟩:=hf it (by simp);refine wpAny_pyNext_list_item st p.isList (x:=u) (by simpa using hu) fun h' st' sb=>?_;have I1:Inv X pins σ H { s with heap:=h' }:=I.turned (t':=s.toks) (fun b o hb e=>(sb.2 b hb).trans e) f0 f1 f3 f4 f5;obtain⟨o,e,c,d⟩:=id st';exact⟨u,rfl,zwx (s:={ s with heap:=h' }) e c d (by decide) ⟨x,H,I1,ru,⟨rfl,fun ys hy=>by rw[I.list_inj hy hq];exact hx⟩,st',fun b hb=>(hf b hb).1⟩⟩
 done:=by
  intro X hP hw hK hc i pins s σ H E I hf st hg;subst hP hw hK;obtain⟨xs,hq,hx⟩:=hg;obtain⟨its,rv,p,hz⟩:=I.list hq;obtain⟨f0,f1,f2,f3,f4,f5⟩:=hf it (by simp);have hl:=rv.length;exact wpAny_pyNext_list_end (I.ok.hd hc) st p.isList (by simp;omega) fun h' eb=>⟨rfl,I.turned (t':=s.toks) (fun b o hb e=>eb b o hb e) f0 f1 f3 f4 f5⟩
 self:=fun _ _ _ _ _ st h=>wpAny_pyIter_listiter st h
theorem zrF {P:Program}{w:World}{K:W.Frag}{tg:Expr}(it:Addr)(lo:Int)(n:Nat):zzT P w K tg (Itr lo n) [it] it (fun i h=>IsRangeIter h it (lo+(i:Nat)*1) ((n:Int)-(i:Nat)) 1) where
 mem:=by simp
 obj:=fun i h st b hb=>by
  have e:b=it:=by simpa using hb
  subst e;exact⟨_,st,fun v z=>by
   have z':Data.fields _=Data.cell v:=z;cases z'⟩
 keep:=fun i h h' st k=>k it (by simp) _ st
 item:=by
  intro X hP hw hK hc i pins s σ H E I hf st hg;subst hP hw hK;obtain⟨f0,f1,f2,f3,f4,f5⟩:=hf it (by simp);have W:=Walks.range (prog:=X.prog) (w:=X.w) (I.ok.hd hc) it lo 1 n;refine W.item i s _ _ hg st fun v h' tk hv st' kk=>?_;obtain⟨t,rfl⟩:=hv;have I1:Inv X pins σ H { s with heap:=h',toks:=tk }:=I.turned (fun b o hb e=>kk b o (by simpa using hb) e) f0 f1 f3 f4 f5;refine⟨_,rfl,zwx (s:={ s with heap:=h',toks:=tk }) (n:="range_iterator") st' rfl rfl (by decide) ⟨.int (lo+i),H,I1,⟨t,?_⟩,⟨rfl,rfl⟩,st',fun b hb=>(hf b hb).1⟩⟩;rw[Int.mul_one]
 done:=by
  intro X hP hw hK hc i pins s σ H E I hf st hg;subst hP hw hK;obtain⟨f0,f1,f2,f3,f4,f5⟩:=hf it (by simp);exact wpAny_pyNext_range_end (I.ok.hd hc) st (by have:n<=i:=hg;omega) fun h' eb=>⟨rfl,I.turned (t':=s.toks) (fun b o hb e=>eb b o hb e) f0 f1 f3 f4 f5⟩
 self:=fun _ _ _ _ _ st h=>wpAny_pyIter_rangeiter st h
section
variable {X:Cx}{tg:Expr}
noncomputable def zC3 (K:W.Frag) (tl:TE):TI:=fun σ H R=>tl σ H fun x H1=>∃ a,x=.ref a/\(∃ xs,SqL K H1 a xs)/\R (Itl K a) H1
theorem ztd {l:Expr}{tl:TE}(hl:PE X l tl):PI X tg l (zC3 X.K tl):=by
 intro pins s σ H R I h;refine thn (hl pins s σ H _ I h) fun v s1 ⟨x,H1,I1,r1,q1⟩=>?_;obtain⟨a,e,⟨xs,hq⟩,q⟩:=q1;subst e;cases r1;obtain⟨its,rv,p,hz⟩:=I1.list hq;refine wpAny_pyIter_list p.isList ?_;refine⟨s1.heap.objs.size,[s1.heap.objs.size],_,_,H1,rfl,I1.kept (t':=s1.toks) fun b o e=>Heap.get?_push_of_some _ e,zsI a _,⟨_,Heap.get?_push_size _ rfl,rfl,rfl⟩,fun b hb=>?_,q⟩;have e:b=s1.heap.objs.size:=by simpa using hb
 subst e;exact I1.fpOk (Nat.le_refl _) (I1.hok.fresh (Nat.le_refl _))
theorem zv3 {pins:List (Addr×Obj)}{σ:St}{H:Hp}{s:Shared}{R:It->Hp->Prop}{E:Value->Shared->Prop}{lo hi:Int}{t u v:Tok}{tk:Nat}(I:Inv X pins σ H s)(h1:-(2 ^ 62)<=lo)(h2:lo < 2 ^ 62)(h3:-(2 ^ 62)<=hi)(h4:hi < 2 ^ 62)
  (q:R (Itr lo (hi-lo).toNat) H):wpAny (model X.prog X.w) X.A (pyIter (.ref s.heap.objs.size)) (PIE X pins σ tg R) E { s with heap:=s.heap.push { cls:=.type "range",data:=.fields #[.int lo t,.int hi u,.int 1 v] },toks:=tk }:=by
 refine wpAny_pyIter_range (IsRange.new ..) (small_one h1 h2 h3 h4) ?_;have I1:Inv X pins σ H { s with heap:=s.heap.push { cls:=.type "range",data:=.fields #[.int lo t,.int hi u,.int 1 v] },toks:=tk }:=I.kept fun b o e=>Heap.get?_push_of_some _ e;refine⟨(s.heap.push { cls:=.type "range",data:=.fields #[.int lo t,.int hi u,.int 1 v] }).objs.size,[(s.heap.push { cls:=.type "range",data:=.fields #[.int lo t,.int hi u,.int 1 v] }).objs.size],_,_,H,rfl,
  I1.kept (t':=tk) fun b o e=>Heap.get?_push_of_some _ e,zrF _ lo (hi-lo).toNat,?_,fun b hb=>?_,q⟩
 .have e1:lo+((0:Nat):Int)*1=lo:=by simp
  have e2:(((hi-lo).toNat:Nat):Int)-((0:Nat):Int)=Builtin.Range.rangeSize lo hi 1:=by rw[rangeSize_one];split<;>omega
  show IsRangeIter _ _ (lo+((0:Nat):Int)*1) ((((hi-lo).toNat:Nat):Int)-((0:Nat):Int)) 1;rw[e1,e2];exact Heap.get?_push_size _ rfl
 .have e:b=(s.heap.push { cls:=.type "range",data:=.fields #[.int lo t,.int hi u,.int 1 v] }).objs.size:=by simpa using hb
  subst e;exact I1.fpOk (Nat.le_refl _) (I1.hok.fresh (Nat.le_refl _))
noncomputable def zC2 (ta:TA):TI:=fun σ H R=>ta σ H fun vs H1=>∃ j:Int,vs=[.int j]/\-(2 ^ 62)<=j/\j < 2 ^ 62/\R (Itr 0 j.toNat) H1
theorem zjE {a:Expr}{ta:TA}{p pos:Pos}(hg:Gl X "range")(hm:X.mg "range"=none)(ha:PA X [a] ta)(hs:starEach [a] X.env=[(false,eval a X.env)]:=by rfl):PI X tg (.Call (.Name "range" p) [a] [] pos) (zC2 ta):=by
 intro pins s σ H R I h;refine Call_ (zn6 I hg hm boot_range (PyProof.Rows.callWith_type1 (thn (ha pos pins s σ H _ I h) fun us s1 ⟨vs,H1,I1,r1,q1⟩=>?_) hs rfl));obtain⟨j,e,q1,q2,q⟩:=q1;subst e;cases r1 with
 | cons r rr =>
  cases rr;obtain⟨t,rfl⟩:=r;exact call_range_1 (zv3 I1 (by omega) (by omega) q1 q2 (by simpa using q))
noncomputable def zEg (wi:TI) (g:TG) (tb:TS):TS:=fun D σ H=>wi σ H fun J H1=>∃ W:Nat->Nat->St->Hp->Prop,(∃ m,W 0 m σ H1)/\∀ i m σ H,W i m σ H ->
 (J.stop i H/\D.nx σ H)∨(J.go i H/\∃ N:St->Hp->Prop,(∀ σ' H',N σ' H'->∃ m',m' < m/\W (i+1) m' σ' H')/\∀ x H',J.yld i H x H'->g x σ H' fun σ2 H2=>tb { D with nx:=N,ct:=N,bk:=D.nx } σ2 H2)
def znV (fp:List Addr)(h:Heap):List (Addr×Obj):=fp.filterMap fun b=>(h.get? b).map fun o=>(b,o)
theorem zgg {fp:List Addr}{h:Heap}{b:Addr}{o:Obj}(hb:b∈fp)(e:h.get? b=some o):(b,o)∈znV fp h:=List.mem_filterMap.mpr ⟨b,hb,by rw[e];rfl⟩
theorem ztt {fp:List Addr}{h:Heap}{p:Addr×Obj}(hp:p∈znV fp h):p.1∈fp/\h.get? p.1=some p.2:=by
 obtain⟨b,hb,e⟩:=List.mem_filterMap.mp hp;cases q:h.get? b with
 | none=>rw[q] at e;cases e
 | some o =>
  rw[q] at e;have e':(b,o)=p:=Option.some.inj e;subst e';exact⟨hb,q⟩
theorem Inv.pinned {pins:List (Addr×Obj)}{σ:St}{H:Hp}{s:Shared}{fp:List Addr}(I:Inv X pins σ H s)(hf:∀ b∈fp,zrB X pins H b)(ho:∀ b∈fp,∃ o,s.heap.get? b=some o/\∀ v,o.data≠.cell v):Inv X (pins++znV fp s.heap) σ H s :=
 I.pins_of fun p hp=>(List.mem_append.mp hp).elim (fun z=>I.pin p (List.mem_append_right _ z)) fun z=>by
  obtain⟨hb,e⟩:=ztt z;obtain⟨f0,f1,f2,_⟩:=hf p.1 hb;obtain⟨o,e',d⟩:=ho p.1 hb;rw[e] at e';cases e';exact⟨e,f0,f1,f2,d⟩
theorem Inv.unpinned {pins pl:List (Addr×Obj)}{σ:St}{H:Hp}{s:Shared}(I:Inv X (pins++pl) σ H s):Inv X pins σ H s:=I.pins_of fun p hp=>I.pin p (List.mem_append_right _ (List.mem_append_left _ hp))
theorem zqA {iter:Expr}{body:List Stmt}{wi:TI}{g:TG}{tb:TS}{pos:Pos}(hp:PassesOwn (model X.prog X.w) X.A X.env X.xe)(hc:X.calm=true)(hi:PI X tg iter wi)(hg:PG X tg g)(hb:PSs X body tb)
  (hs:∀ x,foldedSetIterable iter X.env x=pure x:=by intro _;rfl):PS X (.For tg iter body [] pos) (zEg wi g tb):=by
 intro pins s σ H D I h;refine wpAny_For (thn (hi pins s σ H _ I h) fun v s1 h1=>thn h1 fun itv s2 h2=>?_) hs;obtain⟨it,fp,tn,J,H2,e,I2,T,st2,f2,W,⟨m0,w0⟩,turn⟩:=h2;subst e;have stat:∀ {H':Hp},(∀ b∈fp,H' b=none)->∀ b∈fp,zrB X pins H' b:=fun hn b hb=>⟨hn b hb,(f2 b hb).2⟩
 refine codeAny_forLoop_any (fun n s'=>∃ i σ' H',Inv X pins σ' H' s'/\tn i s'.heap/\(∀ b∈fp,H' b=none)/\W i n σ' H') ?_ m0 ⟨0,σ,H2,I2,st2,fun b hb=>(f2 b hb).1,w0⟩;rintro n s3 ⟨i,σ3,H3,I3,st3,fr3,w3⟩;rcases turn i n σ3 H3 w3 with⟨stop,qn⟩ | ⟨go,N,hN,step⟩
 .refine wpAny_passesOwn hp (thn (T.done X rfl rfl rfl hc i pins s3 σ3 H3 X.xe I3 (stat fr3) st3 stop) fun r s4 ⟨hr,I4⟩=>?_)
  subst hr;exact wpAny_execs_nil ⟨σ3,H3,I4,qn⟩
 .refine wpAny_passesOwn hp (thn (T.item X rfl rfl rfl hc i pins s3 σ3 H3 X.xe I3 (stat fr3) st3 go) fun r s4 ⟨u,hr,h4⟩=>?_)
  subst hr;refine wpAny_passesOwn hp (thn h4 fun _ s5 ⟨x,H5,I5,r5,y5,st5,fr5⟩=>?_);have I5':=I5.pinned (stat fr5) (T.obj _ _ st5);refine wpAny_passesOwn hp (thn (hg _ s5 σ3 H5 x u _ I5' r5 (step x H5 y5)) fun _ s6 ⟨σ6,H6,I6,q6⟩=>?_);refine wpAny_passesOwn hp (thn (hb _ s6 σ6 H6 _ I6 q6) fun f s7 q7=>?_);have again:∀ {σ7:St}{H7:Hp},Inv X (pins++znV fp s5.heap) σ7 H7 s7->N σ7 H7->∃ m,m < n/\∃ i σ' H',Inv X pins σ' H' s7/\tn i s7.heap/\(∀ b∈fp,H' b=none)/\W i m σ' H':=fun {σ7 H7} I7 n7=>by
   obtain⟨m',hm,w7⟩:=hN σ7 H7 n7;refine⟨m',hm,i+1,σ7,H7,I7.unpinned,T.keep _ _ _ st5 fun b hb o e=>(I7.pin (b,o) (List.mem_append_right _ (List.mem_append_right _ (zgg hb e)))).1,fun b hb=>?_,w7⟩;obtain⟨o,e,d⟩:=T.obj _ _ st5 b hb;exact(I7.pin (b,o) (List.mem_append_right _ (List.mem_append_right _ (zgg hb e)))).2.1
  cases f with
  | next=>obtain⟨σ7,H7,I7,n7⟩:=q7;exact again I7 n7
  | cont=>obtain⟨σ7,H7,I7,n7⟩:=q7;exact again I7 n7
  | brk=>obtain⟨σ7,H7,I7,q7⟩:=q7;exact⟨σ7,H7,I7.unpinned,q7⟩
  | ret v=>obtain⟨x7,σ7,H7,I7,r7,q7⟩:=q7;exact⟨x7,σ7,H7,I7.unpinned,r7,q7⟩
end
theorem zwA {K:W.Frag}{a:Addr}{xs:List V}{g:TG}{tb:TS}{D:zi0}{σ:St}{H:Hp}(Pv:Nat->St->Hp->Prop)(h0:Pv 0 σ H)(hl:∀ i σ H,i<=xs.length->Pv i σ H->SqL K H a xs)
  (hs:∀ i x σ H,xs[i]?=some x->Pv i σ H->g x σ H fun σ2 H2=>tb { D with nx:=Pv (i+1),ct:=Pv (i+1),bk:=D.nx } σ2 H2)(hd:∀ σ H,Pv xs.length σ H->D.nx σ H) :
  ∃ W:Nat->Nat->St->Hp->Prop,(∃ m,W 0 m σ H)/\∀ i m σ H,W i m σ H ->
   ((Itl K a).stop i H/\D.nx σ H)∨((Itl K a).go i H/\∃ N:St->Hp->Prop,(∀ σ' H',N σ' H'->∃ m',m' < m/\W (i+1) m' σ' H')/\∀ x H',(Itl K a).yld i H x H'->g x σ H' fun σ2 H2=>tb { D with nx:=N,ct:=N,bk:=D.nx } σ2 H2):=by
 refine⟨fun i m σ H=>m=xs.length-i/\i<=xs.length/\Pv i σ H,⟨xs.length,by simp,Nat.zero_le _,h0⟩,?_⟩;rintro i m σ H ⟨rfl,hi,p⟩;have q:=hl i σ H hi p
 by_cases hlt:i < xs.length
 .refine .inr ⟨⟨xs,xs[i],q,by simp [hlt]⟩,Pv (i+1),fun σ' H' p'=>⟨xs.length-(i+1),by omega,rfl,hlt,p'⟩,fun x H' y=>?_⟩
  obtain⟨e,y⟩:=y;subst e;exact hs i x σ _ (y xs q) p
 .have e:i=xs.length:=by omega
  subst e;exact .inl ⟨⟨xs,q,Nat.le_refl _⟩,hd σ H p⟩
theorem ztY {lo:Int}{n:Nat}{g:TG}{tb:TS}{D:zi0}{σ:St}{H:Hp}(Pv:Nat->St->Hp->Prop)(h0:Pv 0 σ H)
  (hs:∀ i σ H,i < n->Pv i σ H->g (.int (lo+i)) σ H fun σ2 H2=>tb { D with nx:=Pv (i+1),ct:=Pv (i+1),bk:=D.nx } σ2 H2)(hd:∀ σ H,Pv n σ H->D.nx σ H) :
  ∃ W:Nat->Nat->St->Hp->Prop,(∃ m,W 0 m σ H)/\∀ i m σ H,W i m σ H ->
   ((Itr lo n).stop i H/\D.nx σ H)∨((Itr lo n).go i H/\∃ N:St->Hp->Prop,(∀ σ' H',N σ' H'->∃ m',m' < m/\W (i+1) m' σ' H')/\∀ x H',(Itr lo n).yld i H x H'->g x σ H' fun σ2 H2=>tb { D with nx:=N,ct:=N,bk:=D.nx } σ2 H2):=by
 refine⟨fun i m σ H=>m=n-i/\i<=n/\Pv i σ H,⟨n,by simp,Nat.zero_le _,h0⟩,?_⟩;rintro i m σ H ⟨rfl,hi,p⟩
 by_cases hlt:i < n
 .refine .inr ⟨hlt,Pv (i+1),fun σ' H' p'=>⟨n-(i+1),by omega,rfl,hlt,p'⟩,fun x H' y=>?_⟩
  obtain⟨e,y⟩:=y;subst e y;exact hs i σ _ hlt p
 .have e:i=n:=by omega
  subst e;exact .inl ⟨Nat.le_refl _,hd σ H p⟩
abbrev R2:=V->V->Hp->VK->Prop
noncomputable def OpR (X:Cx) (f:Value->Value->Sem Value) (r:R2):Prop :=
 ∀ (pins:List (Addr×Obj)) (s:Shared) (σ:St) (H:Hp) (x y:V) (v u:Value) (Q:VK),Inv X pins σ H s->zbw x v->zbw y u->r x y H Q ->
  wpAny (model X.prog X.w) X.A (f v u) (EP X pins σ Q) X.xe s
noncomputable def UnR (X:Cx) (f:Value->Sem Value) (r:V->Hp->VK->Prop):Prop :=
 ∀ (pins:List (Addr×Obj)) (s:Shared) (σ:St) (H:Hp) (x:V) (v:Value) (Q:VK),Inv X pins σ H s->zbw x v->r x H Q ->
  wpAny (model X.prog X.w) X.A (f v) (EP X pins σ Q) X.xe s
noncomputable def zhU (X:Cx) (f:Value) (r:List V->Hp->VK->Prop):Prop :=
 ∀ (pins:List (Addr×Obj)) (s:Shared) (σ:St) (H:Hp) (xs:List V) (us:List Value) (Q:VK),Inv X pins σ H s->zbO xs us->r xs H Q ->
  wpAny (model X.prog X.w) X.A (call f us) (EP X pins σ Q) X.xe s
noncomputable def zEG (X:Cx) (r:V->Hp->(Bool->Hp->Prop)->Prop):Prop :=
 ∀ (pins:List (Addr×Obj)) (s:Shared) (σ:St) (H:Hp) (x:V) (v:Value) (Q:Bool->Hp->Prop),Inv X pins σ H s->zbw x v->r x H Q ->
  wpAny (model X.prog X.w) X.A (truthy v) (TP X pins σ Q) X.xe s
def tOp (r:R2)(ta tb:TE):TE:=fun σ H Q=>ta σ H fun x H1=>tb σ H1 fun y H2=>r x y H2 Q
def tUn (r:V->Hp->VK->Prop)(ta:TE):TE:=fun σ H Q=>ta σ H fun x H1=>r x H1 Q
noncomputable def rI (C:Int->Int->Prop) (g:Int->Int->V):R2:=fun x y H Q=>∃ i j,x=.int i/\y=.int j/\C i j/\Q (g i j) H
def rI0 (g:Int->Int->V):R2:=fun x y H Q=>∃ i j,x=.int i/\y=.int j/\Q (g i j) H
def rU (g:Int->V):V->Hp->VK->Prop:=fun x H Q=>∃ i,x=.int i/\Q (g i) H
section
variable {X:Cx}{a b c:Expr}{ta tb tc:TE}{pos:Pos}
theorem zDj (ha:PE X a ta)(hb:PE X b tb){pins:List (Addr×Obj)}{s:Shared}{σ:St}{H:Hp}{R:V->V->Hp->Prop}(I:Inv X pins σ H s)
  (h:ta σ H fun x H1=>tb σ H1 fun y H2=>R x y H2){Q:Value->Shared->Prop}{f:Value->Value->Sem Value}
  (hf:∀ v u s2 x y H2,Inv X pins σ H2 s2->zbw x v->zbw y u->R x y H2->wpAny (model X.prog X.w) X.A (f v u) Q X.xe s2) :
  wpAny (model X.prog X.w) X.A (eval a X.env) (fun v sg=>wpAny (model X.prog X.w) X.A (eval b X.env) (fun u sj=>wpAny (model X.prog X.w) X.A (f v u) Q X.xe sj) X.xe sg) X.xe s:=by
 refine thn (ha pins s σ H _ I h) fun v s1 ⟨x,H1,I1,r1,q1⟩=>?_;refine thn (hb pins s1 σ H1 _ I1 q1) fun u s2 ⟨y,H2,I2,r2,q2⟩=>?_;exact hf v u s2 x y H2 I2 r1 r2 q2
theorem zAT {op:Operator}{r:R2}(ho:OpR X (binaryOp op) r)(ha:PE X a ta)(hb:PE X b tb):PE X (.BinOp a op b pos) (tOp r ta tb):=by
 intro pins s σ H Q I h;exact wpAny_BinOp (zDj ha hb I h fun v u s2 x y H2 I2 rx ry q=>ho pins s2 σ H2 x y v u Q I2 rx ry q)
theorem zCN {op:UnaryOp}{r:V->Hp->VK->Prop}(ho:UnR X (unaryOp op) r)(ha:PE X a ta):PE X (.UnaryOp op a pos) (tUn r ta):=by
 intro pins s σ H Q I h;exact UnaryOp_ (thn (ha pins s σ H _ I h) fun v s1 ⟨x,H1,I1,r1,q1⟩=>ho pins s1 σ H1 x v Q I1 r1 q1)
theorem opI {f:Value->Value->Sem Value}{C:Int->Int->Prop}{g:Int->Int->Int}
  (rule:∀ (i j:Int) (t u:Tok) (s:Shared) (Q:Value->Shared->Prop) (E:Value->Shared->Prop),C i j->Q (.int (g i j) s.toks) { s with toks:=s.toks+1 }->wpAny (model X.prog X.w) X.A (f (.int i t) (.int j u)) Q E s) :
  OpR X f (rI C fun i j=>.int (g i j)):=by
 intro pins s σ H x y v u Q I rx ry h;obtain⟨i,j,rfl,rfl,hc,q⟩:=h;obtain⟨t,rfl⟩:=rx;obtain⟨t',rfl⟩:=ry;exact rule i j t t' s _ _ hc ⟨.int (g i j),H,I.tok _,⟨_,rfl⟩,q⟩
theorem zDM {f:Value->Value->Sem Value}{g:Int->Int->Int}
  (rule:∀ (i j:Int) (t u:Tok) (s:Shared) (Q:Value->Shared->Prop) (E:Value->Shared->Prop),Q (.int (g i j) s.toks) { s with toks:=s.toks+1 }->wpAny (model X.prog X.w) X.A (f (.int i t) (.int j u)) Q E s) :
  OpR X f (rI0 fun i j=>.int (g i j)):=by
 intro pins s σ H x y v u Q I rx ry h;obtain⟨i,j,rfl,rfl,q⟩:=h;obtain⟨t,rfl⟩:=rx;obtain⟨t',rfl⟩:=ry;exact rule i j t t' s _ _ ⟨.int (g i j),H,I.tok _,⟨_,rfl⟩,q⟩
theorem zCa {f:Value->Value->Sem Value}{g:Int->Int->Bool}
  (rule:∀ (i j:Int) (t u:Tok) (s:Shared) (Q:Value->Shared->Prop) (E:Value->Shared->Prop),Q (.bool (g i j)) s->wpAny (model X.prog X.w) X.A (f (.int i t) (.int j u)) Q E s) :
  OpR X f (rI0 fun i j=>.bl (g i j)):=by
 intro pins s σ H x y v u Q I rx ry h;obtain⟨i,j,rfl,rfl,q⟩:=h;obtain⟨t,rfl⟩:=rx;obtain⟨t',rfl⟩:=ry;exact rule i j t t' s _ _ ⟨.bl (g i j),H,I,rfl,q⟩
def zEJ (i j:Int):Prop:=0<=j/\j<=1000000/\i.natAbs < 2 ^ 64
def zD5 (i j:Int):Prop:=(-(2 ^ 64) < i/\i < 2 ^ 64)∨(-(2 ^ 64) < j/\j < 2 ^ 64)
theorem zD5.ok {i j:Int}(h:zD5 i j):IntMulOk i j:=by
 rcases h with⟨h1,h2⟩ | ⟨h1,h2⟩
 .exact .of_left (intBits_le_64 h1 h2)
 .exact .of_right (intBits_le_64 h1 h2)
theorem zxi:OpR X (binaryOp .Add) (rI0 fun i j=>.int (i+j)):=zDM fun _ _ _ _ _ _ _ q=>add_int q
theorem zA1:OpR X (binaryOp .Sub) (rI0 fun i j=>.int (i-j)):=zDM fun _ _ _ _ _ _ _ q=>sub_int q
theorem ztl:OpR X (binaryOp .Mod) (rI (fun _ j=>j≠0) fun i j=>.int (i.fmod j)):=opI fun _ _ _ _ _ _ _ hc q=>mod_int' hc q
theorem zA2:OpR X (binaryOp .Pow) (rI zEJ fun i j=>.int (i ^ j.toNat)):=opI fun _ _ _ _ _ _ _ hc q=>pow_int_small hc.1 hc.2.1 hc.2.2 q
theorem unI {f:Value->Sem Value}{g:Int->Int}
  (rule:∀ (i:Int) (t:Tok) (s:Shared) (Q:Value->Shared->Prop) (E:Value->Shared->Prop),Q (.int (g i) s.toks) { s with toks:=s.toks+1 }->wpAny (model X.prog X.w) X.A (f (.int i t)) Q E s) :
  UnR X f (rU fun i=>.int (g i)):=by
 intro pins s σ H x v Q I rx h;obtain⟨i,rfl,q⟩:=h;obtain⟨t,rfl⟩:=rx;exact rule i t s _ _ ⟨.int (g i),H,I.tok _,⟨_,rfl⟩,q⟩
theorem zz3:UnR X (unaryOp .USub) (rU fun i=>.int (-i)):=unI fun _ _ _ _ _ q=>neg_int q
end
section
variable {X:Cx}{a b c:Expr}{ta tb tc:TE}{pos:Pos}
theorem zqZ {pins:List (Addr×Obj)}{σ:St}{H:Hp}{s:Shared}{Q:VK}{k k':Bool}(I:Inv X pins σ H s)(q:Q (.bl k) H)(e:k=k'):EP X pins σ Q (.bool k') s:=by
 subst e;exact⟨.bl k,H,I,rfl,q⟩
theorem zrQ:OpR X (compareOp .Lt) (rI0 fun i j=>.bl (decide (i < j))):=zCa fun _ _ _ _ _ _ _ q=>lt_int q
theorem zrR:OpR X (compareOp .LtE) (rI0 fun i j=>.bl (decide (i<=j))):=zCa fun _ _ _ _ _ _ _ q=>le_int q
theorem zwh:OpR X (compareOp .Gt) (rI0 fun i j=>.bl (decide (j < i))):=zCa fun _ _ _ _ _ _ _ q=>gt_int q
theorem zyK:OpR X (compareOp .GtE) (rI0 fun i j=>.bl (decide (j<=i))):=zCa fun _ _ _ _ _ _ _ q=>ge_int q
theorem ztm:OpR X (compareOp .In) (fun x y H Q=>∃ i j,x=.str i/\y=.str j/\Q (.bl (!(Builtin.Str.occurrences j i 0 j.length 1).isEmpty)) H):=by
 intro pins s σ H x y v u Q I rx ry h;obtain⟨i,j,rfl,rfl,q⟩:=h;obtain⟨t,rfl⟩:=rx;obtain⟨t',rfl⟩:=ry;exact in_str (zqZ I q rfl)
theorem ziD:OpR X (compareOp .Is) (fun x y H Q=>y=.non/\Q (.bl (decide (x=.non))) H):=by
 intro pins s σ H x y v u Q I rx ry h;obtain⟨rfl,q⟩:=h;cases ry;refine is_none_gen (zqZ I q ?_);cases x<;>first
  | (cases rx;rfl)
  | (obtain⟨t,rfl⟩:=rx;rfl)
theorem zh8:OpR X (compareOp .IsNot) (fun x y H Q=>y=.non/\Q (.bl (!decide (x=.non))) H):=by
 intro pins s σ H x y v u Q I rx ry h;obtain⟨rfl,q⟩:=h;cases ry;refine isnot_none_gen (zqZ I q ?_);cases x<;>first
  | (cases rx;rfl)
  | (obtain⟨t,rfl⟩:=rx;rfl)
theorem OpR.or {f:Value->Value->Sem Value}{r r':R2}(h:OpR X f r)(h':OpR X f r'):OpR X f (fun x y H Q=>r x y H Q∨r' x y H Q):=by
 intro pins s σ H x y v u Q I rx ry q;rcases q with q | q
 .exact h pins s σ H x y v u Q I rx ry q
 .exact h' pins s σ H x y v u Q I rx ry q
theorem ztg {op:CmpOp}{r:R2}(ho:OpR X (compareOp op) r)(ha:PE X a ta)(hb:PE X b tb)(hm:behindInMarks op b=false):PE X (.Compare a [op] [b] pos) (tOp r ta tb):=by
 intro pins s σ H Q I h;exact wpAny_Compare1 (zDj ha hb I h fun v u s2 x y H2 I2 rx ry q=>ho pins s2 σ H2 x y v u Q I2 rx ry q) hm
def zAb (t:TE):TT:=fun σ H Q=>t σ H fun x H'=>∃ k,x=.bl k/\Q k H'
theorem zs7 {op:CmpOp}{r:R2}(ho:OpR X (compareOp op) r)(ha:PE X a ta)(hb:PE X b tb)(hm:behindInMarks op b=false):PT X (.Compare a [op] [b] pos) (zAb (tOp r ta tb)):=by
 intro pins s σ H Q I h;refine wpAny_isTrue_Compare1 (thn (ha pins s σ H _ I h) fun v s1 ⟨x,H1,I1,r1,q1⟩=>thn (hb pins s1 σ H1 _ I1 q1) fun u s2 ⟨y,H2,I2,r2,q2⟩ =>
  thn (ho pins s2 σ H2 x y v u _ I2 r1 r2 q2) fun c s3 ⟨z,H3,I3,r3,k,e,q3⟩=>?_) hm
 subst e;cases r3;exact wpAny_truthy_bool ⟨H3,I3,q3⟩
noncomputable def zsM (r r':R2) (ta tb tc:TE):TE:=fun σ H Q=>ta σ H fun x H1=>tb σ H1 fun y H2=>r x y H2 fun z H3=>∃ k,z=.bl k /\
 (if k=true then tc σ H3 fun w' H4=>r' y w' H4 Q else Q (.bl false) H3)
theorem zwg {op op':CmpOp}{r r':R2}(ho:OpR X (compareOp op) r)(ho':OpR X (compareOp op') r')(ha:PE X a ta)(hb:PE X b tb)(hc:PE X c tc)
  (hm:lastMarks [op,op'] [b,c]=false:=by with_unfolding_all rfl):PE X (.Compare a [op,op'] [b,c] pos) (zsM r r' ta tb tc):=by
 intro pins s σ H Q I h;refine Compare_chain (thn (ha pins s σ H _ I h) fun v s1 ⟨x,H1,I1,r1,q1⟩=>chain_link (thn (hb pins s1 σ H1 _ I1 q1) fun u s2 ⟨y,H2,I2,r2,q2⟩ =>
  thn (ho pins s2 σ H2 x y v u _ I2 r1 r2 q2) fun d s3 ⟨z,H3,I3,r3,k,e,q3⟩=>?_)) hm
 subst e;cases r3;refine wpAny_truthy_bool ?_;cases k with
 | false=>exact ite_ff ⟨.bl false,H3,I3,rfl,q3⟩
 | true=>exact ite_tt (chain_last (thn (hc pins s3 σ H3 _ I3 q3) fun w' s4 ⟨z',H4,I4,r4,q4⟩=>ho' pins s4 σ H4 y z' u w' Q I4 r2 r4 q4))
theorem zv7 {op op':CmpOp}{r r':R2}(ho:OpR X (compareOp op) r)(ho':OpR X (compareOp op') r')(ha:PE X a ta)(hb:PE X b tb)(hc:PE X c tc)
  (hm:lastMarks [op,op'] [b,c]=false:=by with_unfolding_all rfl):PT X (.Compare a [op,op'] [b,c] pos) (zAb (zsM r r' ta tb tc)):=by
 intro pins s σ H Q I h;refine isTrue_chain (thn (ha pins s σ H _ I h) fun v s1 ⟨x,H1,I1,r1,q1⟩=>test_link (thn (hb pins s1 σ H1 _ I1 q1) fun u s2 ⟨y,H2,I2,r2,q2⟩ =>
  thn (ho pins s2 σ H2 x y v u _ I2 r1 r2 q2) fun d s3 ⟨z,H3,I3,r3,k,e,q3⟩=>?_)) hm
 subst e;cases r3;refine wpAny_truthy_bool ?_;cases k with
 | false =>
  obtain⟨k',e',q'⟩:=q3;cases e';exact ite_ff ⟨H3,I3,q'⟩
 | true =>
  refine ite_tt (test_last (thn (hc pins s3 σ H3 _ I3 q3) fun w' s4 ⟨z',H4,I4,r4,q4⟩=>thn (ho' pins s4 σ H4 y z' u w' _ I4 r2 r4 q4) fun d' s5 ⟨z2,H5,I5,r5,k2,e2,q5⟩=>?_));subst e2;cases r5;exact wpAny_truthy_bool ⟨H5,I5,q5⟩
noncomputable def zEF (K:W.Frag) (x:V) (H:Hp) (k:Bool):Prop :=
 match x with
 | .non=>k=false
 | .bl b=>k=b
 | .int i=>k=(i != 0)
 | .str y=>y.length<=sizeLine/\k=((y.length:Int) != 0)
 | .byt y=>y.size<=sizeLine/\k=((y.size:Int) != 0)
 | .ref p=>(∃ xs,SqL K H p xs/\k=!xs.isEmpty)∨(∃ xs,SqT K H p xs/\k=!xs.isEmpty)∨∃ kvs,H p=some (.dK kvs)/\k=!kvs.isEmpty
 | _=>False
theorem zr8 {κ:Type}{kvs:List (κ×V)}{vs:List (κ×Value)}(r:KV kvs vs):(!vs.isEmpty)=!kvs.isEmpty:=by
 cases r<;>rfl
theorem zlZ {xs:List V}{its:List Value}(r:zbO xs its):(!its.toArray.isEmpty)=!xs.isEmpty:=by
 cases r<;>simp
theorem zlX:(sizeLine:Nat) < 2 ^ 63:=by rw[sizeLine_eq];decide
theorem zDu:zEG X (fun x H Q=>∃ k,zEF X.K x H k/\Q k H):=by
 intro pins s σ H x v Q I rx h;obtain⟨k,e,q⟩:=h;have hl:=zlX;have hs:sizeLine=16777216:=sizeLine_eq;cases x with
 | non =>
  cases rx;have e':k=false:=e;subst e';exact truthy_none ⟨H,I,q⟩
 | bl b =>
  cases rx;have e':k=b:=e;subst e';exact wpAny_truthy_bool ⟨H,I,q⟩
 | int i =>
  obtain⟨t,rfl⟩:=rx;have e':k=(i != 0):=e;subst e';exact PySem.P.truthy_int ⟨H,I,q⟩
 | str y =>
  obtain⟨t,rfl⟩:=rx;obtain⟨hy,e'⟩:y.length<=sizeLine/\k=((y.length:Int) != 0):=e;subst e';exact PySem.P.truthy_str (by omega) ⟨H,I.tok _,q⟩
 | byt y =>
  obtain⟨t,rfl⟩:=rx;obtain⟨hy,e'⟩:y.size<=sizeLine/\k=((y.size:Int) != 0):=e;subst e';exact W.truthy_bytes (by omega) ⟨H,I.tok _,q⟩
 | ref p =>
  cases rx;have e':(∃ xs,SqL X.K H p xs/\k=!xs.isEmpty)∨(∃ xs,SqT X.K H p xs/\k=!xs.isEmpty)∨∃ kvs,H p=some (.dK kvs)/\k=!kvs.isEmpty:=e;rcases e' with⟨xs,hx,e'⟩ | ⟨xs,hx,e'⟩ | ⟨kvs,hx,e'⟩
  .subst e'
   obtain⟨its,r,pl,hz⟩:=I.list hx;have hlen:=r.length;exact wpAny_truthy_list pl.isList (by simp only[List.size_toArray];omega) ⟨H,I.tok _,by rw[zlZ r];exact q⟩
  .subst e'
   obtain⟨its,r,pl,hz⟩:=I.tuple hx;have hlen:=r.length;exact truthy_tuple pl (by simp only[List.size_toArray];omega) ⟨H,I.tok _,by rw[zlZ r];exact q⟩
  .subst e'
   obtain⟨hz,hS,vs,r,m⟩:kvs.length<=sizeLine/\(p==sysModules)=false/\∃ vs,KV kvs vs/\s.heap.DictOf (zbV X.prog X.w) p vs:=I.hok p _ hx;have hlen:kvs.length=vs.length:=Paired.length r;exact wpAny_truthy_dict hS m (by omega) ⟨H,I.tok _,by rw[zr8 r];exact q⟩
 | _=>exact(show False from e).elim
theorem zlV:OpR X (binaryOp .Add) (fun x y H Q=>∃ i j,x=.str i/\y=.str j/\i.length+j.length<=sizeLine/\Q (.str (i++j)) H):=by
 intro pins s σ H x y v u Q I rx ry h;obtain⟨i,j,rfl,rfl,hz,q⟩:=h;obtain⟨t,rfl⟩:=rx;obtain⟨t',rfl⟩:=ry;exact add_str (fun t' tk=>⟨.str (i++j),H,I.tok _,⟨_,rfl⟩,q⟩) hz
theorem znJ {x:V}{us:List Value}(r:zbO [x] us):∃ u,us=[u]/\zbw x u:=by
 cases r with
 | cons r1 r2=>cases r2;exact⟨_,rfl,r1⟩
theorem zz0 {x y:V}{us:List Value}(r:zbO [x,y] us):∃ u w',us=[u,w']/\zbw x u/\zbw y w':=by
 cases r with
 | cons r1 r2 =>
  cases r2 with
  | cons r3 r4=>cases r4;exact⟨_,_,rfl,r1,r3⟩
theorem znw:zhU X (.builtin "abs") (fun xs H Q=>∃ i,xs=[.int i]/\Q (.int (if i < 0 then -i else i)) H):=by
 intro pins s σ H xs us Q I r h;obtain⟨i,rfl,q⟩:=h;obtain⟨u,rfl,t,rfl⟩:=znJ r;exact call_abs_int fun u tk=>⟨.int (if i < 0 then -i else i),H,I.tok _,⟨_,rfl⟩,q⟩
theorem zvj (hc:X.calm=true):zhU X (.builtin "max") (fun xs H Q=>∃ i j,xs=[.int i,.int j]/\Q (.int (if j > i then j else i)) H):=by
 intro pins s σ H xs us Q I r h;obtain⟨i,j,rfl,q⟩:=h;obtain⟨u,w',rfl,⟨t,rfl⟩,⟨t',rfl⟩⟩:=zz0 r;refine max_two_ints (I.ok.hd hc) fun h' tk k=>⟨_,H,I.kept k,?_,q⟩
 by_cases hj:j > i
 .rw[if_pos hj,if_pos hj];exact⟨_,rfl⟩
 .rw[if_neg hj,if_neg hj];exact⟨_,rfl⟩
theorem zvi (hc:X.calm=true):zhU X (.builtin "min") (fun xs H Q=>∃ i j,xs=[.int i,.int j]/\Q (.int (if j < i then j else i)) H):=by
 intro pins s σ H xs us Q I r h;obtain⟨i,j,rfl,q⟩:=h;obtain⟨u,w',rfl,⟨t,rfl⟩,⟨t',rfl⟩⟩:=zz0 r;refine min_two_ints (I.ok.hd hc) fun h' tk k=>⟨_,H,I.kept k,?_,q⟩
 by_cases hj:j < i
 .rw[if_pos hj,if_pos hj];exact⟨_,rfl⟩
 .rw[if_neg hj,if_neg hj];exact⟨_,rfl⟩
theorem zvl:zhU X (.type "int") (fun xs H Q=>(∃ i,xs=[.int i]/\Q (.int i) H)∨∃ k,xs=[.bl k]/\Q (.int (if k then 1 else 0)) H):=by
 intro pins s σ H xs us Q I r h;rcases h with⟨i,rfl,q⟩ | ⟨k,rfl,q⟩
 .obtain⟨u,rfl,t,rfl⟩:=znJ r
  exact call_int_int ⟨.int i,H,I,⟨_,rfl⟩,q⟩
 .obtain⟨u,rfl,r1⟩:=znJ r
  cases r1;exact call_int_bool ⟨.int (if k then 1 else 0),H,I.tok _,⟨_,rfl⟩,q⟩
noncomputable def zDq (K:W.Frag) (x:V) (H:Hp) (n:Nat):Prop :=
 match x with
 | .str y=>y.length<=sizeLine/\n=y.length
 | .byt y=>y.size<=sizeLine/\n=y.size
 | .ref p=>(∃ xs,SqL K H p xs/\n=xs.length)∨∃ xs,SqT K H p xs/\n=xs.length
 | _=>False
theorem zbi:zhU X (.builtin "len") (fun xs H Q=>∃ x n,xs=[x]/\zDq X.K x H n/\Q (.int n) H):=by
 intro pins s σ H xs us Q I r h;obtain⟨x,n,rfl,e,q⟩:=h;obtain⟨u,rfl,rx⟩:=znJ r;have hl:=zlX;have hs:sizeLine=16777216:=sizeLine_eq;cases x with
 | str y =>
  obtain⟨t,rfl⟩:=rx;obtain⟨hy,e'⟩:y.length<=sizeLine/\n=y.length:=e;subst e';exact len_str (by omega) ⟨.int _,H,I.tok _,⟨_,rfl⟩,q⟩
 | byt y =>
  obtain⟨t,rfl⟩:=rx;obtain⟨hy,e'⟩:y.size<=sizeLine/\n=y.size:=e;subst e';exact W.len_bytes (by omega) ⟨.int _,H,I.tok _,⟨_,rfl⟩,q⟩
 | ref p =>
  cases rx;have e':(∃ xs,SqL X.K H p xs/\n=xs.length)∨∃ xs,SqT X.K H p xs/\n=xs.length:=e;rcases e' with⟨xs,hx,e'⟩ | ⟨xs,hx,e'⟩
  .subst e'
   obtain⟨its,r',pl,hz⟩:=I.list hx;have hlen:=r'.length;exact Calls.call_len_list pl.isList (by simp only[List.size_toArray];omega) ⟨.int xs.length,H,I.tok _,⟨_,by simp only[List.size_toArray];rw[hlen]⟩,q⟩
  .subst e'
   obtain⟨its,r',pl,hz⟩:=I.tuple hx;have hlen:=r'.length;exact len_tuple pl (by simp only[List.size_toArray];omega) ⟨.int xs.length,H,I.tok _,⟨_,by simp only[List.size_toArray];rw[hlen]⟩,q⟩
 | _=>exact(show False from e).elim
end
structure zDn (h:Heap) (x dx C:Addr) (mA:Str->Option Value):Prop where
 obj:h.get? x=some (W.instObj C dx)
 ns:h.Ns1 dx mA
 ne:dx≠x
theorem ztE {h:Heap}{dx:Addr}{mA:Str->Option Value}(n:h.Ns1 dx mA):∃ od,h.get? dx=some od/\∀ name,W.lookIn name od=some (mA name):=by
 obtain⟨o,es,ep,ho,hd,hk,_,hm⟩:=n;refine⟨o,ho,fun name=>?_⟩;have e:=hm name;unfold nsFind findBy at e;rw[← Array.find?_toList] at e;unfold W.lookIn;rw[hd];dsimp only;split
 .rename_i y q
  rw[q] at e;exact congrArg some e
 .rename_i q
  rw[q] at e;have a:es.toList.any (·.refKey)=false:=by
   rw[List.any_eq_false];intro y hy;obtain⟨z,t,hkey⟩:=hk y (Array.mem_toList_iff.mp hy);simp [DictEntry.refKey,hkey]
  have a':¬ es.toList.any (·.refKey)=true:=by rw[a];exact Bool.false_ne_true
  rw[if_neg a'];exact congrArg some e
theorem zDn.look {h:Heap}{x dx C:Addr}{mA:Str->Option Value}(I:zDn h x dx C mA):∃ od,W.InstAt h x (W.instObj C dx) C (some od)/\∀ name,W.lookIn name od=some (mA name) :=
 let ⟨od,ho,hl⟩:=ztE I.ns
 ⟨od,⟨I.obj,rfl,rfl,ho⟩,hl⟩
section
variable {prog:Program}{w:World}{A:Around}{E:Value->Shared->Prop}{s:Shared}{K:W.Frag}{x dx C f:Addr}{mA:Str->Option Value}{name:Str}{v:Value}
end
theorem ziZ {v:V}{o:Option Value}(r:zxV (some v) o):∃ u,o=some u/\zbw v u:=by
 cases o with
 | none=>exact(show False from r).elim
 | some u=>exact⟨u,rfl,r⟩
section
variable {P:Program}{w:World}{H H':Hp}{h h':Heap}{a C dx:Addr}{fs fs':List (Str×V)}
theorem ztR (hok:HOk P w H h)(e:H a=some (.ins C dx fs)):∃ mA,zDn h a dx C mA/\(∀ f,zxV (fs.lookup f) (mA f))/\PySem.Within mA (fs.map (·.1))/\fs.length<=1000/\H dx=some (.own a):=by
 obtain⟨d,z,ne,ob,mA,n,r,q⟩:=(show zdg P w H h a (.ins C dx fs) from hok a _ e)
 exact⟨mA,⟨ob,n,ne⟩,r,q,z,d⟩
end
structure Cls (K:W.Frag) (C:Addr):Prop where
 pg:W.plainGet K C Str.empty=true
 hd:W.hasDictIn K C=true
 po:W.plainOver K C=true
 sa:W.findIn K (.ref C) "__setattr__"=some (some (.builtin "object.__setattr__"))
theorem Cls.get {K:W.Frag}{C:Addr}(c:Cls K C)(f:Str):W.plainGet K C f=true:=c.pg
def zB3 (K:W.Frag)(C:Addr)(f:Str):Prop:=W.findIn K (.ref C) f=some none
section
variable {X:Cx}{pins:List (Addr×Obj)}{σ:St}{H:Hp}{s:Shared}{a C dx:Addr}{fs:List (Str×V)}{f:Str}{v:V}{A:Around}{E:Value->Shared->Prop}
end
section
variable {X:Cx}{o e value:Expr}{f:Str}{pos pos' tpos:Pos}{ta tv:TE}
end
section
variable {X:Cx}{pins:List (Addr×Obj)}{σ:St}{H:Hp}{s:Shared}{A:Around}{E:Value->Shared->Prop}{Q:Value->Shared->Prop}{c:Value}{b:Bool}
inductive zsy (K:W.Frag) (H:Hp):V->Value->Prop where
 | non:zsy K H .non (.type "NoneType")
 | bl (x:Bool):zsy K H (.bl x) (.type "bool")
 | int (i:Int):zsy K H (.int i) (.type "int")
 | str (x:Str):zsy K H (.str x) (.type "str")
 | flt (x:UInt64):zsy K H (.flt x) (.type "float")
 | lst {a:Addr}{xs:List V}(e:H a=some (.lst xs)):zsy K H (.ref a) (.type "list")
 | frz {a:Addr}{o:Obj}{xs:List V}(e:H a=some (.frz o (.lst xs))):zsy K H (.ref a) (.type "list")
 | tup {a:Addr}{xs:List V}(e:H a=some (.tup xs)):zsy K H (.ref a) (.type "tuple")
 | dK {a:Addr}{kvs:List (Key×V)}(e:H a=some (.dK kvs)):zsy K H (.ref a) (.type "dict")
 | dT {a:Addr}{kvs:List (List Key×V)}(e:H a=some (.dT kvs)):zsy K H (.ref a) (.type "dict")
 | ins {a C dx:Addr}{fs:List (Str×V)}(e:H a=some (.ins C dx fs)) (cl:Cls K C) (ha:W.findIn K (.ref C) "__class__"=some (some (.builtin "object.__class__")))
   (hn:W.specialIn K (.builtin "object.__class__") "__get__"=some (some (.builtin "getset_descriptor.__get__"))) (htk:W.takesIn K (.builtin "object.__class__")=some true)
   (hm:W.mroIn K C (.type "object")=some true):zsy K H (.ref a) (.ref C)
theorem zhc {x:V}{u t:Value}(I:Inv X pins σ H s)(rx:zbw x u)(ty:zsy X.K H x t)(e:W.kitOne X.K t c=some b)(h:∀ tk,Q (.bool b) { s with toks:=tk }) :
  wpAny (model X.prog X.w) A (call (.builtin "isinstance") [u,c]) Q E s:=by
 cases ty with
 | non=>cases (show u=Value.none from rx);exact W.kia_one W.kitx_none I.kIn True.intro e (fun z=>nomatch z) h
 | bl y=>cases (show u=Value.bool y from rx);exact W.kia_one W.kitx_bool I.kIn True.intro e (fun z=>nomatch z) h
 | int i=>obtain⟨t,q⟩:=(show ∃ t,u=Value.int i t from rx);cases q;exact W.kia_one W.kitx_int I.kIn True.intro e (fun z=>nomatch z) h
 | str y=>obtain⟨t,q⟩:=(show ∃ t,u=Value.str y t from rx);cases q;exact W.kia_one W.kitx_str I.kIn True.intro e (fun z=>nomatch z) h
 | flt y=>obtain⟨t,q⟩:=(show ∃ t,u=Value.float y t from rx);cases q;exact W.kia_one W.kitx_float I.kIn True.intro e (fun z=>nomatch z) h
 | @lst a xs ea =>
  cases (show u=Value.ref a from rx);obtain⟨_,_,n,_,h1⟩:=(show zdg X.prog X.w H s.heap a (.lst xs) from I.hok a _ ea)
  exact W.kia_one W.kitx_list I.kIn ⟨_,h1,rfl⟩ e (fun z=>nomatch z) h
 | @frz a ob xs ea =>
  cases (show u=Value.ref a from rx);obtain⟨_,_,_,n,_,h1⟩:=(show zdg X.prog X.w H s.heap a (.frz ob (.lst xs)) from I.hok a _ ea)
  exact W.kia_one W.kitx_list I.kIn ⟨_,h1,rfl⟩ e (fun z=>nomatch z) h
 | @tup a xs ea =>
  cases (show u=Value.ref a from rx);obtain⟨_,_,_,p⟩:=(show zdg X.prog X.w H s.heap a (.tup xs) from I.hok a _ ea)
  obtain⟨o,h1,h2,_⟩:=p;exact W.kia_one W.kitx_tuple I.kIn ⟨o,h1,h2⟩ e (fun z=>nomatch z) h
 | @dK a kvs ea =>
  cases (show u=Value.ref a from rx);obtain⟨_,_,vs,_,p⟩:=(show zdg X.prog X.w H s.heap a (.dK kvs) from I.hok a _ ea)
  obtain⟨o,es,ep,h1,h2,_⟩:=p;exact W.kia_one W.kitx_dict I.kIn ⟨o,h1,h2.1⟩ e (fun z=>nomatch z) h
 | @dT a kvs ea =>
  cases (show u=Value.ref a from rx);obtain⟨_,_,xs,_,o,es,ep,h1,h2,_⟩:=(show zdg X.prog X.w H s.heap a (.dT kvs) from I.hok a _ ea)
  exact W.kia_one W.kitx_dict I.kIn ⟨o,h1,h2.1⟩ e (fun z=>nomatch z) h
 | @ins a C dx fs ea cl ha hn htk hm =>
  cases (show u=Value.ref a from rx);obtain⟨mA,O,_⟩:=ztR I.hok ea;obtain⟨od,J,_⟩:=O.look;exact W.kia_one (W.kitx_own (cl.get _) cl.hd ha hn htk hm) I.kIn J e (fun z=>nomatch z) h
end
structure zgm (k:Nat) (A:Around):Prop where
 hd:A.handled=none
 dp:A.depth+3*k+5 < recursionLimit
 un:A.units+16*k+200 < cLine
 gd:A.guards=some []
theorem zgm.mono {j k:Nat}{A:Around}(r:zgm k A)(h:j<=k):zgm j A:=⟨r.hd,by have:=r.dp;omega,by have:=r.un;omega,r.gd⟩
theorem zgm.deeper {k:Nat}{A:Around}(r:zgm (k+1) A)(env:Env):zgm k (A.deeper env) :=
 ⟨r.hd,by have:=r.dp;show A.depth+1+3*k+5 < _;omega,by have:=r.un;show A.units+3+16*k+200 < _;omega,r.gd⟩
theorem zgm.depth {k:Nat}{A:Around}(r:zgm k A):A.depth < recursionLimit:=by have:=r.dp;omega
theorem zgm.units {k:Nat}{A:Around}(r:zgm k A):A.units+64 < cLine:=by have:=r.un;omega
def zEd:TA:=fun _ H Q=>Q [] H
def zCu (ta:TE)(tr:TA):TA:=fun σ H Q=>ta σ H fun x H1=>tr σ H1 fun xs H2=>Q (x::xs) H2
section
variable {X:Cx}{e:Expr}{es:List Expr}{te:TE}{t:TA}{pos:Pos}
theorem zg7:PA X [] zEd:=fun _ _ _ _ H Q I h=>Calls.spliced_nil ⟨[],H,I,.nil,h⟩
theorem zdZ (ha:PE X e te)(hr:PA X es t)(hs:starEach (e::es) X.env=(false,eval e X.env)::starEach es X.env:=by rfl):PA X (e::es) (zCu te t):=by
 intro pos pins s σ H Q I h;rw[hs];show wpAny _ _ (spliced ((false,eval e X.env)::backTo pos (starEach es X.env))) _ _ s;refine Calls.spliced_cons (thn (ha pins s σ H _ I h) fun u s1 ⟨x,H1,I1,r1,q1⟩=>?_);exact thn (hr pos pins s1 σ H1 _ I1 q1) fun us s2 ⟨xs,H2,I2,r2,q2⟩=>⟨x::xs,H2,I2,.cons r1 r2,q2⟩
noncomputable def zD7 (t:TA):TE:=fun σ H Q=>t σ H fun xs H1=>xs.length<=sizeLine/\∀ p,H1 p=none->Q (.ref p) (upd H1 p (.tup xs))
noncomputable def zEe (t:TA):TE:=fun σ H Q=>t σ H fun xs H1=>xs.length<=sizeLine/\∀ p,H1 p=none->Q (.ref p) (upd H1 p (.lst xs))
theorem zAR {x1}(h:PA X es t):PE X (.Tuple es x1 pos) (zD7 t):=by
 intro pins s σ H Q I hq;refine wpAny_Tuple_spliced (thn (h pos pins s σ H _ I hq) fun us s1 ⟨xs,H1,I1,r,z,q⟩=>⟨by rw[← r.length];exact z,?_⟩);have hf:H1 s1.heap.objs.size=none:=I1.hok.fresh (Nat.le_refl _);refine⟨.ref s1.heap.objs.size,upd H1 s1.heap.objs.size (.tup xs),I1.laid (t':=s1.toks) (fun b u e=>Heap.get?_push_of_some _ e) (Nat.le_refl _) ?_,rfl,q _ hf⟩;exact⟨z,us,r,⟨_,Heap.get?_push_size _ rfl,rfl,_,rfl⟩⟩
theorem zxg (h:PA X es t):PE X (.List es pos) (zEe t):=by
 intro pins s σ H Q I hq;refine wpAny_List_spliced (thn (h pos pins s σ H _ I hq) fun us s1 ⟨xs,H1,I1,r,z,q⟩=>⟨by rw[← r.length];exact z,?_⟩);have hf:H1 s1.heap.objs.size=none:=I1.hok.fresh (Nat.le_refl _);refine⟨.ref s1.heap.objs.size,upd H1 s1.heap.objs.size (.lst xs),I1.laid (t':=s1.toks) (fun b u e=>Heap.get?_push_of_some _ e) (Nat.le_refl _) ?_,rfl,q _ hf⟩;exact⟨z,us,0,r,Heap.get?_push_size _ rfl⟩
end
abbrev Sp:=List V->Hp->VK->XK->Prop
abbrev CXT:=List Env->Hp->Shared->XK->Value->Shared->Prop
structure zB6 (P:Program) (w:World) (K:W.Frag) (mg:Str->Option Value) (base:Heap) (A:Around) (outer:List Env) (s:Shared) (H:Hp):Prop where
 frames:A.frames=some outer
 mod:Mod K mg base
 bs:∀ b o,base.get? b=some o->s.heap.get? b=some o/\H b=none
 bsz:base.objs.size<=s.heap.objs.size
 funs:s.heap.FunFrames base outer
 frf:∀ b∈frs outer,H b=none
 hok:HOk P w H s.heap
 bare:AllBare s.gens
noncomputable def CE (outer:List Env) (P:Program) (w:World) (H:Hp) (s:Shared) (Q:VK) (u:Value) (s':Shared):Prop :=
 ∃ v H',s'.os=s.os/\AllBare s'.gens/\Un (frs outer) [] H H' s.heap s'.heap/\HOk P w H' s'.heap/\zbw v u/\Q v H'
noncomputable def CR (CX:CXT) (outer:List Env) (P:Program) (w:World) (H:Hp) (s:Shared) (Q:VK) (E:XK) (r:Result) (s':Shared):Prop :=
 match r with
 | .ok (.ret u)=>CE outer P w H s Q u s'
 | .ok _=>False
 | .error e=>CX outer H s E e s'
structure zcz (P:Program) (w:World) (K:W.Frag) (mg:Str->Option Value) (base:Heap) (CX:CXT) (k:Nat) (f:Addr) (fd:FuncData) (ps:List Str) (sp:Sp):Prop where
 len:∀ vs H Q E,sp vs H Q E->vs.length=ps.length
 run:∀ (A:Around) (outer:List Env) (s:Shared) (H:Hp) (args:Args) (us:List Value) (vs:List V) (Q:VK) (E:XK),zgm k A->zB6 P w K mg base A outer s H->BindsTo s fd args (ps.zip us)->zbO vs us->sp vs H Q E ->
  codeAny (model P w) A (.call (.ref f) args) (CR CX outer P w H s Q E) s
theorem zcz.mono {P:Program}{w:World}{K:W.Frag}{mg:Str->Option Value}{base:Heap}{CX:CXT}{j k:Nat}{f:Addr}{fd:FuncData}{ps:List Str}{sp:Sp}(F:zcz P w K mg base CX j f fd ps sp)(h:j<=k) :
  zcz P w K mg base CX k f fd ps sp:=⟨F.len,fun A outer s H args us vs Q E hr=>F.run A outer s H args us vs Q E (hr.mono h)⟩
section
variable {X:Cx}{pins:List (Addr×Obj)}{σ:St}{H:Hp}{s s':Shared}
theorem Inv.env0 (I:Inv X pins σ H s):zB6 X.prog X.w X.K X.mg X.base X.A X.stack s H :=
 ⟨I.ok.frames,I.ok.mod,I.bs,Nat.le_trans I.ok.bsz I.sz,I.stack,I.stkFree,I.hok,I.bare⟩
theorem Inv.after {Q:VK}{u:Value}(I:Inv X pins σ H s)(h:CE X.stack X.prog X.w H s Q u s'):EP X pins σ Q u s':=by
 obtain⟨v,H',os,bare,un,hok,r,q⟩:=h;obtain⟨hh,g,d,t,os'⟩:=s';obtain rfl:os'=s.os:=os;exact⟨v,H',I.call (h':=hh) (g':=g) (d':=d) (t':=t) (ch:=[]) un hok bare (fun b z=>absurd z (by simp)),r,q⟩
end
def zCv (sp:Sp)(dvs:List V)(E:XK)(t:TA):TE:=fun σ H Q=>t σ H fun vs H1=>sp (vs++dvs) H1 Q E
noncomputable def zlK (K:W.Frag) (fd:FuncData) (ps:List Str) (ds:List Value):Prop :=
 ∀ (s:Shared) (us:List Value),K.In s.heap->(us++ds).length=ps.length->BindsTo s fd ⟨us,[]⟩ (ps.zip (us++ds))
theorem zlK.all {K:W.Frag}{fd:FuncData}{ps:List Str}(h:∀ us:List Value,us.length=ps.length->bindArgs fd ⟨us,[]⟩=pure (ps.zip us)):zlK K fd ps []:=fun s us _ hl=>by
 rw[List.append_nil] at hl ⊢;exact .of_eq (h us hl)
noncomputable def zgb (CX:CXT) (X:Cx) (E:XK):Prop:=∀ (pins:List (Addr×Obj)) (σ:St) (H:Hp) (s:Shared) (e:Value) (s':Shared),Inv X pins σ H s->CX X.stack H s E e s'->X.xe e s'
section
variable {X:Cx}{CX:CXT}{k:Nat}{f C:Addr}{fd:FuncData}{ps:List Str}{sp:Sp}{dvs:List V}{ds:List Value}{E:XK}{x m:Str}{p pos apos:Pos}{e o:Expr}{es:List Expr}{ta:TE}{t:TA}
theorem zAv {pins:List (Addr×Obj)}{σ:St}{H:Hp}{s:Shared}{Q:VK}{us:List Value}{vs:List V}(F:zcz X.prog X.w X.K X.mg X.base CX k f fd ps sp)(hr:zgm k X.A)(hb:zlK X.K fd ps ds)(hd:zbO dvs ds)(hx:zgb CX X E)
  (I:Inv X pins σ H s)(r:zbO vs us)(h:sp (vs++dvs) H Q E):wpAny (model X.prog X.w) X.A (call (.ref f) us) (EP X pins σ Q) X.xe s:=by
 have r2:zbO (vs++dvs) (us++ds):=r.append hd;have hl:(us++ds).length=ps.length:=by rw[← r2.length];exact F.len _ _ _ _ h
 refine wpAny_call (codeAny_mono (F.run X.A X.stack s H ⟨us,[]⟩ (us++ds) (vs++dvs) Q E hr I.env0 (hb s us I.kIn hl) r2 h) fun r s' hq=>?_);cases r with
 | error e=>exact hx pins σ H s e s' I hq
 | ok fl =>
  cases fl with
  | ret u=>exact I.after hq
  | next=>exact False.elim hq
  | brk=>exact False.elim hq
  | cont=>exact False.elim hq
theorem zmW (F:zcz X.prog X.w X.K X.mg X.base CX k f fd ps sp)(hr:zgm k X.A)(hg:Gl X x)(hm:X.mg x=some (.ref f))(hk:W.keepIn X.K (.ref f)=true)(hb:zlK X.K fd ps ds)(hd:zbO dvs ds)(hx:zgb CX X E)
  (ha:PA X (e::es) t)(hdb:(x==("__debug__" : Str))=false:=by decide)(he:starEach (e::es) X.env=(false,eval e X.env)::starEach es X.env:=by rfl)(hpl:(backTo pos (starEach es X.env)).any (·.1)=false:=by rfl) :
  PE X (.Call (.Name x p) (e::es) [] pos) (zCv sp dvs E t):=by
 intro pins s σ H Q I h;refine wpAny_Call_Name_kw (ztH I hg hm ?_ hdb);refine W.callWith_K (h₀:=X.base) I.ok.mod.kin hk (thn (ha pos pins s σ H _ I h) fun us s1 ⟨vs,H1,I1,r,q⟩=>⟨I1.kIn,?_⟩) he hpl;exact zAv F hr hb hd hx I1 r q
end
section
variable {X:Cx}{CX:CXT}{k:Nat}{f C:Addr}{fd:FuncData}{ps ks:List Str}{sp:Sp}{E:XK}{x m:Str}{p pos apos kpos:Pos}{e o:Expr}{es:List Expr}{kws:List Keyword}{te ta:TE}{t tk:TA}{nm:Option Str}
variable {g:List Value->List Value->List Value}{gV:List V->List V->List V}
end
structure zaB (N P:List Str) (sc:Scope):Prop where
 kind:sc.kind=.function
 co:sc.isCoroutine=false
 gen:sc.isGenerator=false
 nd:N.Nodup
 pre:N.take P.length=P
 par:∀ x∈P,sc.names.lookup x=some .local ∨ sc.names.lookup x=some .cell
 nofree:∀ y∈sc.names,y.2≠.free
theorem zpl {kindOf:Str->Option NameKind}{x:Str}:∀ {binds:List (Str×Value)}{m:Str->Option Value},(∀ v,(x,v)∉binds)->bindL kindOf binds m x=m x
 | [],_,_=>rfl
 | (n,v)::r,m,h=>by
  unfold bindL;rw[zpl fun w hw=>h w (List.mem_cons_of_mem _ hw)];split
  .have:x≠n:=by rintro rfl;exact h v List.mem_cons_self
   simp [this]
  .rfl
theorem zpn {kindOf:Str->Option NameKind}{x:Str}:∀ {binds:List (Str×Value)}{m:Str->Option Value},(∀ v,(x,v)∉binds)->bindC kindOf binds m x=m x
 | [],_,_=>rfl
 | (n,v)::r,m,h=>by
  unfold bindC;rw[zpn fun w hw=>h w (List.mem_cons_of_mem _ hw)];split
  .rfl
  .have:x≠n:=by rintro rfl;exact h v List.mem_cons_self
   simp [this]
theorem zpm {kindOf:Str->Option NameKind}{x:Str}{v:Value}:∀ {P:List Str}{vs:List Value}{i:Nat}{m:Str->Option Value},P.Nodup->P[i]?=some x->vs[i]?=some v->kindOf x=some .local ->
  bindL kindOf (P.zip vs) m x=some v
 | [],_,_,_,_,h,_,_=>by simp at h
 | _::_,[],_,_,_,_,h,_=>by simp at h
 | p::P,w::vs,0,m,nd,h1,h2,hk=>by
  simp at h1 h2;subst h1;subst h2;show bindL kindOf ((p,w)::P.zip vs) m p=_;unfold bindL;rw[zpl fun v hv=>(List.nodup_cons.mp nd).1 (List.of_mem_zip hv).1,if_pos hk];simp
 | p::P,w::vs,i+1,m,nd,h1,h2,hk=>by
  show bindL kindOf ((p,w)::P.zip vs) m x=_;unfold bindL;exact zpm (i:=i) (List.nodup_cons.mp nd).2 (by simpa using h1) (by simpa using h2) hk
theorem zpo {kindOf:Str->Option NameKind}{x:Str}{v:Value}:∀ {P:List Str}{vs:List Value}{i:Nat}{m:Str->Option Value},P.Nodup->P[i]?=some x->vs[i]?=some v->kindOf x≠some .local ->
  bindC kindOf (P.zip vs) m x=some v
 | [],_,_,_,_,h,_,_=>by simp at h
 | _::_,[],_,_,_,_,h,_=>by simp at h
 | p::P,w::vs,0,m,nd,h1,h2,hk=>by
  simp at h1 h2;subst h1;subst h2;show bindC kindOf ((p,w)::P.zip vs) m p=_;unfold bindC;rw[zpn fun v hv=>(List.nodup_cons.mp nd).1 (List.of_mem_zip hv).1,if_neg hk];simp
 | p::P,w::vs,i+1,m,nd,h1,h2,hk=>by
  show bindC kindOf ((p,w)::P.zip vs) m x=_;unfold bindC;exact zpo (i:=i) (List.nodup_cons.mp nd).2 (by simpa using h1) (by simpa using h2) hk
def start (N:List Str)(vs:List V):St:=vs.map some++List.replicate (N.length-vs.length) none
noncomputable def zwS (CX:CXT) (P:Program) (w:World) (K:W.Frag) (mg:Str->Option Value) (base:Heap) (N:List Str) (qual:Str) (scope:Scope) (f:Addr) (cd:Value) (A:Around) (outer:List Env) (s:Shared) (H:Hp) (E:XK):Cx where
 prog:=P
 w:=w
 K:=K
 mg:=mg
 base:=base
 A:=A.deeper (envOfC qual scope s.heap.objs.size f cd)
 N:=N
 sf:=s
 Ha:=H
 env:=envOfC qual scope s.heap.objs.size f cd
 outer:=outer
 stack:=envOfC qual scope s.heap.objs.size f cd::outer
 ex:=[]
 calm:=true
 fn:=fun _=>true
 pn:=[]
 xe:=fun e s'=>wpAny (model P w) (A.deeper (envOfC qual scope s.heap.objs.size f cd)) (leaving (envOfC qual scope s.heap.objs.size f cd) e) (fun _ s''=>CX outer H s E e s'') (fun e' s''=>CX outer H s E e' s'') s'
theorem zrs {sc:Scope}{n:Nat}{x:Str}(h:sc.names.lookup x=some .cell):∃ c,(cellsFrom n sc.names []).lookup x=some c:=by
 have q:=W.cellsFrom_some sc.names n [] (.inl h);exact Option.isSome_iff_exists.mp q
theorem ztO {CX:CXT}{P:Program}{w:World}{K:W.Frag}{mg:Str->Option Value}{base:Heap}{N ps:List Str}{qual:Str}{scope:Scope}{f:Addr}{cd:Value}{A:Around}{outer:List Env}{s s1:Shared}{H:Hp}{E:XK}{us:List Value}{vs:List V}
  (S:zaB N ps scope)(hd:A.handled=none)(e0:zB6 P w K mg base A outer s H)(hl:vs.length=ps.length)(r:zbO vs us)
  (x:InCallC s s.heap.objs.size (bindL (envOfC qual scope s.heap.objs.size f cd).kindOf (ps.zip us) fun _=>none) (cellsFrom (s.heap.objs.size+1) scope.names []) (bindC (envOfC qual scope s.heap.objs.size f cd).kindOf (ps.zip us) fun _=>none) s1) :
  Inv (zwS CX P w K mg base N qual scope f cd A outer s H E) [] (start N vs) H s1:=by
 have hpl:ps.length<=N.length:=by have:=congrArg List.length S.pre;rw[List.length_take] at this;omega
 obtain⟨h1,tk,rfl,hk⟩:=x.done;have noA:∀ b:Addr,b∉(zwS CX P w K mg base N qual scope f cd A outer s H E).ex:=fun b z=>absurd (show b∈([]:List Addr) from z) (by simp);refine⟨⟨e0.mod,S.kind,rfl,rfl,Nat.le_refl _,fun y z c h1 h2=>?_,fun y hy=>?_,fun y c _ h=>?_,fun _=>hd,Around.frames_deeper e0.frames,.inr ⟨rfl,rfl⟩,fun b z=>absurd z (noA b),e0.bs,e0.bsz,fun b _ _=>noA b,fun b z=>absurd z (noA b),e0.funs,e0.frf⟩,
  rfl,e0.bare,Un.kept hk,⟨_,x.toInCall.ns,fun i y v h1 h2 h3=>?_⟩,fun y c h=>⟨_,x.cell y c h⟩,e0.hok.fresh (Nat.le_refl _),fun y c h=>?_,fun p hp=>absurd (show p∈([]:List (Addr×Obj)) from hp) (by simp),e0.hok.kept hk,?_⟩
 .exact name_of_addr x.apart (PySem.mem_of_lookup h1) (PySem.mem_of_lookup h2)
 .have hy:scope.names.lookup y=some .cell∨scope.names.lookup y=some .free:=hy
  rcases hy with hy | hy
  .exact zrs hy
  .exact absurd rfl (S.nofree _ (PySem.mem_of_lookup hy))
 .exact Nat.le_of_lt (x.above y c (PySem.mem_of_lookup h))
 .have hi:i < vs.length:=by
   unfold start at h2
   by_cases hi:i < vs.length
   .exact hi
   .rw[List.getElem?_append_right (by simpa using hi)] at h2
    rw[List.getElem?_replicate] at h2;split at h2<;>cases h2
  have ha:vs[i]?=some v:=by
   unfold start at h2;rw[List.getElem?_append_left (by simpa using hi),List.getElem?_map] at h2;cases e:vs[i]? with
   | none=>rw[e] at h2;cases h2
   | some a=>rw[e] at h2;cases h2;rfl
  obtain⟨u,hu,rv⟩:=r.get ha;have hp:ps[i]?=some y:=by
   rw[← S.pre,List.getElem?_take_of_lt (by omega)];exact h1
  have ndP:ps.Nodup:=by rw[← S.pre];exact S.nd.sublist (List.take_sublist _ _)
  refine⟨u,rv,?_⟩;rcases S.par y (List.mem_of_getElem? hp) with k | k
  .exact .inl ⟨k,zpm ndP hp hu k⟩
  .obtain⟨c,e⟩:=zrs (n:=s.heap.objs.size+1) k
   refine .inr ⟨.inl k,c,e,?_⟩;have q:=x.cell y c e;rw[zpo ndP hp hu (by show scope.names.lookup y≠_;rw[k];decide)] at q;exact q
 .exact e0.hok.fresh (Nat.le_of_lt (x.above y c (PySem.mem_of_lookup h)))
 .unfold start
  show _=N.length;rw[List.length_append,List.length_map,List.length_replicate];omega
theorem zC8 {CX:CXT}{P:Program}{w:World}{K:W.Frag}{mg:Str->Option Value}{base:Heap}{k:Nat}{f:Addr}{name qual:Str}{params:Arguments}{body:List Stmt}{scope:Scope}{dV kV doc pm cdv ct oc:Value}{an od:Option Addr}
  {osl:Array (Option Value)}{N ps:List Str}{sp:Sp}(lk:K.lookup f=some ⟨oc,od,.func (W.fnOf name qual params body scope dV kV doc pm an cdv ct),osl⟩) (hcd:W.codeIn K cdv qual=true) (S:zaB N ps scope)
  (len:∀ vs H Q E,sp vs H Q E->vs.length=ps.length)
  (hbody:∀ (A:Around) (outer:List Env) (s:Shared) (H:Hp) (vs:List V) (Q:VK) (E:XK),zgm k (A.deeper (envOfC qual scope s.heap.objs.size f cdv))->sp vs H Q E ->
   ∃ t,PSs (zwS CX P w K mg base N qual scope f cdv A outer s H E) body t/\t { nx:=fun _ H'=>Q .non H',rt:=Q } (start N vs) H) :
  zcz P w K mg base CX (k+1) f (W.fnOf name qual params body scope dV kV doc pm an cdv ct) ps sp:=by
 refine⟨len,fun A outer s H args us vs Q E hr e0 hb r hsp=>?_⟩;have hl:=len _ _ _ _ hsp;have KX:K.In s.heap:=e0.mod.kin.keeps fun b o e=>(e0.bs b o e).1;have lim:s.heap.NoLimit:=e0.mod.nolimit.keeps fun b o e=>(e0.bs b o e).1;have hkind:∀ y∈ps.zip us,scope.names.lookup y.1=some .local ∨ (scope.names.lookup y.1=some .cell/\((cellsFrom (s.heap.objs.size+1) scope.names []).lookup y.1).isSome=true):=fun⟨n,v⟩ hy=>by
  rcases S.par n (List.of_mem_zip hy).1 with q | q
  .exact .inl q
  .exact .inr ⟨q,W.cellsFrom_some _ _ _ (.inl q)⟩
 refine codeAny_call_function hr.depth (KX _ _ lk) rfl S.co S.gen rfl (W.codeRec_of KX hcd) (hb _ _ _ _ ?_);refine wpAny_newFunctionEnv_cells S.kind hkind fun env he s1 x=>?_;subst he;refine⟨lim.keeps x.toInCall.keep,codeAny_func ?_⟩;obtain⟨t,ht,hq⟩:=hbody A outer s H vs Q E (hr.deeper _) hsp;have I:Inv (zwS CX P w K mg base N qual scope f cdv A outer s H E) [] (start N vs) H s1:=ztO S hr.hd e0 hl r x;refine wpAny_mono (ht [] s1 (start N vs) H _ I hq) (fun fl s' hs=>?_) fun e s' hs=>hs;have fin:∀ {σ':St}{H':Hp}{v:V}{u:Value},Inv (zwS CX P w K mg base N qual scope f cdv A outer s H E) [] σ' H' s'->zbw v u->Q v H'->CE outer P w H s Q u s' :=
  fun {σ' H' v u} J rv q=>⟨v,H',J.os,J.bare,J.base,J.hok,rv,q⟩
 cases fl with
 | ret u =>
  obtain⟨v,σ',H',J,rv,q⟩:=hs;exact fin J rv q
 | next =>
  obtain⟨σ',H',J,q⟩:=hs;exact fin (v:=V.non) (u:=Value.none) J rfl q
 | brk =>
  obtain⟨_,_,_,q⟩:=hs;exact False.elim q
 | cont =>
  obtain⟨_,_,_,q⟩:=hs;exact False.elim q
section
variable {X:Cx}{x:Str}{p pos:Pos}{e:Expr}{es:List Expr}{t:TA}{id T:String}{r:List V->Hp->VK->Prop}
def tCB (r:List V->Hp->VK->Prop)(t:TA):TE:=fun σ H Q=>t σ H fun vs H1=>r vs H1 Q
theorem zqD (hc:zhU X (.builtin id) r)(hg:Gl X x)(hm:X.mg x=none)(hv:bootBuiltins x=some (.builtin id))(ha:PA X (e::es) t)(hn:x≠"__name__":=by decide)(hdb:(x==("__debug__" : Str))=false:=by decide)
  (he:starEach (e::es) X.env=(false,eval e X.env)::starEach es X.env:=by rfl)(hpl:(backTo pos (starEach es X.env)).any (·.1)=false:=by rfl):PE X (.Call (.Name x p) (e::es) [] pos) (tCB r t):=by
 intro pins s σ H Q I h;refine wpAny_Call_Name_kw (zn6 I hg hm hv ?_ hn hdb);exact PyProof.Rows.callWith_builtin1 (thn (ha pos pins s σ H _ I h) fun us s1 ⟨vs,H1,I1,r1,q1⟩=>hc pins s1 σ H1 vs us Q I1 r1 q1) he hpl
theorem zth (hc:zhU X (.type T) r)(hg:Gl X x)(hm:X.mg x=none)(hv:bootBuiltins x=some (.type T))(ha:PA X (e::es) t)(hn:x≠"__name__":=by decide)(hdb:(x==("__debug__" : Str))=false:=by decide)
  (he:starEach (e::es) X.env=(false,eval e X.env)::starEach es X.env:=by rfl)(hpl:(backTo pos (starEach es X.env)).any (·.1)=false:=by rfl):PE X (.Call (.Name x p) (e::es) [] pos) (tCB r t):=by
 intro pins s σ H Q I h;refine wpAny_Call_Name_kw (zn6 I hg hm hv ?_ hn hdb);exact PyProof.Rows.callWith_type1 (thn (ha pos pins s σ H _ I h) fun us s1 ⟨vs,H1,I1,r1,q1⟩=>hc pins s1 σ H1 vs us Q I1 r1 q1) he hpl
end
end L2
namespace HT
open PySem PyProof.Rows
section
open PySem.SeqAt
open PySem.AutoSeq1 (wpAny_loadPart')
open PySem.MeetsSeq PySem.MeetsSeq2 PySem.MeetsSeq3
end
section
variable {prog:Program}{w:World}{A:Around}{E:Value->Shared->Prop}{s:Shared}
theorem cat_tup {t b:Addr}{vs ws:List Value}{Q:Value->Shared->Prop}(ht:IsTup s.heap t vs.toArray)(hb:IsTup s.heap b ws.toArray)(hv:vs≠[])
  (h1:ws=[]->Q (.ref t) s)(h2:ws≠[]->Q (.ref s.heap.objs.size) { s with heap:=s.heap.push { cls:=.type "tuple",data:=.seq (vs++ws).toArray } })
  (hsz:vs.length+ws.length<=sizeLine):wpAny (model prog w) A (binaryOp .Add (.ref t) (.ref b)) Q E s:=by
 obtain⟨⟨cls,dd,data,sl⟩,ho,hc,n,hd⟩:=id ht;obtain⟨⟨cls2,dd2,data2,sl2⟩,ho2,hc2,n2,hd2⟩:=id hb;simp only at hc hd hc2 hd2;subst hc hd hc2 hd2;have e:vs.toArray++ws.toArray=(vs++ws).toArray:=by simp
 by_cases hw:ws=[]
 .exact concat_meets ⟨_,ho,rfl⟩ ⟨_,ho2,rfl⟩ noFill_tuple_add seq_tuple_add PySem.F.slot_tuple_add PySem.F.entry_tuple_add (PySem.F.args_tuple_add_2 _ _)
   (tuple_addW1 t b vs.toArray ws.toArray n n2 dd dd2 sl sl2 (by simpa using hv) (by simp [hw])) ⟨ho,ho2,h1 hw⟩
 .refine concat_meets ⟨_,ho,rfl⟩ ⟨_,ho2,rfl⟩ noFill_tuple_add seq_tuple_add PySem.F.slot_tuple_add PySem.F.entry_tuple_add (PySem.F.args_tuple_add_2 _ _)
   (tuple_addW2 t b vs.toArray ws.toArray n n2 dd dd2 sl sl2 (by simpa using hv) (by simpa using hw) (by rw[List.size_toArray,List.size_toArray];exact hsz)) ⟨ho,ho2,?_⟩
  rw[e];exact h2 hw
noncomputable def sIx (n d:Nat):Option Int->Nat
 | none=>d
 | some v=>if v < 0 then(v+(n:Int)).toNat else min v.toNat n
theorem sIx_none (n d:Nat):sIx n d none=d:=rfl
theorem sIx_nat (n d k:Nat):sIx n d (some (k:Int))=min k n:=by
 show(if(k:Int) < 0 then((k:Int)+(n:Int)).toNat else min (k:Int).toNat n)=min k n;rw[if_neg (by omega),Int.toNat_natCast]
theorem zAr (n d:Nat)(hd:d<=n)(o:Option Int):sIx n d o<=n:=by
 cases o with
 | none=>exact hd
 | some v =>
  show(if v < 0 then(v+(n:Int)).toNat else min v.toNat n)<=n
  by_cases hv:v < 0
  .rw[if_pos hv];omega
  .rw[if_neg hv];exact Nat.min_le_right _ _
theorem zve (v:Int)(n d:Nat):(if v < 0 then max (v+(n:Int)) 0 else min v (n:Int))=((sIx n d (some v):Nat):Int):=by
 show(if v < 0 then max (v+(n:Int)) 0 else min v (n:Int))=(((if v < 0 then(v+(n:Int)).toNat else min v.toNat n):Nat):Int)
 by_cases hv:v < 0
 .simp only[if_pos hv];omega
 .simp only[if_neg hv];omega
theorem zso (lo hi:Option Int)(n:Nat):Builtin.Slice.sliceAdjust lo hi 1 (n:Int)=(((sIx n 0 lo:Nat):Int),((sIx n n hi:Nat):Int)):=by
 have h1:¬ ((1:Int) < 0):=by omega
 unfold Builtin.Slice.sliceAdjust;simp only[h1,if_false];refine Prod.ext ?_ ?_
 .cases lo with
  | none=>rfl
  | some v=>exact zve v n 0
 .cases hi with
  | none=>rfl
  | some v=>exact zve v n n
theorem zrO (i j:Nat):Builtin.Slice.slicePlaces (i:Int) (j:Int) 1=j-i:=by
 unfold Builtin.Slice.slicePlaces;have h1:(1:Int) > 0:=by omega
 simp only[h1,if_true,Int.ediv_one];split<;>omega
theorem zlO {v:Value}{o:Option Int}{Q:Option Int->Shared->Prop}(p:IsPart v o)(h:Q o s):wpAny (model prog w) A (Builtin.Slice.slicePartIndex v) Q E s:=by
 cases p with
 | none=>exact slicePart_none h
 | int i t=>exact slicePart_int h
theorem zi2 {sl:Addr}{vl vu:Value}{lo hi:Option Int}{n:Nat}{Q:Int×Int×Nat->Shared->Prop}(hs:s.heap.IsSliceOf sl vl vu .none)(pl:IsPart vl lo)(pu:IsPart vu hi)
  (h:Q (((sIx n 0 lo:Nat):Int),1,sIx n n hi-sIx n 0 lo) s):wpAny (model prog w) A (Builtin.Slice.sliceApplied (.ref sl) (pure (n:Int))) Q E s:=by
 obtain⟨os,hos,hcs,hds⟩:=id hs;unfold Builtin.Slice.sliceApplied Builtin.Slice.sliceFields;refine wpAny_bind (wpAny_bind (wpAny_field hos hds (x:=vl) rfl (wpAny_bind (wpAny_field hos hds (x:=vu) rfl (wpAny_bind (wpAny_field hos hds (x:=.none) rfl (wpAny_pure ?_)))))));refine wpAny_bind (slicePart_none ?_);show wpAny _ _ (if((1:Int)==0)=true then _ else _) _ _ s;rw[if_neg (by decide)];refine wpAny_bind (zlO pl (wpAny_bind (zlO pu (wpAny_bind (wpAny_pure ?_)))));show wpAny _ _ (match Builtin.Slice.sliceAdjust lo hi 1 (n:Int) with | (lo,hi)=>pure (lo,(1:Int),Builtin.Slice.slicePlaces lo hi 1)) _ _ s;rw[zso lo hi n];show wpAny _ _ (pure (((sIx n 0 lo:Nat):Int),(1:Int),Builtin.Slice.slicePlaces ((sIx n 0 lo:Nat):Int) ((sIx n n hi:Nat):Int) 1)) _ _ s;rw[zrO];exact wpAny_pure h
theorem zwc (xs:Array Value)(i k:Nat):((List.range k).filterMap fun(m:Nat)=>xs[((i:Int)+(m:Int)*1).toNat]?).toArray=((xs.toList.drop i).take k).toArray:=by
 have e:(fun(m:Nat)=>xs[((i:Int)+(m:Int)*1).toNat]?)=fun m=>xs[i+m]?:=by
  funext m;have:((i:Int)+(m:Int)*1).toNat=i+m:=by omega
  rw[this]
 rw[e];have:=pick_run xs i k;rw[List.filterMap_map] at this;have e2:((fun x=>xs[x]?)∘fun x=>i+x)=fun m=>xs[i+m]?:=rfl;rw[e2] at this;rw[this]
theorem getItem_tuple_cut {t sl:Addr}{items:Array Value}{vl vu:Value}{lo hi:Option Int}{Q:Value->Shared->Prop}(ht:IsTup s.heap t items)(hs:s.heap.IsSliceOf sl vl vu .none)(pl:IsPart vl lo)(pu:IsPart vu hi)
  (hw:¬ (sIx items.size 0 lo=0/\sIx items.size items.size hi=items.size))
  (h:Q (.ref s.heap.objs.size) { s with heap:=s.heap.push { cls:=.type "tuple",data:=.seq ((items.toList.drop (sIx items.size 0 lo)).take (sIx items.size items.size hi-sIx items.size 0 lo)).toArray } })
  (hsz:items.size<=sizeLine):wpAny (model prog w) A (getItem (.ref t) (.ref sl)) Q E s:=by
 have htake:sizeOk (.seq ((items.toList.drop (sIx items.size 0 lo)).take (sIx items.size items.size hi-sIx items.size 0 lo)).toArray):=by
  show((items.toList.drop (sIx items.size 0 lo)).take (sIx items.size items.size hi-sIx items.size 0 lo)).toArray.size<=sizeLine;rw[List.size_toArray,List.length_take,List.length_drop,Array.length_toList];omega
 have hj:sIx items.size items.size hi<=items.size:=zAr _ _ (Nat.le_refl _) hi;obtain⟨os,hos,hcs,hds⟩:=id hs;have hTs:s.TypeIs (.ref sl) "slice":=⟨os,hos,hcs⟩
 unfold getItem
 try with_reducible refine wpAny_holding ?_
 first | refine wpAny_bind (wpAny_pure ?_) | skip
 refine wpAny_bind (wpAny_sequenceKey ht.typeIs (by decide) ?_);refine wpAny_bind (wpAny_callSpecial?_slot (name:=Str.ofString "__getitem__") ht.typeIs PyProof.Rows.slot_tuple_getitem
  (wpAny_call_entry PyProof.Rows.slot_tuple_getitem ht.typeIs entry_tuple_getitem ?_ (args_tuple_getitem _ _)))
 show wpAny _ _ (Builtin.Tuple.tupleItemsOf (.ref t) >>= _) _ _ s;refine wpAny_bind (tupleItemsOf_ ht ?_);refine wpAny_bind (wpAny_typeOf hTs ?_);rw[if_pos (by decide)];refine wpAny_bind (zi2 hs pl pu ?_);have hno:¬ ((((sIx items.size 0 lo:Nat):Int)==0&&(1:Int)==1&&(sIx items.size items.size hi-sIx items.size 0 lo)==items.size)=true):=by
  intro q;rw[Bool.and_eq_true,Bool.and_eq_true] at q;have q1:((sIx items.size 0 lo:Nat):Int)=0:=eq_of_beq q.1.1;have q2:sIx items.size items.size hi-sIx items.size 0 lo=items.size:=eq_of_beq q.2;exact hw ⟨by omega,by omega⟩
 show wpAny _ _ (if(((sIx items.size 0 lo:Nat):Int)==0&&(1:Int)==1&&(sIx items.size items.size hi-sIx items.size 0 lo)==items.size)=true then _ else _) _ _ s;rw[if_neg hno,zwc]
 first
  | exact wpAny_bind (m:=Builtin.Tuple.tupleExact _) (wpAny_newObj_type (wpAny_pure ⟨_,rfl,wpAny_pure h⟩) htake)
  | exact wpAny_bind (m:=Builtin.Tuple.tupleExact _) (wpAny_newObj_type (wpAny_bind (wpAny_pure (wpAny_pure ⟨_,rfl,wpAny_pure h⟩))) htake)
  | exact wpAny_bind (wpAny_bind (m:=Builtin.Tuple.tupleExact _) (wpAny_newObj_type (wpAny_pure (wpAny_pure ⟨_,rfl,wpAny_pure h⟩)) htake))
  | exact wpAny_bind (wpAny_bind (m:=Builtin.Tuple.tupleExact _) (wpAny_newObj_type (wpAny_pure ⟨_,rfl,wpAny_pure h⟩) htake))
end
end HT
namespace L2
open PySem PySem.Spec PyProof.Rows
abbrev TO:=St->Hp->(Option Int->Hp->Prop)->Prop
noncomputable def PO (X:Cx) (e:Option Expr) (t:TO):Prop :=
 ∀ (pins:List (Addr×Obj)) (s:Shared) (σ:St) (H:Hp) (Q:Option Int->Hp->Prop),Inv X pins σ H s->t σ H Q ->
  wpAny (model X.prog X.w) X.A (evalPart e X.env) (fun u s'=>∃ o H',Inv X pins σ H' s'/\IsPart u o/\Q o H') X.xe s
def zyh:TO:=fun _ H Q=>Q none H
def zCo (t:TE):TO:=fun σ H Q=>t σ H fun x H1=>∃ i,x=.int i/\Q (some i) H1
section
variable {X:Cx}{e:Expr}{te:TE}{lo hi:Option Expr}{tl th:TO}{pos p2:Pos}
theorem zyw:PO X none zyh:=by
 intro pins s σ H Q I h;rw[evalPart_none];exact wpAny_pure ⟨none,H,I,.none,h⟩
theorem zyv (h:PE X e te):PO X (some e) (zCo te):=by
 intro pins s σ H Q I hw;rw[evalPart_some];refine thn (h pins s σ H _ I hw) fun u s1 ⟨x,H1,I1,r1,q1⟩=>?_;obtain⟨i,rfl,q⟩:=q1;obtain⟨t,rfl⟩:=r1;exact⟨some i,H1,I1,.int i t,q⟩
noncomputable def SlR (X:Cx) (r:V->Option Int->Option Int->Hp->VK->Prop):Prop :=
 ∀ (pins:List (Addr×Obj)) (s:Shared) (σ:St) (H:Hp) (x:V) (v vl vu:Value) (lo hi:Option Int) (sl:Addr) (Q:VK),Inv X pins σ H s->zbw x v->s.heap.IsSliceOf sl vl vu .none->IsPart vl lo->IsPart vu hi->r x lo hi H Q ->
  ∃ T id,typeLookup (.type T) "__getitem__"=pure (some (.builtin id))/\s.TypeIs v T/\wpAny (model X.prog X.w) X.A (getItem v (.ref sl)) (EP X pins σ Q) X.xe s
theorem SlR.or {r r':V->Option Int->Option Int->Hp->VK->Prop}(h:SlR X r)(h':SlR X r'):SlR X (fun x lo hi H Q=>r x lo hi H Q∨r' x lo hi H Q):=by
 intro pins s σ H x v vl vu lo hi sl Q I rx hs pl pu q;rcases q with q | q
 .exact h pins s σ H x v vl vu lo hi sl Q I rx hs pl pu q
 .exact h' pins s σ H x v vl vu lo hi sl Q I rx hs pl pu q
noncomputable def tSl (r:V->Option Int->Option Int->Hp->VK->Prop) (te:TE) (tl th:TO):TE:=fun σ H Q=>te σ H fun x H1=>tl σ H1 fun l H2=>th σ H2 fun u H3=>r x l u H3 Q
theorem zqC {r:V->Option Int->Option Int->Hp->VK->Prop}(hr:SlR X r)(he:PE X e te)(hl:PO X lo tl)(hu:PO X hi th):PE X (.Subscript e (.Slice lo hi none p2) pos) (tSl r te tl th):=by
 intro pins s σ H Q I h;refine Subscript_ (thn (he pins s σ H _ I h) fun v s1 ⟨x,H1,I1,r1,q1⟩=>?_);refine wpAny_Slice (thn (hl pins s1 σ H1 _ I1 q1) fun vl s2 ⟨l,H2,I2,pl,q2⟩=>thn (hu pins s2 σ H2 _ I2 q2) fun vu s3 ⟨u,H3,I3,pu,q3⟩=>?_);rw[evalPart_none];refine wpAny_pure ?_;have I4:Inv X pins σ H3 { s3 with heap:=s3.heap.push { cls:=.type "slice",data:=.fields #[vl,vu,.none] } }:=I3.kept (t':=s3.toks) fun b ob q=>Heap.get?_push_of_some _ q;obtain⟨T,id,hT,ht,hg⟩:=hr pins { s3 with heap:=s3.heap.push { cls:=.type "slice",data:=.fields #[vl,vu,.none] } } σ H3 x v vl vu l u s3.heap.objs.size Q I4 r1 (Heap.IsSliceOf.new ..) pl pu q3;show wpAny (model X.prog X.w) X.A (subscriptTail e (.Slice lo hi none p2) v (.ref s3.heap.objs.size)) (EP X pins σ Q) X.xe { s3 with heap:=s3.heap.push { cls:=.type "slice",data:=.fields #[vl,vu,.none] } };exact tail_any (ops:=[.ref s3.heap.objs.size,v]) ht hT hg (by with_unfolding_all rfl)
noncomputable def zxO (xs:List V) (lo hi:Option Int):List V:=(xs.drop (HT.sIx xs.length 0 lo)).take (HT.sIx xs.length xs.length hi-HT.sIx xs.length 0 lo)
theorem zk4 (xs:List V)(lo hi:Option Int):(zxO xs lo hi).length<=xs.length:=by
 unfold zxO;rw[List.length_take,List.length_drop];omega
noncomputable def zEl (K:W.Frag):V->Option Int->Option Int->Hp->VK->Prop:=fun x lo hi H Q=>∃ a xs,x=.ref a/\SqT K H a xs /\
 ¬ (HT.sIx xs.length 0 lo=0/\HT.sIx xs.length xs.length hi=xs.length)/\∀ p,H p=none->Q (.ref p) (upd H p (.tup (zxO xs lo hi)))
theorem zAj:SlR X (zEl X.K):=by
 intro pins s σ H x v vl vu lo hi sl Q I rx hs pl pu h;obtain⟨a,xs,rfl,hx,hw,q⟩:=h;cases rx;obtain⟨its,r,ht,hz⟩:=I.tuple hx;have hlen:its.toArray.size=xs.length:=by rw[List.size_toArray];exact r.length.symm
 refine⟨"tuple",_,PyProof.Rows.slot_tuple_getitem.lookup,ht.typeIs,?_⟩;refine HT.getItem_tuple_cut ht hs pl pu (by rw[hlen];exact hw) ?_ (by rw[hlen];exact hz);rw[hlen];refine⟨.ref s.heap.objs.size,_,I.laid (t':=s.toks) (o:=.tup (zxO xs lo hi)) (fun b ob q=>Heap.get?_push_of_some _ q) (Nat.le_refl _) ?_,rfl,q _ (I.hok.fresh (Nat.le_refl _))⟩;exact⟨Nat.le_trans (zk4 xs lo hi) hz,_,(r.drop (HT.sIx xs.length 0 lo)).take (HT.sIx xs.length xs.length hi-HT.sIx xs.length 0 lo),IsTup.new _ _⟩
noncomputable def zCI (K:W.Frag):R2:=fun x y H Q=>∃ a b xs ys,x=.ref a/\y=.ref b/\SqT K H a xs/\SqT K H b ys/\xs≠[]/\xs.length+ys.length<=sizeLine /\
 (ys=[]->Q (.ref a) H)/\(ys≠[]->∀ p,H p=none->Q (.ref p) (upd H p (.tup (xs++ys))))
theorem zbO.nil_iff {xs:List V}{us:List Value}(r:zbO xs us):us=[]↔xs=[]:=by
 cases r with
 | nil=>simp
 | cons _ _=>simp
theorem zto:OpR X (binaryOp .Add) (zCI X.K):=by
 intro pins s σ H x y v u Q I rx ry h;obtain⟨a,b,xs,ys,rfl,rfl,ha,hb,hx,hz,q1,q2⟩:=h;cases rx;cases ry;obtain⟨its,r1,p1,_⟩:=I.tuple ha;obtain⟨its2,r2,p2,_⟩:=I.tuple hb;refine HT.cat_tup p1 p2 (fun z=>hx (r1.nil_iff.mp z)) (fun z=>⟨.ref a,H,I,rfl,q1 (r2.nil_iff.mp z)⟩) (fun z=>?_) (by rw[← r1.length,← r2.length];exact hz);refine⟨.ref s.heap.objs.size,_,I.laid (t':=s.toks) (o:=.tup (xs++ys)) (fun b ob q=>Heap.get?_push_of_some _ q) (Nat.le_refl _) ?_,rfl,q2 (fun w=>z (r2.nil_iff.mpr w)) _ (I.hok.fresh (Nat.le_refl _))⟩;exact⟨by rw[List.length_append];exact hz,_,r1.append r2,IsTup.new _ _⟩
end
noncomputable def ixN (n:Nat) (i:Int):Option Nat:=if 0<=i then(if i < n then some i.toNat else none) else if -(n:Int)<=i then some (i+n).toNat else none
def atI {α:Type}(xs:List α)(i:Int):Option α:=(ixN xs.length i).bind fun j=>xs[j]?
theorem ztM {n:Nat}{i:Int}{j:Nat}(h:ixN n i=some j):seqIndex? i n=some j/\j < n/\-(n:Int)<=i/\i < n:=by
 unfold ixN at h
 by_cases h0:0<=i
 .rw[if_pos h0] at h
  by_cases h1:i < n
  .rw[if_pos h1] at h
   have e:i.toNat=j:=Option.some.inj h;exact⟨by rw[seqIndex_of h0 h1,e],by omega,by omega,h1⟩
  .rw[if_neg h1] at h;cases h
 .rw[if_neg h0] at h
  by_cases h1:-(n:Int)<=i
  .rw[if_pos h1] at h
   have e:(i+n).toNat=j:=Option.some.inj h;exact⟨by rw[seqIndex_neg (by omega) h1,e],by omega,h1,by omega⟩
  .rw[if_neg h1] at h;cases h
theorem zqi {α:Type}{xs:List α}{i:Int}{v:α}(h:atI xs i=some v):∃ j,seqIndex? i xs.length=some j/\xs[j]?=some v/\j < xs.length/\-(xs.length:Int)<=i/\i < xs.length:=by
 unfold atI at h;cases e:ixN xs.length i with
 | none=>rw[e] at h;cases h
 | some j =>
  rw[e] at h;obtain⟨h1,h2,h3,h4⟩:=ztM e;exact⟨j,h1,h,h2,h3,h4⟩
theorem zbf {α:Type}{xs:List α}{j:Nat}{v:α}(h:xs[j]?=some v):atI xs (j:Int)=some v:=by
 have hj:j < xs.length:=(List.getElem?_eq_some_iff.mp h).1;have e:ixN xs.length (j:Int)=some j:=by
  unfold ixN;rw[if_pos (by omega),if_pos (by omega)];simp
 unfold atI;rw[e];exact h
def zlt (b:Expr):Prop:=∀ o i,subscripted b false o i=operate [o,i] (getItem o i)
noncomputable def IxR (X:Cx) (r:R2):Prop :=
 ∀ (value slice:Expr) (pins:List (Addr×Obj)) (s:Shared) (σ:St) (H:Hp) (x y:V) (v u:Value) (Q:VK),Inv X pins σ H s->zbw x v->zbw y u->r x y H Q ->
  subscripted slice false v u=operate [v,u] (getItem v u)->wpAny (model X.prog X.w) X.A (subscriptTail value slice v u) (EP X pins σ Q) X.xe s
noncomputable def MtR (X:Cx) (id:String) (r:V->List V->Hp->VK->Prop):Prop :=
 ∀ (pins:List (Addr×Obj)) (s:Shared) (σ:St) (H:Hp) (x:V) (xs:List V) (v:Value) (us:List Value) (Q:VK),Inv X pins σ H s->zbw x v->zbO xs us->r x xs H Q ->
  wpAny (model X.prog X.w) X.A (call (.builtin id) (v::us)) (EP X pins σ Q) X.xe s
section
variable {X:Cx}{a b:Expr}{ta tb:TE}{pos:Pos}
theorem IxR.or {r r':R2}(h:IxR X r)(h':IxR X r'):IxR X (fun x y H Q=>r x y H Q∨r' x y H Q):=by
 intro value slice pins s σ H x y v u Q I rx ry q hs;rcases q with q | q
 .exact h value slice pins s σ H x y v u Q I rx ry q hs
 .exact h' value slice pins s σ H x y v u Q I rx ry q hs
theorem zAX {r:R2}(hr:IxR X r)(ha:PE X a ta)(hb:PE X b tb)(hs:zlt b):PE X (.Subscript a b pos) (tOp r ta tb):=by
 intro pins s σ H Q I h;exact Subscript_ (zDj ha hb I h fun v u s2 x y H2 I2 rx ry q=>hr a b pins s2 σ H2 x y v u Q I2 rx ry q (hs _ _))
noncomputable def zDC (K:W.Frag):R2:=fun x y H Q=>∃ p xs i v,x=.ref p/\y=.int i/\SqL K H p xs/\atI xs i=some v/\Q v H
noncomputable def zDA (K:W.Frag):R2:=fun x y H Q=>∃ p xs i v,x=.ref p/\y=.int i/\SqT K H p xs/\atI xs i=some v/\Q v H
noncomputable def zDB:R2:=fun x y H Q=>∃ z i c,x=.str z/\y=.int i/\z.length<=sizeLine/\atI z.cps.toList i=some c/\Q (.str ⟨#[c]⟩) H
theorem zy7:IxR X (zDC X.K):=by
 intro value slice pins s σ H x y v u Q I rx ry h hs;obtain⟨p,xs,i,z,rfl,rfl,hq,he,q⟩:=h;cases rx;obtain⟨t,rfl⟩:=ry;obtain⟨its,r,pl,hz⟩:=I.list hq;obtain⟨j,h1,h2,h3,h4,h5⟩:=zqi he;obtain⟨w,ew,rw'⟩:=r.get h2;have hl:=r.length;have hn:=zlX;have fin:EP X pins σ Q w s:=⟨z,H,I,rw',q⟩
 by_cases h0:0<=i
 .have hj:i.toNat=j:=by
   rw[seqIndex_of h0 h5] at h1;exact Option.some.inj h1
  exact item_listR pl.isList h0 (by omega) (by rw[hj];simpa using ew) fin hs
 .have hj:(i+(its.toArray.size:Int)).toNat=j:=by
   rw[seqIndex_neg (by omega) h4] at h1;rw[List.size_toArray,← hl];exact Option.some.inj h1
  exact subscriptTail_builtinR (x:=w) pl.isList.typeIs slot_list_getitem.lookup
   (wpAny_getItem_list_neg (Q:=fun r s'=>r=w/\EP X pins σ Q r s') pl.isList (by omega) (by rw[List.size_toArray]<;>omega) (by omega) (by rw[hj];simpa using ew) ⟨rfl,fin⟩) hs
theorem zBk:IxR X (zDA X.K):=by
 intro value slice pins s σ H x y v u Q I rx ry h hs;obtain⟨p,xs,i,z,rfl,rfl,hq,he,q⟩:=h;cases rx;obtain⟨t,rfl⟩:=ry;obtain⟨its,r,pl,hz⟩:=I.tuple hq;obtain⟨j,h1,h2,h3,h4,h5⟩:=zqi he;obtain⟨w,ew,rw'⟩:=r.get h2;have hl:=r.length;have hn:=zlX;have fin:EP X pins σ Q w s:=⟨z,H,I,rw',q⟩
 exact subscriptTail_builtinR (x:=w) pl.typeIs slot_tuple_getitem.lookup
  (getItem_tuple (j:=j) (Q:=fun r s'=>r=w/\EP X pins σ Q r s') pl (by omega) (by omega) (by rw[List.size_toArray,← hl];exact h1) (by simpa using ew) ⟨rfl,fin⟩) hs
theorem zBl:IxR X zDB:=by
 intro value slice pins s σ H x y v u Q I rx ry h hs;obtain⟨z,i,c,rfl,rfl,hz,he,q⟩:=h;obtain⟨t,rfl⟩:=rx;obtain⟨t',rfl⟩:=ry;obtain⟨j,h1,h2,h3,h4,h5⟩:=zqi he;have hl:z.cps.toList.length=z.length:=by simp [Str.length]
 rw[hl] at h1 h4 h5;have hn:=zlX;exact tail_any (typeIs_str s z t) slot_str_getitem.lookup (getItem_str (c:=c) (by
  have e1:decide (i < -(2 ^ 63:Int))=false:=decide_eq_false (by omega);have e2:decide (i≥2 ^ 63)=false:=decide_eq_false (by omega);rw[e1,e2,Bool.or_false]) (by rw[h1];simpa using h2) ⟨.str ⟨#[c]⟩,H,I.tok _,⟨_,rfl⟩,q⟩) hs
def rIx (K:W.Frag):R2:=fun x y H Q=>zDC K x y H Q∨zDA K x y H Q∨zDB x y H Q
theorem zxn:IxR X (rIx X.K):=zy7.or (zBk.or zBl)
theorem zrY (its:List Value)(n j:Nat)(u:Value):Obj.mapSeq (·.setIfInBounds j u) { cls:=.type "list",data:=.seq its.toArray n }={ cls:=.type "list",data:=.seq (its.set j u).toArray n }:=by
 simp [Obj.mapSeq]
theorem Inv.lst {pins:List (Addr×Obj)}{σ:St}{H:Hp}{s:Shared}{p:Addr}{xs:List V}(I:Inv X pins σ H s)(h:H p=some (.lst xs)) :
  ∃ (its:List Value) (n:Nat),zbO xs its/\s.heap.get? p=some { cls:=.type "list",data:=.seq its.toArray n }/\xs.length<=sizeLine:=by
 obtain⟨z,its,n,r,e⟩:=I.hok p _ h;exact⟨its,n,r,e,z⟩
theorem Inv.lstUpd {pins:List (Addr×Obj)}{σ:St}{H:Hp}{s:Shared}{p:Addr}{xs ys:List V}{its its':List Value}{n n':Nat}{f:Obj->Obj}(I:Inv X pins σ H s)(h:H p=some (.lst xs))
  (ho:s.heap.get? p=some { cls:=.type "list",data:=.seq its.toArray n })(hf:f { cls:=.type "list",data:=.seq its.toArray n }={ cls:=.type "list",data:=.seq its'.toArray n' })(r:zbO ys its')(hz:ys.length<=sizeLine)(t:Nat) :
  Inv X pins σ (upd H p (.lst ys)) { s with heap:=s.heap.update p f,toks:=t }:=by
 have e:(s.heap.update p f).get? p=some { cls:=.type "list",data:=.seq its'.toArray n' }:=by
  rw[Heap.get?_update_self f ho (by rw[hf]<;>rfl),hf]
 refine I.write (x:=p) (e:=p) (by rw[h];trivial) (.inl rfl) (fun b u hb q=>(Heap.get?_update_other _ _ (Ne.symm hb)).trans q) ⟨_,e⟩ ?_;exact⟨hz,its',n',r,e⟩
noncomputable def zAD:V->V->V->Hp->(Hp->Prop)->Prop:=fun o i v H Q=>∃ p xs k j,o=.ref p/\i=.int k/\H p=some (.lst xs)/\ixN xs.length k=some j/\Q (upd H p (.lst (xs.set j v)))
theorem zqs:zD3 X zAD:=by
 intro pins s σ H o i v ov iv u Q I ro ri rv h;obtain⟨p,xs,k,j,rfl,rfl,hp,hj,q⟩:=h;cases ro;obtain⟨t,rfl⟩:=ri;obtain⟨its,n,r,ho,hz⟩:=I.lst hp;obtain⟨h1,h2,h3,h4⟩:=ztM hj;have hl:=r.length;have hn:=zlX;have I':Inv X pins σ (upd H p (.lst (xs.set j v))) { s with heap:=s.heap.update p (Obj.mapSeq (·.setIfInBounds j u)) } :=
  I.lstUpd hp ho (zrY its n j u) (r.set rv j) (by rw[List.length_set];exact hz) s.toks
 by_cases h0:0<=k
 .have hk:k.toNat=j:=by
   rw[seqIndex_of h0 h4] at h1;exact Option.some.inj h1
  exact W.ki_setAt ho h0 (by omega) (by rw[List.size_toArray,← hl];exact h4) (by rw[hk];exact⟨_,I',q⟩)
 .have hk:(k+(its.toArray.size:Int)).toNat=j:=by
   rw[seqIndex_neg (by omega) h3] at h1;rw[List.size_toArray,← hl];exact Option.some.inj h1
  exact W.ki_setBack ho (by omega) (by rw[List.size_toArray,← hl];exact h3) (by omega) (by rw[hk];exact⟨_,I',q⟩)
theorem znN (lo hi:Option Int)(n:Nat):(sliceBounds lo hi none n).1=((HT.sIx n 0 lo:Nat):Int)/\(sliceBounds lo hi none n).2.1=((HT.sIx n n hi:Nat):Int)/\(sliceBounds lo hi none n).2.2=1:=by
 refine⟨?_,?_,rfl⟩
 .cases lo with
  | none=>simp [sliceBounds,HT.sIx]
  | some i =>
   simp only[sliceBounds,HT.sIx,Option.getD_none,show(1:Int) > 0 by decide,if_true]
   by_cases h:i < 0
   .simp only[h,if_true]<;>omega
   .simp only[h,if_false]<;>omega
 .cases hi with
  | none=>simp [sliceBounds,HT.sIx]
  | some i =>
   simp only[sliceBounds,HT.sIx,Option.getD_none,show(1:Int) > 0 by decide,if_true]
   by_cases h:i < 0
   .simp only[h,if_true]<;>omega
   .simp only[h,if_false]<;>omega
theorem zmN (its:List Value)(lo hi:Option Int):slicePick its.toArray lo hi none=((its.drop (HT.sIx its.length 0 lo)).take (HT.sIx its.length its.length hi-HT.sIx its.length 0 lo)).toArray:=by
 obtain⟨h1,h2,h3⟩:=znN lo hi its.toArray.size;unfold slicePick;rw[h1,h2,h3];simp only[sliceRange_one,pick_run,List.size_toArray]<;>rfl
noncomputable def zEn (K:W.Frag):V->Option Int->Option Int->Hp->VK->Prop:=fun x lo hi H Q=>∃ a xs,x=.ref a/\SqL K H a xs/\∀ p,H p=none->Q (.ref p) (upd H p (.lst (zxO xs lo hi)))
theorem zsR:SlR X (zEn X.K):=by
 intro pins s σ H x v vl vu lo hi sl Q I rx hs pl pu h;obtain⟨a,xs,rfl,hx,q⟩:=h;cases rx;obtain⟨its,r,ht,hz⟩:=I.list hx;have hlen:=r.length;refine⟨"list",_,slot_list_getitem.lookup,ht.isList.typeIs,?_⟩;refine wpAny_getItem_list_slice ht.isList hs pl pu .none (by simp) ?_ (by rw[List.size_toArray]<;>omega);rw[zmN,← hlen];refine⟨.ref s.heap.objs.size,_,I.laid (t':=s.toks) (o:=.lst (zxO xs lo hi)) (fun b ob q=>Heap.get?_push_of_some _ q) (Nat.le_refl _) ?_,rfl,q _ (I.hok.fresh (Nat.le_refl _))⟩;exact⟨Nat.le_trans (zk4 xs lo hi) hz,_,0,(r.drop (HT.sIx xs.length 0 lo)).take (HT.sIx xs.length xs.length hi-HT.sIx xs.length 0 lo),Heap.get?_push_size _ rfl⟩
theorem znW:OpR X (compareOp .NotIn) (fun x y H Q=>∃ i j,x=.str i/\y=.str j/\Q (.bl (!(!(Builtin.Str.occurrences j i 0 j.length 1).isEmpty))) H):=by
 intro pins s σ H x y v u Q I rx ry h;obtain⟨i,j,rfl,rfl,q⟩:=h;obtain⟨t,rfl⟩:=rx;obtain⟨t',rfl⟩:=ry;exact notIn_str ⟨.bl _,H,I,rfl,q⟩
theorem zph:zhU X (.type "list") (fun xs H Q=>∃ p ys,xs=[.ref p]/\(SqL X.K H p ys∨SqT X.K H p ys)/\∀ l,H l=none->Q (.ref l) (upd H l (.lst ys))):=by
 intro pins s σ H xs us Q I r h;obtain⟨p,ys,rfl,hq,q⟩:=h;obtain⟨u,rfl,rx⟩:=znJ r;cases rx;have fin:∀ (its:List Value),zbO ys its->ys.length<=sizeLine->∀ (h':Heap) (c':Nat),(∀ b o',s.heap.get? b=some o'->h'.get? b=some o') ->
   h'.get? s.heap.objs.size=some { cls:=.type "list",dict:=none,data:=.seq its.toArray c',slots:=#[] }->EP X pins σ Q (.ref s.heap.objs.size) { s with heap:=h' }:=fun its r' hz h' c' kp e =>
  ⟨.ref s.heap.objs.size,_,I.laid (t':=s.toks) kp (Nat.le_refl _) (show zdg X.prog X.w _ h' _ (.lst ys) from⟨hz,its,c',r',e⟩),rfl,q _ (I.hok.fresh (Nat.le_refl _))⟩
 rcases hq with hq | hq
 .obtain⟨its,r',pl,hz⟩:=I.list hq
  have hlen:=r'.length;obtain⟨o,ho,hc,n,hd⟩:=pl.isList;exact call_list_seq p (.inl rfl) ho hc hd (fun h' c' kp e=>fin its r' hz h' c' kp e) (by simp only[List.size_toArray]<;>omega)
 .obtain⟨its,r',pl,hz⟩:=I.tuple hq
  have hlen:=r'.length;obtain⟨o,ho,hc,n,hd⟩:=pl;exact call_list_seq p (.inr rfl) ho hc hd (fun h' c' kp e=>fin its r' hz h' c' kp e) (by simp only[List.size_toArray]<;>omega)
noncomputable def tyV (K:W.Frag) (T:String) (x:V) (H:Hp):Prop:=match x with
 | .str _=>T="str"
 | .int _=>T="int"
 | .ref p=>(T="list"/\∃ xs,SqL K H p xs)∨(T="tuple"/\∃ o,K.lookup p=some o/\o.cls=.type "tuple"/\o.dict=none) ∨
   (T="dict"/\((∃ kvs,H p=some (.dK kvs))∨∃ kvs,H p=some (.dT kvs)))∨(T="set"/\∃ S n,H p=some (.set S n))
 | _=>False
theorem zz4 {pins:List (Addr×Obj)}{σ:St}{H:Hp}{s:Shared}{T:String}{x:V}{v:Value}(I:Inv X pins σ H s)(r:zbw x v)(ty:tyV X.K T x H) :
  s.TypeIs v T/\∀ a,v=.ref a->∃ ob,s.heap.get? a=some ob/\ob.dict=none:=by
 cases x with
 | str z =>
  obtain⟨t,rfl⟩:=r;cases (show T="str" from ty);exact⟨typeIs_str s z t,fun _ e=>nomatch e⟩
 | int i =>
  obtain⟨t,rfl⟩:=r;cases (show T="int" from ty);exact⟨typeIs_int s i t,fun _ e=>nomatch e⟩
 | ref p =>
  cases r;rcases ty with⟨rfl,xs,hq⟩ | ⟨rfl,o,hk,hc,hd⟩ | ⟨rfl,hk⟩ | ⟨rfl,S,n,hk⟩
  .obtain⟨its,_,pl,_⟩:=I.list hq
   refine⟨pl.isList.typeIs,fun a e=>?_⟩;cases e;obtain⟨o,n,e,c,hd,_⟩:=pl;exact⟨o,e,hd⟩
  .refine⟨⟨o,I.kIn p o hk,hc⟩,fun a e=>?_⟩
   cases e;exact⟨o,I.kIn _ o hk,hd⟩
  .have z:∃ o,s.heap.get? p=some o/\o.ExactDict:=by
    rcases hk with⟨kvs,hk⟩ | ⟨kvs,hk⟩
    .obtain⟨_,_,_,_,o,_,_,e,ex,_⟩:=I.hok p _ hk
     exact⟨o,e,ex⟩
    .obtain⟨_,_,_,_,o,_,_,e,ex,_⟩:=I.hok p _ hk
     exact⟨o,e,ex⟩
   obtain⟨o,e,ex⟩:=z;refine⟨⟨o,e,ex.1⟩,fun a e2=>?_⟩;cases e2;exact⟨o,e,ex.2.1⟩
  .obtain⟨o,_,_,_,e,ex,_⟩:=I.hok p _ hk
   refine⟨⟨o,e,ex.1⟩,fun a e2=>?_⟩;cases e2;exact⟨o,e,ex.2.1⟩
 | _=>exact False.elim ty
noncomputable def tBM (K:W.Frag) (T:String) (r:V->List V->Hp->VK->Prop) (to:TE) (t:TA):TE:=fun σ H Q=>to σ H fun x H1=>tyV K T x H1/\t σ H1 fun xs H2=>r x xs H2 Q
variable {o e:Expr}{es:List Expr}{to:TE}{t:TA}{name:Str}{apos cpos:Pos}{T id:String}{r:V->List V->Hp->VK->Prop}
theorem zyE (pa:PlainAttrs T)(slot:Slot T name id)(hty:typeOf (.builtin id)=pure (.type "method_descriptor"))(hm:MtR X id r)(ho:PE X o to)(ha:PA X (e::es) t)
  (hbase:attributeBase o name X.env (eval o X.env)=eval o X.env:=by rfl)
  (hfew:((backTo cpos (starEach (e::es) X.env)).all (fun x=>!x.1)&&(backToKw cpos (keywordEach [] X.env)).all (fun x=>x.1.isSome)
  &&decide ((e::es).length+([]:List Keyword).length+(if([]:List Keyword).isEmpty then 0 else 1) < 30))=true:=by rfl)
  (hline:(apos.endLine==cpos.line)=true:=by rfl) (hs:starEach (e::es) X.env=(false,eval e X.env)::starEach es X.env:=by rfl) (hplain:(backTo cpos (starEach es X.env)).any (·.1)=false:=by rfl) :
  PE X (.Call (.Attribute o name apos) (e::es) [] cpos) (tBM X.K T r to t):=by
 intro pins s σ H Q I h;refine wpAny_Call_method_late hbase hfew hline rfl (thn (ho pins s σ H _ I h) fun v s1 ⟨x,H1,I1,r1,ty,q1⟩=>?_);obtain⟨h1,h2⟩:=zz4 I1 r1 ty;refine⟨T,id,pa,slot,hty,h1,h2,?_⟩;have hA:=ha cpos pins s1 σ H1 _ I1 q1;rw[hs] at hA ⊢;refine Calls.callWith_builtin (by show(false||(backTo cpos (starEach es X.env)).any (·.1))=false;rw[hplain]<;>rfl) (Calls.evalArgs_plain ?_);exact thn hA fun us s2 ⟨vs,H2,I2,r2,q2⟩=>hm pins s2 σ H2 x vs v us Q I2 r1 r2 q2
end
noncomputable def MtM (X:Cx) (id:String) (r:V->List V->Hp->VK->Prop):Prop :=
 ∀ (pins:List (Addr×Obj)) (s:Shared) (σ:St) (H:Hp) (x:V) (xs:List V) (v:Value) (us:List Value) (Q:VK),Inv X pins σ H s->zbw x v->zbO xs us->r x xs H Q ->
  wpAny (model X.prog X.w) X.A (call (.builtin id) (v::us)) (EP X pins σ Q) X.xe s
theorem zbO.one:∀ {x:V}{us:List Value},zbO [x] us->∃ u,us=[u]/\zbw x u
 | _,_,.cons r .nil=>⟨_,rfl,r⟩
theorem zbO.dropLast {xs:List V}{us:List Value}(h:zbO xs us):zbO xs.dropLast us.dropLast:=by
 induction h with
 | nil=>exact .nil
 | cons r t ih =>
  cases t with
  | nil=>exact .nil
  | cons q t'=>exact .cons r ih
theorem zzR {α:Type}(l:List α):l.eraseIdx (l.length-1)=l.dropLast:=by
 induction l with
 | nil=>rfl
 | cons a r ih =>
  cases r with
  | nil=>rfl
  | cons b r =>
   have e:(a::b::r).length-1=((b::r).length-1)+1:=by
    have h1:(a::b::r).length=r.length+2:=rfl;have h2:(b::r).length=r.length+1:=rfl;omega
   rw[e,List.eraseIdx_cons_succ,ih]
   all_goals rfl
section
variable {X:Cx}{pins:List (Addr×Obj)}{σ:St}{H:Hp}{s:Shared}{l b:Addr}{xs ys zs:List V}
theorem Inv.lset {its its':List Value}{n:Nat}{f:Array Value->Array Value}{t':Nat}(I:Inv X pins σ H s)(hH:H l=some (.lst xs))
  (e:s.heap.get? l=some { cls:=.type "list",data:=.seq its.toArray n })(hf:f its.toArray=its'.toArray)(hv:zbO ys its')(hz:ys.length<=sizeLine) :
  Inv X pins σ (upd H l (.lst ys)) { s with heap:=s.heap.update l (Obj.mapSeq f),toks:=t' }:=by
 have q:=PySem.IsL.update e f;rw[hf] at q;refine I.write (x:=l) (e:=l) (by rw[hH];exact trivial) (.inl rfl) (fun b' u hb hu=>(Heap.get?_update_other s.heap (Obj.mapSeq f) (Ne.symm hb)).trans hu) ⟨_,q⟩ ?_;exact⟨hz,its',_,hv,q⟩
theorem Inv.lnew {its:List Value}{t':Nat}(I:Inv X pins σ H s)(hv:zbO ys its)(hz:ys.length<=sizeLine) :
  Inv X pins σ (upd H s.heap.objs.size (.lst ys)) { s with heap:=s.heap.push { cls:=.type "list",data:=.seq its.toArray },toks:=t' } :=
 I.laid (fun _ _ q=>Heap.get?_push_of_some _ q) (Nat.le_refl _) ⟨hz,its,0,hv,Heap.get?_push_size _ rfl⟩
theorem Inv.fresh (I:Inv X pins σ H s):H s.heap.objs.size=none:=I.hok.fresh (Nat.le_refl _)
theorem Inv.lstM (I:Inv X pins σ H s)(hH:H l=some (.lst xs)):xs.length<=sizeLine/\∃ (its:List Value) (n:Nat),zbO xs its/\xs.length=its.length/\s.heap.get? l=some { cls:=.type "list",data:=.seq its.toArray n }:=by
 obtain⟨z,its,n,r,e⟩:=I.hok l _ hH;exact⟨z,its,n,r,r.length,e⟩
end
section
variable {X:Cx}
noncomputable def zyq:V->List V->Hp->VK->Prop:=fun x vs H Q=>∃ l xs y,x=.ref l/\vs=[y]/\H l=some (.lst xs)/\xs.length < sizeLine/\Q .non (upd H l (.lst (xs++[y])))
theorem zjQ:MtM X "list.append" zyq:=by
 intro pins s σ H x vs v us Q I rx rv h;obtain⟨l,xs,y,rfl,rfl,hH,hz,q⟩:=h;cases rx;obtain⟨u,rfl,ru⟩:=rv.one;obtain⟨z,its,n,r,hl,e⟩:=I.lstM hH;refine call_meets F.slot_list_append ⟨_,e,rfl⟩ F.entry_list_append (F.args_list_append_2 _ _) (PySem.list_append l its.toArray n u (by rw[List.size_toArray];omega)) ⟨e,?_⟩;refine⟨.non,_,I.lset (its':=its++[u]) hH e (by simp) (r.append (.cons ru .nil)) ?_,rfl,q⟩;rw[List.length_append,List.length_singleton];omega
noncomputable def zEK:V->List V->Hp->VK->Prop:=fun x vs H Q=>∃ l xs y,x=.ref l/\vs=[]/\H l=some (.lst xs)/\xs[xs.length-1]?=some y/\Q y (upd H l (.lst xs.dropLast))
end
section
variable {prog:Program}{w:World}{A:Around}{E:Value->Shared->Prop}{s:Shared}
set_option maxRecDepth 100000 in
end
section
variable {X:Cx}
end
end L2
namespace Att
open PySem PySem.W PySem.Calls PyProof.Rows
theorem zjX {P:Params}{h:Heap}:∀ (ns:List Int) (vs:List Value),WellAll P h vs (ns.map WData.int)->IntsAre vs ns:=by
 intro ns
 induction ns with
 | nil =>
  intro vs w;rw[List.map_nil] at w;cases w;exact .nil
 | cons n ns ih =>
  intro vs w;rw[List.map_cons] at w;cases w with
  | cons a b =>
   cases a;exact .cons _ _ (ih _ b)
theorem zsU {l:OpenLaw}{n:Nat}(hn:l.most=some n){P:Params}{h:Heap}{args:List WData}{vals:List Value}
  (hpre:l.row.toRowW.claim.pre args=true)(hwl:WellAll P h vals args) :
  ∃ a vs ns,vals=[Value.ref a]/\args=[WData.list (ns.map WData.int)]/\h.get? a=some { cls:=.type "list",data:=.seq vs.toArray }/\IntsAre vs ns/\ns.length<=n:=by
 have hsh:WShape.hasAll [] args [.list .int]=true:=(pre_splitW hpre).1;have hc:l.pre.holds [] { args:=args }=true:=(pre_splitW hpre).2;obtain⟨d,r,rfl,h1,h2⟩:=hasAllW_cons hsh;obtain rfl:=hasAllW_nil h2;obtain⟨xs,rfl,h3⟩:=hasW_list h1;obtain⟨ns,rfl⟩:=items_int h3;have hlen:ns.length<=n:=by
  unfold OpenLaw.pre at hc;have h4:(WTm.not (.lt (.lit (.int (n:Int))) (.len (.arg 0)))).holds [] { args:=[.list (ns.map .int)] }=true:=by
   have h4:=(holds_andW hc).1;rw[hn] at h4;exact h4
  have h5:=condW_of h4 (w_not (w_lt w_lit (w_len_list (w_arg rfl))));rw[List.length_map] at h5;refine Nat.le_of_not_lt fun q=>?_;have q':(n:Int) < ((ns.length:Nat):Int):=by omega
  first
   | (rw[decide_eq_true q'] at h5;exact absurd h5 (by decide))
   | (simp at h5;omega)
 cases hwl with
 | cons w1 w2 =>
  cases w2;cases w1 with
  | list ho hall=>exact⟨_,_,ns,rfl,rfl,ho,zjX ns _ hall,hlen⟩
theorem zs9 (l:OpenLaw)(args:List WData):l.row.toRowW.claim.post args (.bool true) args=true :=
 postW_of (r:=l.row.toRowW) (X:=(true==true))
  (show WShape.has [] (.bool true) .bool=true by first | rfl | decide | simp [WShape.has,WShape.arms,WShape.armsAll])
  (show(WTm.eq .res (.lit (.bool true))).value [] { args:=args,res:=some (.bool true),after:=args }=some (.bool (true==true)) from w_eq_bool (w_res rfl) w_lit) rfl
theorem attach_call {l:OpenLaw}{n:Nat}{q:Program}{loose:List Str}{XP:(Str->Option Value)->Heap->Prop}{YP:World->Heap->Prop}{d:DefRec}
  (hn:l.most=some n)(hdf:d.params.defaults=[])
  (call:∀ (w:World) (sf sg:Shared) (mg mb:Str->Option Value) (fa:Addr) (o:Obj) (pm cd doc:Value) (a:Addr) (vs:List Value) (ns:List Int),
   Ground q loose [] XP w sf mg mb sg.heap->YP w sg.heap ->
   sg.heap.get? fa=some o->o.data=.func (docDef d.name d.params d.body d.scope pm cd doc)->sg.heap.CodeRec cd d.name->mg d.name=some (.ref fa) ->
   sg.heap.get? a=some { cls:=.type "list",data:=.seq vs.toArray }->IntsAre vs ns->ns.length<=n->sg.gens=#[] ->
   codeAny (model l.prog w) callerA (.call (.ref fa) ⟨[.ref a],[]⟩) (fun r s'=>r=.ok (.ret (.bool true))/\OldK sg.heap s'.heap/\s'.os=sg.os/\AllBare s'.gens) sg) :
  WalkO q loose XP YP l.row.toRowW d [] (fun f vs=>PySem.call f vs):=by
 intro w sf sg mg mb G Y fa o pm cd doc dV kV ho hd hcd hD hmg hg args vals as hpre hlay hrd hwl hlo;obtain rfl:dV=.none:=Dflts.none hD hdf;obtain rfl:kV=.none:=Dflts.noKw hD;obtain⟨a,vs,ns,rfl,rfl,hobj,hints,hlen⟩:=zsU hn hpre hwl;refine enter_call (codeAny_mono (call w sf sg mg mb fa o pm cd doc a vs ns G Y ho (fd_plain hd) hcd hmg hobj hints hlen hg) fun r s' hq=>?_);obtain⟨rfl,h2,h3,h4⟩:=hq;exact⟨.inl ⟨.bool true,.bool true,[],rfl,fun _=>rfl,.bool true,zs9 l _,fun _=>⟨List.Pairwise.nil,fun _ hm=>(nomatch hm)⟩⟩,h2,h3,h4⟩
section
variable {prog:Program}{w:World}{A:Around}{E:Value->Shared->Prop}{s:Shared}{K:Frag}
end
end Att
namespace L2
open PySem PySem.Spec PyProof.Rows
theorem zfy:∀ {vs:List Value}{ns:List Int},IntsAre vs ns->zbO (ns.map V.int) vs
 | _,_,.nil=>.nil
 | _,_,.cons n t h=>.cons ⟨t,rfl⟩ (zfy h)
def zCi (H:Hp):Prop:=∀ b,H b=none∨∃ o xs,H b=some (.frz o (.lst xs))
theorem zws {P:Program}{w:World}{K:W.Frag}{mg mb:Str->Option Value}{CX:CXT}{k:Nat}{fa a:Addr}{fd:FuncData}{x:Str}{sp:Sp}{sg:Shared}{vs:List Value}{ns:List Int}
  (KX:K.In sg.heap)(hns:sg.heap.Ns mainGlobals mg)(hb:sg.heap.Ns builtinsNs mb)(hbb:∀ x:Str,x≠"__name__"->mb x=bootBuiltins x)(hlim:sg.heap.NoLimit)(hsm:∃ mm,sg.heap.Ns sysModules mm)(hg:sg.gens=#[])
  (ha:sg.heap.get? a=some { cls:=.type "list",data:=.seq vs.toArray })(hi:IntsAre vs ns)(hl:ns.length<=sizeLine)(hr:zgm k callerA)
  (F:∀ base:Heap,K.In base->base.Ns mainGlobals mg->zcz P w K mg base CX k fa fd [x] sp)(hbind:∀ (s:Shared) (u:Value),BindsTo s fd ⟨[u],[]⟩ [(x,u)])
  (hsp:∀ H:Hp,zCi H->SqL K H a (ns.map V.int)->sp [.ref a] H (fun v _=>v=.bl true) fun _ _ _=>False)
  (hCX:∀ H e s',CX [] H sg (fun _ _ _=>False) e s'->False) :
  codeAny (model P w) callerA (.call (.ref fa) ⟨[.ref a],[]⟩) (fun r s'=>r=.ok (.ret (.bool true))/\OldK sg.heap s'.heap/\s'.os=sg.os/\AllBare s'.gens) sg:=by
 have rv:=zfy hi;have lenV:=hi.length;have core:∀ H:Hp,zCi H->SqL K H a (ns.map V.int)->HOk P w H sg.heap->(∀ b,H b≠none->b=a)->(H a≠none->K.lookup a=none) ->
   codeAny (model P w) callerA (.call (.ref fa) ⟨[.ref a],[]⟩) (fun r s'=>r=.ok (.ret (.bool true))/\OldK sg.heap s'.heap/\s'.os=sg.os/\AllBare s'.gens) sg:=by
  intro H hO hS hok hA hK;have base_of:∀ {b:Addr}{o:Obj},sg.heap.get? b=some o->H b=none->(zww sg.heap H).get? b=some o:=fun e n=>zwv e n;have noA:∀ {b:Addr}{o:Obj}{es:Array DictEntry}{ep:Nat},sg.heap.get? b=some o->o.data=.dict es ep->H b=none:=fun {b o es ep} e d=>by
   cases q:H b with
   | none=>rfl
   | some u =>
    have e':b=a:=hA b (by rw[q];simp);subst e';rw[ha] at e;cases e;have d':Data.seq vs.toArray _=Data.dict es ep:=d;cases d'
  have nsK:∀ {b:Addr}{m:Str->Option Value},sg.heap.Ns b m->(zww sg.heap H).Ns b m:=fun {b m} ⟨o,es,ep,e,d,r⟩=>⟨o,es,ep,base_of e (noA e d),d,r⟩
  have hKb:K.In (zww sg.heap H):=fun b o e=>base_of (KX b o e) (by
   cases q:H b with
   | none=>rfl
   | some u =>
    have e':b=a:=hA b (by rw[q];simp);subst e';rw[hK (by rw[q];simp)] at e;cases e)
  have hM:Mod K mg (zww sg.heap H):=⟨hKb,nsK hns,⟨mb,nsK hb,hbb⟩,let ⟨mc,h1,h2⟩:=hlim;⟨mc,nsK h1,h2⟩,let ⟨mm,h1⟩:=hsm;⟨mm,nsK h1⟩⟩
  have e0:zB6 P w K mg (zww sg.heap H) callerA [] sg H:=⟨rfl,hM,fun b o e=>zyN e,Nat.le_of_eq (ztV _ _),trivial,fun b hb=>absurd (show b∈([]:List Addr) from hb) (by simp),hok,.of_eq hg⟩
  refine codeAny_mono ((F _ hKb (nsK hns)).run callerA [] sg H ⟨[.ref a],[]⟩ [.ref a] [.ref a] _ _ hr e0 (hbind sg (.ref a)) (.cons rfl .nil) (hsp H hO hS)) fun r s' h=>?_;cases r with
  | error e=>exact(hCX H e s' h).elim
  | ok fl =>
   cases fl with
   | next=>exact False.elim h
   | brk=>exact False.elim h
   | cont=>exact False.elim h
   | ret u =>
    obtain⟨v,H',os,bare,un,hok',r',q⟩:=h;have q':v=.bl true:=q;subst q';obtain rfl:u=Value.bool true:=r';refine⟨rfl,OldK.of_keep fun b o e=>?_,os,bare⟩;cases q:H b with
    | none=>exact un.keep b o e q (by intro z;exact absurd (show b∈([]:List Addr) from z) (by simp)) (by simp)
    | some u =>
     rcases hO b with z | ⟨ob,xs,z⟩
     .rw[q] at z;cases z
     .have z2:=un.frzs b ob _ z
      obtain⟨e1,_⟩:=hok b _ z;obtain⟨e2,_⟩:=hok' b _ z2;rw[e] at e1;cases e1;exact e2
 cases hk:K.lookup a with
 | some o =>
  have e:=KX a o hk;rw[ha] at e;cases e;refine core (fun _=>none) (fun _=>.inl rfl) (.inr ⟨_,vs.toArray,_,hk,rfl,rfl,rfl,by rw[List.size_toArray,lenV];exact hl,by simpa using rv⟩) (fun b u z=>by have z':(none:Option HO)=some u:=z;cases z') (fun b z=>absurd rfl z) fun z=>absurd rfl z
 | none =>
  refine core (fun b=>if b=a then some (.frz { cls:=.type "list",data:=.seq vs.toArray } (.lst (ns.map V.int))) else none) (fun b=>?_) (.inl (.inr ⟨{ cls:=.type "list",data:=.seq vs.toArray },if_pos rfl⟩)) (fun b u z=>?_) (fun b z=>?_) fun _=>hk
  .by_cases hb:b=a
   .exact .inr ⟨_,_,if_pos hb⟩
   .exact .inl (if_neg hb)
  .by_cases hb:b=a
   .have z':=(if_pos hb).symm.trans z
    cases z';subst hb;exact⟨ha,by rw[List.length_map];exact hl,vs,_,rv,ha⟩
   .have z':=(if_neg hb).symm.trans z
    cases z'
  .by_cases hb:b=a
   .exact hb
   .exact absurd (if_neg hb) z
abbrev KOf {K:W.Frag}{h:Heap}(_:K.In h):W.Frag:=K
theorem zx6 {l:W.OpenLaw}{n k:Nat}{q:Program}{loose:List Str}{XP:(Str->Option Value)->Heap->Prop}{YP:World->Heap->Prop}{d:DefRec}{K:Params->W.Frag}{CX:World->CXT}{sp:World->Sp}{x:Str}
  (hi:importsNone q=true)(hn:l.most=some n)(hn2:n<=sizeLine)(hdf:d.params.defaults=[])(hr:zgm k callerA)
  (hY:∀ (w:World) (h:Heap),YP w h->(K w.params).In h)
  (F:∀ (w:World) (mg:Str->Option Value) (fa:Addr) (h:Heap),(K w.params).In h->h.Ns mainGlobals mg->mg d.name=some (.ref fa) ->
   ∃ fd:FuncData,(∀ (s:Shared) (u:Value),BindsTo s fd ⟨[u],[]⟩ [(x,u)]) /\
    ∀ base:Heap,(K w.params).In base->base.Ns mainGlobals mg->zcz l.prog w (K w.params) mg base (CX w) k fa fd [x] (sp w))
  (hsp:∀ (w:World) (H:Hp) (a:Addr) (ns:List Int),ns.length<=n->zCi H->SqL (K w.params) H a (ns.map V.int)->sp w [.ref a] H (fun v _=>v=.bl true) fun _ _ _=>False)
  (hCX:∀ (w:World) (H:Hp) (s:Shared) (e:Value) (s':Shared),CX w [] H s (fun _ _ _=>False) e s'->False) :
  W.WalkO q loose XP YP l.row.toRowW d [] (fun f vs=>PySem.call f vs):=by
 refine Att.attach_call hn hdf fun w sf sg mg mb fa o pm cd doc a vs ns G Y ho hd hcd hmg hobj hints hlen hg=>?_;have KX:=hY w _ Y;obtain⟨fd,hb,hF⟩:=F w mg fa _ KX G.T.g hmg;exact zws KX G.T.g G.T.b G.T.builtins G.T.nolimit (let ⟨mm,h1,_⟩:=(G.T.seer hi).mods;⟨mm,h1⟩) hg hobj hints (Nat.le_trans hlen hn2) hr hF hb (fun H hO hS=>hsp w H a ns hlen hO hS) fun H e s'=>hCX w H sg e s'
theorem walk_ofK {l:W.OpenLaw}{n k:Nat}{q:Program}{loose:List Str}{XP:(Str->Option Value)->Heap->Prop}{YP:World->Heap->Prop}{d:DefRec}{K:Params->W.Frag}{CX:CXT}{sp:W.Frag->Sp}{x:Str}
  (hi:importsNone q=true)(hn:l.most=some n)(hn2:n<=sizeLine)(hdf:d.params.defaults=[])(hr:zgm k callerA)
  (hY:∀ (w:World) (h:Heap),YP w h->(K w.params).In h)
  (F:∀ (w:World) (mg:Str->Option Value) (fa:Addr) (h:Heap),(K w.params).In h->h.Ns mainGlobals mg->mg d.name=some (.ref fa) ->
   ∃ fd:FuncData,(∀ (s:Shared) (u:Value),BindsTo s fd ⟨[u],[]⟩ [(x,u)]) /\
    ∀ base:Heap,(K w.params).In base->base.Ns mainGlobals mg->zcz l.prog w (K w.params) mg base CX k fa fd [x] (sp (K w.params)))
  (hsp:∀ (K:W.Frag) (H:Hp) (a:Addr) (ns:List Int),ns.length<=n->zCi H->SqL K H a (ns.map V.int)->sp K [.ref a] H (fun v _=>v=.bl true) fun _ _ _=>False)
  (hCX:∀ (H:Hp) (s:Shared) (e:Value) (s':Shared),CX [] H s (fun _ _ _=>False) e s'->False) :
  W.WalkO q loose XP YP l.row.toRowW d [] (fun f vs=>PySem.call f vs) :=
 zx6 (K:=K) (CX:=fun _=>CX) (sp:=fun w=>sp (K w.params)) hi hn hn2 hdf hr hY F (fun w H a ns h1 h2 h3=>hsp (K w.params) H a ns h1 h2 h3) fun _ H s e s'=>hCX H s e s'
noncomputable def defArgs (s:Stmt):Arguments:=match s with
 | .FunctionDef _ a _ _ _ _ _ _ _ _=>a
 | _=>{ posonlyargs:=[],args:=[],vararg:=none,kwonlyargs:=[],kw_defaults:=[],kwarg:=none,defaults:=[] }
def defBody (s:Stmt):List Stmt:=match s with
 | .FunctionDef _ _ b _ _ _ _ _ _ _=>b
 | _=>[]
noncomputable def defScope (s:Stmt):Scope:=match s with
 | .FunctionDef _ _ _ _ _ _ sc _ _ _=>sc
 | _=>{ kind:=.function,names:=[],isGenerator:=false,isCoroutine:=false }
abbrev CX0:CXT:=fun _ _ _ _ _ _=>False
abbrev E0:XK:=fun _ _ _=>False
theorem zaF {X:Cx}:zgb CX0 X E0:=fun _ _ _ _ _ _ _ h=>h.elim
structure Fun (K:W.Frag) (x qual:Str) (st:Stmt) (f:Addr) (fd:FuncData):Prop where
 ex:∃ (oc:Value) (od:Option Addr) (kV doc pm:Value) (an:Option Addr) (cdv ct:Value) (osl:Array (Option Value)),
  fd=W.fnOf x qual (defArgs st) (defBody st) (defScope st) .none kV doc pm an cdv ct/\K.lookup f=some ⟨oc,od,.func fd,osl⟩/\W.codeIn K cdv qual=true
 kp:W.keepIn K (.ref f)=true
section
variable {P:Program}{w:World}{K:W.Frag}{mg:Str->Option Value}{base:Heap}
theorem Fun.ok {x qual:Str}{st:Stmt}{f:Addr}{fd:FuncData}{N ps:List Str}{k:Nat}{sp:Sp}(F:Fun K x qual st f fd)(S:zaB N ps (defScope st))(len:∀ vs H Q E,sp vs H Q E->vs.length=ps.length)
  (hbody:∀ (cdv:Value) (A:Around) (outer:List Env) (s:Shared) (H:Hp) (vs:List V) (Q:VK) (E:XK),zgm k (A.deeper (envOfC qual (defScope st) s.heap.objs.size f cdv))->sp vs H Q E ->
   ∃ t,PSs (zwS CX0 P w K mg base N qual (defScope st) f cdv A outer s H E).nox (defBody st) t/\t { nx:=fun _ H'=>Q .non H',rt:=Q } (start N vs) H):zcz P w K mg base CX0 (k+1) f fd ps sp:=by
 obtain⟨oc,od,kV,doc,pm,an,cdv,ct,osl,rfl,lk,hcd⟩:=F.ex;refine zC8 lk hcd S len fun A outer s H vs Q E hr hsp=>?_;obtain⟨t,h,q⟩:=hbody cdv A outer s H vs Q E hr hsp;exact⟨t,h.nox,q⟩
theorem Fun.binds {x qual:Str}{st:Stmt}{f:Addr}{fd:FuncData}{ps:List Str}(F:Fun K x qual st f fd)
  (h:∀ (kV doc pm:Value) (an:Option Addr) (cdv ct:Value) (us:List Value),us.length=ps.length->bindArgs (W.fnOf x qual (defArgs st) (defBody st) (defScope st) .none kV doc pm an cdv ct) ⟨us,[]⟩=pure (ps.zip us)):zlK K fd ps []:=by
 obtain⟨oc,od,kV,doc,pm,an,cdv,ct,osl,rfl,lk,hcd⟩:=F.ex;exact .all (h kV doc pm an cdv ct)
theorem zxp {x qual:Str}{st:Stmt}{f:Addr}{oc:Value}{od an:Option Addr}{osl:Array (Option Value)}{kV doc pm cdv ct:Value}(l:K.lookup f=some ⟨oc,od,.func (W.fnOf x qual (defArgs st) (defBody st) (defScope st) .none kV doc pm an cdv ct),osl⟩)
  (c:W.codeIn K cdv qual=true)(k:W.keepIn K (.ref f)=true):Fun K x qual st f (W.fnOf x qual (defArgs st) (defBody st) (defScope st) .none kV doc pm an cdv ct):=⟨⟨oc,od,kV,doc,pm,an,cdv,ct,osl,rfl,l,c⟩,k⟩
end
section
variable {X:Cx}
end
def zaA (H H':Hp):Prop:=∀ b o,H b=some o->H' b=some o
theorem zaA.refl (H:Hp):zaA H H:=fun _ _ h=>h
theorem zaA.trans {H H1 H2:Hp}(a:zaA H H1)(b:zaA H1 H2):zaA H H2:=fun c o h=>b c o (a c o h)
theorem zaA.free {H H':Hp}(e:zaA H H'){l:Addr}(h:H' l=Option.none):H l=Option.none:=by
 cases q:H l with
 | none=>rfl
 | some o =>
  rw[e l o q] at h;cases h
end L2
namespace DL
open PySem PySem.Spec PySem.Calls PySem.W PyProof.Rows Builtin Builtin.ObjectAttr Builtin.Getset_descriptor
section
variable {prog:Program}{w:World}{A:Around}{E:Value->Shared->Prop}{h:Heap}{g:Array GenState}{d:Drawn}{t:Nat}{os:OsState}{a C:Addr}{o:Obj}{K:Frag}
structure zvD (K:Frag) (C:Addr):Prop where
 cls:findIn K (.ref C) "__class__"=some (some (.builtin "object.__class__"))
 ga:findIn K (.ref C) "__getattribute__"=some (some (.builtin "BaseException.__getattribute__"))
 gt:findIn K (.ref C) "__getattr__"=some none
 ob:mroIn K C (.type "object")=some true
 be:subIn K (.ref C) (.type "BaseException")=some true
theorem zzY {R:Result->Shared->Prop}{tp:Value}(X:K.In h)(Z:zvD K C)(hx:h.get? a=some o)(hc:o.cls=.ref C)(hq:R (.ok (.ret (.ref C))) ⟨h,g,d,t,os⟩) :
  codeAny (model prog w) A (.call (.builtin "getset_descriptor.__get__") ⟨[.builtin "object.__class__",.ref a,tp],[]⟩) R ⟨h,g,d,t,os⟩:=by
 have L0:Looks (model prog w) h (typeOf (.ref a)) (.ref C):=hc▸(Looks.ld hx).andThen .now;have L1:=looks_mroIn (M:=model prog w) X Z.ob;refine codeAny_call_builtin KF.slot_gs.plain KF.entry_gs (KF.slot_gs.check _ _ _ _ _ _ _ _ KF.type_class (KF.args_gs _ _ _) ?_);unfold Builtin.«getset_descriptor.__get__» descrGet;rw[dga_obj];refine wpAny_bind (wpAny_pure ?_);unfold descrGetter descrCheckInstance descrNameAndClass isInstance;simp only[KF.owner_class]
 repeat lk
 refine⟨Code.quiet_builtin _ (by decide +kernel),codeAny_builtin KF.entry_class ?_⟩;unfold Builtin.«object.__class__» shownTypeOf
 repeat lk
 exact hq
theorem zvI {M:Model}{nameV:Value}{Q:Unit->Shared->Prop}(X:K.In h)(Z:zvD K C)(hx:h.get? a=some o)(hc:o.cls=.ref C)(hq:Q () ⟨h,g,d,t,os⟩):wpAny M A (checkBuiltinCall "BaseException.__getattribute__" ⟨[.ref a,nameV],[]⟩) Q E ⟨h,g,d,t,os⟩:=by
 have hk:builtinKind "BaseException.__getattribute__"=some .slot:=by decide +kernel
 have hsplit:splitId "BaseException.__getattribute__"=some ("BaseException","__getattribute__"):=by decide +kernel
 have ha:=F.args_bexc_ga (.ref a) nameV;have LS:Looks M h (isSubtype (.ref C) (.type "BaseException")) true:=looks_subIn X Z.be;simp only[checkBuiltinCall,hk,hsplit];refine wpAny_bind ?_
 .unfold isInstance
  repeat (first | (with_reducible refine wpAny_loadPart_at hx ?_;rw[hc]) | (with_reducible refine LS.at ?_) | wp_step)
  exact hq
theorem zvH {tk:Tok}{Q:Fin->Shared->Prop}(X:K.In h)(Z:zvD K C)(hx:h.get? a=some o)(hc:o.cls=.ref C)(hq:Q (.done (.ret (.ref C))) ⟨h,g,d,t,os⟩) :
  wpAny (model prog w) A (Builtin.«object.__getattribute__» ⟨[.ref a,.str "__class__" tk],[]⟩) Q E ⟨h,g,d,t,os⟩:=by
 have hT5:(⟨h,g,d,t,os⟩:Shared).TypeIs (.builtin "object.__class__") "getset_descriptor":=F.typeOf_object_class;have f5:=F.typeOf_object_class;have f6:=F.slot_gs_get.lookup;have f7:=F.slot_gs_set.lookup;have LC:Looks (model prog w) h (typeLookup (.ref C) "__class__") (some (.builtin "object.__class__")):=looks_findIn X Z.cls
 repeat (any_goals (first | assumption | (with_reducible refine wpAny_loadPart_at hx ?_;rw[hc]) | (with_reducible refine LC.at ?_) | wp_step))
 refine zzY X Z hx hc ?_
 repeat (any_goals (first | assumption | wp_step))
theorem zx1 {tk:Tok}{R:Result->Shared->Prop}(X:K.In h)(Z:zvD K C)(hx:h.get? a=some o)(hc:o.cls=.ref C)(hq:R (.ok (.ret (.ref C))) ⟨h,g,d,t,os⟩) :
  codeAny (model prog w) A (.call (.builtin "BaseException.__getattribute__") ⟨[.ref a,.str "__class__" tk],[]⟩) R ⟨h,g,d,t,os⟩ :=
 codeAny_call_builtin F.attr_ValueError.ga.plain F.entry_bexc_ga (zvI X Z hx hc (zvH X Z hx hc hq))
theorem zCl {tk:Tok}{Q:Value->Shared->Prop}(X:K.In h)(Z:zvD K C)(hx:h.get? a=some o)(hc:o.cls=.ref C)(hq:Q (.ref C) ⟨h,g,d,t,os⟩) :
  wpAny (model prog w) A (getAttrBy (.ref a) (.str "__class__" tk) false) Q E ⟨h,g,d,t,os⟩:=by
 have f3:=F.attr_ValueError.ga.bind (.ref a);have hx2:(Value.builtin "BaseException.__getattribute__"==Value.builtin "object.__getattribute__")=false:=by decide +kernel
 have hx1:(onTheHeap (Value.ref C)&&Value.builtin "BaseException.__getattribute__"==Value.builtin "object.__getattribute__")=false:=by rw[hx2];rfl
 have L1:Looks (model prog w) h (typeLookup (.ref C) "__getattribute__") (some (.builtin "BaseException.__getattribute__")):=looks_findIn X Z.ga;have L2:Looks (model prog w) h (typeLookup (.ref C) "__getattr__") none:=looks_findIn X Z.gt
 repeat (any_goals (first | assumption | (with_reducible refine wpAny_loadPart_at hx ?_;rw[hc]) | (with_reducible refine L1.at ?_) | (with_reducible refine L2.at ?_) | wp_step))
 refine zx1 X Z hx hc ?_
 repeat (any_goals (first | assumption | wp_step))
theorem zx2 {Q:Option Value->Shared->Prop}(X:K.In h)(Z:zvD K C)(hx:h.get? a=some o)(hc:o.cls=.ref C)(hq:Q (some (.ref C)) ⟨h,g,d,t+1,os⟩):wpAny (model prog w) A (getAttr? (.ref a) "__class__") Q E ⟨h,g,d,t,os⟩:=by
 unfold getAttr? getAttrBy?
 repeat (any_goals (first | assumption | with_reducible apply zCl X Z hx hc | wp_step))
end
noncomputable def ExD (a C:Addr) (dc:Option Addr):Heap->Prop:=fun h=>∃ o vs,h.get? a=some o/\o.cls=.ref C/\o.data=.fields vs/\o.dict=dc
theorem zqQ {K:Frag}{a C:Addr}{dc:Option Addr}(Z:zvD K C)(hC:(clsIn K C).isSome=true):KitX K (.ref a) (.ref C) (ExD a C dc) where
 ty:=fun _ _ _ ⟨o,_,h1,h2,_⟩=>h2▸(Looks.ld h1).andThen .now
 it:=fun _ _ X _=>by
  obtain⟨cd,hcD⟩:=Option.isSome_iff_exists.mp hC;unfold clsIn at hcD;split at hcD
  .rename_i c' d' cd' sl' ho
   intro A' Q' E' s' k q;unfold isType loadHead;exact wpAny_bind (wpAny_loadPart (k _ _ (X _ _ ho)) (wpAny_pure q))
  .cases hcD
 ne:=fun h tp dd its n sl X htp=>by
  obtain⟨cd,hcD⟩:=Option.isSome_iff_exists.mp hC;refine Bool.eq_false_iff.mpr fun q=>?_;have e:C=tp:=Value.ref.inj (beq_iff_eq.mp q);subst e;unfold clsIn at hcD;split at hcD
  .rename_i c' d' cd' sl' ho
   have z:=(X _ _ ho).symm.trans htp;cases z
  .cases hcD
 ca:=fun {_ _ _ _ _ s} X ⟨o,_,h1,h2,_⟩ k=>by
  obtain⟨h,g,d,t,os⟩:=s;exact zx2 X Z h1 h2 k
theorem zvD.isCls {K:Frag}{C:Addr}(Z:zvD K C):(clsIn K C).isSome=true:=by
 obtain⟨cd,a,b⟩:=Option.bind_eq_some_iff.mp Z.ob;rw[a];rfl
def zhF:List String:=["NoneType","bool","int","str","tuple","list","dict"]
structure XC (K:Frag) (x:Str) (C:Addr):Prop where
 ns:nsIn K mainGlobals x=some (some (.ref C))
 ek:zvD K C
 bt:∀ T∈zhF,kitOne K (.ref C) (.type T)=some false
end DL
namespace DL
open PySem PySem.Spec PyProof.Rows L2
section
variable {M:Model}{A:Around}{E:Value->Shared->Prop}{s:Shared}{base:Heap}{env:PySem.Env}{outer l:List PySem.Env}{L e:Addr}{cls a0 fl:Value}{dc:Option Addr}{Q:Unit->Shared->Prop}
end
def nst:Expr->Bool
 | .Starred _ _=>false
 | _=>true
theorem zaX {e:Expr}{es:List Expr}{env:PySem.Env}(h:nst e=true):starEach (e::es) env=(false,eval e env)::starEach es env:=by
 cases e<;>first | (rw[starEach];intros;contradiction) | rw[starEach] | (cases h)
theorem zeP {e:Expr}{env:PySem.Env}(h:nst e=true):starEach [e] env=[(false,eval e env)]:=by
 rw[zaX h,starEach]
theorem zbC {env:PySem.Env}{pos:Pos}:∀ {es:List Expr},es.all nst=true->(backTo pos (starEach es env)).any (·.1)=false
 | [],_=>by rw[starEach];rfl
 | e::es,h=>by
  rw[List.all_cons,Bool.and_eq_true] at h;rw[zaX h.1];have:=zbC (env:=env) (pos:=pos) h.2;show(false||(backTo pos (starEach es env)).any (·.1))=false;rw[this];rfl
theorem zm8 {e:Expr}{env:PySem.Env}{pos:Pos}(h:nst e=true):((backTo pos (starEach [e] env)).all (fun x=>!x.1)&&(backToKw pos (keywordEach [] env)).all (fun x=>x.1.isSome)
  &&decide ([e].length+([]:List Keyword).length+(if([]:List Keyword).isEmpty then 0 else 1) < 30))=true:=by
 rw[zeP h,keywordEach];rfl
inductive Kd where
 | ins (c:Str) (ks:List Str) | dint (ks:List Int) | exf (c:Str) (ks:List Str)
inductive D where
 | non | bl (b:Bool) | int (i:Int) | str (x:Str) | tup (xs:List D) | lst (xs:List D) | dic (ks:List Str) (xs:List D) | exc (x:Str) | ob (k:Kd) (xs:List D)
structure zEH (K:W.Frag) (ks:List Str) (C:Addr):Prop where
 cls:Cls K C
 no:∀ f∈ks,zB3 K C f
 gc:W.findIn K (.ref C) "__class__"=some (some (.builtin "object.__class__"))
 gn:W.specialIn K (.builtin "object.__class__") "__get__"=some (some (.builtin "getset_descriptor.__get__"))
 tk:W.takesIn K (.builtin "object.__class__")=some true
 mo:W.mroIn K C (.type "object")=some true
 bt:∀ T∈zhF,W.kitOne K (.ref C) (.type T)=some false
noncomputable def zB5 (K:W.Frag) (H:Hp):Kd->Addr->List V->Prop
 | .ins c ks,a,vs=>∃ C dx,W.nsIn K mainGlobals c=some (some (.ref C))/\zEH K ks C/\H a=some (.ins C dx (ks.zip vs))/\ks.length=vs.length
 | .dint ks,a,vs=>∃ kvs,Rd H a (.dK kvs)/\kvs=(ks.map Sum.inl).zip vs/\ks.length=vs.length
 | .exf c ks,a,vs=>∃ C dx fs,XC K c C/\Rd H a (.ext (ExD a C (some dx)))/\H dx=some (.xd fs)/\ks.length=vs.length/\∀ (i:Nat) (f:Str) (v:V),ks[i]?=some f->vs[i]?=some v->fs.lookup f=some v
structure Exn where
 cls:Str
 flds:List (Str×D)
inductive Res (α:Type) where
 | ok (a:α) | exn (x:Exn) | stuck
noncomputable def Res.bind {α β:Type}(r:Res α) (f:α->Res β):Res β:=match r with
 | .ok a=>f a
 | .exn x=>.exn x
 | .stuck=>.stuck
mutual
def Rep (K:W.Frag)(H:Hp):D->V->Prop
 | .non,v=>v=.non
 | .bl b,v=>v=.bl b
 | .int i,v=>v=.int i
 | .str x,v=>v=.str x
 | .tup ds,v=>∃ a vs,v=.ref a/\SqT K H a vs/\Reps K H ds vs
 | .lst ds,v=>∃ a vs,v=.ref a/\SqL K H a vs/\Reps K H ds vs
 | .dic ks ds,v=>∃ a kvs vs,v=.ref a/\Rd H a (.dK kvs)/\kvs=(ks.map Sum.inr).zip vs/\ks.length=vs.length/\Reps K H ds vs
 | .exc x,v=>∃ a C dc,v=.ref a/\XC K x C/\Rd H a (.ext (ExD a C dc))
 | .ob k ds,v=>∃ a vs,v=.ref a/\zB5 K H k a vs/\Reps K H ds vs
def Reps (K:W.Frag)(H:Hp):List D->List V->Prop
 | [],vs=>vs=[]
 | d::ds,vs=>∃ v r,vs=v::r/\Rep K H d v/\Reps K H ds r
end
theorem zaA.rd {H H':Hp}(e:zaA H H'){a:Addr}{o:HO}(h:Rd H a o):Rd H' a o:=by
 rcases h with h | ⟨o',h⟩
 .exact .inl (e _ _ h)
 .exact .inr ⟨o',e _ _ h⟩
theorem zaA.sqT {K:W.Frag}{H H':Hp}(e:zaA H H'){a:Addr}{xs:List V}(h:SqT K H a xs):SqT K H' a xs:=by
 rcases h with h | h
 .exact .inl (zaA.rd e h)
 .exact .inr h
theorem zaA.sqL {K:W.Frag}{H H':Hp}(e:zaA H H'){a:Addr}{xs:List V}(h:SqL K H a xs):SqL K H' a xs:=by
 rcases h with h | h
 .exact .inl (zaA.rd e h)
 .exact .inr h
theorem zB5.mono {K:W.Frag}{H H':Hp}(e:zaA H H'):∀ {k:Kd}{a:Addr}{vs:List V},zB5 K H k a vs->zB5 K H' k a vs
 | .ins c ks,a,vs,⟨C,dx,h0,h1,h2,h3⟩=>⟨C,dx,h0,h1,e _ _ h2,h3⟩
 | .dint ks,a,vs,⟨kvs,h1,h2,h3⟩=>⟨kvs,zaA.rd e h1,h2,h3⟩
 | .exf c ks,a,vs,⟨C,dx,fs,h1,h2,h3,h4⟩=>⟨C,dx,fs,h1,zaA.rd e h2,e _ _ h3,h4⟩
mutual
theorem Rep.mono {K:W.Frag}{H H':Hp}(e:zaA H H'):∀ {d:D}{v:V},Rep K H d v->Rep K H' d v
 | .non,_,h=>by unfold Rep at h ⊢;exact h
 | .bl _,_,h=>by unfold Rep at h ⊢;exact h
 | .int _,_,h=>by unfold Rep at h ⊢;exact h
 | .str _,_,h=>by unfold Rep at h ⊢;exact h
 | .tup ds,_,h=>by
  unfold Rep at h ⊢;obtain⟨a,vs,e1,e2,e3⟩:=h;exact⟨a,vs,e1,zaA.sqT e e2,Reps.mono e e3⟩
 | .lst ds,_,h=>by
  unfold Rep at h ⊢;obtain⟨a,vs,e1,e2,e3⟩:=h;exact⟨a,vs,e1,zaA.sqL e e2,Reps.mono e e3⟩
 | .dic ks ds,_,h=>by
  unfold Rep at h ⊢;obtain⟨a,kvs,vs,e1,e2,e3,e4,e5⟩:=h;exact⟨a,kvs,vs,e1,zaA.rd e e2,e3,e4,Reps.mono e e5⟩
 | .exc x,_,h=>by
  unfold Rep at h ⊢;obtain⟨a,C,dc,e1,e2,e3⟩:=h;exact⟨a,C,dc,e1,e2,zaA.rd e e3⟩
 | .ob k ds,_,h=>by
  unfold Rep at h ⊢;obtain⟨a,vs,e1,e2,e3⟩:=h;exact⟨a,vs,e1,e2.mono e,Reps.mono e e3⟩
theorem Reps.mono {K:W.Frag}{H H':Hp}(e:zaA H H'):∀ {ds:List D}{vs:List V},Reps K H ds vs->Reps K H' ds vs
 | [],_,h=>by unfold Reps at h ⊢;exact h
 | d::ds,_,h=>by
  unfold Reps at h ⊢;obtain⟨v,r,e1,e2,e3⟩:=h;exact⟨v,r,e1,Rep.mono e e2,Reps.mono e e3⟩
end
section
variable {K:W.Frag}{H:Hp}{v:V}{vs:List V}{d:D}{ds:List D}
theorem zaD:Rep K H .non v↔v=.non:=by unfold Rep;exact Iff.rfl
theorem zaq {b}:Rep K H (.bl b) v↔v=.bl b:=by unfold Rep;exact Iff.rfl
theorem zah {i}:Rep K H (.int i) v↔v=.int i:=by unfold Rep;exact Iff.rfl
theorem Rep.str_iff {x}:Rep K H (.str x) v↔v=.str x:=by unfold Rep;exact Iff.rfl
theorem zau:Rep K H (.tup ds) v↔∃ a vs,v=.ref a/\SqT K H a vs/\Reps K H ds vs:=by rw[Rep]
theorem zan:Rep K H (.lst ds) v↔∃ a vs,v=.ref a/\SqL K H a vs/\Reps K H ds vs:=by rw[Rep]
theorem zls {x}:Rep K H (.exc x) v↔∃ a C dc,v=.ref a/\XC K x C/\Rd H a (.ext (ExD a C dc)):=by rw[Rep]
theorem zmF {k}:Rep K H (.ob k ds) v↔∃ a vs,v=.ref a/\zB5 K H k a vs/\Reps K H ds vs:=by rw[Rep]
theorem Reps.nil_iff:Reps K H [] vs↔vs=[]:=by unfold Reps;exact Iff.rfl
theorem zap:Reps K H (d::ds) vs↔∃ v r,vs=v::r/\Rep K H d v/\Reps K H ds r:=by rw[Reps]
theorem Reps.nil:Reps K H [] []:=Reps.nil_iff.mpr rfl
theorem Reps.cons (h:Rep K H d v)(h':Reps K H ds vs):Reps K H (d::ds) (v::vs):=zap.mpr ⟨_,_,rfl,h,h'⟩
end
theorem Reps.length {K:W.Frag}{H:Hp}:∀ {ds:List D}{vs:List V},Reps K H ds vs->ds.length=vs.length
 | [],_,h=>by rw[Reps.nil_iff.mp h];rfl
 | d::ds,_,h=>by
  obtain⟨v,r,rfl,_,h⟩:=zap.mp h;simp [Reps.length h]
theorem Reps.get {K:W.Frag}{H:Hp}:∀ {ds:List D}{vs:List V}{i:Nat}{d:D},Reps K H ds vs->ds[i]?=some d->∃ v,vs[i]?=some v/\Rep K H d v
 | [],_,_,_,h,e=>by simp at e
 | x::ds,_,0,d,h,e=>by
  obtain⟨v,r,rfl,h1,_⟩:=zap.mp h;simp at e;subst e;exact⟨v,rfl,h1⟩
 | x::ds,_,i+1,d,h,e=>by
  obtain⟨v,r,rfl,_,h2⟩:=zap.mp h;obtain⟨u,e1,e2⟩:=Reps.get (i:=i) h2 (by simpa using e);exact⟨u,by simpa using e1,e2⟩
theorem Reps.app {K:W.Frag}{H:Hp}:∀ {ds es:List D}{vs us:List V},Reps K H ds vs->Reps K H es us->Reps K H (ds++es) (vs++us)
 | [],_,_,_,h,h'=>by rw[Reps.nil_iff.mp h];exact h'
 | d::ds,_,_,_,h,h'=>by
  obtain⟨v,r,rfl,h1,h2⟩:=zap.mp h;exact Reps.cons h1 (Reps.app h2 h')
theorem Reps.take {K:W.Frag}{H:Hp}:∀ {ds:List D}{vs:List V}(n:Nat),Reps K H ds vs->Reps K H (ds.take n) (vs.take n)
 | _,_,0,_=>by simp;exact Reps.nil
 | [],_,n+1,h=>by rw[Reps.nil_iff.mp h];exact Reps.nil
 | d::ds,_,n+1,h=>by
  obtain⟨v,r,rfl,h1,h2⟩:=zap.mp h;exact Reps.cons h1 (Reps.take n h2)
theorem Reps.drop {K:W.Frag}{H:Hp}:∀ {ds:List D}{vs:List V}(n:Nat),Reps K H ds vs->Reps K H (ds.drop n) (vs.drop n)
 | _,_,0,h=>by simpa using h
 | [],_,n+1,h=>by rw[Reps.nil_iff.mp h];exact Reps.nil
 | d::ds,_,n+1,h=>by
  obtain⟨v,r,rfl,h1,h2⟩:=zap.mp h;exact Reps.drop n h2
theorem Reps.set {K:W.Frag}{H:Hp}{d:D}{v:V}(h:Rep K H d v):∀ {ds:List D}{vs:List V}(n:Nat),Reps K H ds vs->Reps K H (ds.set n d) (vs.set n v)
 | [],_,n,h'=>by rw[Reps.nil_iff.mp h'];exact Reps.nil
 | x::ds,_,0,h'=>by
  obtain⟨v,r,rfl,h1,h2⟩:=zap.mp h';exact Reps.cons h h2
 | x::ds,_,n+1,h'=>by
  obtain⟨v,r,rfl,h1,h2⟩:=zap.mp h';exact Reps.cons h1 (Reps.set h n h2)
theorem zlr {K:W.Frag}{H:Hp}:∀ (ns:List Int),Reps K H (ns.map D.int) (ns.map V.int)
 | []=>Reps.nil
 | n::r=>Reps.cons (zah.mpr rfl) (zlr r)
structure zbj (H Ha H' Ha':Hp):Prop where
 s:zaA H H'
 z:zaA Ha Ha'
 sub:zaA Ha' H'
 nw:∀ a,Ha' a≠none->Ha a=none->H a=none
theorem zbj.refl {H Ha:Hp}(h:zaA Ha H):zbj H Ha H Ha:=⟨zaA.refl _,zaA.refl _,h,fun a h1 h2=>absurd h2 h1⟩
theorem zbj.trans {H Ha H1 H01 H2 H02:Hp}(a:zbj H Ha H1 H01)(b:zbj H1 H01 H2 H02):zbj H Ha H2 H02 :=
 ⟨a.s.trans b.s,a.z.trans b.z,b.sub,fun x h1 h2=>by
  cases q:H01 x with
  | none=>exact a.s.free (b.nw x h1 q)
  | some o=>exact a.nw x (by rw[q];simp) h2⟩
theorem zaI {H Ha:Hp}{p:Addr}{o:HO}(hs:zaA Ha H)(hp:H p=none):zbj H Ha (upd H p o) (upd Ha p o) :=
 ⟨same_new hp o,same_new (hs.free hp) o,fun b u e=>by
  by_cases hb:b=p
  .subst hb;rw[zar] at e ⊢;exact e
  .rw[zal hb] at e ⊢;exact hs _ _ e,fun a h1 h2=>by
  by_cases hb:a=p
  .subst hb;exact hp
  .rw[zal hb] at h1;exact absurd h2 h1⟩
where
 same_new {H:Hp}{p:Addr}(h:H p=none) (o:HO):zaA H (upd H p o):=fun b u q=>by rw[zal (zaQ q h)];exact q
inductive Sl where
 | no | sh (d:D) | ow (d:D) | ox (j:Nat) (ds:List D) | pt (a:Addr)
abbrev Ev:=List Sl
noncomputable def Reads (K:W.Frag) (Ha:Hp) (σ:L2.St) (ρ:Ev):Prop:=∀ (i:Nat) (d:D),ρ[i]?=some (.sh d)->∃ v,σ[i]?=some (some v)/\Rep K Ha d v
theorem Reads.mono {K:W.Frag}{H H':Hp}{σ:L2.St}{ρ:Ev}(e:zaA H H')(r:Reads K H σ ρ):Reads K H' σ ρ:=fun i d h =>
 let ⟨v,h1,h2⟩:=r i d h
 ⟨v,h1,h2.mono e⟩
noncomputable def ExR (K:W.Frag) (H:Hp) (x:Exn) (C:Value) (ox:Option Addr):Prop :=
 (∃ c,C=.ref c/\XC K x.cls c)/\match ox with
  | none=>x.flds=[]
  | some a=>∃ fs,H a=some (.xd fs)/\∀ n d,x.flds.lookup n=some d->∃ v,fs.lookup n=some v/\Rep K H d v
noncomputable def post (K:W.Frag) (E:XK) (H Ha:Hp) (r:Res D) (Q:VK):Prop:=match r with
 | .ok d=>∀ v H' Ha',zbj H Ha H' Ha'->Rep K Ha' d v->Q v H'
 | .exn x=>∀ C ox H' Ha',zbj H Ha H' Ha'->ExR K Ha' x C ox->E C ox H'
 | .stuck=>False
noncomputable def zs8 (K:W.Frag) (E:XK) (H Ha:Hp) (r:Res (List D)) (Q:List V->Hp->Prop):Prop:=match r with
 | .ok ds=>∀ vs H' Ha',zbj H Ha H' Ha'->Reps K Ha' ds vs->Q vs H'
 | .exn x=>∀ C ox H' Ha',zbj H Ha H' Ha'->ExR K Ha' x C ox->E C ox H'
 | .stuck=>False
noncomputable def zpJ (K:W.Frag) (E:XK) (H Ha:Hp) (r:Res D) (Q:Bool->Hp->Prop):Prop:=match r with
 | .ok (.bl b)=>∀ H' Ha',zbj H Ha H' Ha'->Q b H'
 | .ok _=>False
 | .exn x=>∀ C ox H' Ha',zbj H Ha H' Ha'->ExR K Ha' x C ox->E C ox H'
 | .stuck=>False
section
variable {K:W.Frag}{E:XK}{H Ha H1 H01:Hp}
theorem post.grow {r:Res D}{Q:VK}(h:post K E H Ha r Q)(g:zbj H Ha H1 H01):post K E H1 H01 r Q:=by
 cases r with
 | ok d=>exact fun v H' Ha' g'=>h v H' Ha' (g.trans g')
 | exn x=>exact fun C ox H' Ha' g'=>h C ox H' Ha' (g.trans g')
 | stuck=>exact h
theorem zs8.grow {r:Res (List D)}{Q:List V->Hp->Prop}(h:zs8 K E H Ha r Q)(g:zbj H Ha H1 H01):zs8 K E H1 H01 r Q:=by
 cases r with
 | ok d=>exact fun v H' Ha' g'=>h v H' Ha' (g.trans g')
 | exn x=>exact fun C ox H' Ha' g'=>h C ox H' Ha' (g.trans g')
 | stuck=>exact h
theorem zpJ.grow {r:Res D}{Q:Bool->Hp->Prop}(h:zpJ K E H Ha r Q)(g:zbj H Ha H1 H01):zpJ K E H1 H01 r Q:=by
 cases r with
 | ok d =>
  cases d with
  | bl b=>exact fun H' Ha' g'=>h H' Ha' (g.trans g')
  | _=>exact h
 | exn x=>exact fun C ox H' Ha' g'=>h C ox H' Ha' (g.trans g')
 | stuck=>exact h
end
noncomputable def tD (K:W.Frag) (E:XK) (f:Ev->Res D):TE:=fun σ H Q=>∃ Ha ρ,zaA Ha H/\Reads K Ha σ ρ/\post K E H Ha (f ρ) Q
noncomputable def tDA (K:W.Frag) (E:XK) (f:Ev->Res (List D)):TA:=fun σ H Q=>∃ Ha ρ,zaA Ha H/\Reads K Ha σ ρ/\zs8 K E H Ha (f ρ) Q
noncomputable def tDT (K:W.Frag) (E:XK) (f:Ev->Res D):TT:=fun σ H Q=>∃ Ha ρ,zaA Ha H/\Reads K Ha σ ρ/\zpJ K E H Ha (f ρ) Q
structure DE (X:Cx) (E:XK) (e:Expr) (f:Ev->Res D):Prop where
 o:PE X e (tD X.K E f)
structure DA (X:Cx) (E:XK) (es:List Expr) (f:Ev->Res (List D)):Prop where
 o:PA X es (tDA X.K E f)
structure DT (X:Cx) (E:XK) (e:Expr) (f:Ev->Res D):Prop where
 o:PT X e (tDT X.K E f)
structure DW (X:Cx) (E:XK) (e:Expr) (f:Ev->Res D):Prop where
 o:PW X e (tDT X.K E f)
section
variable {X:Cx}{E:XK}{e a b:Expr}{es:List Expr}{f g:Ev->Res D}{fa:Ev->Res (List D)}{pos:Pos}
theorem zaK {t t':TE}(h:PE X e t)(w:∀ σ H Q,t' σ H Q->t σ H Q):PE X e t':=fun pins s σ H Q I q=>h pins s σ H Q I (w σ H Q q)
theorem zmX {t t':TA}(h:PA X es t)(w:∀ σ H Q,t' σ H Q->t σ H Q):PA X es t':=fun pos pins s σ H Q I q=>h pos pins s σ H Q I (w σ H Q q)
theorem zeX {t t':TT}(h:PT X e t)(w:∀ σ H Q,t' σ H Q->t σ H Q):PT X e t':=fun pins s σ H Q I q=>h pins s σ H Q I (w σ H Q q)
theorem zmU {t t':TT}(h:PW X e t)(w:∀ σ H Q,t' σ H Q->t σ H Q):PW X e t':=fun wh pins s σ H Q I q=>h wh pins s σ H Q I (w σ H Q q)
def zad (i:Nat):Ev->Res D:=fun ρ=>match ρ[i]? with
 | some (.sh d)=>.ok d
 | _=>.stuck
def dC (d:D):Ev->Res D:=fun _=>.ok d
theorem zBL {i:Nat}{x:Str}(hN:X.N[i]?=some x)(hv:Vis X.env.scope x)(hd:(x==("__debug__" : Str))=false:=by decide)(hcd:(x==("__classdict__" : Str))=false:=by decide):DE X E (.Name x pos) (zad i):=by
 refine⟨?_⟩;refine zaK (zjF hN hv hd hcd) fun σ H Q ⟨Ha,ρ,hs,hr,q⟩=>?_;unfold zad at q;cases e:ρ[i]? with
 | none=>rw[e] at q;exact q.elim
 | some s =>
  rw[e] at q;cases s with
  | sh d =>
   obtain⟨v,e1,e2⟩:=hr i d e;exact⟨v,e1,q v H Ha (zbj.refl hs) e2⟩
  | no=>exact q.elim
  | ow d=>exact q.elim
  | ox j ds=>exact q.elim
  | pt a=>exact q.elim
theorem zaf {i j}:DE X E (.Constant (.int i) j pos) (dC (.int i)):=⟨zaK zAY fun σ H Q ⟨Ha,ρ,hs,hr,q⟩=>q _ H Ha (zbj.refl hs) (zah.mpr rfl)⟩
theorem zeM {i j}:DE X E (.Constant (.bool i) j pos) (dC (.bl i)):=⟨zaK zCP fun σ H Q ⟨Ha,ρ,hs,hr,q⟩=>q _ H Ha (zbj.refl hs) (zaq.mpr rfl)⟩
theorem zcK {j}:DE X E (.Constant .none j pos) (dC .non):=⟨zaK zAW fun σ H Q ⟨Ha,ρ,hs,hr,q⟩=>q _ H Ha (zbj.refl hs) (zaD.mpr rfl)⟩
theorem zo5 {x j}:DE X E (.Constant (.str x) j pos) (dC (.str x)):=⟨zaK zAS fun σ H Q ⟨Ha,ρ,hs,hr,q⟩=>q _ H Ha (zbj.refl hs) (Rep.str_iff.mpr rfl)⟩
theorem zzs {x:Str}{v:V}{u:Value}{d:D}(hg:Gl X x)(hm:X.mg x=some u)(r:zbw v u)(hr:∀ H,Rep X.K H d v)(hd:(x==("__debug__" : Str))=false:=by decide):DE X E (.Name x pos) (dC d) :=
 ⟨zaK (zyB hg hm r hd) fun σ H Q ⟨Ha,ρ,hs,hr',q⟩=>q _ H Ha (zbj.refl hs) (hr Ha)⟩
noncomputable def zaa (f g:Ev->Res D) (op:D->D->Res D):Ev->Res D:=fun ρ=>(f ρ).bind fun x=>(g ρ).bind fun y=>op x y
def zdG (f:Ev->Res D)(op:D->Res D):Ev->Res D:=fun ρ=>(f ρ).bind op
noncomputable def OpD (K:W.Frag) (E:XK) (r:R2) (op:D->D->Res D):Prop:=∀ (x y:D) (v u:V) (H Ha:Hp) (Q:VK),zaA Ha H->Rep K Ha x v->Rep K Ha y u->post K E H Ha (op x y) Q->r v u H Q
theorem zfz {r:R2}{op:D->D->Res D}(ho:OpD X.K E r op)(σ:L2.St)(H:Hp)(Q:VK)(h:tD X.K E (zaa f g op) σ H Q):tOp r (tD X.K E f) (tD X.K E g) σ H Q:=by
 obtain⟨Ha,ρ,hs,hr,q⟩:=h;refine⟨Ha,ρ,hs,hr,?_⟩;unfold zaa at q;cases e1:f ρ with
 | stuck=>rw[e1] at q;exact q
 | exn x=>rw[e1] at q;exact q
 | ok x =>
  rw[e1] at q;intro v H1 H01 g1 r1;refine⟨H01,ρ,g1.sub,hr.mono g1.z,?_⟩;replace q:post X.K E H Ha ((g ρ).bind fun y=>op x y) Q:=q;replace q:=q.grow g1;cases e2:g ρ with
  | stuck=>rw[e2] at q;exact q
  | exn x=>rw[e2] at q;exact q
  | ok y =>
   rw[e2] at q;intro u H2 H02 g2 r2;exact ho x y v u H2 H02 Q g2.sub (r1.mono g2.z) r2 (post.grow (r:=op x y) q g2)
theorem zsf {op:Operator}{r:R2}{o:D->D->Res D}(h:OpR X (binaryOp op) r)(ho:OpD X.K E r o)(ha:DE X E a f)(hb:DE X E b g):DE X E (.BinOp a op b pos) (zaa f g o) :=
 ⟨zaK (zAT h ha.o hb.o) (zfz ho)⟩
theorem zdH {op:CmpOp}{r:R2}{o:D->D->Res D}(h:OpR X (compareOp op) r)(ho:OpD X.K E r o)(ha:DE X E a f)(hb:DE X E b g)(hm:behindInMarks op b=false):DE X E (.Compare a [op] [b] pos) (zaa f g o) :=
 ⟨zaK (ztg h ha.o hb.o hm) (zfz ho)⟩
theorem zDf {r:R2}{o:D->D->Res D}(h:IxR X r)(ho:OpD X.K E r o)(ha:DE X E a f)(hb:DE X E b g)(hs:zlt b):DE X E (.Subscript a b pos) (zaa f g o) :=
 ⟨zaK (zAX h ha.o hb.o hs) (zfz ho)⟩
noncomputable def UnD (K:W.Frag) (E:XK) (r:V->Hp->VK->Prop) (op:D->Res D):Prop:=∀ (x:D) (v:V) (H Ha:Hp) (Q:VK),zaA Ha H->Rep K Ha x v->post K E H Ha (op x) Q->r v H Q
theorem zDe {op:UnaryOp}{r:V->Hp->VK->Prop}{o:D->Res D}(h:UnR X (unaryOp op) r)(ho:UnD X.K E r o)(ha:DE X E a f):DE X E (.UnaryOp op a pos) (zdG f o):=by
 refine⟨?_⟩;refine zaK (zCN h ha.o) fun σ H Q ⟨Ha,ρ,hs,hr,q⟩=>⟨Ha,ρ,hs,hr,?_⟩
 unfold zdG at q;cases e1:f ρ with
 | stuck=>rw[e1] at q;exact q
 | exn x=>rw[e1] at q;exact q
 | ok x =>
  rw[e1] at q;intro v H1 H01 g1 r1;exact ho x v H1 H01 Q g1.sub r1 (post.grow (r:=o x) q g1)
def zaH:Ev->Res (List D):=fun _=>.ok []
noncomputable def zae (f:Ev->Res D) (fa:Ev->Res (List D)):Ev->Res (List D):=fun ρ=>(f ρ).bind fun x=>(fa ρ).bind fun xs=>.ok (x::xs)
theorem zak:DA X E [] zaH:=⟨zmX zg7 fun σ H Q ⟨Ha,ρ,hs,hr,q⟩=>q [] H Ha (zbj.refl hs) Reps.nil⟩
theorem zab (ha:DE X E e f)(hr:DA X E es fa)(hs:starEach (e::es) X.env=(false,eval e X.env)::starEach es X.env:=by exact zaX rfl):DA X E (e::es) (zae f fa):=by
 refine⟨?_⟩;refine zmX (zdZ ha.o hr.o hs) fun σ H Q ⟨Ha,ρ,hs,hr,q⟩=>⟨Ha,ρ,hs,hr,?_⟩
 unfold zae at q;cases e1:f ρ with
 | stuck=>rw[e1] at q;exact q
 | exn x=>rw[e1] at q;exact q
 | ok x =>
  rw[e1] at q;intro v H1 H01 g1 r1;refine⟨H01,ρ,g1.sub,hr.mono g1.z,?_⟩;replace q:zs8 X.K E H Ha ((fa ρ).bind fun xs=>.ok (x::xs)) Q:=q;replace q:=q.grow g1;cases e2:fa ρ with
  | stuck=>rw[e2] at q;exact q
  | exn x=>rw[e2] at q;exact q
  | ok xs =>
   rw[e2] at q;intro us H2 H02 g2 r2;exact q (v::us) H2 H02 g2 (Reps.cons (r1.mono g2.z) r2)
def line:Nat:=1000000
theorem zcU {n:Nat}(h:n<=line):n<=sizeLine:=Nat.le_trans h (by decide)
def zam (fa:Ev->Res (List D))(m:List D->Res D):Ev->Res D:=fun ρ=>(fa ρ).bind m
def zjR:List D->Res D:=fun ds=>if ds.length<=line then .ok (.tup ds) else .stuck
def zi5:List D->Res D:=fun ds=>if ds.length<=line then .ok (.lst ds) else .stuck
theorem zhM {m:List D->Res D}{r:List V->Hp->VK->Prop}(ho:∀ (ds:List D) (vs:List V) (H Ha:Hp) (Q:VK),zaA Ha H->Reps X.K Ha ds vs->post X.K E H Ha (m ds) Q->r vs H Q)
  (σ:L2.St)(H:Hp)(Q:VK)(h:tD X.K E (zam fa m) σ H Q):tDA X.K E fa σ H fun vs H1=>r vs H1 Q:=by
 obtain⟨Ha,ρ,hs,hr,q⟩:=h;refine⟨Ha,ρ,hs,hr,?_⟩;unfold zam at q;cases e1:fa ρ with
 | stuck=>rw[e1] at q;exact q
 | exn x=>rw[e1] at q;exact q
 | ok x =>
  rw[e1] at q;intro v H1 H01 g1 r1;exact ho x v H1 H01 Q g1.sub r1 (post.grow (r:=m x) q g1)
theorem zd9 {x1}(h:DA X E es fa):DE X E (.Tuple es x1 pos) (zam fa zjR):=by
 refine⟨?_⟩;refine zaK (zAR h.o) (zhM (r:=fun xs H1 Q=>xs.length<=sizeLine/\∀ p,H1 p=none->Q (.ref p) (upd H1 p (.tup xs))) fun ds vs H Ha Q hs hr q=>?_);unfold zjR at q
 by_cases hl:ds.length<=line
 .rw[if_pos hl] at q
  refine⟨by rw[← hr.length];exact zcU hl,fun p hp=>q _ _ _ (zaI hs hp) (zau.mpr ⟨p,vs,rfl,SqT.of zar,hr.mono (zaI hs hp).z⟩)⟩
 .rw[if_neg hl] at q;exact q.elim
theorem zeL (h:DA X E es fa):DE X E (.List es pos) (zam fa zi5):=by
 refine⟨?_⟩;refine zaK (zxg h.o) (zhM (r:=fun xs H1 Q=>xs.length<=sizeLine/\∀ p,H1 p=none->Q (.ref p) (upd H1 p (.lst xs))) fun ds vs H Ha Q hs hr q=>?_);unfold zi5 at q
 by_cases hl:ds.length<=line
 .rw[if_pos hl] at q
  refine⟨by rw[← hr.length];exact zcU hl,fun p hp=>q _ _ _ (zaI hs hp) (zan.mpr ⟨p,vs,rfl,SqL.of zar,hr.mono (zaI hs hp).z⟩)⟩
 .rw[if_neg hl] at q;exact q.elim
noncomputable def spD (K:W.Frag) (n:Nat) (m:List D->Res D):Sp:=fun vs H Q E=>vs.length=n/\∃ Ha ds,zaA Ha H/\Reps K Ha ds vs/\post K E H Ha (m ds) Q
theorem zzt {CX:CXT}{k n:Nat}{fn:Addr}{fd:FuncData}{ps:List Str}{m:List D->Res D}{x:Str}{p:Pos}(F:zcz X.prog X.w X.K X.mg X.base CX k fn fd ps (spD X.K n m))(hr:zgm k X.A)(hg:Gl X x)(hm:X.mg x=some (.ref fn))
  (hk:W.keepIn X.K (.ref fn)=true)(hb:zlK X.K fd ps [])(hx:zgb CX X E)(ha:DA X E (e::es) fa)(hn:(e::es).length=n:=by rfl)(hl:∀ ρ ds,fa ρ=.ok ds->ds.length=(e::es).length)
  (hdb:(x==("__debug__" : Str))=false:=by decide)(he:starEach (e::es) X.env=(false,eval e X.env)::starEach es X.env:=by exact zaX rfl)(hpl:(backTo pos (starEach es X.env)).any (·.1)=false:=by exact zbC rfl) :
  DE X E (.Call (.Name x p) (e::es) [] pos) (zam fa m):=by
 refine⟨?_⟩;refine zaK (zmW F hr hg hm hk hb .nil hx ha.o hdb he hpl) fun σ H Q h=>?_;obtain⟨Ha,ρ,hs,hr,q⟩:=h;refine⟨Ha,ρ,hs,hr,?_⟩;unfold zam at q;cases e1:fa ρ with
 | stuck=>rw[e1] at q;exact q
 | exn x=>rw[e1] at q;exact q
 | ok ds =>
  rw[e1] at q;intro v H1 H01 g1 r1;refine⟨?_,H01,ds,g1.sub,by simpa using r1,post.grow (r:=m ds) q g1⟩;have:=r1.length;have:=hl ρ ds e1;simp only[List.append_nil];omega
theorem zwZ {ρ:Ev}{ds:List D}(h:zaH ρ=.ok ds):ds.length=0:=by cases h;rfl
theorem zlo {ρ:Ev}{ds:List D}{n:Nat}(hr:∀ es,fa ρ=.ok es->es.length=n)(h:zae f fa ρ=.ok ds):ds.length=n+1:=by
 unfold zae at h;cases e1:f ρ with
 | stuck=>rw[e1] at h;cases h
 | exn x=>rw[e1] at h;cases h
 | ok x =>
  rw[e1] at h;replace h:((fa ρ).bind fun xs=>Res.ok (x::xs))=.ok ds:=h;cases e2:fa ρ with
  | stuck=>rw[e2] at h;cases h
  | exn x=>rw[e2] at h;cases h
  | ok xs =>
   rw[e2] at h;cases h;simp [hr xs e2]
noncomputable def zhV (X:Cx) (E:XK) (r:List V->Hp->VK->Prop) (m:List D->Res D):Prop:=∀ (ds:List D) (vs:List V) (H Ha:Hp) (Q:VK),zaA Ha H->Reps X.K Ha ds vs->post X.K E H Ha (m ds) Q->r vs H Q
theorem zaL {id:String}{r:List V->Hp->VK->Prop}{m:List D->Res D}{x:Str}{p:Pos}(hc:zhU X (.builtin id) r)(hd:zhV X E r m)(hg:Gl X x)(hm:X.mg x=none)(hv:bootBuiltins x=some (.builtin id))(ha:DA X E (e::es) fa)(hn:x≠"__name__":=by decide)(hdb:(x==("__debug__" : Str))=false:=by decide)
  (he:starEach (e::es) X.env=(false,eval e X.env)::starEach es X.env:=by exact zaX rfl)(hpl:(backTo pos (starEach es X.env)).any (·.1)=false:=by exact zbC rfl):DE X E (.Call (.Name x p) (e::es) [] pos) (zam fa m) :=
 ⟨zaK (zqD hc hg hm hv ha.o hn hdb he hpl) (zhM hd)⟩
theorem zwJ (h:PT X e (tB (tD X.K E f))):DT X E e f:=by
 refine⟨?_⟩;refine zeX h fun σ H Q ⟨Ha,ρ,hs,hr,q⟩=>⟨Ha,ρ,hs,hr,?_⟩
 cases e1:f ρ with
 | stuck=>rw[e1] at q;exact q
 | exn x=>rw[e1] at q;exact q
 | ok d =>
  rw[e1] at q;intro v H1 H01 g1 r1;cases d with
  | bl b=>rw[zaq.mp r1];exact⟨b,rfl,q H1 H01 g1⟩
  | _=>exact q.elim
theorem zbF (h:DE X E e f)(he:∀ whole,isTrue e X.env whole=(do let v ← whole;standAt e.pos;holding [v] (truthy v)):=by intro _;rfl):DT X E e f:=zwJ (zxc h.o he)
theorem zaV {op:CmpOp}{r:R2}{o:D->D->Res D}(h:OpR X (compareOp op) r)(ho:OpD X.K E r o)(ha:DE X E a f)(hb:DE X E b g)(hm:behindInMarks op b=false):DT X E (.Compare a [op] [b] pos) (zaa f g o):=by
 refine⟨?_⟩;refine zeX (zs7 h ha.o hb.o hm) fun σ H Q h=>?_;have w:tD X.K E (zaa f g o) σ H fun x H'=>∃ k,x=.bl k/\Q k H':=by
  obtain⟨Ha,ρ,hs,hr,q⟩:=h;refine⟨Ha,ρ,hs,hr,?_⟩;cases e1:zaa f g o ρ with
  | stuck=>rw[e1] at q;exact q
  | exn x=>rw[e1] at q;exact q
  | ok d =>
   rw[e1] at q;intro v H1 H01 g1 r1;cases d with
   | bl b=>rw[zaq.mp r1];exact⟨b,rfl,q H1 H01 g1⟩
   | _=>exact q.elim
 exact zfz ho σ H _ w
def zet (f:Ev->Res D):Ev->Res D:=zdG f fun x=>match x with
 | .bl b=>.ok (.bl (!b))
 | _=>.stuck
noncomputable def zlw (f g:Ev->Res D):Ev->Res D:=fun ρ=>(f ρ).bind fun x=>match x with
 | .bl true=>g ρ
 | .bl false=>.ok (.bl false)
 | _=>.stuck
noncomputable def dOr (f g:Ev->Res D):Ev->Res D:=fun ρ=>(f ρ).bind fun x=>match x with
 | .bl true=>.ok (.bl true)
 | .bl false=>g ρ
 | _=>.stuck
theorem zbG (ha:DT X E a f):DT X E (.UnaryOp .Not a pos) (zet f):=by
 refine⟨?_⟩;refine zeX (zxd ha.o) fun σ H Q ⟨Ha,ρ,hs,hr,q⟩=>⟨Ha,ρ,hs,hr,?_⟩
 unfold zet zdG at q;cases e1:f ρ with
 | stuck=>rw[e1] at q;exact q
 | exn x=>rw[e1] at q;exact q
 | ok d =>
  rw[e1] at q;cases d with
  | bl b=>exact q
  | _=>exact q.elim
theorem zo6 (ha:DE X E a f):DE X E (.UnaryOp .Not a pos) (zet f):=by
 refine⟨?_⟩;refine zaK (zAV ha.o) fun σ H Q ⟨Ha,ρ,hs,hr,q⟩=>⟨Ha,ρ,hs,hr,?_⟩
 unfold zet zdG at q;cases e1:f ρ with
 | stuck=>rw[e1] at q;exact q
 | exn x=>rw[e1] at q;exact q
 | ok d =>
  rw[e1] at q;intro v H1 H01 g1 r1;cases d with
  | bl b=>rw[zaq.mp r1];exact⟨b,rfl,q (.bl !b) H1 H01 g1 (zaq.mpr rfl)⟩
  | _=>exact q.elim
variable {rest:List Expr}
theorem zim (ha:DT X E a f):DW X E (.BoolOp .And [a] pos) f:=⟨zs6 ha.o⟩
theorem za4 (ha:DT X E a f):DW X E (.BoolOp .Or [a] pos) f:=⟨zw8 ha.o⟩
theorem zuS (ha:DT X E a f)(hb:DW X E (.BoolOp .And (b::rest) pos) g):DW X E (.BoolOp .And (a::b::rest) pos) (zlw f g):=by
 refine⟨?_⟩;refine zmU (zw9 ha.o hb.o) fun σ H Q ⟨Ha,ρ,hs,hr,q⟩=>⟨Ha,ρ,hs,hr,?_⟩
 unfold zlw at q;cases e1:f ρ with
 | stuck=>rw[e1] at q;exact q
 | exn x=>rw[e1] at q;exact q
 | ok d =>
  rw[e1] at q;cases d with
  | bl b =>
   cases b with
   | true=>exact fun H1 H01 g1=>⟨H01,ρ,g1.sub,hr.mono g1.z,zpJ.grow (r:=g ρ) q g1⟩
   | false=>exact fun H1 H01 g1=>q H1 H01 g1
  | _=>exact q.elim
theorem ze8 (ha:DT X E a f)(hb:DW X E (.BoolOp .Or (b::rest) pos) g):DW X E (.BoolOp .Or (a::b::rest) pos) (dOr f g):=by
 refine⟨?_⟩;refine zmU (zAG ha.o hb.o) fun σ H Q ⟨Ha,ρ,hs,hr,q⟩=>⟨Ha,ρ,hs,hr,?_⟩
 unfold dOr at q;cases e1:f ρ with
 | stuck=>rw[e1] at q;exact q
 | exn x=>rw[e1] at q;exact q
 | ok d =>
  rw[e1] at q;cases d with
  | bl b =>
   cases b with
   | false=>exact fun H1 H01 g1=>⟨H01,ρ,g1.sub,hr.mono g1.z,zpJ.grow (r:=g ρ) q g1⟩
   | true=>exact fun H1 H01 g1=>q H1 H01 g1
  | _=>exact q.elim
theorem DW.dt (h:DW X E e f):DT X E e f:=⟨PW.pt h.o⟩
theorem zeK {op}(h:DE X E a f):DE X E (.BoolOp op [a] pos) f:=⟨zAU h.o⟩
theorem zf1 (ha:DE X E a f)(hb:DE X E (.BoolOp .And (b::rest) pos) g):DE X E (.BoolOp .And (a::b::rest) pos) (zlw f g):=by
 refine⟨?_⟩;refine zaK (zAZ ha.o hb.o) fun σ H Q ⟨Ha,ρ,hs,hr,q⟩=>⟨Ha,ρ,hs,hr,?_⟩
 unfold zlw at q;cases e1:f ρ with
 | stuck=>rw[e1] at q;exact q
 | exn x=>rw[e1] at q;exact q
 | ok d =>
  rw[e1] at q;intro v H1 H01 g1 r1;cases d with
  | bl b =>
   rw[zaq.mp r1];cases b with
   | true=>exact⟨true,rfl,H01,ρ,g1.sub,hr.mono g1.z,post.grow (r:=g ρ) q g1⟩
   | false=>exact⟨false,rfl,q (.bl false) H1 H01 g1 (zaq.mpr rfl)⟩
  | _=>exact q.elim
theorem zBM (ha:DE X E a f)(hb:DE X E (.BoolOp .Or (b::rest) pos) g):DE X E (.BoolOp .Or (a::b::rest) pos) (dOr f g):=by
 refine⟨?_⟩;refine zaK (zCO ha.o hb.o) fun σ H Q ⟨Ha,ρ,hs,hr,q⟩=>⟨Ha,ρ,hs,hr,?_⟩
 unfold dOr at q;cases e1:f ρ with
 | stuck=>rw[e1] at q;exact q
 | exn x=>rw[e1] at q;exact q
 | ok d =>
  rw[e1] at q;intro v H1 H01 g1 r1;cases d with
  | bl b =>
   rw[zaq.mp r1];cases b with
   | false=>exact⟨false,rfl,H01,ρ,g1.sub,hr.mono g1.z,post.grow (r:=g ρ) q g1⟩
   | true=>exact⟨true,rfl,q (.bl true) H1 H01 g1 (zaq.mpr rfl)⟩
  | _=>exact q.elim
noncomputable def dIf (c f g:Ev->Res D):Ev->Res D:=fun ρ=>(c ρ).bind fun x=>match x with
 | .bl true=>f ρ
 | .bl false=>g ρ
 | _=>.stuck
theorem zro {c:Expr}{fc:Ev->Res D}(hc:DT X E c fc)(ha:DE X E a f)(hb:DE X E b g):DE X E (.IfExp c a b pos) (dIf fc f g):=by
 refine⟨?_⟩;refine zaK (zwe hc.o ha.o hb.o) fun σ H Q ⟨Ha,ρ,hs,hr,q⟩=>⟨Ha,ρ,hs,hr,?_⟩
 unfold dIf at q;cases e1:fc ρ with
 | stuck=>rw[e1] at q;exact q
 | exn x=>rw[e1] at q;exact q
 | ok d =>
  rw[e1] at q;cases d with
  | bl b =>
   cases b with
   | true=>exact fun H1 H01 g1=>⟨H01,ρ,g1.sub,hr.mono g1.z,post.grow (r:=f ρ) q g1⟩
   | false=>exact fun H1 H01 g1=>⟨H01,ρ,g1.sub,hr.mono g1.z,post.grow (r:=g ρ) q g1⟩
  | _=>exact q.elim
end
noncomputable def zCh (K:W.Frag) (Ha H:Hp) (a:Addr) (d:D):Prop:=match d with
 | .lst ds=>∃ vs,H a=some (.lst vs)/\Reps K Ha ds vs
 | .dic ks ds=>∃ vs,H a=some (.dK ((ks.map Sum.inr).zip vs))/\ks.length=vs.length/\Reps K Ha ds vs
 | _=>False
noncomputable def OXr (K:W.Frag) (He Ha H:Hp) (a:Addr) (j:Nat) (ds:List D) (p:Addr):Prop:=∃ vs es us,He a=none/\H a=some (.tup vs)/\He p=none/\Ha p=none/\ds[j]?=some (.lst es)/\vs[j]?=some (.ref p)/\H p=some (.lst us)/\Reps K Ha es us/\ds.length=vs.length/\∀ k d v,k≠j->ds[k]?=some d->vs[k]?=some v->Rep K Ha d v
noncomputable def OX (K:W.Frag) (He Ha:Hp) (σ:L2.St) (H:Hp) (ρ:Ev):Prop:=(∀ (i j:Nat) (ds:List D),ρ[i]?=some (.ox j ds)->∃ a p,σ[i]?=some (some (.ref a))/\OXr K He Ha H a j ds p/\(∀ (k:Nat) (d:D),ρ[k]?=some (.ow d)->σ[k]?≠some (some (.ref p)))/\∀ (k j':Nat) (ds':List D),ρ[k]?=some (.ox j' ds')->k=i)/\∀ (i:Nat) (a:Addr),ρ[i]?=some (.pt a)->σ[i]?=some (some (.ref a))
theorem OX.upd {K:W.Frag}{He Ha Ha' H H':Hp}{σ σ':L2.St}{ρ ρ':Ev}(h:OX K He Ha σ H ρ)
  (hk:∀ (j:Nat) (s:Sl),ρ'[j]?=some s->(ρ[j]?=some s/\σ'[j]?=σ[j]?)∨(∃ d,s=.sh d)∨s=.no∨∃ d q,s=.ow d/\σ'[j]?=some (some (.ref q))/\∀ (i j:Nat) (ds:List D) (a p:Addr),ρ[i]?=some (.ox j ds)->σ[i]?=some (some (.ref a))->OXr K He Ha H a j ds p->q≠p)
  (hz:zaA Ha Ha')(ht:∀ a vs,He a=none->H a=some (.tup vs)->H' a=some (.tup vs))
  (hl:∀ p us,He p=none->Ha p=none->H p=some (.lst us)->(∀ (k:Nat) (d:D),ρ[k]?=some (.ow d)->σ[k]?≠some (some (.ref p)))->H' p=some (.lst us)/\Ha' p=none):OX K He Ha' σ' H' ρ':=by
 refine⟨fun i j ds e=>?_,fun i a e=>?_⟩
 rotate_left
 .rcases hk i _ e with h1 | ⟨d,h1⟩ | h1 | ⟨d,q,h1,_⟩
  .rw[h1.2];exact h.2 i a h1.1
  .cases h1
  .cases h1
  .cases h1
 have old:ρ[i]?=some (.ox j ds)/\σ'[i]?=σ[i]?:=by
  rcases hk i _ e with h1 | ⟨d,h1⟩ | h1 | ⟨d,q,h1,_⟩
  .exact h1
  .cases h1
  .cases h1
  .cases h1
 obtain⟨a,p,h1,h2,h3,h4⟩:=h.1 i j ds old.1;have h2':=h2;obtain⟨vs,es,us,r1,r2,r3,r4,r5,r6,r7,r8,r9,r10⟩:=h2;obtain⟨l1,l2⟩:=hl p us r3 r4 r7 h3;refine⟨a,p,old.2.trans h1,⟨vs,es,us,r1,ht a vs r1 r2,r3,l2,r5,r6,l1,r8.mono hz,r9,fun k d v hk e1 e2=>(r10 k d v hk e1 e2).mono hz⟩,fun k d ek z=>?_,fun k j' ds' ek=>?_⟩
 .rcases hk k _ ek with h1' | ⟨d',h1'⟩ | h1' | ⟨d',q,h1',h2'',h3'⟩
  .exact h3 k d h1'.1 (by rw[← h1'.2];exact z)
  .cases h1'
  .cases h1'
  .rw[h2''] at z
   cases z;exact h3' i j ds a p old.1 h1 h2' rfl
 .rcases hk k _ ek with h1' | ⟨d',h1'⟩ | h1' | ⟨d',q,h1',_⟩
  .exact h4 k j' ds' h1'.1
  .cases h1'
  .cases h1'
  .cases h1'
theorem OX.none {K:W.Frag}{He Ha H:Hp}{σ:L2.St}{ρ:Ev}(h:∀ (i j:Nat) (ds:List D),ρ[i]?≠some (.ox j ds))(h':∀ (i:Nat) (a:Addr),ρ[i]?=some (.pt a)->σ[i]?=some (some (.ref a))):OX K He Ha σ H ρ:=⟨fun i j ds e=>absurd e (h i j ds),h'⟩
theorem zs1 {K:W.Frag}{H:Hp}:∀ {ds:List D}{vs:List V},ds.length=vs.length->(∀ (k:Nat) (d:D) (v:V),ds[k]?=some d->vs[k]?=some v->Rep K H d v)->Reps K H ds vs
 | [],[],_,_=>Reps.nil
 | d::ds,v::vs,hl,h=>Reps.cons (h 0 d v rfl rfl) (zs1 (by simpa using hl) fun k d' v' e1 e2=>h (k+1) d' v' e1 e2)
structure SRx (K:W.Frag) (He H0e Ha:Hp) (σ:L2.St) (H:Hp) (ρ:Ev):Prop where
 g:zbj He H0e H Ha
 rd:Reads K Ha σ ρ
 ow:∀ (i:Nat) (d:D),ρ[i]?=some (.ow d)->∃ a,σ[i]?=some (some (.ref a))/\He a=none/\Ha a=none/\zCh K Ha H a d
 ap:∀ (i j:Nat) (d d':D),i≠j->ρ[i]?=some (.ow d)->ρ[j]?=some (.ow d')->σ[i]?≠σ[j]?
 ln:ρ.length=σ.length
 ex:OX K He Ha σ H ρ
inductive Fl where
 | nx (ρ:Ev) | rt (d:D) | bk (ρ:Ev) | ct (ρ:Ev)
noncomputable def zbM (K:W.Frag) (E:XK) (He H0e Ha:Hp) (r:Res Fl) (D:zi0):Prop:=match r with
 | .ok (.nx ρ)=>∀ σ H Ha',zaA Ha Ha'->SRx K He H0e Ha' σ H ρ->D.nx σ H
 | .ok (.rt d)=>∀ v H Ha',zbj He H0e H Ha'->Rep K Ha' d v->D.rt v H
 | .ok (.bk ρ)=>∀ σ H Ha',zaA Ha Ha'->SRx K He H0e Ha' σ H ρ->D.bk σ H
 | .ok (.ct ρ)=>∀ σ H Ha',zaA Ha Ha'->SRx K He H0e Ha' σ H ρ->D.ct σ H
 | .exn x=>∀ C ox H Ha',zbj He H0e H Ha'->ExR K Ha' x C ox->E C ox H
 | .stuck=>False
theorem zbM.grow {K:W.Frag}{E:XK}{He H0e Ha Hb:Hp}{r:Res Fl}{D:zi0}(h:zbM K E He H0e Ha r D)(s:zaA Ha Hb):zbM K E He H0e Hb r D:=by
 cases r with
 | ok f =>
  cases f with
  | nx ρ=>exact fun σ H Ha' s'=>h σ H Ha' (s.trans s')
  | rt d=>exact h
  | bk ρ=>exact fun σ H Ha' s'=>h σ H Ha' (s.trans s')
  | ct ρ=>exact fun σ H Ha' s'=>h σ H Ha' (s.trans s')
 | exn x=>exact h
 | stuck=>exact h
noncomputable def tS (K:W.Frag) (E:XK) (He H0e:Hp) (g:Ev->Res Fl):TS:=fun D σ H=>∃ Ha ρ,SRx K He H0e Ha σ H ρ/\zbM K E He H0e Ha (g ρ) D
structure DS (X:Cx) (E:XK) (He H0e:Hp) (st:Stmt) (g:Ev->Res Fl):Prop where
 o:PS X st (tS X.K E He H0e g)
structure DSs (X:Cx) (E:XK) (He H0e:Hp) (st:List Stmt) (g:Ev->Res Fl):Prop where
 o:PSs X st (tS X.K E He H0e g)
def shr (ρ:Ev):Ev:=ρ.map fun s=>match s with
 | .ow d=>.sh d
 | .ox _ ds=>.sh (.tup ds)
 | x=>x
def frz (He Ha H:Hp):Hp:=fun a=>match He a with
 | none=>H a
 | some _=>Ha a
section
variable {K:W.Frag}{E:XK}{He H0e Ha H H1:Hp}{σ:L2.St}{ρ:Ev}
theorem SRx.same (h:SRx K He H0e Ha σ H ρ)(s:zaA H H1):SRx K He H0e Ha σ H1 ρ :=
 ⟨⟨h.g.s.trans s,h.g.z,h.g.sub.trans s,h.g.nw⟩,h.rd,fun i d e=>by
  obtain⟨a,h1,h2,h3,h4⟩:=h.ow i d e;refine⟨a,h1,h2,h3,?_⟩;cases d with
  | lst ds=>obtain⟨vs,h5,h6⟩:=h4;exact⟨vs,s _ _ h5,h6⟩
  | dic ks ds=>obtain⟨vs,h5,hl,h6⟩:=h4;exact⟨vs,s _ _ h5,hl,h6⟩
  | _=>exact h4,h.ap,h.ln,h.ex.upd (fun j s' e=>.inl ⟨e,rfl⟩) (zaA.refl _) (fun a vs _ e=>s _ _ e) fun p us _ h0 hp _=>⟨s _ _ hp,h0⟩⟩
theorem SRx.grow {H01:Hp}(h:SRx K He H0e Ha σ H ρ)(s:zbj H Ha H1 H01):SRx K He H0e H01 σ H1 ρ :=
 ⟨h.g.trans s,h.rd.mono s.z,fun i d e=>by
  obtain⟨a,h1,h2,h3,h4⟩:=h.ow i d e;have ha:H01 a=none:=by
   cases q:H01 a with
   | none=>rfl
   | some o =>
    have:=s.nw a (by rw[q];simp) h3;cases d with
    | lst ds=>obtain⟨vs,h5,_⟩:=h4;rw[h5] at this;cases this
    | dic ks ds=>obtain⟨vs,h5,_⟩:=h4;rw[h5] at this;cases this
    | _=>exact h4.elim
  refine⟨a,h1,h2,ha,?_⟩;cases d with
  | lst ds=>obtain⟨vs,h5,h6⟩:=h4;exact⟨vs,s.s _ _ h5,h6.mono s.z⟩
  | dic ks ds=>obtain⟨vs,h5,hl,h6⟩:=h4;exact⟨vs,s.s _ _ h5,hl,h6.mono s.z⟩
  | _=>exact h4,h.ap,h.ln,h.ex.upd (fun j s' e=>.inl ⟨e,rfl⟩) s.z (fun a vs _ e=>s.s _ _ e) fun p us _ h0 hp _=>⟨s.s _ _ hp,by
   cases q:H01 p with
   | none=>rfl
   | some o=>have:=s.nw p (by rw[q];simp) h0;rw[hp] at this;cases this⟩⟩
theorem SRx.frz_sub (h:SRx K He H0e Ha σ H ρ):zaA Ha (frz He Ha H):=fun b o e=>by
 unfold frz;cases q:He b with
 | none=>exact h.g.sub _ _ e
 | some _=>exact e
theorem SRx.frz_le (h:SRx K He H0e Ha σ H ρ):zaA (frz He Ha H) H:=fun b o e=>by
 unfold frz at e;cases q:He b with
 | none=>rw[q] at e;exact e
 | some _=>rw[q] at e;exact h.g.sub _ _ e
theorem SRx.frz_grow (h:SRx K He H0e Ha σ H ρ):zbj He H0e H (frz He Ha H) :=
 ⟨h.g.s,h.g.z.trans h.frz_sub,h.frz_le,fun a h1 h2=>by
  cases q:He a with
  | none=>rfl
  | some o =>
   unfold frz at h1;rw[q] at h1;have:=h.g.nw a h1 h2;rw[q] at this;cases this⟩
theorem SRx.looks (h:SRx K He H0e Ha σ H ρ):Reads K (frz He Ha H) σ (shr ρ):=fun i d e=>by
 unfold shr at e;rw[List.getElem?_map] at e;cases q:ρ[i]? with
 | none=>rw[q] at e;cases e
 | some s =>
  rw[q] at e;cases s with
  | no=>cases e
  | pt a=>cases e
  | sh d' =>
   cases e;obtain⟨v,h1,h2⟩:=h.rd i d q;exact⟨v,h1,h2.mono h.frz_sub⟩
  | ow d' =>
   cases e;obtain⟨a,h1,h2,h3,h4⟩:=h.ow i d q;refine⟨_,h1,?_⟩;cases d with
   | lst ds =>
    obtain⟨vs,h5,h6⟩:=h4;exact zan.mpr ⟨a,vs,rfl,SqL.of (by unfold frz;rw[h2];exact h5),h6.mono h.frz_sub⟩
   | dic ks ds =>
    obtain⟨vs,h5,hl,h6⟩:=h4;rw[Rep];exact⟨a,_,vs,rfl,.inl (by unfold frz;rw[h2];exact h5),rfl,hl,h6.mono h.frz_sub⟩
   | _=>exact h4.elim
  | ox j ds =>
   cases e;obtain⟨a,p,h1,⟨vs,es,us,r1,r2,r3,r4,r5,r6,r7,r8,r9,r10⟩,_⟩:=h.ex.1 i j ds q;refine⟨_,h1,zau.mpr ⟨a,vs,rfl,SqT.of (by unfold frz;rw[r1];exact r2),zs1 r9 fun k d v e1 e2=>?_⟩⟩
   by_cases hk:k=j
   .subst hk
    rw[r5] at e1;cases e1;rw[r6] at e2;cases e2;exact zan.mpr ⟨p,us,rfl,SqL.of (by unfold frz;rw[r3];exact r7),r8.mono h.frz_sub⟩
   .exact(r10 k d v hk e1 e2).mono h.frz_sub
theorem SRx.put (h:SRx K He H0e Ha σ H ρ){i:Nat}{d:D}{v:V}(r:Rep K Ha d v):SRx K He H0e Ha (σ.set i (some v)) H (ρ.set i (.sh d)):=by
 have key:∀ (j:Nat) (s:Sl),(ρ.set i (.sh d))[j]?=some s->(j=i/\s=.sh d/\i < σ.length)∨(j≠i/\ρ[j]?=some s):=fun j s e=>by
  by_cases hj:i=j
  .subst hj
   rw[List.getElem?_set_self'] at e;cases q:ρ[i]? with
   | none=>rw[q] at e;cases e
   | some s' =>
    rw[q] at e;cases e;refine .inl ⟨rfl,rfl,?_⟩;rw[← h.ln];exact(List.getElem?_eq_some_iff.mp q).1
  .rw[List.getElem?_set_ne hj] at e
   exact .inr ⟨fun z=>hj z.symm,e⟩
 refine⟨h.g,fun j d' e=>?_,fun j d' e=>?_,fun j k d1 d2 hn e1 e2=>?_,by simp [h.ln],h.ex.upd (fun j s e=>?_) (zaA.refl _) (fun a vs _ e=>e) fun p us _ h0 hp _=>⟨hp,h0⟩⟩
 rotate_left 3
 .rcases key j _ e with⟨rfl,e',hl⟩ | ⟨hj,e'⟩
  .exact .inr (.inl ⟨d,e'⟩)
  .exact .inl ⟨e',by rw[List.getElem?_set_ne (Ne.symm hj)]⟩
 .rcases key j _ e with⟨rfl,e',hl⟩ | ⟨hj,e'⟩
  .cases e'
   exact⟨v,by rw[List.getElem?_set_self hl],r⟩
  .obtain⟨v',h1,h2⟩:=h.rd j d' e'
   exact⟨v',by rw[List.getElem?_set_ne (Ne.symm hj)];exact h1,h2⟩
 .rcases key j _ e with⟨rfl,e',hl⟩ | ⟨hj,e'⟩
  .cases e'
  .obtain⟨a,h1,h2⟩:=h.ow j d' e'
   exact⟨a,by rw[List.getElem?_set_ne (Ne.symm hj)];exact h1,h2⟩
 .rcases key j _ e1 with⟨_,e',_⟩ | ⟨hj,e1'⟩
  .cases e'
  rcases key k _ e2 with⟨_,e',_⟩ | ⟨hk,e2'⟩
  .cases e'
  rw[List.getElem?_set_ne (Ne.symm hj),List.getElem?_set_ne (Ne.symm hk)];exact h.ap j k d1 d2 hn e1' e2'
theorem SRx.putOwn (h:SRx K He H0e Ha σ H ρ){i:Nat}{ds:List D}{vs:List V}{p:Addr}(hp:∀ (j:Nat) (a:Addr),σ[j]?=some (some (V.ref a))->a=p->∀ d:D,ρ[j]?≠some (Sl.ow d))(he:He p=none)(h0:Ha p=none)(hv:H p=some (.lst vs))(r:Reps K Ha ds vs)(hx:∀ (i j:Nat) (ds:List D) (a q:Addr),ρ[i]?=some (.ox j ds)->σ[i]?=some (some (.ref a))->OXr K He Ha H a j ds q->p≠q) :
  SRx K He H0e Ha (σ.set i (some (.ref p))) H (ρ.set i (.ow (.lst ds))):=by
 have key:∀ (j:Nat) (s:Sl),(ρ.set i (.ow (.lst ds)))[j]?=some s->(j=i/\s=.ow (.lst ds)/\i < σ.length)∨(j≠i/\ρ[j]?=some s):=fun j s e=>by
  by_cases hj:i=j
  .subst hj
   rw[List.getElem?_set_self'] at e;cases q:ρ[i]? with
   | none=>rw[q] at e;cases e
   | some s' =>
    rw[q] at e;cases e;refine .inl ⟨rfl,rfl,?_⟩;rw[← h.ln];exact(List.getElem?_eq_some_iff.mp q).1
  .rw[List.getElem?_set_ne hj] at e
   exact .inr ⟨fun z=>hj z.symm,e⟩
 have other:∀ (k:Nat) (d2:D),k≠i->ρ[k]?=some (.ow d2)->some (some (V.ref p))≠σ[k]?:=fun k d2 hk e2 z=>by
  obtain⟨a,h1,_⟩:=h.ow k d2 e2;rw[h1] at z;cases z;exact hp k p h1 rfl d2 e2
 refine⟨h.g,fun j d' e=>?_,fun j d' e=>?_,fun j k d1 d2 hn e1 e2=>?_,by simp [h.ln],h.ex.upd (fun j s e=>?_) (zaA.refl _) (fun a vs _ e=>e) fun p us _ h0 hp _=>⟨hp,h0⟩⟩
 rotate_left 3
 .rcases key j _ e with⟨rfl,e',hl⟩ | ⟨hj,e'⟩
  .exact .inr (.inr (.inr ⟨.lst ds,p,e',by rw[List.getElem?_set_self hl],hx⟩))
  .exact .inl ⟨e',by rw[List.getElem?_set_ne (Ne.symm hj)]⟩
 .rcases key j _ e with⟨rfl,e',hl⟩ | ⟨hj,e'⟩
  .cases e'
  .obtain⟨v',h1,h2⟩:=h.rd j d' e'
   exact⟨v',by rw[List.getElem?_set_ne (Ne.symm hj)];exact h1,h2⟩
 .rcases key j _ e with⟨rfl,e',hl⟩ | ⟨hj,e'⟩
  .cases e'
   exact⟨p,by rw[List.getElem?_set_self hl],he,h0,vs,hv,r⟩
  .obtain⟨a,h1,h2⟩:=h.ow j d' e'
   exact⟨a,by rw[List.getElem?_set_ne (Ne.symm hj)];exact h1,h2⟩
 .rcases key j _ e1 with⟨rfl,_,hl⟩ | ⟨hj,e1'⟩
  .rcases key k _ e2 with⟨rfl,_,_⟩ | ⟨hk,e2'⟩
   .exact absurd rfl hn
   .rw[List.getElem?_set_self hl,List.getElem?_set_ne (Ne.symm hk)]
    exact other k d2 hk e2'
  .rcases key k _ e2 with⟨rfl,_,hl⟩ | ⟨hk,e2'⟩
   .rw[List.getElem?_set_self hl,List.getElem?_set_ne (Ne.symm hj)]
    exact fun z=>other j d1 hj e1' z.symm
   .rw[List.getElem?_set_ne (Ne.symm hj),List.getElem?_set_ne (Ne.symm hk)]
    exact h.ap j k d1 d2 hn e1' e2'
theorem SRx.fresh_x {H01:Hp}{p:Addr}(h:SRx K He H0e Ha σ H ρ)(s:zaA H H1)(hp:H p=none):∀ (i j:Nat) (ds:List D) (a q:Addr),ρ[i]?=some (.ox j ds)->σ[i]?=some (some (.ref a))->OXr K He H01 H1 a j ds q->p≠q:=fun i j ds a q x1 x2 x3=>by
 obtain⟨a2,p2,y1,⟨vs2,_,us2,_,z3,_,_,_,z4,z5,_⟩,_⟩:=h.ex.1 i j ds x1;rw[x2] at y1;cases y1;obtain⟨vs1,_,_,_,z1,_,_,_,z2,_⟩:=x3;have:=s _ _ z3;rw[z1] at this;cases this;rw[z2] at z4;cases z4;intro z;subst z;rw[hp] at z5;cases z5
theorem SRx.write (h:SRx K He H0e Ha σ H ρ){i:Nat}{d:D}{p:Addr}{ds:List D}{vs:List V}(e:ρ[i]?=some (.ow d))(es:σ[i]?=some (some (.ref p)))(r:Reps K Ha ds vs) :
  SRx K He H0e Ha σ (upd H p (.lst vs)) (ρ.set i (.ow (.lst ds))):=by
 obtain⟨a,h1,h2,h3,h4⟩:=h.ow i d e;rw[h1] at es;cases es;have hil:i < ρ.length:=(List.getElem?_eq_some_iff.mp e).1;have key:∀ (j:Nat) (s:Sl),(ρ.set i (.ow (.lst ds)))[j]?=some s->(j=i/\s=.ow (.lst ds))∨(j≠i/\ρ[j]?=some s):=fun j s e=>by
  by_cases hj:i=j
  .subst hj
   rw[List.getElem?_set_self hil] at e;cases e;exact .inl ⟨rfl,rfl⟩
  .rw[List.getElem?_set_ne hj] at e
   exact .inr ⟨fun z=>hj z.symm,e⟩
 refine⟨⟨fun b o eb=>?_,h.g.z,fun b o eb=>?_,h.g.nw⟩,fun j d' e'=>?_,fun j d' e'=>?_,fun j k d1 d2 hn e1 e2=>?_,by simp [h.ln],h.ex.upd (fun j s e'=>?_) (zaA.refl _) (fun b us _ eb=>?_) fun q us _ q0 hq hd=>?_⟩
 rotate_left 5
 .rcases key j _ e' with⟨rfl,e''⟩ | ⟨hj,e''⟩
  .exact .inr (.inr (.inr ⟨.lst ds,p,e'',h1,fun i' j' ds' a' p' x1 x2 x3=>by
    obtain⟨a2,p2,y1,y2,y3,_⟩:=h.ex.1 i' j' ds' x1;rw[x2] at y1;cases y1;have:p2=p':=by
     obtain⟨vs1,_,_,_,z1,_,_,_,z2,_⟩:=x3;obtain⟨vs2,_,_,_,z3,_,_,_,z4,_⟩:=y2;rw[z1] at z3;cases z3;rw[z2] at z4;cases z4;rfl
    subst this;intro zz;subst zz;exact y3 j d e h1⟩))
  .exact .inl ⟨e'',rfl⟩
 .rw[zal (by
   intro z;subst z;cases d with
   | lst ds'=>obtain⟨vs',h5,_⟩:=h4;rw[h5] at eb;cases eb
   | dic ks ds'=>obtain⟨vs',h5,_⟩:=h4;rw[h5] at eb;cases eb
   | _=>exact h4)];exact eb
 .have hq':q≠p:=by
   intro z;subst z;exact hd i d e h1
  exact⟨by rw[zal hq'];exact hq,q0⟩
 .rw[zal (by intro z;subst z;rw[h2] at eb;cases eb)];exact h.g.s _ _ eb
 .rw[zal (by intro z;subst z;rw[h3] at eb;cases eb)];exact h.g.sub _ _ eb
 .rcases key j _ e' with⟨rfl,e''⟩ | ⟨hj,e''⟩
  .cases e''
  .exact h.rd j d' e''
 .rcases key j _ e' with⟨rfl,e''⟩ | ⟨hj,e''⟩
  .cases e''
   exact⟨p,h1,h2,h3,vs,zar,r⟩
  .obtain⟨b,k1,k2,k3,k4⟩:=h.ow j d' e''
   refine⟨b,k1,k2,k3,?_⟩;have hb:b≠p:=by
    intro z;subst z;exact h.ap j i d' d hj e'' e (by rw[k1,h1])
   cases d' with
   | lst ds' =>
    obtain⟨vs',h5,h6⟩:=k4;exact⟨vs',by rw[zal hb];exact h5,h6⟩
   | dic ks ds' =>
    obtain⟨vs',h5,hl,h6⟩:=k4;exact⟨vs',by rw[zal hb];exact h5,hl,h6⟩
   | _=>exact k4.elim
 .rcases key j _ e1 with⟨rfl,e1'⟩ | ⟨hj,e1'⟩
  .rcases key k _ e2 with⟨rfl,_⟩ | ⟨hk,e2'⟩
   .exact absurd rfl hn
   .exact h.ap j k d d2 hn e e2'
  .rcases key k _ e2 with⟨rfl,_⟩ | ⟨hk,e2'⟩
   .exact h.ap j k d1 d hn e1' e
   .exact h.ap j k d1 d2 hn e1' e2'
end
mutual
def zpw:D->Bool
 | .lst _=>false
 | .dic _ _=>false
 | .exc _=>false
 | .ob _ _=>false
 | .tup ds=>flats ds
 | _=>true
def flats:List D->Bool
 | []=>true
 | d::ds=>zpw d&&flats ds
end
mutual
theorem Rep.flat_to {K:W.Frag}{H H':Hp}(e:∀ a vs,Rd H a (.tup vs)->Rd H' a (.tup vs)):∀ {d:D}{v:V},zpw d=true->Rep K H d v->Rep K H' d v
 | .non,_,_,h=>by unfold Rep at h ⊢;exact h
 | .bl _,_,_,h=>by unfold Rep at h ⊢;exact h
 | .int _,_,_,h=>by unfold Rep at h ⊢;exact h
 | .str _,_,_,h=>by unfold Rep at h ⊢;exact h
 | .tup ds,_,f,h=>by
  unfold zpw at f;obtain⟨a,vs,e1,e2,e3⟩:=zau.mp h;refine zau.mpr ⟨a,vs,e1,?_,Reps.flat_to e f e3⟩;rcases e2 with e2 | e2
  .exact .inl (e _ _ e2)
  .exact .inr e2
 | .lst ds,_,f,h=>by unfold zpw at f;cases f
 | .dic ks ds,_,f,h=>by unfold zpw at f;cases f
 | .exc x,_,f,h=>by unfold zpw at f;cases f
 | .ob k ds,_,f,h=>by unfold zpw at f;cases f
theorem Reps.flat_to {K:W.Frag}{H H':Hp}(e:∀ a vs,Rd H a (.tup vs)->Rd H' a (.tup vs)):∀ {ds:List D}{vs:List V},flats ds=true->Reps K H ds vs->Reps K H' ds vs
 | [],_,_,h=>by unfold Reps at h ⊢;exact h
 | d::ds,_,f,h=>by
  unfold flats at f;rw[Bool.and_eq_true] at f;obtain⟨v,r,e1,e2,e3⟩:=zap.mp h;exact zap.mpr ⟨v,r,e1,Rep.flat_to e f.1 e2,Reps.flat_to e f.2 e3⟩
end
noncomputable def zmu (Ha J:Hp):Hp:=fun a=>match Ha a with
 | some o=>some o
 | none=>match J a with
  | some (.tup vs)=>some (.tup vs)
  | some (.frz o (.tup vs))=>some (.frz o (.tup vs))
  | _=>none
section
variable {K:W.Frag}{E:XK}{He H0e Ha H H1 J:Hp}{σ:L2.St}{ρ:Ev}
theorem zzG (h:zaA Ha J):∀ a o,zmu Ha J a=some o->J a=some o:=fun a o e=>by
 unfold zmu at e;cases q:Ha a with
 | some u=>rw[q] at e;cases e;exact h _ _ q
 | none =>
  rw[q] at e;cases q2:J a with
  | none=>rw[q2] at e;cases e
  | some u =>
   rw[q2] at e;cases u with
   | tup vs=>cases e;rfl
   | frz o u' =>
    cases u' with
    | tup vs=>cases e;rfl
    | _=>cases e
   | _=>cases e
theorem zzF (h:zaA Ha J)(a:Addr)(vs:List V)(e:Rd J a (.tup vs)):Rd (zmu Ha J) a (.tup vs):=by
 rcases e with e | ⟨o,e⟩
 .refine .inl ?_
  unfold zmu;cases q:Ha a with
  | some u=>have:=h _ _ q;rw[e] at this;cases this;rfl
  | none=>rw[e]
 .refine .inr ⟨o,?_⟩
  unfold zmu;cases q:Ha a with
  | some u=>have:=h _ _ q;rw[e] at this;cases this;rfl
  | none=>rw[e]
theorem SRx.behind (h:SRx K He H0e Ha σ H ρ)(g:zbj H (frz He Ha H) H1 J):SRx K He H0e (zmu Ha J) σ H1 ρ:=by
 have hJ:zaA Ha J:=h.frz_sub.trans g.z;have le:=zzG (Ha:=Ha) (J:=J) hJ;have z:zaA Ha (zmu Ha J):=fun b o e=>by unfold zmu;rw[e]
 refine⟨⟨h.g.s.trans g.s,h.g.z.trans z,fun b o e=>g.sub _ _ (le b o e),fun a h1 h2=>?_⟩,h.rd.mono z,fun i d e=>?_,h.ap,h.ln,h.ex.upd (fun j s e=>.inl ⟨e,rfl⟩) z (fun a vs _ e=>g.s _ _ e) fun p us hp h0 hl _=>⟨g.s _ _ hl,by
  have:frz He Ha H p=some (.lst us):=by unfold frz;rw[hp];exact hl
  have:=g.z _ _ this;unfold zmu;rw[h0,this]⟩⟩
 .cases q:zmu Ha J a with
  | none=>exact absurd q h1
  | some o =>
   have hj:=le a o q;exact(h.frz_grow.trans g).nw a (by rw[hj];simp) h2
 .obtain⟨a,k1,k2,k3,k4⟩:=h.ow i d e
  refine⟨a,k1,k2,?_,?_⟩
  .cases d with
   | lst ds =>
    obtain⟨vs,h5,_⟩:=k4;have:frz He Ha H a=some (.lst vs):=by unfold frz;rw[k2];exact h5
    have:=g.z _ _ this;unfold zmu;rw[k3,this]
   | dic ks ds =>
    obtain⟨vs,h5,_⟩:=k4;have:frz He Ha H a=some (.dK ((ks.map Sum.inr).zip vs)):=by unfold frz;rw[k2];exact h5
    have:=g.z _ _ this;unfold zmu;rw[k3,this]
   | _=>exact k4.elim
  .cases d with
   | lst ds=>obtain⟨vs,h5,h6⟩:=k4;exact⟨vs,g.s _ _ h5,h6.mono z⟩
   | dic ks ds=>obtain⟨vs,h5,hl,h6⟩:=k4;exact⟨vs,g.s _ _ h5,hl,h6.mono z⟩
   | _=>exact k4.elim
end
section
variable {X:Cx}{E:XK}{He H0e:Hp}{st:Stmt}{rest:List Stmt}{e a b:Expr}{es:List Expr}{f g:Ev->Res D}{fa:Ev->Res (List D)}{s t:Ev->Res Fl}{pos:Pos}
theorem za3 {t t':TS}(h:PS X st t)(w:∀ D σ H,t' D σ H->t D σ H):PS X st t':=fun pins s σ H D I q=>h pins s σ H D I (w D σ H q)
theorem zeY {t t':TS}(h:PSs X rest t)(w:∀ D σ H,t' D σ H->t D σ H):PSs X rest t':=fun pins s σ H D I q=>h pins s σ H D I (w D σ H q)
def zao:Ev->Res Fl:=fun ρ=>.ok (.nx ρ)
noncomputable def zaw (s t:Ev->Res Fl):Ev->Res Fl:=fun ρ=>(s ρ).bind fun r=>match r with
 | .nx ρ'=>t ρ'
 | r=>.ok r
theorem zai:DSs X E He H0e [] zao:=⟨zeY zpG fun D σ H ⟨Ha,ρ,h,q⟩=>q σ H Ha (zaA.refl _) h⟩
theorem zac (h1:DS X E He H0e st s)(h2:DSs X E He H0e rest t):DSs X E He H0e (st::rest) (zaw s t):=by
 refine⟨?_⟩;refine zeY (zg6 h1.o h2.o) fun D σ H ⟨Ha,ρ,h,q⟩=>⟨Ha,ρ,h,?_⟩
 unfold zaw at q;cases e1:s ρ with
 | stuck=>rw[e1] at q;exact q
 | exn x=>rw[e1] at q;exact q
 | ok r =>
  rw[e1] at q;cases r with
  | nx ρ'=>exact fun σ' H' Ha' s' h'=>⟨Ha',ρ',h',zbM.grow (r:=t ρ') q s'⟩
  | rt d=>exact q
  | bk ρ'=>exact q
  | ct ρ'=>exact q
def zdh:Ev->Res Fl:=fun _=>.stuck
theorem zcC:DS X E He H0e st zdh:=⟨za3 zv9 fun D σ H ⟨Ha,ρ,h,q⟩=>q⟩
theorem plain {K:W.Frag}{Ha H:Hp}{σ:L2.St}{ρ:Ev}{k:D->Res Fl}{D':zi0}(h:SRx K He H0e Ha σ H ρ){r:Res D}{Q:VK}
  (q:zbM K E He H0e Ha (r.bind k) D')(hk:∀ d v H' Ha',r=.ok d->zbj H Ha H' Ha'->Rep K Ha' d v->zbM K E He H0e Ha' (k d) D'->Q v H'):post K E H Ha r Q:=by
 cases r with
 | stuck=>exact q
 | exn x=>exact fun C ox H' Ha' g ex=>q C ox H' Ha' (h.g.trans g) ex
 | ok d=>exact fun v H' Ha' g rp=>hk d v H' Ha' rfl g rp (zbM.grow (r:=k d) q g.z)
theorem look {K:W.Frag}{Ha H:Hp}{σ:L2.St}{ρ:Ev}{k:D->Res Fl}{D':zi0}(h:SRx K He H0e Ha σ H ρ){r:Res D}{Q:VK}
  (q:zbM K E He H0e Ha (r.bind k) D')(hk:∀ d v H' J,r=.ok d->zbj H (frz He Ha H) H' J->Rep K J d v->zbM K E He H0e Ha (k d) D'->Q v H'):post K E H (frz He Ha H) r Q:=by
 cases r with
 | stuck=>exact q
 | exn x=>exact fun C ox H' Ha' g ex=>q C ox H' Ha' (h.frz_grow.trans g) ex
 | ok d=>exact fun v H' J g rp=>hk d v H' J rfl g rp q
theorem zBd {K:W.Frag}{Ha H:Hp}{σ:L2.St}{ρ:Ev}{k:Bool->Res Fl}{D':zi0}(h:SRx K He H0e Ha σ H ρ){r:Res D}{Q:Bool->Hp->Prop}
  (q:zbM K E He H0e Ha (r.bind fun x=>match x with | .bl b=>k b | _=>.stuck) D')(hk:∀ b H',zaA H H'->zbM K E He H0e Ha (k b) D'->Q b H'):zpJ K E H (frz He Ha H) r Q:=by
 cases r with
 | stuck=>exact q
 | exn x=>exact fun C ox H' Ha' g ex=>q C ox H' Ha' (h.frz_grow.trans g) ex
 | ok d =>
  cases d with
  | bl b=>exact fun H' J g=>hk b H' g.s q
  | _=>exact q.elim
def zb6 (i:Nat)(f:Ev->Res D):Ev->Res Fl:=fun ρ=>(f ρ).bind fun d=>.ok (.nx (ρ.set i (.sh d)))
noncomputable def zCz (i:Nat) (f:Ev->Res D):Ev->Res Fl:=fun ρ=>(f (shr ρ)).bind fun d=>if zpw d=true then .ok (.nx (ρ.set i (.sh d))) else .stuck
def zde (f:Ev->Res D):Ev->Res Fl:=fun ρ=>(f (shr ρ)).bind fun d=>.ok (.rt d)
def zmR (f:Ev->Res D):Ev->Res Fl:=fun ρ=>(f (shr ρ)).bind fun _=>.ok (.nx ρ)
noncomputable def sIf (c:Ev->Res D) (s t:Ev->Res Fl):Ev->Res Fl:=fun ρ=>(c (shr ρ)).bind fun x=>match x with
 | .bl b=>if b=true then s ρ else t ρ
 | _=>.stuck
theorem zaW {i:Nat}{x:Str}{pos':Pos}(hN:X.N.Nodup)(hi:X.N[i]?=some x)(hx:Loc X.env.scope x)(he:DE X E e f)(hs:swapsWith e (some (.Name x pos')) pos.line X.env=pure false:=by rfl)
  (hf:X.fn x=true∨X.env.scope.names.lookup x=some .local := by first | exact .inl rfl | exact .inr rfl | assumption):DS X E He H0e (.Assign [.Name x pos'] e pos) (zb6 i f):=by
 refine⟨?_⟩;refine za3 (zlT hN hi hx he.o hs hf) fun D σ H ⟨Ha,ρ,h,q⟩=>⟨Ha,ρ,h.g.sub,h.rd,?_⟩
 refine plain h q fun d v H' Ha' _ g rp q'=>?_;exact q' _ H' Ha' (zaA.refl _) ((h.grow g).put rp)
theorem zaP (he:DE X E e f):DS X E He H0e (.Return (some e) pos) (zde f):=by
 refine⟨?_⟩;refine za3 (zqz he.o) fun D σ H ⟨Ha,ρ,h,q⟩=>⟨frz He Ha H,shr ρ,h.frz_le,h.looks,?_⟩
 exact look h q fun d v H' J _ g rp q'=>q' v H' J (h.frz_grow.trans g) rp
def zCA:Ev->Res Fl:=fun _=>.ok (.rt .non)
theorem zkP (he:DE X E e f)(hs:swapsWith e none pos.line X.env=pure false:=by rfl):DS X E He H0e (.Expr e pos) (zmR f):=by
 refine⟨?_⟩;refine za3 (zpH he.o hs) fun D σ H ⟨Ha,ρ,h,q⟩=>⟨frz He Ha H,shr ρ,h.frz_le,h.looks,?_⟩
 exact look h q fun d v H' J _ g rp q'=>q' σ H' Ha (zaA.refl _) (h.same g.s)
theorem zcF {c:Expr}{fc:Ev->Res D}{sa sb:List Stmt}(hc:DT X E c fc)(ha:DSs X E He H0e sa s)(hb:DSs X E He H0e sb t):DS X E He H0e (.If c sa sb pos) (sIf fc s t):=by
 refine⟨?_⟩;refine za3 (zAL hc.o ha.o hb.o) fun D σ H ⟨Ha,ρ,h,q⟩=>⟨frz He Ha H,shr ρ,h.frz_le,h.looks,?_⟩
 refine zBd (k:=fun b=>if b=true then s ρ else t ρ) h q fun b H' hs q'=>?_;cases b with
 | true=>rw[if_pos rfl] at q' ⊢;exact⟨Ha,ρ,h.same hs,q'⟩
 | false=>rw[if_neg Bool.false_ne_true] at q' ⊢;exact⟨Ha,ρ,h.same hs,q'⟩
noncomputable def tF (K:W.Frag) (E:XK) (f:Ev->Res D):TE:=fun σ H Q=>∃ Ha ρ,zaA Ha H/\Reads K Ha σ ρ/\match f ρ with
 | .ok (.lst ds)=>∀ p vs H' Ha',zbj H Ha H' Ha'->H p=none->Ha' p=none->H' p=some (.lst vs)->Reps K Ha' ds vs->Q (.ref p) H'
 | .ok _=>False
 | .exn x=>∀ C ox H' Ha',zbj H Ha H' Ha'->ExR K Ha' x C ox->E C ox H'
 | .stuck=>False
structure DF (X:Cx) (E:XK) (e:Expr) (f:Ev->Res D):Prop where
 o:PE X e (tF X.K E f)
noncomputable def zrK (i:Nat) (f:Ev->Res D):Ev->Res Fl:=fun ρ=>(f ρ).bind fun d=>match d with
 | .lst ds=>.ok (.nx (ρ.set i (.ow (.lst ds))))
 | _=>.stuck
theorem zl9 {i:Nat}{x:Str}{pos':Pos}(hN:X.N.Nodup)(hi:X.N[i]?=some x)(hx:Loc X.env.scope x)(he:DF X E e f)(hs:swapsWith e (some (.Name x pos')) pos.line X.env=pure false:=by rfl)
  (hf:X.fn x=true∨X.env.scope.names.lookup x=some .local := by first | exact .inl rfl | exact .inr rfl | assumption):DS X E He H0e (.Assign [.Name x pos'] e pos) (zrK i f):=by
 refine⟨?_⟩;refine za3 (zlT hN hi hx he.o hs hf) fun D σ H ⟨Ha,ρ,h,q⟩=>⟨Ha,ρ,h.g.sub,h.rd,?_⟩
 unfold zrK at q;cases e1:f ρ with
 | stuck=>rw[e1] at q;exact q
 | exn x=>rw[e1] at q;exact fun C ox H' Ha' g ex=>q C ox H' Ha' (h.g.trans g) ex
 | ok d =>
  rw[e1] at q;cases d with
  | lst ds =>
   intro p vs H' Ha' g hp h0 hv rp;refine q _ H' Ha' g.z ((h.grow g).putOwn (fun j a ej ea d ed=>?_) (h.g.s.free hp) h0 hv rp (h.fresh_x g.s hp));subst ea;obtain⟨a',k1,_,_,k4⟩:=h.ow j d ed;rw[ej] at k1;cases k1;cases d with
   | lst ds'=>obtain⟨vs',h5,_⟩:=k4;rw[hp] at h5;cases h5
   | dic ks ds'=>obtain⟨vs',h5,_⟩:=k4;rw[hp] at h5;cases h5
   | _=>exact k4.elim
  | _=>exact q.elim
theorem zo4 (h:DA X E es fa):DF X E (.List es pos) (zam fa zi5):=by
 refine⟨?_⟩;refine zaK (zxg h.o) fun σ H Q h=>?_;obtain⟨Ha,ρ,hs,hr,q⟩:=h;refine⟨Ha,ρ,hs,hr,?_⟩;unfold zam at q;cases e1:fa ρ with
 | stuck=>rw[e1] at q;exact q
 | exn x=>rw[e1] at q;exact q
 | ok ds =>
  rw[e1] at q;intro vs H1 H01 g1 r1;replace q:match zi5 ds with
   | .ok (.lst ds)=>∀ p vs H' Ha',zbj H Ha H' Ha'->H p=none->Ha' p=none->H' p=some (.lst vs)->Reps X.K Ha' ds vs->Q (.ref p) H'
   | .ok _=>False
   | .exn x=>∀ C ox H' Ha',zbj H Ha H' Ha'->ExR X.K Ha' x C ox->E C ox H'
   | .stuck=>False:=q
  unfold zi5 at q
  by_cases hl:ds.length<=line
  .rw[if_pos hl] at q
   refine⟨by rw[← r1.length];exact zcU hl,fun p hp=>?_⟩;have h0:H01 p=none:=g1.sub.free hp;refine q p vs _ H01 (g1.trans ⟨fun b o q=>by rw[zal (zaQ q hp)];exact q,zaA.refl _,fun b o q=>?_,fun a h1 h2=>absurd h2 h1⟩) (g1.s.free hp) h0 zar r1;rw[zal (by intro z;subst z;rw[h0] at q;cases q)];exact g1.sub _ _ q
  .rw[if_neg hl] at q;exact q.elim
noncomputable def zrP (ρ:Ev) (i:Nat) (k:List D->Res Fl):Res Fl:=match ρ[i]? with
 | some (.ow (.lst ds))=>k ds
 | _=>.stuck
noncomputable def zeW (i:Nat) (f:Ev->Res D):Ev->Res Fl:=fun ρ=>zrP ρ i fun ds=>(f ρ).bind fun d=>if ds.length < line then .ok (.nx (ρ.set i (.ow (.lst (ds++[d]))))) else .stuck
noncomputable def zvX (i:Nat) (f:Ev->Res D):Ev->Res Fl:=fun ρ=>zrP ρ i fun ds=>(f (shr ρ)).bind fun d=>if zpw d=true/\ds.length < line then .ok (.nx (ρ.set i (.ow (.lst (ds++[d]))))) else .stuck
theorem zqE {K:W.Frag}{Ha H:Hp}{σ:L2.St}{ρ:Ev}{i:Nat}{k:List D->Res Fl}{D':zi0}(h:SRx K He H0e Ha σ H ρ)(q:zbM K E He H0e Ha (zrP ρ i k) D') :
  ∃ ds p vs,ρ[i]?=some (.ow (.lst ds))/\σ[i]?=some (some (.ref p))/\He p=none/\Ha p=none/\H p=some (.lst vs)/\Reps K Ha ds vs/\zbM K E He H0e Ha (k ds) D':=by
 unfold zrP at q;cases e:ρ[i]? with
 | none=>rw[e] at q;exact q.elim
 | some s =>
  rw[e] at q;cases s with
  | no=>exact q.elim
  | sh d=>exact q.elim
  | ox j ds=>exact q.elim
  | pt a=>exact q.elim
  | ow d =>
   cases d with
   | lst ds =>
    obtain⟨p,h1,h2,h3,vs,h4,h5⟩:=h.ow i _ e;exact⟨ds,p,vs,rfl,h1,h2,h3,h4,h5,q⟩
   | _=>exact q.elim
theorem zkQ {i:Nat}{x:Str}{p1 p2 p3:Pos}(hN:X.N[i]?=some x)(hv:Vis X.env.scope x)(he:DE X E e f)
  (hd:(x==("__debug__" : Str))=false:=by decide)(hcd:(x==("__classdict__" : Str))=false:=by decide)
  (hbase:attributeBase (.Name x p1) "append" X.env (eval (.Name x p1) X.env)=eval (.Name x p1) X.env:=by rfl)
  (hfew:((backTo p3 (starEach [e] X.env)).all (fun x=>!x.1)&&(backToKw p3 (keywordEach [] X.env)).all (fun x=>x.1.isSome)
  &&decide ([e].length+([]:List Keyword).length+(if([]:List Keyword).isEmpty then 0 else 1) < 30))=true:=by exact zm8 rfl)
  (hline:(p2.endLine==p3.line)=true:=by rfl) (hs:starEach [e] X.env=(false,eval e X.env)::starEach [] X.env:=by exact zaX rfl) (hplain:(backTo p3 (starEach [] X.env)).any (·.1)=false:=by exact zbC rfl)
  (hw:swapsWith (.Call (.Attribute (.Name x p1) "append" p2) [e] [] p3) none pos.line X.env=pure false:=by rfl) :
  DS X E He H0e (.Expr (.Call (.Attribute (.Name x p1) "append" p2) [e] [] p3) pos) (zeW i f):=by
 refine⟨?_⟩;refine za3 (zpH (zyE PySem.F.plainAttrs_list PySem.F.slot_list_append PySem.F.type_list_append zjQ (zjF hN hv hd hcd) (zdZ he.o zg7 hs) hbase hfew hline hs hplain) hw) fun D σ H ⟨Ha,ρ,h,q⟩=>?_;obtain⟨ds,p,vs,e1,e2,e3,e4,e5,e6,q⟩:=zqE h q;refine⟨.ref p,e2,.inl ⟨rfl,vs,SqL.of e5⟩,?_⟩;refine⟨Ha,ρ,h.g.sub,h.rd,plain h q fun d v H' Ha' _ g rp q'=>?_⟩
 by_cases hl:ds.length < line
 .rw[if_pos hl] at q'
  have e5':H' p=some (.lst vs):=g.s _ _ e5;refine⟨p,vs,v,rfl,rfl,e5',by rw[← e6.length];exact Nat.lt_of_lt_of_le hl (by decide),?_⟩;exact q' σ _ Ha' (zaA.refl _) ((h.grow g).write e1 e2 ((e6.mono g.z).app (Reps.cons rp Reps.nil)))
 .rw[if_neg hl] at q';exact q'.elim
noncomputable def putAt (ρ:Ev) (i:Nat) (ds:List D) (d:D) (j:D):Res Fl:=match j with
 | .int j=>match ixN ds.length j with
  | some n=>.ok (.nx (ρ.set i (.ow (.lst (ds.set n d)))))
  | none=>.stuck
 | _=>.stuck
noncomputable def zAq (i:Nat) (f k:Ev->Res D):Ev->Res Fl:=fun ρ=>zrP ρ i fun ds=>(f ρ).bind fun d=>(k ρ).bind fun j=>putAt ρ i ds d j
noncomputable def zCB (i:Nat) (f k:Ev->Res D):Ev->Res Fl:=fun ρ=>zrP ρ i fun ds=>(f (shr ρ)).bind fun d=>(k (shr ρ)).bind fun j=>if zpw d=true then putAt ρ i ds d j else .stuck
theorem zv6 {K:W.Frag}{Ha H:Hp}{σ:L2.St}{ρ:Ev}{i:Nat}{D':zi0}{ds:List D}{d j:D}{p:Addr}{vs:List V}{v u:V}(h:SRx K He H0e Ha σ H ρ)(e1:ρ[i]?=some (.ow (.lst ds)))(e2:σ[i]?=some (some (.ref p)))(e5:H p=some (.lst vs))(e6:Reps K Ha ds vs)
  (rp:Rep K Ha d v)(rj:Rep K Ha j u)(q:zbM K E He H0e Ha (putAt ρ i ds d j) D'):zAD (.ref p) u v H fun H'=>D'.nx σ H':=by
 unfold putAt at q;cases j with
 | int n =>
  cases en:ixN ds.length n with
  | none=>simp only[en] at q;exact q.elim
  | some m =>
   simp only[en] at q;refine⟨p,vs,n,m,rfl,zah.mp rj,e5,by rw[← e6.length];exact en,?_⟩;exact q σ _ Ha (zaA.refl _) (h.write e1 e2 (e6.set rp m))
 | _=>exact q.elim
section
variable {i:Nat}{x:Str}{p1 p2:Pos}{k:Ev->Res D}
theorem zBE (hN:X.N[i]?=some x)(hv:Vis X.env.scope x)(he:DE X E e f)(hk:DE X E b k)
  (hd:(x==("__debug__" : Str))=false:=by decide)(hcd:(x==("__classdict__" : Str))=false:=by decide)
  (ha:∀ v,assign (.Subscript (.Name x p1) b p2) X.env v=(do
   let ov ← holding [v] (eval (.Name x p1) X.env)
   let iv ← holding [v,ov] (eval b X.env)
   standAt p2
   holding [v,ov,iv] (setItem ov iv v)
   release [v,ov,iv] []):=by intro _;rfl)
  (hs:swapsWithSole [.Subscript (.Name x p1) b p2] e pos.line X.env=pure false:=by rfl) (hw:swappedStores [.Subscript (.Name x p1) b p2] e X.env=pure none:=by rfl)
  (h1:(assignEach [.Subscript (.Name x p1) b p2] X.env).map (·.2)=[assign (.Subscript (.Name x p1) b p2) X.env]:=by rfl) :
  DS X E He H0e (.Assign [.Subscript (.Name x p1) b p2] e pos) (zAq i f k):=by
 refine⟨?_⟩;refine za3 (zxe he.o (zxf (zjF hN hv hd hcd) hk.o zqs ha) hs hw h1) fun D σ H ⟨Ha,ρ,h,q⟩=>⟨Ha,ρ,h.g.sub,h.rd,?_⟩
 obtain⟨ds,p,vs,e1,e2,e3,e4,e5,e6,q⟩:=zqE h q;refine plain (k:=fun d=>(k ρ).bind fun j=>putAt ρ i ds d j) h q fun d v H1 H01 _ g1 r1 q1=>⟨.ref p,e2,?_⟩
 have h1':=h.grow g1;refine⟨H01,ρ,h1'.g.sub,h1'.rd,plain (k:=fun j=>putAt ρ i ds d j) h1' q1 fun j u H2 H02 _ g2 r2 q2=>?_⟩;exact zv6 (h1'.grow g2) e1 e2 (g2.s _ _ (g1.s _ _ e5)) ((e6.mono g1.z).mono g2.z) (r1.mono g2.z) r2 q2
end
noncomputable def zd2 (tg:Ev->D->Res Ev) (body:Ev->Res Fl):List D->Ev->Res Fl
 | [],ρ=>.ok (.nx ρ)
 | d::r,ρ=>(tg ρ d).bind fun ρ1=>(body ρ1).bind fun x=>match x with
  | .nx ρ2=>zd2 tg body r ρ2
  | .ct ρ2=>zd2 tg body r ρ2
  | .bk ρ2=>.ok (.nx ρ2)
  | .rt d=>.ok (.rt d)
noncomputable def tG (K:W.Frag) (He H0e:Hp) (tg:Ev->D->Res Ev):TG:=fun v σ H Q=>∃ Ha ρ d,SRx K He H0e Ha σ H ρ/\Rep K Ha d v/\match tg ρ d with
  | .ok ρ'=>∀ σ' H' Ha',zaA Ha Ha'->SRx K He H0e Ha' σ' H' ρ'->Q σ' H'
  | _=>False
structure DG (X:Cx) (E:XK) (He H0e:Hp) (target:Expr) (tg:Ev->D->Res Ev):Prop where
 o:PG X target (tG X.K He H0e tg)
def zdN (i:Nat):Ev->D->Res Ev:=fun ρ d=>.ok (ρ.set i (.sh d))
theorem zpL {tgt:Expr}{t t':TG}(h:PG X tgt t)(w:∀ v σ H Q,t' v σ H Q->t v σ H Q):PG X tgt t':=fun pins s σ H v u Q I r q=>h pins s σ H v u Q I r (w v σ H Q q)
theorem zb3 {i:Nat}{x:Str}(hN:X.N.Nodup)(hi:X.N[i]?=some x)(hx:Loc X.env.scope x)(hf:X.fn x=true∨X.env.scope.names.lookup x=some .local := by first | exact .inl rfl | exact .inr rfl | assumption):DG X E He H0e (.Name x pos) (zdN i) :=
 ⟨zpL (zte hN hi hx hf) fun v σ H Q ⟨Ha,ρ,d,h,rp,q⟩=>q _ H Ha (zaA.refl _) (h.put rp)⟩
noncomputable def zgn (K:W.Frag) (E:XK) (He H0e Hb:Hp) (tg:Ev->D->Res Ev) (s:Ev->Res Fl) (ds:List D) (D':zi0) (i:Nat) (σ:L2.St) (H:Hp):Prop :=
 ∃ Ha ρ,zaA Hb Ha/\SRx K He H0e Ha σ H ρ/\zbM K E He H0e Ha (zd2 tg s (ds.drop i) ρ) D'
theorem zgn.step {K:W.Frag}{Hb:Hp}{tg:Ev->D->Res Ev}{ds:List D}{D':zi0}{i:Nat}{σ:L2.St}{H:Hp}{d:D}{v:V}(h:zgn K E He H0e Hb tg s ds D' i σ H)(hd:ds[i]?=some d)(rv:Rep K Hb d v)
  (he:∀ ρ,tg ρ d=.stuck∨∃ ρ',tg ρ d=.ok ρ') :
  tG K He H0e tg v σ H fun σ2 H2=>tS K E He H0e s { D' with nx:=zgn K E He H0e Hb tg s ds D' (i+1),ct:=zgn K E He H0e Hb tg s ds D' (i+1),bk:=D'.nx } σ2 H2:=by
 obtain⟨Ha,ρ,z,h,q⟩:=h;have hi:i < ds.length:=(List.getElem?_eq_some_iff.mp hd).1;have hdr:ds.drop i=d::ds.drop (i+1):=by
  rw[List.drop_eq_getElem_cons hi];rw[List.getElem?_eq_getElem hi] at hd;cases hd;rfl
 rw[hdr] at q;refine⟨Ha,ρ,d,h,rv.mono z,?_⟩;unfold zd2 at q;rcases he ρ with e1 | ⟨ρ1,e1⟩
 .rw[e1] at q;exact q.elim
 .rw[e1] at q ⊢
  intro σ' H' Ha' z' h';refine⟨Ha',ρ1,h',?_⟩;replace q:=zbM.grow (r:=(s ρ1).bind fun x=>match x with
   | .nx ρ2=>zd2 tg s (ds.drop (i+1)) ρ2
   | .ct ρ2=>zd2 tg s (ds.drop (i+1)) ρ2
   | .bk ρ2=>.ok (.nx ρ2)
   | .rt d=>.ok (.rt d)) q z'
  cases e2:s ρ1 with
  | stuck=>rw[e2] at q;exact q
  | exn x=>rw[e2] at q;exact q
  | ok r =>
   rw[e2] at q;cases r with
   | nx ρ2=>exact fun σ3 H3 H03 z3 h3=>⟨H03,ρ2,(z.trans z').trans z3,h3,zbM.grow (r:=zd2 tg s (ds.drop (i+1)) ρ2) q z3⟩
   | ct ρ2=>exact fun σ3 H3 H03 z3 h3=>⟨H03,ρ2,(z.trans z').trans z3,h3,zbM.grow (r:=zd2 tg s (ds.drop (i+1)) ρ2) q z3⟩
   | bk ρ2=>exact q
   | rt d=>exact q
theorem zgn.done {K:W.Frag}{Hb:Hp}{tg:Ev->D->Res Ev}{ds:List D}{D':zi0}{σ:L2.St}{H:Hp}(h:zgn K E He H0e Hb tg s ds D' ds.length σ H):D'.nx σ H:=by
 obtain⟨Ha,ρ,z,h,q⟩:=h;rw[List.drop_length] at q;unfold zd2 at q;exact q σ H Ha (zaA.refl _) h
def zsr (tg:Ev->D->Res Ev):Prop:=∀ ρ d,tg ρ d=.stuck∨∃ ρ',tg ρ d=.ok ρ'
theorem zcQ {i:Nat}:zsr (zdN i):=fun ρ d=>.inr ⟨_,rfl⟩
noncomputable def zpF (f:Ev->Res D) (tg:Ev->D->Res Ev) (s:Ev->Res Fl):Ev->Res Fl:=fun ρ=>(f ρ).bind fun d=>match d with
 | .lst ds=>zd2 tg s ds ρ
 | _=>.stuck
theorem zma {tgt iter:Expr}{body:List Stmt}{tg:Ev->D->Res Ev}(hp:PassesOwn (model X.prog X.w) X.A X.env X.xe)(hc:X.calm=true)(hi:DE X E iter f)(hg:DG X E He H0e tgt tg)(ht:zsr tg)(hb:DSs X E He H0e body s)
  (hs:∀ x,foldedSetIterable iter X.env x=pure x:=by intro _;rfl):DS X E He H0e (.For tgt iter body [] pos) (zpF f tg s):=by
 refine⟨?_⟩;refine za3 (zqA hp hc (ztd hi.o) hg.o hb.o hs) fun D' σ H ⟨Ha,ρ,h,q⟩=>⟨Ha,ρ,h.g.sub,h.rd,?_⟩
 refine plain h q fun d v H1 H01 _ g rp q1=>?_;cases d with
 | lst ds =>
  obtain⟨a,vs,rfl,hv,hr⟩:=zan.mp rp;refine⟨a,rfl,⟨vs,zaA.sqL g.sub hv⟩,?_⟩;refine zwA (K:=X.K) (a:=a) (g:=tG X.K He H0e tg) (tb:=tS X.K E He H0e s) (D:=D') (xs:=vs) (zgn X.K E He H0e H01 tg s ds D') ⟨H01,ρ,zaA.refl _,h.grow g,q1⟩ ?_ ?_ ?_
  .rintro i σ' H' _ ⟨Ha',ρ',z,h',_⟩
   exact zaA.sqL (z.trans h'.g.sub) hv
  .intro i x σ' H' hx hI
   have hil:i < ds.length:=by rw[hr.length];exact(List.getElem?_eq_some_iff.mp hx).1
   obtain⟨u,e1,e2⟩:=hr.get (List.getElem?_eq_getElem hil);rw[hx] at e1;cases e1;exact hI.step (List.getElem?_eq_getElem hil) e2 fun ρ=>ht ρ _
  .intro σ' H' hI
   rw[← hr.length] at hI;exact hI.done
 | _=>exact q1.elim
def intsFrom (lo:Int)(n:Nat):List D:=(List.range n).map fun(k:Nat)=>D.int (lo+(k:Int))
noncomputable def zvW (f:Ev->Res D) (tg:Ev->D->Res Ev) (s:Ev->Res Fl):Ev->Res Fl:=fun ρ=>(f (shr ρ)).bind fun d=>match d with
 | .int j=>if -4611686018427387904<=j/\j < 4611686018427387904 then zd2 tg s (intsFrom 0 j.toNat) ρ else .stuck
 | _=>.stuck
theorem zuZ {tgt iter:Expr}{p pos2:Pos}{body:List Stmt}{tg:Ev->D->Res Ev}(hp:PassesOwn (model X.prog X.w) X.A X.env X.xe)(hc:X.calm=true)(hgl:Gl X "range")(hm:X.mg "range"=none)(hi:DE X E iter f)(hg:DG X E He H0e tgt tg)(ht:zsr tg)(hb:DSs X E He H0e body s)
  (hst:starEach [iter] X.env=[(false,eval iter X.env)]:=by exact zeP rfl)(hs:∀ x,foldedSetIterable (.Call (.Name "range" p) [iter] [] pos2) X.env x=pure x:=by intro _;rfl):DS X E He H0e (.For tgt (.Call (.Name "range" p) [iter] [] pos2) body [] pos) (zvW f tg s):=by
 refine⟨?_⟩;refine za3 (zqA hp hc (zjE hgl hm (zdZ hi.o zg7 hst) hst) hg.o hb.o hs) fun D' σ H ⟨Ha,ρ,h,q⟩=>?_;refine⟨frz He Ha H,shr ρ,h.frz_le,h.looks,look h q fun d v H1 J _ g rp q1=>?_⟩;cases d with
 | int j =>
  rw[zah.mp rp];replace q1:zbM X.K E He H0e Ha (if -4611686018427387904<=j/\j < 4611686018427387904 then zd2 tg s (intsFrom 0 j.toNat) ρ else .stuck) D':=q1
  by_cases hj:-4611686018427387904<=j/\j < 4611686018427387904
  .rw[if_pos hj] at q1
   refine⟨j,rfl,by omega,by omega,?_⟩;have hlen:(intsFrom 0 j.toNat).length=j.toNat:=by unfold intsFrom;simp
   refine ztY (lo:=0) (n:=j.toNat) (g:=tG X.K He H0e tg) (tb:=tS X.K E He H0e s) (D:=D') (zgn X.K E He H0e Ha tg s (intsFrom 0 j.toNat) D') ⟨Ha,ρ,zaA.refl _,h.same g.s,q1⟩ ?_ ?_
   .intro i σ' H' hlt hI
    refine hI.step (d:=.int (0+i)) ?_ (zah.mpr rfl) fun ρ=>ht ρ _;unfold intsFrom;simp [hlt]
   .intro σ' H' hI
    exact zgn.done (ds:=intsFrom 0 j.toNat) (by rw[hlen];exact hI)
  .rw[if_neg hj] at q1;exact q1.elim
 | _=>exact q1.elim
noncomputable def zbT (c:Ev->Res D) (s:Ev->Res Fl):Nat->Ev->Res Fl
 | 0,_=>.stuck
 | n+1,ρ=>(c (shr ρ)).bind fun x=>match x with
  | .bl b=>if b=true then(s ρ).bind fun x=>match x with
    | .nx ρ2=>zbT c s n ρ2
    | .ct ρ2=>zbT c s n ρ2
    | .bk ρ2=>.ok (.nx ρ2)
    | .rt d=>.ok (.rt d)
   else .ok (.nx ρ)
  | _=>.stuck
def zg5 (fuel:Ev->Nat)(c:Ev->Res D)(s:Ev->Res Fl):Ev->Res Fl:=fun ρ=>zbT c s (fuel ρ) ρ
theorem zno (fuel:Ev->Nat){c:Expr}{body:List Stmt}{fc:Ev->Res D}(hp:PassesOwn (model X.prog X.w) X.A X.env X.xe)(hc:DT X E c fc)(hb:DSs X E He H0e body s):DS X E He H0e (.While c body [] pos) (zg5 fuel fc s):=by
 refine⟨?_⟩;refine za3 (zv8 hp hc.o hb.o) fun D' σ H ⟨Ha,ρ,h,q⟩=>?_;refine⟨fun m σ H=>∃ Ha ρ,SRx X.K He H0e Ha σ H ρ/\zbM X.K E He H0e Ha (zbT fc s m ρ) D',⟨fuel ρ,Ha,ρ,h,q⟩,?_⟩;rintro m σ1 H1 ⟨H01,ρ1,h1,q1⟩;cases m with
 | zero=>exact q1.elim
 | succ m =>
  refine⟨frz He H01 H1,shr ρ1,h1.frz_le,h1.looks,?_⟩;unfold zbT at q1;refine zBd (k:=fun b=>if b=true then(s ρ1).bind fun x=>match x with
    | .nx ρ2=>zbT fc s m ρ2
    | .ct ρ2=>zbT fc s m ρ2
    | .bk ρ2=>.ok (.nx ρ2)
    | .rt d=>.ok (.rt d)
   else .ok (.nx ρ1)) h1 q1 fun b H2 hs q2=>?_
  cases b with
  | false =>
   rw[if_neg Bool.false_ne_true] at q2 ⊢;exact q2 σ1 H2 H01 (zaA.refl _) (h1.same hs)
  | true =>
   rw[if_pos rfl] at q2 ⊢;refine⟨fun σ' H'=>∃ m',m' < m+1/\∃ Ha ρ,SRx X.K He H0e Ha σ' H' ρ/\zbM X.K E He H0e Ha (zbT fc s m' ρ) D',fun σ' H' z=>z,H01,ρ1,h1.same hs,?_⟩;cases e2:s ρ1 with
   | stuck=>rw[e2] at q2;exact q2
   | exn x=>rw[e2] at q2;exact q2
   | ok r =>
    rw[e2] at q2;cases r with
    | nx ρ2=>exact fun σ3 H3 H03 z3 h3=>⟨m,Nat.lt_succ_self _,H03,ρ2,h3,zbM.grow (r:=zbT fc s m ρ2) q2 z3⟩
    | ct ρ2=>exact fun σ3 H3 H03 z3 h3=>⟨m,Nat.lt_succ_self _,H03,ρ2,h3,zbM.grow (r:=zbT fc s m ρ2) q2 z3⟩
    | bk ρ2=>exact q2
    | rt d=>exact q2
end
noncomputable def zdY (n:Nat) (s:Ev->Res Fl) (ds:List D):Res D:=(s (ds.map Sl.sh++List.replicate (n-ds.length) .no)).bind fun r=>match r with
 | .nx _=>.ok .non
 | .rt d=>.ok d
 | _=>.stuck
theorem zjr {K:W.Frag}{Ha:Hp}{N:List Str}{ds:List D}{vs:List V}(h:Reps K Ha ds vs):Reads K Ha (start N vs) (ds.map Sl.sh++List.replicate (N.length-ds.length) .no):=by
 intro i d e;have hl:=h.length
 by_cases hi:i < ds.length
 .rw[List.getElem?_append_left (by simpa using hi),List.getElem?_map] at e
  cases q:ds[i]? with
  | none=>rw[q] at e;cases e
  | some d' =>
   rw[q] at e;cases e;obtain⟨v,h1,h2⟩:=h.get q;refine⟨v,?_,h2⟩;unfold L2.start;rw[List.getElem?_append_left (by simp;omega),List.getElem?_map,h1];rfl
 .rw[List.getElem?_append_right (by simpa using hi),List.getElem?_replicate] at e
  split at e<;>cases e
theorem znM {ds:List D}{n:Nat}(i j:Nat)(es:List D):(ds.map Sl.sh++List.replicate n Sl.no)[i]?≠some (.ox j es):=fun e=>by
 have:=List.mem_of_getElem? e;rw[List.mem_append] at this;rcases this with h | h
 .obtain⟨_,_,h⟩:=List.mem_map.mp h;cases h
 .have:=List.eq_of_mem_replicate h;cases this
theorem zlN {ds:List D}{n:Nat}{σ:L2.St}(i:Nat)(a:Addr)(e:(ds.map Sl.sh++List.replicate n Sl.no)[i]?=some (.pt a)):σ[i]?=some (some (.ref a)):=by
 have:=List.mem_of_getElem? e;rw[List.mem_append] at this;rcases this with h | h
 .obtain⟨_,_,h⟩:=List.mem_map.mp h;cases h
 .have:=List.eq_of_mem_replicate h;cases this
theorem zay {P:Program}{w:World}{K:W.Frag}{mg:Str->Option Value}{base:Heap}{x qual:Str}{st:Stmt}{f:Addr}{fd:FuncData}{N ps:List Str}{k:Nat}{s:Ev->Res Fl}(F:Fun K x qual st f fd)(S:zaB N ps (defScope st))
  (hbody:∀ (cdv:Value) (A:Around) (outer:List PySem.Env) (s0:Shared) (H Ha:Hp) (E:XK),zgm k (A.deeper (envOfC qual (defScope st) s0.heap.objs.size f cdv)) ->
   DSs (zwS CX0 P w K mg base N qual (defScope st) f cdv A outer s0 H E).nox E H Ha (defBody st) s):zcz P w K mg base CX0 (k+1) f fd ps (spD K ps.length (zdY N.length s)):=by
 have hpl:ps.length<=N.length:=by have:=congrArg List.length S.pre;rw[List.length_take] at this;omega
 refine F.ok S (fun vs H Q E h=>h.1) fun cdv A outer s0 H vs Q E hr h=>?_;obtain⟨hn,Ha,ds,hs,hv,q⟩:=h;refine⟨_,(hbody cdv A outer s0 H Ha E hr).o,Ha,ds.map Sl.sh++List.replicate (N.length-ds.length) .no,?_,?_⟩
 .refine⟨zbj.refl hs,zjr hv,fun i d e=>?_,fun i j d d' hij e=>?_,?_,OX.none znM zlN⟩
  .by_cases hi:i < ds.length
   .rw[List.getElem?_append_left (by simpa using hi),List.getElem?_map] at e
    cases q:ds[i]? with
    | none=>rw[q] at e;cases e
    | some d'=>rw[q] at e;cases e
   .rw[List.getElem?_append_right (by simpa using hi),List.getElem?_replicate] at e
    split at e<;>cases e
  .by_cases hi:i < ds.length
   .rw[List.getElem?_append_left (by simpa using hi),List.getElem?_map] at e
    cases q:ds[i]? with
    | none=>rw[q] at e;cases e
    | some d'=>rw[q] at e;cases e
   .rw[List.getElem?_append_right (by simpa using hi),List.getElem?_replicate] at e
    split at e<;>cases e
  .unfold L2.start
   have:=hv.length;simp only[List.length_append,List.length_map,List.length_replicate];omega
 .unfold zdY at q
  cases e1:s (ds.map Sl.sh++List.replicate (N.length-ds.length) .no) with
  | stuck=>rw[e1] at q;exact q
  | exn x=>rw[e1] at q;exact q
  | ok r =>
   rw[e1] at q;cases r with
   | nx ρ'=>exact fun σ' H' Ha' _ h'=>q .non H' Ha' h'.g (zaD.mpr rfl)
   | rt d=>exact fun v H' Ha' g rp=>q v H' Ha' g rp
   | bk ρ'=>exact q.elim
   | ct ρ'=>exact q.elim
mutual
def eqD:D->D->Bool
 | .non,.non=>true
 | .bl a,.bl b=>a==b
 | .bl a,.int b=>(if a then 1 else 0)==b
 | .int a,.bl b=>a==(if b then 1 else 0)
 | .int a,.int b=>a==b
 | .str a,.str b=>a==b
 | .tup xs,.tup ys=>eqDs xs ys
 | .lst xs,.lst ys=>eqDs xs ys
 | _,_=>false
def eqDs:List D->List D->Bool
 | [],[]=>true
 | x::xs,y::ys=>eqD x y&&eqDs xs ys
 | _,_=>false
end
noncomputable def zbo:Nat->D->Bool
 | _,.non=>true
 | _,.bl _=>true
 | _,.int _=>true
 | _,.str _=>true
 | n+1,.tup ds=>ds.all (zbo n)
 | n+1,.lst ds=>ds.all (zbo n)
 | _,_=>false
theorem zo1 {ds:List D}(h:∀ d∈ds,eqD d d=true):eqDs ds ds=true:=by
 induction ds with
 | nil=>simp [eqDs]
 | cons d r ih =>
  unfold eqDs;rw[h d List.mem_cons_self,ih fun x hx=>h x (List.mem_cons_of_mem _ hx)];rfl
theorem zhv:∀ (n:Nat) (d:D),zbo n d=true->eqD d d=true
 | _,.non,_=>by simp [eqD]
 | _,.bl b,_=>by simp [eqD]
 | _,.int b,_=>by simp [eqD]
 | _,.str b,_=>by simp [eqD]
 | n+1,.tup ds,h=>by
  unfold zbo at h;unfold eqD;exact zo1 fun d hd=>zhv n d (List.all_eq_true.mp h d hd)
 | n+1,.lst ds,h=>by
  unfold zbo at h;unfold eqD;exact zo1 fun d hd=>zhv n d (List.all_eq_true.mp h d hd)
 | 0,.tup ds,h=>by unfold zbo at h;cases h
 | 0,.lst ds,h=>by unfold zbo at h;cases h
 | 0,.dic ks ds,h=>by unfold zbo at h;cases h
 | n+1,.dic ks ds,h=>by unfold zbo at h;cases h
 | 0,.exc x,h=>by unfold zbo at h;cases h
 | 0,.ob k x,h=>by unfold zbo at h;cases h
 | n+1,.ob k x,h=>by unfold zbo at h;cases h
 | n+1,.exc x,h=>by unfold zbo at h;cases h
theorem zze {xs ys:List D}:eqD (.tup xs) (.tup ys)=eqDs xs ys:=by rw[eqD]
theorem zur {xs ys:List D}:eqD (.lst xs) (.lst ys)=eqDs xs ys:=by rw[eqD]
theorem zil:∀ (xs ys:List D),xs.length=ys.length->eqDs xs ys=(List.range xs.length).all fun j=>eqD (xs.getD j .non) (ys.getD j .non)
 | [],[],_=>by simp [eqDs]
 | x::xs,y::ys,h=>by
  have ih:=zil xs ys (by simpa using h);unfold eqDs;rw[ih,List.length_cons,List.range_succ_eq_map,List.all_cons,List.all_map];rfl
 | [],_::_,h=>by simp at h
 | _::_,[],h=>by simp at h
theorem znl:∀ (xs ys:List D),xs.length≠ys.length->eqDs xs ys=false
 | [],[],h=>absurd rfl h
 | x::xs,y::ys,h=>by
  unfold eqDs;rw[znl xs ys (by simpa using h),Bool.and_false]
 | [],_::_,h=>by simp [eqDs]
 | _::_,[],h=>by simp [eqDs]
section
variable {X:Cx}{pins:List (Addr×Obj)}{σ:L2.St}{H:Hp}{s:Shared}
theorem zaJ (I:Inv X pins σ H s){ds:List D}{v:V}{u:Value}(r:Rep X.K H (.tup ds) v)(rv:zbw v u):∃ a vs its,v=.ref a/\u=.ref a/\SqT X.K H a vs/\Reps X.K H ds vs/\zbO vs its/\IsTup s.heap a its.toArray/\ds.length=its.length:=by
 obtain⟨a,vs,rfl,h1,h2⟩:=zau.mp r;obtain rfl:u=Value.ref a:=rv;obtain⟨its,h3,h4,_⟩:=I.tuple h1;exact⟨a,vs,its,rfl,rfl,h1,h2,h3,h4,h2.length.trans h3.length⟩
theorem zaG (I:Inv X pins σ H s){ds:List D}{v:V}{u:Value}(r:Rep X.K H (.lst ds) v)(rv:zbw v u):∃ a vs its,v=.ref a/\u=.ref a/\SqL X.K H a vs/\Reps X.K H ds vs/\zbO vs its/\s.heap.IsList a its.toArray/\ds.length=its.length:=by
 obtain⟨a,vs,rfl,h1,h2⟩:=zan.mp r;obtain rfl:u=Value.ref a:=rv;obtain⟨its,h3,h4,_⟩:=I.list h1;exact⟨a,vs,its,rfl,rfl,h1,h2,h3,h4.isList,h2.length.trans h3.length⟩
theorem zmT {n:Nat}(ih:∀ (d d':D) (v:V),zbo n d=true->zbo n d'=true->Rep X.K H d v->Rep X.K H d' v->d=d'):∀ (ds ds':List D) (vs:List V),ds.all (zbo n)=true->ds'.all (zbo n)=true->Reps X.K H ds vs->Reps X.K H ds' vs->ds=ds'
 | [],ds',vs,_,_,h,h'=>by
  rw[Reps.nil_iff.mp h] at h';cases ds' with
  | nil=>rfl
  | cons d r=>obtain⟨_,_,e,_⟩:=zap.mp h';cases e
 | d::ds,ds',vs,a,a',h,h'=>by
  obtain⟨v,r,rfl,h1,h2⟩:=zap.mp h;cases ds' with
  | nil=>cases Reps.nil_iff.mp h'
  | cons d' ds' =>
   obtain⟨v',r',e,h1',h2'⟩:=zap.mp h';cases e;rw[List.all_cons,Bool.and_eq_true] at a a';rw[ih d d' v a.1 a'.1 h1 h1',zmT ih ds ds' r a.2 a'.2 h2 h2']
theorem Rep.inj (I:Inv X pins σ H s):∀ (n:Nat) (d d':D) (v:V),zbo n d=true->zbo n d'=true->Rep X.K H d v->Rep X.K H d' v->d=d':=by
 have atom:∀ (n:Nat) (d d':D) (v:V),(∀ ds,d≠.tup ds)->(∀ ds,d≠.lst ds)->zbo n d=true->zbo n d'=true->Rep X.K H d v->Rep X.K H d' v->d=d':=by
  intro n d d' v n1 n2 s1 s2 h h';have nd:∀ m ks ds,zbo m (.dic ks ds)=true->False:=fun m ks ds h=>by cases m<;>(unfold zbo at h;cases h)
  have nx:∀ m x,zbo m (.exc x)=true->False:=fun m x h=>by cases m<;>(unfold zbo at h;cases h)
  have nb:∀ m k x,zbo m (.ob k x)=true->False:=fun m k x h=>by cases m<;>(unfold zbo at h;cases h)
  cases d with
  | tup ds=>exact absurd rfl (n1 ds)
  | lst ds=>exact absurd rfl (n2 ds)
  | dic ks ds=>exact(nd _ _ _ s1).elim
  | exc x=>exact(nx _ _ s1).elim
  | ob k x=>exact(nb _ _ _ s1).elim
  | non =>
   rw[zaD.mp h] at h';cases d' with
   | non=>rfl
   | bl b=>cases zaq.mp h'
   | int b=>cases zah.mp h'
   | str b=>cases Rep.str_iff.mp h'
   | tup ds=>obtain⟨_,_,e,_⟩:=zau.mp h';cases e
   | lst ds=>obtain⟨_,_,e,_⟩:=zan.mp h';cases e
   | dic ks ds=>exact(nd _ _ _ s2).elim
   | exc x=>exact(nx _ _ s2).elim
   | ob k x=>exact(nb _ _ _ s2).elim
  | bl x =>
   rw[zaq.mp h] at h';cases d' with
   | non=>cases zaD.mp h'
   | bl b=>cases zaq.mp h';rfl
   | int b=>cases zah.mp h'
   | str b=>cases Rep.str_iff.mp h'
   | tup ds=>obtain⟨_,_,e,_⟩:=zau.mp h';cases e
   | lst ds=>obtain⟨_,_,e,_⟩:=zan.mp h';cases e
   | dic ks ds=>exact(nd _ _ _ s2).elim
   | exc x=>exact(nx _ _ s2).elim
   | ob k x=>exact(nb _ _ _ s2).elim
  | int x =>
   rw[zah.mp h] at h';cases d' with
   | non=>cases zaD.mp h'
   | bl b=>cases zaq.mp h'
   | int b=>cases zah.mp h';rfl
   | str b=>cases Rep.str_iff.mp h'
   | tup ds=>obtain⟨_,_,e,_⟩:=zau.mp h';cases e
   | lst ds=>obtain⟨_,_,e,_⟩:=zan.mp h';cases e
   | dic ks ds=>exact(nd _ _ _ s2).elim
   | exc x=>exact(nx _ _ s2).elim
   | ob k x=>exact(nb _ _ _ s2).elim
  | str x =>
   rw[Rep.str_iff.mp h] at h';cases d' with
   | non=>cases zaD.mp h'
   | bl b=>cases zaq.mp h'
   | int b=>cases zah.mp h'
   | str b=>cases Rep.str_iff.mp h';rfl
   | tup ds=>obtain⟨_,_,e,_⟩:=zau.mp h';cases e
   | lst ds=>obtain⟨_,_,e,_⟩:=zan.mp h';cases e
   | dic ks ds=>exact(nd _ _ _ s2).elim
   | exc x=>exact(nx _ _ s2).elim
   | ob k x=>exact(nb _ _ _ s2).elim
 intro n
 induction n with
 | zero =>
  intro d d' v s1 s2 h h';exact atom 0 d d' v (fun ds e=>by subst e;unfold zbo at s1;cases s1) (fun ds e=>by subst e;unfold zbo at s1;cases s1) s1 s2 h h'
 | succ n ih =>
  intro d d' v s1 s2 h h'
  by_cases t1:∃ ds,d=.tup ds
  .obtain⟨ds,rfl⟩:=t1
   by_cases t2:∃ ds',d'=.tup ds'
   .obtain⟨ds',rfl⟩:=t2
    obtain⟨a,vs,rfl,h1,h2⟩:=zau.mp h;obtain⟨a',vs',e,h1',h2'⟩:=zau.mp h';cases e;rw[I.tuple_inj h1' h1] at h2';unfold zbo at s1 s2;rw[zmT ih ds ds' vs s1 s2 h2 h2']
   .by_cases t3:∃ ds',d'=.lst ds'
    .obtain⟨ds',rfl⟩:=t3
     obtain⟨a0,_,ev,_,_⟩:=zau.mp h;subst ev;obtain⟨a,vs,its,ea,_,h1,h2,h3,h4,_⟩:=zaJ I h rfl;cases ea;obtain⟨a',vs',its',e,_,h1',h2',h3',h4',_⟩:=zaG I h' rfl;cases e;exact absurd rfl (SeqAt.ne_of_list_tuple h4' h4)
    .exact(atom (n+1) d' _ v (fun ds e=>t2 ⟨ds,e⟩) (fun ds e=>t3 ⟨ds,e⟩) s2 s1 h' h).symm
  .by_cases t1':∃ ds,d=.lst ds
   .obtain⟨ds,rfl⟩:=t1'
    by_cases t2:∃ ds',d'=.lst ds'
    .obtain⟨ds',rfl⟩:=t2
     obtain⟨a,vs,rfl,h1,h2⟩:=zan.mp h;obtain⟨a',vs',e,h1',h2'⟩:=zan.mp h';cases e;rw[I.list_inj h1' h1] at h2';unfold zbo at s1 s2;rw[zmT ih ds ds' vs s1 s2 h2 h2']
    .by_cases t3:∃ ds',d'=.tup ds'
     .obtain⟨ds',rfl⟩:=t3
      obtain⟨a0,_,ev,_,_⟩:=zan.mp h;subst ev;obtain⟨a,vs,its,ea,_,h1,h2,h3,h4,_⟩:=zaG I h rfl;cases ea;obtain⟨a',vs',its',e,_,h1',h2',h3',h4',_⟩:=zaJ I h' rfl;cases e;exact absurd rfl (SeqAt.ne_of_list_tuple h4 h4')
     .exact(atom (n+1) d' _ v (fun ds e=>t3 ⟨ds,e⟩) (fun ds e=>t2 ⟨ds,e⟩) s2 s1 h' h).symm
   .exact atom (n+1) d d' v (fun ds e=>t1 ⟨ds,e⟩) (fun ds e=>t1' ⟨ds,e⟩) s1 s2 h h'
theorem zqR {n:Nat}{A:Around}{xs ys:List D}{vs us:List V}{is js:List Value}
  (ih:∀ (x y:D) (v u:V) (a b:Value),zbo n x=true->zbo n y=true->Rep X.K H x v->Rep X.K H y u->zbw v a->zbw u b->SeqAt.EqAt A.in1 s a b (eqD x y))
  (sx:xs.all (zbo n)=true)(sy:ys.all (zbo n)=true)(rx:Reps X.K H xs vs)(ry:Reps X.K H ys us)(qx:zbO vs is)(qy:zbO us js) :
  ∀ j (h1:j < is.toArray.size) (h2:j < js.toArray.size),SeqAt.EqAt A.in1 s is.toArray[j] js.toArray[j] (eqD (xs.getD j .non) (ys.getD j .non)):=by
 intro j h1 h2;have lx:=rx.length;have ly:=ry.length;have kx:=qx.length;have ky:=qy.length;have h1':j < is.length:=by simpa using h1
 have h2':j < js.length:=by simpa using h2
 have hx:j < xs.length:=by omega
 have hy:j < ys.length:=by omega
 obtain⟨v,e1,r1⟩:=rx.get (List.getElem?_eq_getElem hx);obtain⟨u,e2,r2⟩:=ry.get (List.getElem?_eq_getElem hy);obtain⟨a,e3,r3⟩:=qx.get e1;obtain⟨b,e4,r4⟩:=qy.get e2;have ea:is.toArray[j]=a:=by
  rw[List.getElem?_eq_getElem h1'] at e3;simpa using Option.some.inj e3
 have eb:js.toArray[j]=b:=by
  rw[List.getElem?_eq_getElem h2'] at e4;simpa using Option.some.inj e4
 rw[ea,eb];have gx:xs.getD j .non=xs[j]:=by simp [List.getD,List.getElem?_eq_getElem hx]
 have gy:ys.getD j .non=ys[j]:=by simp [List.getD,List.getElem?_eq_getElem hy]
 rw[gx,gy];exact ih _ _ v u a b (List.all_eq_true.mp sx _ (List.getElem_mem hx)) (List.all_eq_true.mp sy _ (List.getElem_mem hy)) r1 r2 r3 r4
theorem zqw (I:Inv X pins σ H s){A:Around}(hu:A.units < cLine){x y:D}{v u:V}{a b:Value}(rx:Rep X.K H x v)(ry:Rep X.K H y u)(qx:zbw v a)(qy:zbw u b)
  (n1:∀ ds ds',¬ (x=.lst ds/\y=.lst ds'))(n2:∀ ds ds',¬ (x=.tup ds/\y=.tup ds'))(d1:∀ ks ds,x≠.dic ks ds)(d2:∀ ks ds,y≠.dic ks ds)(x1:∀ c,x≠.exc c)(x2:∀ c,y≠.exc c)(o1:∀ k c,x≠.ob k c)(o2:∀ k c,y≠.ob k c) :
  SeqAt.RcAt A s a b (eqD x y)/\SeqAt.EqAt A s a b (eqD x y)/\SeqAt.RcNeAt A s a b (!(eqD x y)):=by
 cases x with
 | non =>
  cases y with
  | non =>
   obtain rfl:=zaD.mp rx;obtain rfl:a=Value.none:=qx;obtain rfl:=zaD.mp ry;obtain rfl:b=Value.none:=qy;unfold eqD;exact⟨SeqAt.RcAt.none_none ,SeqAt.EqAt.same _,SeqAt.RcNeAt.none_none ⟩
  | bl y =>
   obtain rfl:=zaD.mp rx;obtain rfl:a=Value.none:=qx;obtain rfl:=zaq.mp ry;obtain rfl:b=Value.bool _:=qy;unfold eqD;exact⟨SeqAt.RcAt.none_bool _,SeqAt.EqAt.none_bool _,SeqAt.RcNeAt.none_bool _⟩
  | int y =>
   obtain rfl:=zaD.mp rx;obtain rfl:a=Value.none:=qx;obtain rfl:=zah.mp ry;obtain⟨ty,rfl⟩:∃ t,b=Value.int _ t:=qy;unfold eqD;exact⟨SeqAt.RcAt.none_int _ _,SeqAt.EqAt.none_int _ _,SeqAt.RcNeAt.none_int _ _⟩
  | str y =>
   obtain rfl:=zaD.mp rx;obtain rfl:a=Value.none:=qx;obtain rfl:=Rep.str_iff.mp ry;obtain⟨ty,rfl⟩:∃ t,b=Value.str _ t:=qy;unfold eqD;exact⟨SeqAt.RcAt.none_str _ _,SeqAt.EqAt.none_str _ _,SeqAt.RcNeAt.none_str _ _⟩
  | lst y =>
   obtain rfl:=zaD.mp rx;obtain rfl:a=Value.none:=qx;obtain⟨ly,_,_,rfl,rfl,_,_,_,hy,_⟩:=zaG I ry qy;unfold eqD;exact⟨SeqAt.RcAt.none_list  hy hu,SeqAt.EqAt.none_list  hy hu,SeqAt.RcNeAt.none_list  hy hu⟩
  | tup y =>
   obtain rfl:=zaD.mp rx;obtain rfl:a=Value.none:=qx;obtain⟨ly,_,_,rfl,rfl,_,_,_,hy,_⟩:=zaJ I ry qy;unfold eqD;exact⟨SeqAt.RcAt.none_tuple  hy hu,SeqAt.EqAt.none_tuple  hy hu,SeqAt.RcNeAt.none_tuple  hy hu⟩
  | dic ks ds=>exact absurd rfl (d2 ks ds)
  | exc c=>exact absurd rfl (x2 c)
  | ob k c=>exact absurd rfl (o2 k c)
 | bl x =>
  cases y with
  | non =>
   obtain rfl:=zaq.mp rx;obtain rfl:a=Value.bool _:=qx;obtain rfl:=zaD.mp ry;obtain rfl:b=Value.none:=qy;unfold eqD;exact⟨SeqAt.RcAt.bool_none _,SeqAt.EqAt.bool_none _,SeqAt.RcNeAt.bool_none _⟩
  | bl y =>
   obtain rfl:=zaq.mp rx;obtain rfl:a=Value.bool _:=qx;obtain rfl:=zaq.mp ry;obtain rfl:b=Value.bool _:=qy;unfold eqD;exact⟨SeqAt.RcAt.bool_bool _ _,SeqAt.EqAt.bool_bool _ _,SeqAt.RcNeAt.bool_bool _ _⟩
  | int y =>
   obtain rfl:=zaq.mp rx;obtain rfl:a=Value.bool _:=qx;obtain rfl:=zah.mp ry;obtain⟨ty,rfl⟩:∃ t,b=Value.int _ t:=qy;unfold eqD;exact⟨SeqAt.RcAt.bool_int _ _ _,SeqAt.EqAt.bool_int _ _ _,SeqAt.RcNeAt.bool_int _ _ _⟩
  | str y =>
   obtain rfl:=zaq.mp rx;obtain rfl:a=Value.bool _:=qx;obtain rfl:=Rep.str_iff.mp ry;obtain⟨ty,rfl⟩:∃ t,b=Value.str _ t:=qy;unfold eqD;exact⟨SeqAt.RcAt.bool_str _ _ _,SeqAt.EqAt.bool_str _ _ _,SeqAt.RcNeAt.bool_str _ _ _⟩
  | lst y =>
   obtain rfl:=zaq.mp rx;obtain rfl:a=Value.bool _:=qx;obtain⟨ly,_,_,rfl,rfl,_,_,_,hy,_⟩:=zaG I ry qy;unfold eqD;exact⟨SeqAt.RcAt.bool_list _ hy hu,SeqAt.EqAt.bool_list _ hy hu,SeqAt.RcNeAt.bool_list _ hy hu⟩
  | tup y =>
   obtain rfl:=zaq.mp rx;obtain rfl:a=Value.bool _:=qx;obtain⟨ly,_,_,rfl,rfl,_,_,_,hy,_⟩:=zaJ I ry qy;unfold eqD;exact⟨SeqAt.RcAt.bool_tuple _ hy hu,SeqAt.EqAt.bool_tuple _ hy hu,SeqAt.RcNeAt.bool_tuple _ hy hu⟩
  | dic ks ds=>exact absurd rfl (d2 ks ds)
  | exc c=>exact absurd rfl (x2 c)
  | ob k c=>exact absurd rfl (o2 k c)
 | int x =>
  cases y with
  | non =>
   obtain rfl:=zah.mp rx;obtain⟨tx,rfl⟩:∃ t,a=Value.int _ t:=qx;obtain rfl:=zaD.mp ry;obtain rfl:b=Value.none:=qy;unfold eqD;exact⟨SeqAt.RcAt.int_none _ _,SeqAt.EqAt.int_none _ _,SeqAt.RcNeAt.int_none _ _⟩
  | bl y =>
   obtain rfl:=zah.mp rx;obtain⟨tx,rfl⟩:∃ t,a=Value.int _ t:=qx;obtain rfl:=zaq.mp ry;obtain rfl:b=Value.bool _:=qy;unfold eqD;exact⟨SeqAt.RcAt.int_bool _ _ _,SeqAt.EqAt.int_bool _ _ _,SeqAt.RcNeAt.int_bool _ _ _⟩
  | int y =>
   obtain rfl:=zah.mp rx;obtain⟨tx,rfl⟩:∃ t,a=Value.int _ t:=qx;obtain rfl:=zah.mp ry;obtain⟨ty,rfl⟩:∃ t,b=Value.int _ t:=qy;unfold eqD;exact⟨SeqAt.RcAt.int_int _ _ _ _,SeqAt.EqAt.int_int _ _ _ _,SeqAt.RcNeAt.int_int _ _ _ _⟩
  | str y =>
   obtain rfl:=zah.mp rx;obtain⟨tx,rfl⟩:∃ t,a=Value.int _ t:=qx;obtain rfl:=Rep.str_iff.mp ry;obtain⟨ty,rfl⟩:∃ t,b=Value.str _ t:=qy;unfold eqD;exact⟨SeqAt.RcAt.int_str _ _ _ _,SeqAt.EqAt.int_str _ _ _ _,SeqAt.RcNeAt.int_str _ _ _ _⟩
  | lst y =>
   obtain rfl:=zah.mp rx;obtain⟨tx,rfl⟩:∃ t,a=Value.int _ t:=qx;obtain⟨ly,_,_,rfl,rfl,_,_,_,hy,_⟩:=zaG I ry qy;unfold eqD;exact⟨SeqAt.RcAt.int_list _ _ hy hu,SeqAt.EqAt.int_list _ _ hy hu,SeqAt.RcNeAt.int_list _ _ hy hu⟩
  | tup y =>
   obtain rfl:=zah.mp rx;obtain⟨tx,rfl⟩:∃ t,a=Value.int _ t:=qx;obtain⟨ly,_,_,rfl,rfl,_,_,_,hy,_⟩:=zaJ I ry qy;unfold eqD;exact⟨SeqAt.RcAt.int_tuple _ _ hy hu,SeqAt.EqAt.int_tuple _ _ hy hu,SeqAt.RcNeAt.int_tuple _ _ hy hu⟩
  | dic ks ds=>exact absurd rfl (d2 ks ds)
  | exc c=>exact absurd rfl (x2 c)
  | ob k c=>exact absurd rfl (o2 k c)
 | str x =>
  cases y with
  | non =>
   obtain rfl:=Rep.str_iff.mp rx;obtain⟨tx,rfl⟩:∃ t,a=Value.str _ t:=qx;obtain rfl:=zaD.mp ry;obtain rfl:b=Value.none:=qy;unfold eqD;exact⟨SeqAt.RcAt.str_none _ _,SeqAt.EqAt.str_none _ _,SeqAt.RcNeAt.str_none _ _⟩
  | bl y =>
   obtain rfl:=Rep.str_iff.mp rx;obtain⟨tx,rfl⟩:∃ t,a=Value.str _ t:=qx;obtain rfl:=zaq.mp ry;obtain rfl:b=Value.bool _:=qy;unfold eqD;exact⟨SeqAt.RcAt.str_bool _ _ _,SeqAt.EqAt.str_bool _ _ _,SeqAt.RcNeAt.str_bool _ _ _⟩
  | int y =>
   obtain rfl:=Rep.str_iff.mp rx;obtain⟨tx,rfl⟩:∃ t,a=Value.str _ t:=qx;obtain rfl:=zah.mp ry;obtain⟨ty,rfl⟩:∃ t,b=Value.int _ t:=qy;unfold eqD;exact⟨SeqAt.RcAt.str_int _ _ _ _,SeqAt.EqAt.str_int _ _ _ _,SeqAt.RcNeAt.str_int _ _ _ _⟩
  | str y =>
   obtain rfl:=Rep.str_iff.mp rx;obtain⟨tx,rfl⟩:∃ t,a=Value.str _ t:=qx;obtain rfl:=Rep.str_iff.mp ry;obtain⟨ty,rfl⟩:∃ t,b=Value.str _ t:=qy;unfold eqD;exact⟨SeqAt.RcAt.str_str _ _ _ _,SeqAt.EqAt.str_str _ _ _ _,SeqAt.RcNeAt.str_str _ _ _ _⟩
  | lst y =>
   obtain rfl:=Rep.str_iff.mp rx;obtain⟨tx,rfl⟩:∃ t,a=Value.str _ t:=qx;obtain⟨ly,_,_,rfl,rfl,_,_,_,hy,_⟩:=zaG I ry qy;unfold eqD;exact⟨SeqAt.RcAt.str_list _ _ hy hu,SeqAt.EqAt.str_list _ _ hy hu,SeqAt.RcNeAt.str_list _ _ hy hu⟩
  | tup y =>
   obtain rfl:=Rep.str_iff.mp rx;obtain⟨tx,rfl⟩:∃ t,a=Value.str _ t:=qx;obtain⟨ly,_,_,rfl,rfl,_,_,_,hy,_⟩:=zaJ I ry qy;unfold eqD;exact⟨SeqAt.RcAt.str_tuple _ _ hy hu,SeqAt.EqAt.str_tuple _ _ hy hu,SeqAt.RcNeAt.str_tuple _ _ hy hu⟩
  | dic ks ds=>exact absurd rfl (d2 ks ds)
  | exc c=>exact absurd rfl (x2 c)
  | ob k c=>exact absurd rfl (o2 k c)
 | lst x =>
  cases y with
  | non =>
   obtain⟨lx,_,_,rfl,rfl,_,_,_,hx,_⟩:=zaG I rx qx;obtain rfl:=zaD.mp ry;obtain rfl:b=Value.none:=qy;unfold eqD;exact⟨SeqAt.RcAt.list_none  hx hu,SeqAt.EqAt.list_none  hx hu,SeqAt.RcNeAt.list_none  hx hu⟩
  | bl y =>
   obtain⟨lx,_,_,rfl,rfl,_,_,_,hx,_⟩:=zaG I rx qx;obtain rfl:=zaq.mp ry;obtain rfl:b=Value.bool _:=qy;unfold eqD;exact⟨SeqAt.RcAt.list_bool _ hx hu,SeqAt.EqAt.list_bool _ hx hu,SeqAt.RcNeAt.list_bool _ hx hu⟩
  | int y =>
   obtain⟨lx,_,_,rfl,rfl,_,_,_,hx,_⟩:=zaG I rx qx;obtain rfl:=zah.mp ry;obtain⟨ty,rfl⟩:∃ t,b=Value.int _ t:=qy;unfold eqD;exact⟨SeqAt.RcAt.list_int _ _ hx hu,SeqAt.EqAt.list_int _ _ hx hu,SeqAt.RcNeAt.list_int _ _ hx hu⟩
  | str y =>
   obtain⟨lx,_,_,rfl,rfl,_,_,_,hx,_⟩:=zaG I rx qx;obtain rfl:=Rep.str_iff.mp ry;obtain⟨ty,rfl⟩:∃ t,b=Value.str _ t:=qy;unfold eqD;exact⟨SeqAt.RcAt.list_str _ _ hx hu,SeqAt.EqAt.list_str _ _ hx hu,SeqAt.RcNeAt.list_str _ _ hx hu⟩
  | lst y =>
   exact absurd ⟨rfl,rfl⟩ (n1 x y)
  | tup y =>
   obtain⟨lx,_,_,rfl,rfl,_,_,_,hx,_⟩:=zaG I rx qx;obtain⟨ly,_,_,rfl,rfl,_,_,_,hy,_⟩:=zaJ I ry qy;unfold eqD;exact⟨SeqAt.RcAt.list_tuple  hx hy hu,SeqAt.EqAt.list_tuple  hx hy hu,SeqAt.RcNeAt.list_tuple  hx hy hu⟩
  | dic ks ds=>exact absurd rfl (d2 ks ds)
  | exc c=>exact absurd rfl (x2 c)
  | ob k c=>exact absurd rfl (o2 k c)
 | tup x =>
  cases y with
  | non =>
   obtain⟨lx,_,_,rfl,rfl,_,_,_,hx,_⟩:=zaJ I rx qx;obtain rfl:=zaD.mp ry;obtain rfl:b=Value.none:=qy;unfold eqD;exact⟨SeqAt.RcAt.tuple_none  hx hu,SeqAt.EqAt.tuple_none  hx hu,SeqAt.RcNeAt.tuple_none  hx hu⟩
  | bl y =>
   obtain⟨lx,_,_,rfl,rfl,_,_,_,hx,_⟩:=zaJ I rx qx;obtain rfl:=zaq.mp ry;obtain rfl:b=Value.bool _:=qy;unfold eqD;exact⟨SeqAt.RcAt.tuple_bool _ hx hu,SeqAt.EqAt.tuple_bool _ hx hu,SeqAt.RcNeAt.tuple_bool _ hx hu⟩
  | int y =>
   obtain⟨lx,_,_,rfl,rfl,_,_,_,hx,_⟩:=zaJ I rx qx;obtain rfl:=zah.mp ry;obtain⟨ty,rfl⟩:∃ t,b=Value.int _ t:=qy;unfold eqD;exact⟨SeqAt.RcAt.tuple_int _ _ hx hu,SeqAt.EqAt.tuple_int _ _ hx hu,SeqAt.RcNeAt.tuple_int _ _ hx hu⟩
  | str y =>
   obtain⟨lx,_,_,rfl,rfl,_,_,_,hx,_⟩:=zaJ I rx qx;obtain rfl:=Rep.str_iff.mp ry;obtain⟨ty,rfl⟩:∃ t,b=Value.str _ t:=qy;unfold eqD;exact⟨SeqAt.RcAt.tuple_str _ _ hx hu,SeqAt.EqAt.tuple_str _ _ hx hu,SeqAt.RcNeAt.tuple_str _ _ hx hu⟩
  | lst y =>
   obtain⟨lx,_,_,rfl,rfl,_,_,_,hx,_⟩:=zaJ I rx qx;obtain⟨ly,_,_,rfl,rfl,_,_,_,hy,_⟩:=zaG I ry qy;unfold eqD;exact⟨SeqAt.RcAt.tuple_list  hx hy hu,SeqAt.EqAt.tuple_list  hx hy hu,SeqAt.RcNeAt.tuple_list  hx hy hu⟩
  | tup y =>
   exact absurd ⟨rfl,rfl⟩ (n2 x y)
  | dic ks ds=>exact absurd rfl (d2 ks ds)
  | exc c=>exact absurd rfl (x2 c)
  | ob k c=>exact absurd rfl (o2 k c)
 | dic ks ds=>exact absurd rfl (d1 ks ds)
 | exc c=>exact absurd rfl (x1 c)
 | ob k c=>exact absurd rfl (o1 k c)
theorem zCF (I:Inv X pins σ H s):∀ (n:Nat) (A:Around),A.units+n < cLine->∀ (x y:D) (v u:V) (a b:Value),zbo n x=true->zbo n y=true->Rep X.K H x v->Rep X.K H y u->zbw v a->zbw u b ->
  SeqAt.RcAt A s a b (eqD x y)/\SeqAt.EqAt A s a b (eqD x y)/\SeqAt.RcNeAt A s a b (!(eqD x y)):=by
 have nd:∀ m ks ds,zbo m (.dic ks ds)=true->False:=fun m ks ds h=>by cases m<;>(unfold zbo at h;cases h)
 have nx:∀ m x,zbo m (.exc x)=true->False:=fun m x h=>by cases m<;>(unfold zbo at h;cases h)
 have nb:∀ m k x,zbo m (.ob k x)=true->False:=fun m k x h=>by cases m<;>(unfold zbo at h;cases h)
 intro n
 induction n with
 | zero =>
  intro A hu x y v u a b sx sy rx ry qa qb;refine zqw I (by omega) rx ry qa qb (fun ds ds' z=>?_) (fun ds ds' z=>?_) (fun ks ds z=>?_) (fun ks ds z=>?_) (fun c z=>nx _ _ (z▸sx)) (fun c z=>nx _ _ (z▸sy)) (fun k c z=>nb _ _ _ (z▸sx)) (fun k c z=>nb _ _ _ (z▸sy))
  .rw[z.1] at sx;unfold zbo at sx;cases sx
  .rw[z.1] at sx;unfold zbo at sx;cases sx
  .rw[z] at sx;exact nd _ _ _ sx
  .rw[z] at sy;exact nd _ _ _ sy
 | succ n ih =>
  intro A hu x y v u a b sx sy rx ry qa qb;have ih':∀ (x y:D) (v u:V) (a b:Value),zbo n x=true->zbo n y=true->Rep X.K H x v->Rep X.K H y u->zbw v a->zbw u b->SeqAt.EqAt A.in1 s a b (eqD x y) :=
   fun x y v u a b s1 s2 r1 r2 q1 q2=>(ih A.in1 (by show A.units+1+n < cLine;omega) x y v u a b s1 s2 r1 r2 q1 q2).2.1
  by_cases t1:∃ ds ds',x=.tup ds/\y=.tup ds'
  .obtain⟨xs,ys,rfl,rfl⟩:=t1
   obtain⟨l,vs,is,rfl,rfl,h1,h2,h3,h4,h5⟩:=zaJ I rx qa;obtain⟨m,us,js,rfl,rfl,k1,k2,k3,k4,k5⟩:=zaJ I ry qb;have hsx:=sx;have hsy:=sy;unfold zbo at sx sy;have each:=zqR (A:=A) ih' sx sy h2 k2 h3 k3;have eall:eqD (.tup xs) (.tup ys)=((List.range (min is.toArray.size js.toArray.size)).all (fun j=>eqD (xs.getD j .non) (ys.getD j .non))&&is.toArray.size==js.toArray.size):=by
    rw[zze];simp only[List.size_toArray,← h5,← k5]
    by_cases hl:xs.length=ys.length
    .rw[zil xs ys hl,← hl,Nat.min_self,beq_self_eq_true,Bool.and_true]
    .rw[znl xs ys hl,beq_eq_false_iff_ne.mpr hl,Bool.and_false]
   refine⟨?_,?_,?_⟩
   .rw[eall];exact SeqAt.RcAt.tuples h4 k4 (by omega) each
   .by_cases hlm:l=m
    .subst hlm
     rw[Rep.inj I (n+1) _ _ _ hsx hsy rx ry,zhv (n+1) _ hsy];exact SeqAt.EqAt.same _
    .refine SeqAt.EqAt.of_refs hlm ?_
     rw[eall];exact SeqAt.RcAt.tuples h4 k4 (by omega) each
   .rw[eall];exact SeqAt.RcNeAt.tuples h4 k4 (by omega) each
  .by_cases t2:∃ ds ds',x=.lst ds/\y=.lst ds'
   .obtain⟨xs,ys,rfl,rfl⟩:=t2
    obtain⟨l,vs,is,rfl,rfl,h1,h2,h3,h4,h5⟩:=zaG I rx qa;obtain⟨m,us,js,rfl,rfl,k1,k2,k3,k4,k5⟩:=zaG I ry qb;have hsx:=sx;have hsy:=sy;unfold zbo at sx sy;have each:=zqR (A:=A) ih' sx sy h2 k2 h3 k3
    by_cases hl:xs.length=ys.length
    .have hsz:is.toArray.size=js.toArray.size:=by simp only[List.size_toArray];omega
     have eall:eqD (.lst xs) (.lst ys)=(List.range is.toArray.size).all (fun j=>eqD (xs.getD j .non) (ys.getD j .non)):=by
      rw[zur];simp only[List.size_toArray,← h5];exact zil xs ys hl
     refine⟨?_,?_,?_⟩
     .rw[eall];exact SeqAt.RcAt.lists h4 k4 hsz (by omega) each
     .by_cases hlm:l=m
      .subst hlm
       rw[Rep.inj I (n+1) _ _ _ hsx hsy rx ry,zhv (n+1) _ hsy];exact SeqAt.EqAt.same _
      .refine SeqAt.EqAt.of_refs hlm ?_
       rw[eall];exact SeqAt.RcAt.lists h4 k4 hsz (by omega) each
     .rw[eall];exact SeqAt.RcNeAt.lists h4 k4 hsz (by omega) each
    .have hsz:(is.toArray.size != js.toArray.size)=true:=by simp only[List.size_toArray,bne_iff_ne,ne_eq];omega
     have eall:eqD (.lst xs) (.lst ys)=false:=by rw[zur];exact znl xs ys hl
     rw[eall];refine⟨SeqAt.RcAt.lists_lengths h4 k4 hsz (by omega),?_,SeqAt.RcNeAt.lists_lengths h4 k4 hsz (by omega)⟩;refine SeqAt.EqAt.of_refs (fun e=>?_) (SeqAt.RcAt.lists_lengths h4 k4 hsz (by omega));subst e;have:=Rep.inj I (n+1) _ _ _ hsx hsy rx ry;cases this;exact hl rfl
   .exact zqw I (by omega) rx ry qa qb (fun ds ds' z=>t2 ⟨ds,ds',z⟩) (fun ds ds' z=>t1 ⟨ds,ds',z⟩) (fun ks ds z=>by rw[z] at sx;exact nd _ _ _ sx) (fun ks ds z=>by rw[z] at sy;exact nd _ _ _ sy) (fun c z=>nx _ _ (z▸sx)) (fun c z=>nx _ _ (z▸sy)) (fun k c z=>nb _ _ _ (z▸sx)) (fun k c z=>nb _ _ _ (z▸sy))
end
section
variable {X:Cx}{E:XK}
def dEq (x y:D):Res D:=if zbo 40 x=true/\zbo 40 y=true then .ok (.bl (eqD x y)) else .stuck
def dNe (x y:D):Res D:=if zbo 40 x=true/\zbo 40 y=true then .ok (.bl (!(eqD x y))) else .stuck
noncomputable def zDD (K:W.Frag):R2:=fun v u H Q=>∃ x y,Rep K H x v/\Rep K H y u/\zbo 40 x=true/\zbo 40 y=true/\Q (.bl (eqD x y)) H
noncomputable def zDz (K:W.Frag):R2:=fun v u H Q=>∃ x y,Rep K H x v/\Rep K H y u/\zbo 40 x=true/\zbo 40 y=true/\Q (.bl (!(eqD x y))) H
theorem zfI (hu:X.A.units+64 < cLine):OpR X (compareOp .Eq) (zDD X.K):=by
 intro pins s σ H x y v u Q I rx ry h;obtain⟨d,d',h1,h2,s1,s2,q⟩:=h;exact(zCF I 40 X.A (by omega) d d' x y v u s1 s2 h1 h2 rx ry).1 _ _ _ _ ⟨.bl _,H,I,rfl,q⟩
theorem zgs (hu:X.A.units+64 < cLine):OpR X (compareOp .NotEq) (zDz X.K):=by
 intro pins s σ H x y v u Q I rx ry h;obtain⟨d,d',h1,h2,s1,s2,q⟩:=h;exact(zCF I 40 X.A (by omega) d d' x y v u s1 s2 h1 h2 rx ry).2.2 _ _ _ _ ⟨.bl _,H,I,rfl,q⟩
theorem zjL:OpD X.K E (zDD X.K) dEq:=by
 intro x y v u H Ha Q hs r1 r2 q;unfold dEq at q
 by_cases c:zbo 40 x=true/\zbo 40 y=true
 .rw[if_pos c] at q
  exact⟨x,y,r1.mono hs,r2.mono hs,c.1,c.2,q _ H Ha (zbj.refl hs) (zaq.mpr rfl)⟩
 .rw[if_neg c] at q;exact q.elim
theorem zlF:OpD X.K E (zDz X.K) dNe:=by
 intro x y v u H Ha Q hs r1 r2 q;unfold dNe at q
 by_cases c:zbo 40 x=true/\zbo 40 y=true
 .rw[if_pos c] at q
  exact⟨x,y,r1.mono hs,r2.mono hs,c.1,c.2,q _ H Ha (zbj.refl hs) (zaq.mpr rfl)⟩
 .rw[if_neg c] at q;exact q.elim
open Classical in
noncomputable def zpx (K:W.Frag) (H:Hp) (ds:List D) (x:D) (u:Value):Bool :=
 if h:∃ d,d∈ds/\∃ v,Rep K H d v/\zbw v u then eqD h.choose x else false
theorem zuq {pins:List (Addr×Obj)}{σ:L2.St}{H:Hp}{s:Shared}(I:Inv X pins σ H s){ds:List D}{x d:D}{v:V}{u:Value}(sd:ds.all (zbo 40)=true)(hd:d∈ds)(r:Rep X.K H d v)(q:zbw v u):zpx X.K H ds x u=eqD d x:=by
 have h:∃ d,d∈ds/\∃ v,Rep X.K H d v/\zbw v u:=⟨d,hd,v,r,q⟩
 unfold zpx;rw[dif_pos h];obtain⟨h1,v',h2,h3⟩:=h.choose_spec;have e:v'=v:=h3.inj q;subst e;rw[Rep.inj I 40 _ _ _ (List.all_eq_true.mp sd _ h1) (List.all_eq_true.mp sd _ hd) h2 r]
noncomputable def zyp (K:W.Frag) (neg:Bool):R2:=fun v u H Q=>∃ x ds,Rep K H x v/\(Rep K H (.lst ds) u∨Rep K H (.tup ds) u)/\zbo 40 x=true/\ds.all (zbo 40)=true/\Q (.bl (if neg then !(ds.any fun d=>eqD d x) else ds.any fun d=>eqD d x)) H
theorem zhN {pins:List (Addr×Obj)}{σ:L2.St}{H:Hp}{s:Shared}(I:Inv X pins σ H s){x:D}{es:List D}(se:es.all (zbo 40)=true):∀ {ds:List D}{vs:List V}{us:List Value},(∀ d∈ds,d∈es)->Reps X.K H ds vs->zbO vs us->us.any (zpx X.K H es x)=ds.any fun d=>eqD d x
 | [],_,_,_,h,q=>by
  rw[Reps.nil_iff.mp h] at q;cases q;rfl
 | d::ds,_,_,hm,h,q=>by
  obtain⟨v,r,rfl,h1,h2⟩:=zap.mp h;cases q with
  | cons q1 q2 =>
   rw[List.any_cons,List.any_cons,zuq I se (hm d List.mem_cons_self) h1 q1,zhN I se (fun x hx=>hm x (List.mem_cons_of_mem _ hx)) h2 q2]
theorem zfY {pins:List (Addr×Obj)}{σ:L2.St}{H:Hp}{s:Shared}(I:Inv X pins σ H s)(hu:X.A.units+64 < cLine){x:D}{v:V}{u:Value}(sx:zbo 40 x=true)(rx:Rep X.K H x v)(qx:zbw v u){es:List D}(se:es.all (zbo 40)=true):∀ {ds:List D}{vs:List V}{us:List Value},(∀ d∈ds,d∈es)->Reps X.K H ds vs->zbO vs us->∀ y∈us,SeqAt.EqAt X.A.in1 s y u (zpx X.K H es x y)
 | [],_,_,_,h,q=>fun y hy=>by
  rw[Reps.nil_iff.mp h] at q;cases q;cases hy
 | d::ds,_,_,hm,h,q=>fun y hy=>by
  obtain⟨w,r,rfl,h1,h2⟩:=zap.mp h;cases q with
  | cons q1 q2 =>
   rcases List.mem_cons.mp hy with rfl | hy
   .rw[zuq I se (hm d List.mem_cons_self) h1 q1]
    exact(zCF I 40 X.A.in1 (by show X.A.units+1+40 < cLine;omega) d x w v _ u (List.all_eq_true.mp se _ (hm d List.mem_cons_self)) sx h1 rx q1 qx).2.1
   .exact zfY I hu sx rx qx se (fun x hx=>hm x (List.mem_cons_of_mem _ hx)) h2 q2 y hy
theorem zA3 (hu:X.A.units+64 < cLine):OpR X (compareOp .In) (zyp X.K false):=by
 intro pins s σ H x y v u Q I rx ry h;obtain⟨d,ds,h1,h2,s1,s2,q⟩:=h;rcases h2 with h2 | h2
 .obtain⟨a,vs,its,rfl,rfl,k1,k2,k3,k4,k5⟩:=zaG I h2 ry
  refine SeqAt.in_listAt (zpx X.K H ds d) k4 (fun w hw=>zfY I hu s1 h1 rx s2 (fun _ z=>z) k2 k3 w (by simpa using hw)) ⟨.bl _,H,I,rfl,?_⟩;rw[show its.toArray.any (zpx X.K H ds d)=its.any (zpx X.K H ds d) by simp,zhN I s2 (fun _ z=>z) k2 k3];exact q
 .obtain⟨a,vs,its,rfl,rfl,k1,k2,k3,k4,k5⟩:=zaJ I h2 ry
  refine SeqAt.in_tupleAt (zpx X.K H ds d) k4 (fun w hw=>zfY I hu s1 h1 rx s2 (fun _ z=>z) k2 k3 w (by simpa using hw)) ⟨.bl _,H,I,rfl,?_⟩;rw[show its.toArray.any (zpx X.K H ds d)=its.any (zpx X.K H ds d) by simp,zhN I s2 (fun _ z=>z) k2 k3];exact q
theorem ztk (hu:X.A.units+64 < cLine):OpR X (compareOp .NotIn) (zyp X.K true):=by
 intro pins s σ H x y v u Q I rx ry h;obtain⟨d,ds,h1,h2,s1,s2,q⟩:=h;rcases h2 with h2 | h2
 .obtain⟨a,vs,its,rfl,rfl,k1,k2,k3,k4,k5⟩:=zaG I h2 ry
  refine SeqAt.notIn_listAt (zpx X.K H ds d) k4 (fun w hw=>zfY I hu s1 h1 rx s2 (fun _ z=>z) k2 k3 w (by simpa using hw)) ⟨.bl _,H,I,rfl,?_⟩;rw[show its.toArray.any (zpx X.K H ds d)=its.any (zpx X.K H ds d) by simp,zhN I s2 (fun _ z=>z) k2 k3];exact q
 .obtain⟨a,vs,its,rfl,rfl,k1,k2,k3,k4,k5⟩:=zaJ I h2 ry
  refine SeqAt.notIn_tupleAt (zpx X.K H ds d) k4 (fun w hw=>zfY I hu s1 h1 rx s2 (fun _ z=>z) k2 k3 w (by simpa using hw)) ⟨.bl _,H,I,rfl,?_⟩;rw[show its.toArray.any (zpx X.K H ds d)=its.any (zpx X.K H ds d) by simp,zhN I s2 (fun _ z=>z) k2 k3];exact q
def occ (i j:Str):Bool:=!(Builtin.Str.occurrences j i 0 j.length 1).isEmpty
noncomputable def inD (x y:D):Option Bool:=match y with
 | .lst ds=>if zbo 40 x=true/\ds.all (zbo 40)=true then some (ds.any fun d=>eqD d x) else none
 | .tup ds=>if zbo 40 x=true/\ds.all (zbo 40)=true then some (ds.any fun d=>eqD d x) else none
 | .str j=>match x with
  | .str i=>some (occ i j)
  | _=>none
 | _=>none
def dIn (x y:D):Res D:=match inD x y with
 | some b=>.ok (.bl b)
 | none=>.stuck
def zdd (x y:D):Res D:=match inD x y with
 | some b=>.ok (.bl (!b))
 | none=>.stuck
noncomputable def zAF (neg:Bool):R2:=fun x y H Q=>∃ i j,x=.str i/\y=.str j/\Q (.bl (if neg then !(occ i j) else occ i j)) H
theorem zyJ (hu:X.A.units+64 < cLine):OpR X (compareOp .In) (fun v u H Q=>zyp X.K false v u H Q∨zAF false v u H Q):=OpR.or (zA3 hu) (by
 intro pins s σ H x y v u Q I rx ry h;obtain⟨i,j,rfl,rfl,q⟩:=h;exact ztm pins s σ H _ _ v u Q I rx ry ⟨i,j,rfl,rfl,q⟩)
theorem zgd (hu:X.A.units+64 < cLine):OpR X (compareOp .NotIn) (fun v u H Q=>zyp X.K true v u H Q∨zAF true v u H Q):=OpR.or (ztk hu) (by
 intro pins s σ H x y v u Q I rx ry h;obtain⟨i,j,rfl,rfl,q⟩:=h;exact znW pins s σ H _ _ v u Q I rx ry ⟨i,j,rfl,rfl,q⟩)
theorem zqI {neg:Bool}{x y:D}{v u:V}{H Ha:Hp}{Q:VK}(hs:zaA Ha H)(r1:Rep X.K Ha x v)(r2:Rep X.K Ha y u)
  (q:post X.K E H Ha (match inD x y with | some b=>.ok (.bl (if neg then !b else b)) | none=>.stuck) Q):zyp X.K neg v u H Q∨zAF neg v u H Q:=by
 cases y with
 | lst ds =>
  simp only[inD] at q
  by_cases c:zbo 40 x=true/\ds.all (zbo 40)=true
  .rw[if_pos c] at q
   exact .inl ⟨x,ds,r1.mono hs,.inl (r2.mono hs),c.1,c.2,q _ H Ha (zbj.refl hs) (zaq.mpr rfl)⟩
  .rw[if_neg c] at q;exact q.elim
 | tup ds =>
  simp only[inD] at q
  by_cases c:zbo 40 x=true/\ds.all (zbo 40)=true
  .rw[if_pos c] at q
   exact .inl ⟨x,ds,r1.mono hs,.inr (r2.mono hs),c.1,c.2,q _ H Ha (zbj.refl hs) (zaq.mpr rfl)⟩
  .rw[if_neg c] at q;exact q.elim
 | str j =>
  cases x with
  | str i=>exact .inr ⟨i,j,Rep.str_iff.mp r1,Rep.str_iff.mp r2,q _ H Ha (zbj.refl hs) (zaq.mpr rfl)⟩
  | _=>exact q.elim
 | _=>exact q.elim
theorem zyP:OpD X.K E (fun v u H Q=>zyp X.K false v u H Q∨zAF false v u H Q) dIn:=fun x y v u H Ha Q hs r1 r2 q=>zqI (neg:=false) (E:=E) hs r1 r2 (by
 unfold dIn at q;cases e:inD x y with
 | none=>rw[e] at q;exact q
 | some b=>rw[e] at q;exact q)
theorem zgf:OpD X.K E (fun v u H Q=>zyp X.K true v u H Q∨zAF true v u H Q) zdd:=fun x y v u H Ha Q hs r1 r2 q=>zqI (neg:=true) (E:=E) hs r1 r2 (by
 unfold zdd at q;cases e:inD x y with
 | none=>rw[e] at q;exact q
 | some b=>rw[e] at q;exact q)
end
@[irreducible] def B9:Nat:=2 ^ 9000
@[irreducible] def B13:Nat:=2 ^ 13500
@[irreducible] def B60:Nat:=2 ^ 60000
theorem zw1:B9=2 ^ 9000:=by unfold B9;rfl
theorem zmH:B13=2 ^ 13500:=by unfold B13;rfl
theorem zmG:B60=2 ^ 60000:=by unfold B60;rfl
theorem zlW {n k:Nat}(h:n < 2 ^ k)(hk:0 < k):n.log2 < k:=by
 by_cases h0:n=0
 .rw[h0]
  have:Nat.log2 0=0:=by decide
  omega
 .exact(Nat.log2_lt h0).mpr h
theorem zCS {x y:Int}(h:y.natAbs < B9):Builtin.divisionGoesByPylong x y=false:=by
 rw[zw1] at h;exact PyProof.noPylong_of_log2 (zlW h (by omega))
theorem zA6 {x y:Int}(h:x.natAbs < B13):Builtin.divisionGoesByPylong x y=false:=by
 rw[zmH] at h;have hx:x.natAbs.log2 < 13500:=zlW h (by omega);show(decide ((if y==0 then 0 else y.natAbs.log2 / 30+1) > 300)&&decide ((if x==0 then 0 else x.natAbs.log2 / 30+1) > (if y==0 then 0 else y.natAbs.log2 / 30+1)+150))=false;have k:(if x==0 then 0 else x.natAbs.log2 / 30+1)<=450:=by
  by_cases hx0:(x==0)=true
  .rw[if_pos hx0];omega
  .rw[if_neg hx0];omega
 by_cases c:(if y==0 then 0 else y.natAbs.log2 / 30+1) > 300
 .rw[Bool.and_eq_false_iff];right;exact decide_eq_false (by omega)
 .rw[Bool.and_eq_false_iff];left;exact decide_eq_false c
def zfv (i j:Int):Bool:=decide (j≠0)&&(decide (j.natAbs < B9)||decide (i.natAbs < B13))
def zer (i j:Int):Bool:=decide (i.natAbs < B60)&&decide (j.natAbs < B60)
theorem zfv.ok {i j:Int}(h:zfv i j=true):j≠0/\Builtin.divisionGoesByPylong i j=false:=by
 unfold zfv at h;rw[Bool.and_eq_true,Bool.or_eq_true] at h;refine⟨of_decide_eq_true h.1,?_⟩;rcases h.2 with h | h
 .exact zCS (of_decide_eq_true h)
 .exact zA6 (of_decide_eq_true h)
theorem zer.ok {i j:Int}(h:zer i j=true):IntMulOk i j:=by
 unfold zer at h;rw[Bool.and_eq_true] at h;have h1:=of_decide_eq_true h.1;have h2:=of_decide_eq_true h.2;rw[zmG] at h1 h2;exact PyProof.Rows.mulOk_of_bits (m:=60000) (n:=60000) (PySem.intBits_le_iff.mpr h1) (PySem.intBits_le_iff.mpr h2) (by decide)
section
variable {X:Cx}{E:XK}{e a b c:Expr}{es:List Expr}{f g k:Ev->Res D}{fa:Ev->Res (List D)}{pos:Pos}
theorem zaM {K:W.Frag}{H Ha:Hp}{d:D}{v:V}{Q:VK}(hs:zaA Ha H)(q:post K E H Ha (.ok d) Q)(r:Rep K Ha d v):Q v H:=q v H Ha (zbj.refl hs) r
noncomputable def iop (c:Int->Int->Bool) (g:Int->Int->D) (x y:D):Res D:=match x,y with
 | .int i,.int j=>if c i j=true then .ok (g i j) else .stuck
 | _,_=>.stuck
theorem zqH {C:Int->Int->Prop}{c:Int->Int->Bool}{gv:Int->Int->V}{g:Int->Int->D}(hc:∀ i j,c i j=true->C i j)(hg:∀ K H i j,Rep K H (g i j) (gv i j)):OpD X.K E (rI C gv) (iop c g):=by
 intro x y v u H Ha Q hs r1 r2 q;unfold iop at q;cases x with
 | int i =>
  cases y with
  | int j =>
   by_cases h:c i j=true
   .simp only[if_pos h] at q
    exact⟨i,j,zah.mp r1,zah.mp r2,hc i j h,zaM hs q (hg _ _ i j)⟩
   .simp only[if_neg h] at q;exact q.elim
  | _=>exact q.elim
 | _=>exact q.elim
theorem zcS {gv:Int->Int->V}{g:Int->Int->D}(hg:∀ K H i j,Rep K H (g i j) (gv i j)):OpD X.K E (rI0 gv) (iop (fun _ _=>true) g):=by
 intro x y v u H Ha Q hs r1 r2 q;unfold iop at q;cases x with
 | int i =>
  cases y with
  | int j=>simp only[if_pos] at q;exact⟨i,j,zah.mp r1,zah.mp r2,zaM hs q (hg _ _ i j)⟩
  | _=>exact q.elim
 | _=>exact q.elim
theorem ri {K:W.Frag}{H:Hp}(n:Int):Rep K H (.int n) (.int n):=zah.mpr rfl
theorem rb {K:W.Frag}{H:Hp}(n:Bool):Rep K H (.bl n) (.bl n):=zaq.mpr rfl
abbrev zu8:=iop (fun _ _=>true) fun i j=>.int (i-j)
abbrev zpy:=iop zfv fun i j=>.int (i.fdiv j)
abbrev zfw:=iop (fun _ j=>decide (j≠0)) fun i j=>.int (i.fmod j)
abbrev zsw:=iop (fun i j=>decide (0<=j)&&decide (j<=1000000)&&decide (i.natAbs < 18446744073709551616)) fun i j=>.int (i ^ j.toNat)
abbrev dLt:=iop (fun _ _=>true) fun i j=>.bl (decide (i < j))
abbrev dLe:=iop (fun _ _=>true) fun i j=>.bl (decide (i<=j))
abbrev dGt:=iop (fun _ _=>true) fun i j=>.bl (decide (j < i))
abbrev dGe:=iop (fun _ _=>true) fun i j=>.bl (decide (j<=i))
theorem zyI:OpR X (binaryOp .Mult) (rI IntMulOk fun i j=>.int (i*j)):=opI fun _ _ _ _ _ _ _ hc q=>mul_int q hc
theorem zyL:OpR X (binaryOp .FloorDiv) (rI (fun i j=>j≠0/\Builtin.divisionGoesByPylong i j=false) fun i j=>.int (i.fdiv j)):=opI fun _ _ _ _ _ _ _ hc q=>floordiv_int hc.1 q (.inl hc.2)
theorem zrn (ha:DE X E a f)(hb:DE X E b g):DE X E (.BinOp a .Sub b pos) (zaa f g zu8):=zsf zA1 (zcS fun _ _ _ _=>ri _) ha hb
theorem ziN (ha:DE X E a f)(hb:DE X E b g):DE X E (.BinOp a .FloorDiv b pos) (zaa f g zpy):=zsf zyL (zqH (fun _ _ h=>zfv.ok h) fun _ _ _ _=>ri _) ha hb
theorem zfg (ha:DE X E a f)(hb:DE X E b g):DE X E (.BinOp a .Mod b pos) (zaa f g zfw):=zsf ztl (zqH (fun _ _ h=>of_decide_eq_true h) fun _ _ _ _=>ri _) ha hb
theorem zu3 (ha:DE X E a f)(hb:DE X E b g):DE X E (.BinOp a .Pow b pos) (zaa f g zsw):=zsf zA2 (zqH (fun i j h=>by
 rw[Bool.and_eq_true,Bool.and_eq_true] at h;exact⟨of_decide_eq_true h.1.1,of_decide_eq_true h.1.2,of_decide_eq_true h.2⟩) fun _ _ _ _=>ri _) ha hb
theorem nm {op:CmpOp}{b:Expr}(h1:op≠.In:=by decide)(h2:op≠.NotIn:=by decide):behindInMarks op b=false:=zqL _ h1 h2
def zBO (x:D):Res D:=match x with
 | .int i=>.ok (.int (-i))
 | _=>.stuck
theorem zxK (ha:DE X E a f):DE X E (.UnaryOp .USub a pos) (zdG f zBO):=zDe zz3 (by
 intro x v H Ha Q hs r q;cases x with
 | int i=>exact⟨i,zah.mp r,zaM hs q (ri _)⟩
 | _=>exact q.elim) ha
theorem ztp:OpR X (binaryOp .Add) (fun x y H Q=>∃ l b xs zs,x=.ref l/\y=.ref b/\SqL X.K H l xs/\SqL X.K H b zs/\xs.length+zs.length<=sizeLine/\∀ p,H p=none->Q (.ref p) (upd H p (.lst (xs++zs)))):=by
 intro pins s σ H x y v u Q I rx ry h;obtain⟨l,b,xs,zs,rfl,rfl,hH,hB,hz,q⟩:=h;cases rx;cases ry;obtain⟨its,r,pl,z⟩:=I.list hH;obtain⟨its2,r2,pl2,z2⟩:=I.list hB;obtain⟨⟨cls,dd,data,sl⟩,ho,hc,n,hd⟩:=pl.isList;obtain⟨⟨cls2,dd2,data2,sl2⟩,ho2,hc2,n2,hd2⟩:=pl2.isList;simp only at hc hd hc2 hd2;subst hc hd hc2 hd2;have e:its.toArray++its2.toArray=(its++its2).toArray:=by simp
 have l1:=r.length;have l2:=r2.length;refine concat_meets ⟨_,ho,rfl⟩ ⟨_,ho2,rfl⟩ noFill_list_add seq_list_add PySem.F.slot_list_add PySem.F.entry_list_add (PySem.F.args_list_add_2 _ _) (list_addW l b its.toArray its2.toArray n n2 dd dd2 sl sl2 (by simp only[List.size_toArray];omega)) ⟨ho,ho2,?_⟩;rw[e];exact⟨.ref _,_,I.lnew (t':=s.toks) (r.append r2) (by rw[List.length_append];omega),rfl,q _ I.fresh⟩
noncomputable def zcP (x y:D):Res D:=match x,y with
 | .int i,.int j=>.ok (.int (i+j))
 | .str i,.str j=>if i.length+j.length<=line then .ok (.str (i++j)) else .stuck
 | .lst ds,.lst es=>if ds.length+es.length<=line then .ok (.lst (ds++es)) else .stuck
 | .tup ds,.tup es=>if ds.isEmpty=false/\ds.length+es.length<=line then .ok (.tup (ds++es)) else .stuck
 | _,_=>.stuck
theorem zb5 (ha:DE X E a f)(hb:DE X E b g):DE X E (.BinOp a .Add b pos) (zaa f g zcP):=zsf (OpR.or zxi (OpR.or zlV (OpR.or ztp zto))) (by
 intro x y v u H Ha Q hs r1 r2 q;unfold zcP at q;cases x with
 | int i =>
  cases y with
  | int j=>exact .inl ⟨i,j,zah.mp r1,zah.mp r2,zaM hs q (ri _)⟩
  | _=>exact q.elim
 | str i =>
  cases y with
  | str j =>
   by_cases h:i.length+j.length<=line
   .simp only[if_pos h] at q
    exact .inr (.inl ⟨i,j,Rep.str_iff.mp r1,Rep.str_iff.mp r2,zcU h,zaM hs q (Rep.str_iff.mpr rfl)⟩)
   .simp only[if_neg h] at q;exact q.elim
  | _=>exact q.elim
 | lst ds =>
  cases y with
  | lst es =>
   by_cases h:ds.length+es.length<=line
   .simp only[if_pos h] at q
    obtain⟨l,vs,rfl,h1,h2⟩:=zan.mp r1;obtain⟨m,us,rfl,k1,k2⟩:=zan.mp r2;refine .inr (.inr (.inl ⟨l,m,vs,us,rfl,rfl,zaA.sqL hs h1,zaA.sqL hs k1,by rw[← h2.length,← k2.length];exact zcU h,fun p hp=>?_⟩));exact q _ _ _ (zaI hs hp) (zan.mpr ⟨p,_,rfl,SqL.of zar,(h2.app k2).mono (zaI hs hp).z⟩)
   .simp only[if_neg h] at q;exact q.elim
  | _=>exact q.elim
 | tup ds =>
  cases y with
  | tup es =>
   by_cases h:ds.isEmpty=false/\ds.length+es.length<=line
   .simp only[if_pos h] at q
    obtain⟨l,vs,rfl,h1,h2⟩:=zau.mp r1;obtain⟨m,us,rfl,k1,k2⟩:=zau.mp r2;refine .inr (.inr (.inr ⟨l,m,vs,us,rfl,rfl,zaA.sqT hs h1,zaA.sqT hs k1,fun z=>?_,by rw[← h2.length,← k2.length];exact zcU h.2,fun z=>?_,fun z p hp=>?_⟩))
    .have:=h2.length
     rw[z] at this;have e:ds=[]:=List.length_eq_zero_iff.mp this;rw[e] at h;exact absurd h.1 (by decide)
    .have:=k2.length
     rw[z] at this;have e:es=[]:=List.length_eq_zero_iff.mp this;rw[e,List.append_nil] at q;exact zaM hs q r1
    .exact q _ _ _ (zaI hs hp) (zau.mpr ⟨p,_,rfl,SqT.of zar,(h2.app k2).mono (zaI hs hp).z⟩)
   .simp only[if_neg h] at q;exact q.elim
  | _=>exact q.elim
 | _=>exact q.elim) ha hb
noncomputable def dIx (x y:D):Res D:=match y with
 | .int i=>match x with
  | .lst ds=>match atI ds i with
   | some d=>.ok d
   | none=>.stuck
  | .tup ds=>match atI ds i with
   | some d=>.ok d
   | none=>.stuck
  | .str z=>if z.length<=line then match atI z.cps.toList i with
   | some c=>.ok (.str ⟨#[c]⟩)
   | none=>.stuck else .stuck
  | _=>.stuck
 | _=>.stuck
theorem Reps.atI {K:W.Frag}{H:Hp}{ds:List D}{vs:List V}{i:Int}{d:D}(h:Reps K H ds vs)(e:atI ds i=some d):∃ v,L2.atI vs i=some v/\Rep K H d v:=by
 unfold L2.atI at e ⊢;rw[← h.length];cases q:ixN ds.length i with
 | none=>rw[q] at e;cases e
 | some j =>
  rw[q] at e;exact h.get e
theorem zA5:OpD X.K E (rIx X.K) dIx:=by
 intro x y v u H Ha Q hs r1 r2 q;unfold dIx at q;cases y with
 | int i =>
  cases x with
  | lst ds =>
   obtain⟨l,vs,rfl,h1,h2⟩:=zan.mp r1;cases e:atI ds i with
   | none=>simp only[e] at q;exact q.elim
   | some d =>
    simp only[e] at q;obtain⟨w,e1,e2⟩:=h2.atI e;exact .inl ⟨l,vs,i,w,rfl,zah.mp r2,zaA.sqL hs h1,e1,zaM hs q e2⟩
  | tup ds =>
   obtain⟨l,vs,rfl,h1,h2⟩:=zau.mp r1;cases e:atI ds i with
   | none=>simp only[e] at q;exact q.elim
   | some d =>
    simp only[e] at q;obtain⟨w,e1,e2⟩:=h2.atI e;exact .inr (.inl ⟨l,vs,i,w,rfl,zah.mp r2,zaA.sqT hs h1,e1,zaM hs q e2⟩)
  | str z =>
   by_cases hz:z.length<=line
   .simp only[if_pos hz] at q
    cases e:atI z.cps.toList i with
    | none=>simp only[e] at q;exact q.elim
    | some c =>
     simp only[e] at q;exact .inr (.inr ⟨z,i,c,Rep.str_iff.mp r1,zah.mp r2,zcU hz,e,zaM hs q (Rep.str_iff.mpr rfl)⟩)
   .simp only[if_neg hz] at q;exact q.elim
  | _=>exact q.elim
 | _=>exact q.elim
theorem zag (ha:DE X E a f)(hb:DE X E b g)(hs:zlt b:=by intro _ _;rfl):DE X E (.Subscript a b pos) (zaa f g dIx):=zDf zxn zA5 ha hb hs
def zft:Ev->Res (Option Int):=fun _=>.ok none
noncomputable def ze0 (f:Ev->Res D):Ev->Res (Option Int):=fun ρ=>(f ρ).bind fun x=>match x with
 | .int i=>.ok (some i)
 | _=>.stuck
noncomputable def tDO (K:W.Frag) (E:XK) (f:Ev->Res (Option Int)):TO:=fun σ H Q=>∃ Ha ρ,zaA Ha H/\Reads K Ha σ ρ/\match f ρ with
 | .ok o=>∀ H' Ha',zbj H Ha H' Ha'->Q o H'
 | .exn x=>∀ C ox H' Ha',zbj H Ha H' Ha'->ExR K Ha' x C ox->E C ox H'
 | .stuck=>False
structure DO (X:Cx) (E:XK) (e:Option Expr) (f:Ev->Res (Option Int)):Prop where
 o:PO X e (tDO X.K E f)
theorem zta {eo:Option Expr}{t t':TO}(h:PO X eo t)(w:∀ σ H Q,t' σ H Q->t σ H Q):PO X eo t':=fun pins s σ H Q I q=>h pins s σ H Q I (w σ H Q q)
theorem zgW:DO X E none zft:=⟨zta zyw fun σ H Q ⟨Ha,ρ,hs,hr,q⟩=>q H Ha (zbj.refl hs)⟩
theorem zgV (ha:DE X E a f):DO X E (some a) (ze0 f):=by
 refine⟨?_⟩;refine zta (zyv ha.o) fun σ H Q ⟨Ha,ρ,hs,hr,q⟩=>⟨Ha,ρ,hs,hr,?_⟩
 unfold ze0 at q;cases e1:f ρ with
 | stuck=>rw[e1] at q;exact q
 | exn x=>rw[e1] at q;exact q
 | ok d =>
  rw[e1] at q;intro v H1 H01 g1 r1;cases d with
  | int i=>exact⟨i,zah.mp r1,q H1 H01 g1⟩
  | _=>exact q.elim
noncomputable def zlI (xs:List D) (lo hi:Option Int):List D:=(xs.drop (HT.sIx xs.length 0 lo)).take (HT.sIx xs.length xs.length hi-HT.sIx xs.length 0 lo)
theorem Reps.cut {K:W.Frag}{H:Hp}{ds:List D}{vs:List V}(h:Reps K H ds vs)(lo hi:Option Int):Reps K H (zlI ds lo hi) (zxO vs lo hi):=by
 unfold zlI zxO;rw[← h.length];exact(h.drop _).take _
theorem zpC {r:V->Option Int->Option Int->Hp->VK->Prop}{lo hi:Ev->Res (Option Int)}{m:D->Option Int->Option Int->Res D}
  (ho:∀ x v l h H Ha Q,zaA Ha H->Rep X.K Ha x v->post X.K E H Ha (m x l h) Q->r v l h H Q)(σ:L2.St)(H:Hp)(Q:VK)
  (h:tD X.K E (fun ρ=>(f ρ).bind fun x=>(lo ρ).bind fun l=>(hi ρ).bind fun h=>m x l h) σ H Q):tSl r (tD X.K E f) (tDO X.K E lo) (tDO X.K E hi) σ H Q:=by
 obtain⟨Ha,ρ,hs,hr,q⟩:=h;refine⟨Ha,ρ,hs,hr,?_⟩;replace q:post X.K E H Ha ((f ρ).bind fun x=>(lo ρ).bind fun l=>(hi ρ).bind fun h=>m x l h) Q:=q;cases e1:f ρ with
 | stuck=>rw[e1] at q;exact q
 | exn x=>rw[e1] at q;exact q
 | ok x =>
  rw[e1] at q;intro v H1 H01 g1 r1;refine⟨H01,ρ,g1.sub,hr.mono g1.z,?_⟩;replace q:post X.K E H Ha ((lo ρ).bind fun l=>(hi ρ).bind fun h=>m x l h) Q:=q;replace q:=q.grow g1;cases e2:lo ρ with
  | stuck=>rw[e2] at q;exact q
  | exn x=>rw[e2] at q;exact q
  | ok l =>
   rw[e2] at q;intro H2 H02 g2;refine⟨H02,ρ,g2.sub,(hr.mono g1.z).mono g2.z,?_⟩;replace q:post X.K E H1 H01 ((hi ρ).bind fun h=>m x l h) Q:=q;replace q:=q.grow g2;cases e3:hi ρ with
   | stuck=>rw[e3] at q;exact q
   | exn x=>rw[e3] at q;exact q
   | ok h =>
    rw[e3] at q;intro H3 H03 g3;exact ho x v l h H3 H03 Q g3.sub ((r1.mono g2.z).mono g3.z) (post.grow (r:=m x l h) q g3)
def m1 (m:D->Res D)(ds:List D):Res D:=match ds with
 | [x]=>m x
 | _=>.stuck
def m2 (m:D->D->Res D)(ds:List D):Res D:=match ds with
 | [x,y]=>m x y
 | _=>.stuck
theorem zpi {r:List V->Hp->VK->Prop}{m:D->Res D}(h:∀ x v H Ha Q,zaA Ha H->Rep X.K Ha x v->post X.K E H Ha (m x) Q->r [v] H Q):zhV X E r (m1 m):=by
 intro ds vs H Ha Q hs hr q;unfold m1 at q
 match ds,hr,q with
 | [x],hr,q =>
  obtain⟨v,r',rfl,h1,h2⟩:=zap.mp hr;rw[Reps.nil_iff.mp h2];exact h x v H Ha Q hs h1 q
 | [],_,q=>exact q.elim
 | _::_::_,_,q=>exact q.elim
theorem zBU {r:List V->Hp->VK->Prop}{m:D->D->Res D}(h:∀ x y v u H Ha Q,zaA Ha H->Rep X.K Ha x v->Rep X.K Ha y u->post X.K E H Ha (m x y) Q->r [v,u] H Q):zhV X E r (m2 m):=by
 intro ds vs H Ha Q hs hr q;unfold m2 at q
 match ds,hr,q with
 | [x,y],hr,q =>
  obtain⟨v,r',rfl,h1,h2⟩:=zap.mp hr;obtain⟨u,r'',rfl,h3,h4⟩:=zap.mp h2;rw[Reps.nil_iff.mp h4];exact h x y v u H Ha Q hs h1 h3 q
 | [],_,q=>exact q.elim
 | [_],_,q=>exact q.elim
 | _::_::_::_,_,q=>exact q.elim
def zzS (x:D):Res D:=match x with
 | .int i=>.ok (.int (if i < 0 then -i else i))
 | _=>.stuck
noncomputable def zDh (x y:D):Res D:=match x,y with
 | .int i,.int j=>.ok (.int (if j > i then j else i))
 | _,_=>.stuck
noncomputable def zgl (x:D):Res D:=match x with
 | .lst ds=>.ok (.int ds.length)
 | .tup ds=>.ok (.int ds.length)
 | .str z=>if z.length<=line then .ok (.int z.length) else .stuck
 | _=>.stuck
noncomputable def zk3 (x:D):Res D:=match x with
 | .int i=>.ok (.int i)
 | .bl b=>.ok (.int (if b then 1 else 0))
 | _=>.stuck
def zsh (x:D):Res D:=match x with
 | .lst ds=>.ok (.lst ds)
 | .tup ds=>.ok (.lst ds)
 | _=>.stuck
theorem zvh:zhV X E (fun xs H Q=>∃ i,xs=[.int i]/\Q (.int (if i < 0 then -i else i)) H) (m1 zzS):=zpi fun x v H Ha Q hs r q=>by
 cases x with
 | int i=>exact⟨i,by rw[zah.mp r],zaM hs q (ri _)⟩
 | _=>exact q.elim
theorem zBS:zhV X E (fun xs H Q=>∃ i j,xs=[.int i,.int j]/\Q (.int (if j > i then j else i)) H) (m2 zDh):=zBU fun x y v u H Ha Q hs r r' q=>by
 cases x with
 | int i =>
  cases y with
  | int j=>exact⟨i,j,by rw[zah.mp r,zah.mp r'],zaM hs q (ri _)⟩
  | _=>exact q.elim
 | _=>exact q.elim
theorem zdI:zhV X E (fun xs H Q=>∃ x n,xs=[x]/\zDq X.K x H n/\Q (.int n) H) (m1 zgl):=zpi fun x v H Ha Q hs r q=>by
 cases x with
 | lst ds =>
  obtain⟨p,vs,rfl,h1,h2⟩:=zan.mp r;refine⟨_,vs.length,rfl,.inl ⟨vs,zaA.sqL hs h1,rfl⟩,?_⟩;rw[← h2.length];exact zaM hs q (ri _)
 | tup ds =>
  obtain⟨p,vs,rfl,h1,h2⟩:=zau.mp r;refine⟨_,vs.length,rfl,.inr ⟨vs,zaA.sqT hs h1,rfl⟩,?_⟩;rw[← h2.length];exact zaM hs q (ri _)
 | str z =>
  unfold zgl at q
  by_cases hz:z.length<=line
  .simp only[if_pos hz] at q
   rw[Rep.str_iff.mp r];exact⟨_,z.length,rfl,⟨zcU hz,rfl⟩,zaM hs q (ri _)⟩
  .simp only[if_neg hz] at q;exact q.elim
 | _=>exact q.elim
theorem zBT:zhV X E (fun xs H Q=>(∃ i,xs=[.int i]/\Q (.int i) H)∨∃ k,xs=[.bl k]/\Q (.int (if k then 1 else 0)) H) (m1 zk3):=zpi fun x v H Ha Q hs r q=>by
 cases x with
 | int i=>exact .inl ⟨i,by rw[zah.mp r],zaM hs q (ri _)⟩
 | bl i=>exact .inr ⟨i,by rw[zaq.mp r],zaM hs q (ri _)⟩
 | _=>exact q.elim
theorem zzB:zhV X E (fun xs H Q=>∃ p ys,xs=[.ref p]/\(SqL X.K H p ys∨SqT X.K H p ys)/\∀ l,H l=none->Q (.ref l) (upd H l (.lst ys))) (m1 zsh):=zpi fun x v H Ha Q hs r q=>by
 cases x with
 | lst ds =>
  obtain⟨p,vs,rfl,h1,h2⟩:=zan.mp r;exact⟨p,vs,rfl,.inl (zaA.sqL hs h1),fun n hn=>q _ _ _ (zaI hs hn) (zan.mpr ⟨n,_,rfl,SqL.of zar,h2.mono (zaI hs hn).z⟩)⟩
 | tup ds =>
  obtain⟨p,vs,rfl,h1,h2⟩:=zau.mp r;exact⟨p,vs,rfl,.inr (zaA.sqT hs h1),fun n hn=>q _ _ _ (zaI hs hn) (zan.mpr ⟨n,_,rfl,SqL.of zar,h2.mono (zaI hs hn).z⟩)⟩
 | _=>exact q.elim
theorem zrp {T:String}{r:List V->Hp->VK->Prop}{m:List D->Res D}{x:Str}{p:Pos}(hc:zhU X (.type T) r)(hd:zhV X E r m)(hg:Gl X x)(hm:X.mg x=none)(hv:bootBuiltins x=some (.type T))(ha:DA X E (e::es) fa)(hn:x≠"__name__":=by decide)(hdb:(x==("__debug__" : Str))=false:=by decide)
  (he:starEach (e::es) X.env=(false,eval e X.env)::starEach es X.env:=by exact zaX rfl)(hpl:(backTo pos (starEach es X.env)).any (·.1)=false:=by exact zbC rfl):DE X E (.Call (.Name x p) (e::es) [] pos) (zam fa m) :=
 ⟨zaK (zth hc hg hm hv ha.o hn hdb he hpl) (zhM hd)⟩
def zr7:D->Bool
 | .non=>true
 | _=>false
def zio (x y:D):Res D:=match y with
 | .non=>.ok (.bl (zr7 x))
 | _=>.stuck
def zdF (x y:D):Res D:=match y with
 | .non=>.ok (.bl (!(zr7 x)))
 | _=>.stuck
theorem Rep.is_non {K:W.Frag}{H:Hp}{x:D}{v:V}(r:Rep K H x v):decide (v=.non)=zr7 x:=by
 cases x with
 | non=>rw[zaD.mp r];rfl
 | bl b=>rw[zaq.mp r];rfl
 | int b=>rw[zah.mp r];rfl
 | str b=>rw[Rep.str_iff.mp r];rfl
 | tup ds=>obtain⟨_,_,e,_⟩:=zau.mp r;rw[e];rfl
 | lst ds=>obtain⟨_,_,e,_⟩:=zan.mp r;rw[e];rfl
 | dic ks ds=>rw[Rep] at r;obtain⟨_,_,_,e,_⟩:=r;rw[e];rfl
 | exc x=>obtain⟨_,_,_,e,_⟩:=zls.mp r;rw[e];rfl
 | ob k x=>obtain⟨_,_,e,_⟩:=zmF.mp r;rw[e];rfl
theorem ziG:OpD X.K E (fun x y H Q=>y=.non/\Q (.bl (decide (x=.non))) H) zio:=by
 intro x y v u H Ha Q hs r1 r2 q;unfold zio at q;cases y with
 | non=>exact⟨zaD.mp r2,by rw[r1.is_non];exact zaM hs q (rb _)⟩
 | _=>exact q.elim
theorem zib:OpD X.K E (fun x y H Q=>y=.non/\Q (.bl (!decide (x=.non))) H) zdF:=by
 intro x y v u H Ha Q hs r1 r2 q;unfold zdF at q;cases y with
 | non =>
  refine⟨zaD.mp r2,?_⟩;rw[r1.is_non];exact zaM hs q (rb _)
 | _=>exact q.elim
noncomputable def tyD:D->String
 | .non=>"NoneType"
 | .bl _=>"bool"
 | .int _=>"int"
 | .str _=>"str"
 | .tup _=>"tuple"
 | .lst _=>"list"
 | .dic _ _=>"dict"
 | .exc _=>"<exc>"
 | .ob (.ins _ _) _=>"<exc>"
 | .ob (.dint _) _=>"dict"
 | .ob (.exf _ _) _=>"<exc>"
def zdt (T:String)(x:D):Res D:=.ok (.bl (tyD x==T||(tyD x=="bool"&&T=="int")))
noncomputable def zpv (K:W.Frag) (T:String):Prop:=∀ S,S∈["NoneType","bool","int","str","tuple","list","dict"]->W.kitOne K (.type S) (.type T)=some (S==T||(S=="bool"&&T=="int"))
theorem zwt {pins:List (Addr×Obj)}{σ:L2.St}{H:Hp}{s:Shared}{A:Around}{Q:Value->Shared->Prop}{x:D}{v:V}{u:Value}{T:String}(I:Inv X pins σ H s)(r:Rep X.K H x v)(q:zbw v u)(hk:zpv X.K T)(hT:T∈zhF)(h:∀ tk,Q (.bool (tyD x==T||(tyD x=="bool"&&T=="int"))) { s with toks:=tk }) :
  wpAny (model X.prog X.w) A (call (.builtin "isinstance") [u,.type T]) Q X.xe s:=by
 cases x with
 | non=>rw[zaD.mp r] at q;exact zhc I q .non (hk _ (by simp)) h
 | bl b=>rw[zaq.mp r] at q;exact zhc I q (.bl b) (hk _ (by simp)) h
 | int b=>rw[zah.mp r] at q;exact zhc I q (.int b) (hk _ (by simp)) h
 | str b=>rw[Rep.str_iff.mp r] at q;exact zhc I q (.str b) (hk _ (by simp)) h
 | tup ds =>
  obtain⟨a,vs,its,rfl,rfl,h1,h2,h3,h4,_⟩:=zaJ I r q;obtain⟨o,k1,k2,_⟩:=h4;exact W.kia_one W.kitx_tuple I.kIn ⟨o,k1,k2⟩ (hk _ (by simp)) (fun z=>nomatch z) h
 | lst ds =>
  obtain⟨a,vs,its,rfl,rfl,h1,h2,h3,h4,_⟩:=zaG I r q;obtain⟨o,k1,k2,_⟩:=h4;exact W.kia_one W.kitx_list I.kIn ⟨o,k1,k2⟩ (hk _ (by simp)) (fun z=>nomatch z) h
 | dic ks ds =>
  rw[Rep] at r;obtain⟨a,kvs,vs,rfl,h1,h2,_⟩:=r;cases (show u=Value.ref a from q);obtain⟨_,_,vs',_,p⟩:=h1.ok I.hok;obtain⟨o,es,ep,k1,k2,_⟩:=p;exact W.kia_one W.kitx_dict I.kIn ⟨o,k1,k2.1⟩ (hk _ (by simp)) (fun z=>nomatch z) h
 | exc x =>
  obtain⟨a,C,dc,rfl,hc,h1⟩:=zls.mp r;cases (show u=Value.ref a from q);obtain⟨p,_,_⟩:=h1.ok I.hok;have e:(tyD (.exc x)==T||(tyD (.exc x)=="bool"&&T=="int"))=false:=by
   have:∀ T∈zhF,(tyD (.exc x)==T||(tyD (.exc x)=="bool"&&T=="int"))=false:=by show ∀ T∈zhF,("<exc>"==T||("<exc>"=="bool"&&T=="int"))=false;decide
   exact this T hT
  rw[e] at h;exact W.kia_one (zqQ hc.ek hc.ek.isCls) I.kIn p (hc.bt T hT) (fun z=>nomatch z) h
 | ob k xs =>
  obtain⟨a,vs,rfl,h1,_⟩:=zmF.mp r;cases (show u=Value.ref a from q);cases k with
  | exf c ks =>
   obtain⟨C,dx,fs,hc,h2,_⟩:=h1;obtain⟨p,_,_⟩:=h2.ok I.hok;have e:(tyD (.ob (.exf c ks) xs)==T||(tyD (.ob (.exf c ks) xs)=="bool"&&T=="int"))=false:=by
    have:∀ T∈zhF,("<exc>"==T||("<exc>"=="bool"&&T=="int"))=false:=by decide
    exact this T hT
   rw[e] at h;exact W.kia_one (zqQ hc.ek hc.ek.isCls) I.kIn p (hc.bt T hT) (fun z=>nomatch z) h
  | ins c ks =>
   obtain⟨C,dx,_,hc,h2,_⟩:=h1;obtain⟨mA,O,_⟩:=ztR I.hok h2;obtain⟨od,O',_⟩:=O.look;have e:(tyD (.ob (.ins c ks) xs)==T||(tyD (.ob (.ins c ks) xs)=="bool"&&T=="int"))=false:=by
    have:∀ T∈zhF,(tyD (.ob (.ins c ks) xs)==T||(tyD (.ob (.ins c ks) xs)=="bool"&&T=="int"))=false:=by show ∀ T∈zhF,("<exc>"==T||("<exc>"=="bool"&&T=="int"))=false;decide
    exact this T hT
   rw[e] at h;exact W.kia_one (W.kitx_own (hc.cls.get _) hc.cls.hd hc.gc hc.gn hc.tk hc.mo) I.kIn O' (hc.bt T hT) (fun z=>nomatch z) h
  | dint ks =>
   obtain⟨kvs,h2,_⟩:=h1;obtain⟨_,_,vs',_,p⟩:=h2.ok I.hok;obtain⟨o,es,ep,k1,k2,_⟩:=p;exact W.kia_one W.kitx_dict I.kIn ⟨o,k1,k2.1⟩ (hk _ (by simp)) (fun z=>nomatch z) h
theorem zb4 {T:String}{x:Str}{p1 p2:Pos}(hk:zpv X.K T)(hgi:Gl X "isinstance")(hmi:X.mg "isinstance"=none)(hg:Gl X x)(hm:X.mg x=none)(hv:bootBuiltins x=some (.type T))(ha:DE X E a f)
  (hn:x≠"__name__":=by decide)(hdb:(x==("__debug__" : Str))=false:=by decide)(hT:T∈zhF:=by decide)
  (he:starEach [a,.Name x p2] X.env=(false,eval a X.env)::starEach [.Name x p2] X.env:=by exact zaX rfl)(he2:starEach [.Name x p2] X.env=(false,eval (.Name x p2) X.env)::starEach [] X.env:=by exact zaX rfl)(hpl:(backTo pos (starEach [.Name x p2] X.env)).any (·.1)=false:=by exact zbC rfl) :
  DE X E (.Call (.Name "isinstance" p1) [a,.Name x p2] [] pos) (zdG f (zdt T)):=by
 refine⟨?_⟩;refine zaK (zqD (r:=fun vs H Q=>∃ d v,vs=[v,.ty T]/\Rep X.K H d v/\Q (.bl (tyD d==T||(tyD d=="bool"&&T=="int"))) H) ?_ hgi hmi PyProof.Rows.Boot.«isinstance» (zdZ ha.o (zdZ (zyF (v:=.ty T) hg hm hv rfl hn hdb) zg7 he2) he) (by decide) (by decide) he hpl) fun σ H Q ⟨Ha,ρ,hs,hr,q⟩=>⟨Ha,ρ,hs,hr,?_⟩
 .intro pins s σ H xs us Q I r h
  obtain⟨d,v,rfl,h1,q⟩:=h;cases r with
  | cons r1 r2 =>
   cases r2 with
   | cons r3 r4 =>
    cases r4;rename_i u1 u2;obtain rfl:u2=Value.type T:=r3;exact zwt I h1 r1 hk hT fun tk=>⟨.bl _,H,I.tok _,rfl,q⟩
 .unfold zdG at q
  cases e1:f ρ with
  | stuck=>rw[e1] at q;exact q
  | exn x=>rw[e1] at q;exact q
  | ok d =>
   rw[e1] at q;intro v H1 H01 g1 r1;exact⟨d,v,rfl,r1.mono g1.sub,q _ H1 H01 g1 (rb _)⟩
end
theorem zo3 {prog:Program}{w:World}{A:Around}{E:Value->Shared->Prop}{it t:Addr}{items:Array Value}(hne:t≠it):∀ (n i:Nat) (s:Shared) (Q:List Value->Shared->Prop),s.heap.IsListIter it t i->s.heap.IsList t items->i+n<=items.size ->
  (∀ h',h'.IsListIter it t (i+n)->Heap.SameBut it s.heap h'->Q ((items.toList.drop i).take n) { s with heap:=h' })->wpAny (model prog w) A (draw (.ref it) n) Q E s
 | 0,i,s,Q,hit,_,_,hQ=>by
  show wpAny _ _ (pure []) Q E s;exact wpAny_pure (by simpa using hQ s.heap hit (Heap.SameBut.refl ..))
 | n+1,i,s,Q,hit,ht,hle,hQ=>by
  have hlt:i < items.size:=by omega
  show wpAny _ _ (pyNext (.ref it) >>= _) Q E s;refine wpAny_bind (wpAny_pyNext_list_item hit ht (x:=items[i]) (by simp [hlt]) fun hV hit₁ hs₁=>?_);have ht₁:hV.IsList t items:=by
   obtain⟨o,k1,k2⟩:=ht;exact⟨o,(hs₁.2 t hne).trans k1,k2⟩
  refine wpAny_bind (wpAny_holding (zo3 hne n (i+1) _ _ hit₁ ht₁ (by omega) fun hX hit₂ hs₂=>wpAny_pure ?_));have hd:items.toList.drop i=items[i]::items.toList.drop (i+1):=by simp [List.drop_eq_getElem_cons,hlt]
  have:=hQ hX (by rw[show i+(n+1)=i+1+n by omega];exact hit₂) (hs₁.trans hs₂);rw[hd,List.take_succ_cons] at this;exact this
theorem zi1 {prog:Program}{w:World}{A:Around}{E:Value->Shared->Prop}{s:Shared}{t:Addr}{items:Array Value}{Q:List Value->Shared->Prop}(hh:A.handled=none)(ht:s.heap.IsList t items)
  (hQ:∀ h',Heap.ExtBut s.heap.objs.size s.heap h'->Q items.toList { s with heap:=h' }):wpAny (model prog w) A (unpackItems (.ref t) items.size none) Q E s:=by
 have hlt:t≠s.heap.objs.size:=by obtain⟨o,ho,_⟩:=ht;exact Nat.ne_of_lt (Heap.lt_size ho)
 unfold unpackItems;refine wpAny_bind ?_
 .unfold notIterableAtAll
  refine wpAny_bind (wpAny_specialOf ht.typeIs slot_list_iter.lookup ?_);refine wpAny_pure ?_;simp only[Bool.false_eq_true,if_false];refine wpAny_bind (wpAny_holding (wpAny_pyIter_list ht ?_));have ht0:(s.heap.push { cls:=.type "list_iterator",data:=.fields #[.ref t,.int 0 0] }).IsList t items:=by
   obtain⟨o,k1,k2⟩:=ht;exact⟨o,Heap.get?_push_of_some _ k1,k2⟩
  refine wpAny_bind (wpAny_holding (zo3 hlt items.size 0 _ _ ⟨_,Heap.get?_push_size _ rfl,rfl,rfl⟩ ht0 (by omega) fun hV hit₁ hs₁=>?_));have hall:List.take items.size (List.drop 0 items.toList)=items.toList:=by
   rw[List.drop_zero];exact List.take_of_length_le (by simp)
  rw[hall];rw[if_neg (by simp)];have ht₁:hV.IsList t items:=by
   obtain⟨o,k1,k2⟩:=ht0;exact⟨o,(hs₁.2 t hlt).trans k1,k2⟩
  refine wpAny_bind (wpAny_holding (wpAny_pyNext_list_end hh hit₁ ht₁ (by simp) fun hX he₂=>?_));simp only[Option.isSome_none,Bool.false_eq_true,if_false];refine wpAny_pure (hQ hX fun b o hb e=>he₂ b o hb (hs₁.extBut b o hb (Heap.get?_push_of_some _ e)))
def zyo (σ:L2.St):List Nat->List V->L2.St
 | i::is,v::vs=>zyo (σ.set i (some v)) is vs
 | _,_=>σ
def zdT (ρ:Ev):List Nat->List D->Ev
 | i::is,d::ds=>zdT (ρ.set i (.sh d)) is ds
 | _,_=>ρ
theorem SRx.putAll {K:W.Frag}{He H0e Ha H:Hp}:∀ {is:List Nat}{ds:List D}{vs:List V}{σ:L2.St}{ρ:Ev},SRx K He H0e Ha σ H ρ->Reps K Ha ds vs->SRx K He H0e Ha (zyo σ is vs) H (zdT ρ is ds)
 | [],_,_,_,_,h,_=>by unfold zyo zdT;exact h
 | _::_,[],_,_,_,h,r=>by rw[Reps.nil_iff.mp r];unfold zyo zdT;exact h
 | i::is,d::ds,_,_,_,h,r=>by
  obtain⟨v,vs,rfl,h1,h2⟩:=zap.mp r;unfold zyo zdT;exact SRx.putAll (h.put h1) h2
section
variable {X:Cx}{E:XK}{He H0e:Hp}{e a b:Expr}{es:List Expr}{f g:Ev->Res D}{fa:Ev->Res (List D)}{pos:Pos}{is:List Nat}
def tVs (is:List Nat):TGs:=fun vs σ H Q=>vs.length=is.length/\Q (zyo σ is vs) H
theorem zqB {t t':TGs}(h:PGs X es t)(w:∀ vs σ H Q,t' vs σ H Q->t vs σ H Q):PGs X es t':=fun pins s σ H vs us Q I r q=>h pins s σ H vs us Q I r (w vs σ H Q q)
theorem zin:PGs X [] (tVs []):=zqB zyz fun vs σ H Q ⟨h,q⟩=>by
 have e:vs=[]:=List.length_eq_zero_iff.mp h;subst e;exact⟨rfl,q⟩
theorem zbQ {i:Nat}{x:Str}{p:Pos}(hN:X.N.Nodup)(hi:X.N[i]?=some x)(hx:Loc X.env.scope x)(h:PGs X es (tVs is))(hf:X.fn x=true∨X.env.scope.names.lookup x=some .local := by first | exact .inl rfl | exact .inr rfl | assumption)
  (hs:(assignEach (.Name x p::es) X.env).map (·.2)=assign (.Name x p) X.env::(assignEach es X.env).map (·.2):=by rfl):PGs X (.Name x p::es) (tVs (i::is)) :=
 zqB (zwd (zte hN hi hx hf) h hs) fun vs σ H Q ⟨h,q⟩=>by
  cases vs with
  | nil=>simp at h
  | cons v vs=>exact⟨v,vs,rfl,by simpa using h,q⟩
theorem zyA {k:Nat}{t:TGs}{n:Nat}(hc:X.calm=true)(h:PGs X es t)
  (hn:(assignEach es X.env).length=n:=by rfl)(hst:(assignEach es X.env).findIdx? (·.1)=none:=by rfl):PG X (.Tuple es k pos) (fun v σ H Q=>∃ a xs,v=.ref a/\SqL X.K H a xs/\xs.length=n/\t xs σ H Q):=by
 intro pins s σ H v u Q I r hw;obtain⟨a,xs,e1,hq,hl,hw⟩:=hw;subst e1;cases r;obtain⟨its,rv,ht,hz⟩:=I.list hq;rw[assign_Tuple];refine wpAny_bind (wpAny_standAt ?_);unfold unpack;rw[hn,hst];have hsz:n=its.toArray.size:=by rw[List.size_toArray,← rv.length,hl]
 rw[hsz];refine wpAny_bind (wpAny_holding (zi1 (I.ok.hd hc) ht.isList fun h' hx=>?_));have I1:Inv X pins σ H { s with heap:=h' }:=I.kept (t':=s.toks) fun b o e=>hx b o (Nat.ne_of_lt (Heap.lt_size e)) e;exact h pins _ σ H xs _ Q I1 (by simpa using rv) hw
theorem zCL {tgt:Expr}{t t':TG}(h:PG X tgt t)(h':PG X tgt t'):PG X tgt (fun v σ H Q=>t v σ H Q∨t' v σ H Q):=fun pins s σ H v u Q I r q=>q.elim (h pins s σ H v u Q I r) (h' pins s σ H v u Q I r)
theorem zAP {k:Nat}(hc:X.calm=true)(h:PGs X es (tVs is))(hn:(assignEach es X.env).length=is.length:=by rfl)(hst:(assignEach es X.env).findIdx? (·.1)=none:=by rfl) :
  PG X (.Tuple es k pos) (fun v σ H Q=>∃ a xs,v=.ref a/\(SqT X.K H a xs∨SqL X.K H a xs)/\xs.length=is.length/\Q (zyo σ is xs) H) :=
 zpL (zCL (zAO hc h hn hst) (zyA hc h hn hst)) fun v σ H Q ⟨a,xs,e,hq,hl,q⟩=>hq.elim (fun z=>.inl ⟨a,xs,e,z,hl,hl,q⟩) fun z=>.inr ⟨a,xs,e,z,hl,hl,q⟩
noncomputable def zeZ (n:Nat) (d:D):Option (List D):=match d with
 | .tup ds=>if ds.length=n then some ds else none
 | .lst ds=>if ds.length=n then some ds else none
 | _=>none
theorem zpM {K:W.Frag}{H:Hp}{n:Nat}{d:D}{ds:List D}{v:V}(h:zeZ n d=some ds)(r:Rep K H d v):∃ a vs,v=.ref a/\(SqT K H a vs∨SqL K H a vs)/\vs.length=n/\Reps K H ds vs:=by
 unfold zeZ at h;cases d with
 | tup es =>
  by_cases c:es.length=n
  .simp only[if_pos c] at h;cases h
   obtain⟨a,vs,rfl,h1,h2⟩:=zau.mp r;exact⟨a,vs,rfl,.inl h1,by rw[← h2.length];exact c,h2⟩
  .simp only[if_neg c] at h;cases h
 | lst es =>
  by_cases c:es.length=n
  .simp only[if_pos c] at h;cases h
   obtain⟨a,vs,rfl,h1,h2⟩:=zan.mp r;exact⟨a,vs,rfl,.inr h1,by rw[← h2.length];exact c,h2⟩
  .simp only[if_neg c] at h;cases h
 | _=>cases h
theorem zvU {K:W.Frag}{H H':Hp}{a:Addr}{vs:List V}(hs:zaA H H')(h:SqT K H a vs∨SqL K H a vs):SqT K H' a vs∨SqL K H' a vs:=h.elim (fun z=>.inl (zaA.sqT hs z)) fun z=>.inr (zaA.sqL hs z)
noncomputable def zEj (is:List Nat) (f:Ev->Res D):Ev->Res Fl:=fun ρ=>(f ρ).bind fun d=>match zeZ is.length d with
 | some ds=>.ok (.nx (zdT ρ is ds))
 | none=>.stuck
noncomputable def zm7 (is:List Nat):Ev->D->Res Ev:=fun ρ d=>match zeZ is.length d with
 | some ds=>.ok (zdT ρ is ds)
 | none=>.stuck
theorem zev:zsr (zm7 is):=fun ρ d=>by
 unfold zm7;cases zeZ is.length d with
 | none=>exact .inl rfl
 | some ds=>exact .inr ⟨_,rfl⟩
theorem zmc {k:Nat}(hc:X.calm=true)(h:PGs X es (tVs is))(hn:(assignEach es X.env).length=is.length:=by rfl)(hst:(assignEach es X.env).findIdx? (·.1)=none:=by rfl):DG X E He H0e (.Tuple es k pos) (zm7 is) :=
 ⟨zpL (zAP hc h hn hst) fun v σ H Q ⟨Ha,ρ,d,h,rp,q⟩=>by
  unfold zm7 at q;cases e1:zeZ is.length d with
  | none=>rw[e1] at q;exact q.elim
  | some ds =>
   rw[e1] at q;obtain⟨a,vs,rfl,k1,k2,k3⟩:=zpM e1 rp;exact⟨a,vs,rfl,zvU h.g.sub k1,k2,q _ H Ha (zaA.refl _) (h.putAll k3)⟩⟩
noncomputable def zvA (i j:Nat) (fa:Ev->Res (List D)):Ev->Res Fl:=fun ρ=>(fa ρ).bind fun ds=>match ds with
 | [x,y]=>.ok (.nx ((ρ.set i (.sh x)).set j (.sh y)))
 | _=>.stuck
theorem zBF {i j:Nat}{x y:Str}{px py pt pt2:Pos}{kt k2}(hc:X.calm=true)(hN:X.N.Nodup)(hi:X.N[i]?=some x)(hj:X.N[j]?=some y)(hij:i≠j)
  (hx:X.env.scope.names.lookup x=some .local)(hy:X.env.scope.names.lookup y=some .local)(ha:DA X E [a,b] fa)
  (hw:swappedStores [.Tuple [.Name x px,.Name y py] kt pt] (.Tuple [a,b] k2 pt2) X.env=pure (some [x,y]))
  (hs:swapsWithSole [.Tuple [.Name x px,.Name y py] kt pt] (.Tuple [a,b] k2 pt2) pos.line X.env=pure false:=by rfl) :
  DS X E He H0e (.Assign [.Tuple [.Name x px,.Name y py] kt pt] (.Tuple [a,b] k2 pt2) pos) (zvA i j fa):=by
 refine⟨?_⟩;refine za3 (zAK hc hN hi hj hij hx hy ha.o hw hs) fun D σ H ⟨Ha,ρ,h,q⟩=>⟨Ha,ρ,h.g.sub,h.rd,?_⟩
 unfold zvA at q;cases e1:fa ρ with
 | stuck=>rw[e1] at q;exact q
 | exn x=>rw[e1] at q;exact fun C ox H' Ha' g ex=>q C ox H' Ha' (h.g.trans g) ex
 | ok ds =>
  rw[e1] at q;intro vs H1 H01 g1 r1
  match ds,r1,q with
  | [x,y],r1,q =>
   obtain⟨v,r',rfl,h1,h2⟩:=zap.mp r1;obtain⟨u,r'',rfl,h3,h4⟩:=zap.mp h2;rw[Reps.nil_iff.mp h4];exact⟨v,u,rfl,q _ H1 H01 g1.z (((h.grow g1).put h1).put h3)⟩
  | [],_,q=>exact q.elim
  | [_],_,q=>exact q.elim
  | _::_::_::_,_,q=>exact q.elim
end
theorem zr2 {K:W.Frag}:zpv K "int":=by
 intro S hS;simp only[List.mem_cons,List.mem_nil_iff,or_false] at hS;rcases hS with rfl | rfl | rfl | rfl | rfl | rfl | rfl<;>first | rfl | decide +kernel
theorem zpZ {K:W.Frag}:zpv K "bool":=by
 intro S hS;simp only[List.mem_cons,List.mem_nil_iff,or_false] at hS;rcases hS with rfl | rfl | rfl | rfl | rfl | rfl | rfl<;>first | rfl | decide +kernel
theorem zlY {K:W.Frag}:zpv K "str":=by
 intro S hS;simp only[List.mem_cons,List.mem_nil_iff,or_false] at hS;rcases hS with rfl | rfl | rfl | rfl | rfl | rfl | rfl<;>first | rfl | decide +kernel
theorem zfP {K:W.Frag}:zpv K "tuple":=by
 intro S hS;simp only[List.mem_cons,List.mem_nil_iff,or_false] at hS;rcases hS with rfl | rfl | rfl | rfl | rfl | rfl | rfl<;>first | rfl | decide +kernel
theorem zgS {K:W.Frag}:zpv K "list":=by
 intro S hS;simp only[List.mem_cons,List.mem_nil_iff,or_false] at hS;rcases hS with rfl | rfl | rfl | rfl | rfl | rfl | rfl<;>first | rfl | decide +kernel
theorem zpY {K:W.Frag}:zpv K "dict":=by
 intro S hS;simp only[List.mem_cons,List.mem_nil_iff,or_false] at hS;rcases hS with rfl | rfl | rfl | rfl | rfl | rfl | rfl<;>first | rfl | decide +kernel
section
variable {X:Cx}{E:XK}{He H0e:Hp}{e a b c:Expr}{f g h:Ev->Res D}{pos:Pos}
theorem dv (i:Nat){x:Str}(hN:X.N[i]?=some x:=by rfl)(hv:Vis X.env.scope x:=by first | exact Or.inl rfl | exact Or.inr (Or.inl rfl) | exact Or.inr (Or.inr rfl))(hd:(x==("__debug__" : Str))=false:=by decide)
  (hcd:(x==("__classdict__" : Str))=false:=by decide):DE X E (.Name x pos) (zad i):=zBL hN hv hd hcd
noncomputable def Kon (K:W.Frag) (mg:Str->Option Value) (x:Str) (d:D):Prop:=∃ v u,mg x=some u/\zbw v u/\∀ H,Rep K H d v
theorem zaN {x:Str}{d:D}(k:Kon X.K X.mg x d)(hg:Gl X x)(hd:(x==("__debug__" : Str))=false:=by decide):DE X E (.Name x pos) (dC d):=by
 obtain⟨v,u,h1,h2,h3⟩:=k;exact zzs hg h1 h2 h3 hd
theorem zdq {K:W.Frag}{mg:Str->Option Value}{x:Str}{i:Int}{t:Tok}(h:mg x=some (.int i t)):Kon K mg x (.int i):=⟨.int i,_,h,⟨t,rfl⟩,fun _=>ri _⟩
theorem zy5 {K:W.Frag}{mg:Str->Option Value}{x:Str}{i:Str}{t:Tok}(h:mg x=some (.str i t)):Kon K mg x (.str i):=⟨.str i,_,h,⟨t,rfl⟩,fun _=>Rep.str_iff.mpr rfl⟩
theorem ztI {K:W.Frag}{mg:Str->Option Value}{x:Str}{a:Addr}{od:Option Addr}{its:Array Value}{n:Nat}{sl:Array (Option Value)}{ds:List D}{vs:List V}(h:mg x=some (.ref a))(l:K.lookup a=some ⟨.type "tuple",od,.seq its n,sl⟩)
  (hv:zbO vs its.toList)(hz:its.size<=sizeLine)(hd:∀ H,Reps K H ds vs):Kon K mg x (.tup ds):=⟨.ref a,_,h,rfl,fun H=>zau.mpr ⟨a,vs,rfl,.inr ⟨_,its,n,l,rfl,rfl,hz,hv⟩,hd H⟩⟩
noncomputable def zgB (op op':D->D->Res D) (f g h:Ev->Res D):Ev->Res D:=fun ρ=>(f ρ).bind fun x=>(g ρ).bind fun y=>(op x y).bind fun z=>match z with
 | .bl true=>(h ρ).bind fun w=>op' y w
 | .bl false=>.ok (.bl false)
 | _=>.stuck
noncomputable def zql (r:R2) (o:D->D->Res D):Prop:=∀ (K:W.Frag) (x y:D) (v u:V) (H Ha:Hp) (Q:VK) (d:D),zaA Ha H->Rep K Ha x v->Rep K Ha y u->o x y=.ok d->(∀ w,Rep K Ha d w->Q w H)->r v u H Q
theorem zex {gv:Int->Int->V}{g:Int->Int->D}(hg:∀ K H i j,Rep K H (g i j) (gv i j)):zql (rI0 gv) (iop (fun _ _=>true) g):=by
 intro K x y v u H Ha Q d hs r1 r2 e q;unfold iop at e;cases x with
 | int i =>
  cases y with
  | int j=>simp only[if_pos] at e;cases e;exact⟨i,j,zah.mp r1,zah.mp r2,q _ (hg _ _ i j)⟩
  | _=>cases e
 | _=>cases e
def zqm (o:D->D->Res D):Prop:=∀ x y,∀ z,o x y≠.exn z
theorem zk9 {r r':R2}{o o':D->D->Res D}(p:zql r o)(p':zql r' o')(n:zqm o)(n':zqm o')(σ:L2.St)(H:Hp)(Q:VK)(q:tD X.K E (zgB o o' f g h) σ H Q) :
  zsM r r' (tD X.K E f) (tD X.K E g) (tD X.K E h) σ H Q:=by
 obtain⟨Ha,ρ,hs,hr,q⟩:=q;refine⟨Ha,ρ,hs,hr,?_⟩;unfold zgB at q;cases e1:f ρ with
 | stuck=>rw[e1] at q;exact q
 | exn x=>rw[e1] at q;exact q
 | ok x =>
  rw[e1] at q;intro v H1 H01 g1 r1;refine⟨H01,ρ,g1.sub,hr.mono g1.z,?_⟩;replace q:=post.grow (r:=(g ρ).bind fun y=>(o x y).bind fun z=>match z with
   | .bl true=>(h ρ).bind fun w=>o' y w
   | .bl false=>.ok (.bl false)
   | _=>.stuck) q g1
  cases e2:g ρ with
  | stuck=>rw[e2] at q;exact q
  | exn x=>rw[e2] at q;exact q
  | ok y =>
   rw[e2] at q;intro u H2 H02 g2 r2;replace q:=post.grow (r:=(o x y).bind fun z=>match z with
    | .bl true=>(h ρ).bind fun w=>o' y w
    | .bl false=>.ok (.bl false)
    | _=>.stuck) q g2
   cases e3:o x y with
   | stuck=>rw[e3] at q;exact q.elim
   | exn z=>exact absurd e3 (n x y z)
   | ok z =>
    rw[e3] at q;refine p X.K x y v u H2 H02 _ z g2.sub (r1.mono g2.z) r2 e3 fun w rw'=>?_;cases z with
    | bl b =>
     rw[zaq.mp rw'];refine⟨b,rfl,?_⟩;cases b with
     | false=>rw[if_neg Bool.false_ne_true];exact q _ H2 H02 (zbj.refl g2.sub) (rb _)
     | true =>
      rw[if_pos rfl];refine⟨H02,ρ,g2.sub,(hr.mono g1.z).mono g2.z,?_⟩;replace q:post X.K E H2 H02 ((h ρ).bind fun w=>o' y w) Q:=q;cases e4:h ρ with
      | stuck=>rw[e4] at q;exact q
      | exn x=>rw[e4] at q;exact q
      | ok w2 =>
       rw[e4] at q;intro v3 H3 H03 g3 r3;replace q:=post.grow (r:=o' y w2) q g3;cases e5:o' y w2 with
       | stuck=>rw[e5] at q;exact q.elim
       | exn z=>exact absurd e5 (n' y w2 z)
       | ok d =>
        rw[e5] at q;exact p' X.K y w2 u v3 H3 H03 Q d g3.sub (r2.mono g3.z) r3 e5 fun w3 r5=>q w3 H3 H03 (zbj.refl g3.sub) r5
    | _=>exact q.elim
theorem zwO {op op':CmpOp}{r r':R2}{o o':D->D->Res D}(ho:OpR X (compareOp op) r)(ho':OpR X (compareOp op') r')(p:zql r o)(p':zql r' o')(n:zqm o)(n':zqm o')(ha:DE X E a f)(hb:DE X E b g)(hc:DE X E c h)
  (hm:lastMarks [op,op'] [b,c]=false:=by with_unfolding_all rfl):DE X E (.Compare a [op,op'] [b,c] pos) (zgB o o' f g h):=⟨zaK (zwg ho ho' ha.o hb.o hc.o hm) (zk9 p p' n n')⟩
theorem zri {op op':CmpOp}{r r':R2}{o o':D->D->Res D}(ho:OpR X (compareOp op) r)(ho':OpR X (compareOp op') r')(p:zql r o)(p':zql r' o')(n:zqm o)(n':zqm o')(ha:DE X E a f)(hb:DE X E b g)(hc:DE X E c h)
  (hm:lastMarks [op,op'] [b,c]=false:=by with_unfolding_all rfl):DT X E (.Compare a [op,op'] [b,c] pos) (zgB o o' f g h):=by
 refine⟨?_⟩;refine zeX (zv7 ho ho' ha.o hb.o hc.o hm) fun σ H Q q=>?_;have w:tD X.K E (zgB o o' f g h) σ H fun x H'=>∃ k,x=.bl k/\Q k H':=by
  obtain⟨Ha,ρ,hs,hr,q⟩:=q;refine⟨Ha,ρ,hs,hr,?_⟩;cases e1:zgB o o' f g h ρ with
  | stuck=>rw[e1] at q;exact q
  | exn x=>rw[e1] at q;exact q
  | ok d =>
   rw[e1] at q;intro v H1 H01 g1 r1;cases d with
   | bl b=>rw[zaq.mp r1];exact⟨b,rfl,q H1 H01 g1⟩
   | _=>exact q.elim
 exact zk9 p p' n n' σ H _ w
theorem zez {c:Int->Int->Bool}{g:Int->Int->D}:zqm (iop c g):=by
 intro x y z;unfold iop;cases x<;>cases y<;>simp<;>split<;>simp
end
def zie (i:Nat):Ev->Nat:=fun ρ=>match ρ[i]? with
 | some (.sh (.int j))=>j.natAbs+1
 | _=>0
section
variable {X:Cx}{E:XK}{a b:Expr}{f g:Ev->Res D}{pos:Pos}
noncomputable def zbN (x y:D):Res D:=match x,y with
 | .int i,.int j=>if zer i j=true then .ok (.int (i*j)) else .stuck
 | _,_=>.stuck
theorem zdc (ha:DE X E a f)(hb:DE X E b g):DE X E (.BinOp a .Mult b pos) (zaa f g zbN):=zsf zyI (by
 intro x y v u H Ha Q hs r1 r2 q;unfold zbN at q;cases x with
 | int i =>
  cases y with
  | int j =>
   by_cases h:zer i j=true
   .simp only[if_pos h] at q
    exact⟨i,j,zah.mp r1,zah.mp r2,zer.ok h,zaM hs q (ri _)⟩
   .simp only[if_neg h] at q;exact q.elim
  | _=>exact q.elim
 | _=>exact q.elim) ha hb
end
def zC6 (K:W.Frag)(tg:Ev->D->Res Ev):TG:=fun v σ H Q=>∃ He H0e,tG K He H0e tg v σ H Q
section
variable {X:Cx}{E:XK}{a b:Expr}{f g:Ev->Res D}{pos:Pos}
noncomputable def zBN (x y:D):Res D:=match x,y with
 | .lst ds,.int k=>if ds.length*k.toNat<=line/\-9223372036854775808<=k/\k < 9223372036854775808 then .ok (.lst (List.replicate k.toNat ds).flatten) else .stuck
 | _,_=>.stuck
noncomputable def zEk (f g:Ev->Res D):Ev->Res D:=fun ρ=>(f ρ).bind fun x=>match x with
 | .lst ds=>(g ρ).bind fun y=>zBN (.lst ds) y
 | _=>.stuck
end
def zgp:List D->Option (List Str)
 | []=>some []
 | .str x::r=>(zgp r).map (x::·)
 | _=>none
theorem zqr {K:W.Frag}{H:Hp}:∀ {ds:List D}{ys:List Str}{vs:List V}{us:List Value},zgp ds=some ys->Reps K H ds vs->zbO vs us->StrsAre us ys
 | [],ys,vs,us,h,r,q=>by
  cases h;rw[Reps.nil_iff.mp r] at q;cases q;exact .nil
 | d::ds,ys,vs,us,h,r,q=>by
  obtain⟨v,r',rfl,h1,h2⟩:=zap.mp r;cases q with
  | cons q1 q2 =>
   cases d with
   | str x =>
    unfold zgp at h;cases e:zgp ds with
    | none=>rw[e] at h;cases h
    | some zs =>
     rw[e] at h;cases h;rw[Rep.str_iff.mp h1] at q1;obtain⟨t,rfl⟩:=q1;exact .cons _ _ (zqr e h2 q2)
   | _=>cases h
section
variable {X:Cx}{E:XK}{o e:Expr}{fo:Ev->Res D}{fa:Ev->Res (List D)}
noncomputable def zfQ (z:Str) (ys:List Str):Bool:=decide (z.length<=16)&&decide ((ys.map (·.length)).sum+ys.length<=1048576)
noncomputable def zCG (K:W.Frag):V->List V->Hp->VK->Prop:=fun x xs H Q=>∃ z p ds ys,x=.str z/\xs=[.ref p]/\Rep K H (.lst ds) (.ref p)/\zgp ds=some ys/\zfQ z ys=true/\Q (.str (Txt.join z ys)) H
theorem zyT:MtR X "str.join" (zCG X.K):=by
 intro pins s σ H x xs v us Q I rx rs h;obtain⟨z,p,ds,ys,rfl,rfl,hr,hy,hf,q⟩:=h;obtain⟨t,rfl⟩:=rx;obtain⟨u,rfl,ru⟩:=rs.one;obtain⟨a,vs,its,ea,rfl,h1,h2,h3,h4,_⟩:=zaG I hr ru;unfold zfQ at hf;rw[Bool.and_eq_true] at hf;exact join_listW h4 (by simpa using zqr hy h2 h3) (of_decide_eq_true hf.1) (of_decide_eq_true hf.2) fun t' k=>⟨.str (Txt.join z ys),H,I.tok _,⟨_,rfl⟩,q⟩
noncomputable def zm4 (z:Str) (xs:List D):Res D:=match xs with
 | [.lst ds]=>match zgp ds with
  | some ys=>if zfQ z ys=true then .ok (.str (Txt.join z ys)) else .stuck
  | none=>.stuck
 | _=>.stuck
noncomputable def zsi (fo:Ev->Res D) (fa:Ev->Res (List D)):Ev->Res D:=fun ρ=>(fo ρ).bind fun x=>match x with
 | .str z=>(fa ρ).bind fun xs=>zm4 z xs
 | _=>.stuck
theorem zzr {apos cpos:Pos}(ho:DE X E o fo)(ha:DA X E [e] fa)
  (hbase:attributeBase o "join" X.env (eval o X.env)=eval o X.env:=by rfl)
  (hfew:((backTo cpos (starEach [e] X.env)).all (fun x=>!x.1)&&(backToKw cpos (keywordEach [] X.env)).all (fun x=>x.1.isSome)
  &&decide ([e].length+([]:List Keyword).length+(if([]:List Keyword).isEmpty then 0 else 1) < 30))=true:=by exact zm8 rfl)
  (hline:(apos.endLine==cpos.line)=true:=by rfl) (hs:starEach [e] X.env=(false,eval e X.env)::starEach [] X.env:=by exact zaX rfl) (hplain:(backTo cpos (starEach [] X.env)).any (·.1)=false:=by exact zbC rfl) :
  DE X E (.Call (.Attribute o "join" apos) [e] [] cpos) (zsi fo fa):=by
 refine⟨?_⟩;refine zaK (zyE PySem.F.plainAttrs_str PySem.F.slot_str_join PySem.F.type_str_join zyT ho.o ha.o hbase hfew hline hs hplain) fun σ H Q ⟨Ha,ρ,hs,hr,q⟩=>⟨Ha,ρ,hs,hr,?_⟩
 unfold zsi at q;cases e1:fo ρ with
 | stuck=>rw[e1] at q;exact q
 | exn x=>rw[e1] at q;exact q
 | ok x =>
  rw[e1] at q;intro v H1 H01 g1 r1;cases x with
  | str z =>
   rw[Rep.str_iff.mp r1];refine⟨rfl,H01,ρ,g1.sub,hr.mono g1.z,?_⟩;replace q:=post.grow (r:=(fa ρ).bind fun xs=>zm4 z xs) q g1;cases e2:fa ρ with
   | stuck=>rw[e2] at q;exact q
   | exn x=>rw[e2] at q;exact q
   | ok xs =>
    rw[e2] at q;intro us H2 H02 g2 r2;replace q:=post.grow (r:=zm4 z xs) q g2;unfold zm4 at q
    match xs,r2,q with
    | [.lst ds],r2,q =>
     obtain⟨w,r',rfl,k1,k2⟩:=zap.mp r2;rw[Reps.nil_iff.mp k2];obtain⟨p,vs,rfl,k3,k4⟩:=zan.mp k1;cases e3:zgp ds with
     | none=>simp only[e3] at q;exact q.elim
     | some ys =>
      simp only[e3] at q
      by_cases c:zfQ z ys=true
      .rw[if_pos c] at q
       exact⟨z,p,ds,ys,rfl,rfl,k1.mono g2.sub,e3,c,zaM g2.sub q (Rep.str_iff.mpr rfl)⟩
      .rw[if_neg c] at q;exact q.elim
    | [],_,q=>exact q.elim
    | d1::_::_,_,q=>cases d1<;>exact False.elim q
    | [.non],_,q=>exact q.elim
    | [.bl _],_,q=>exact q.elim
    | [.int _],_,q=>exact q.elim
    | [.str _],_,q=>exact q.elim
    | [.tup _],_,q=>exact q.elim
    | [.dic _ _],_,q=>exact q.elim
    | [.exc _],_,q=>exact q.elim
    | [.ob _ _],_,q=>exact q.elim
  | _=>exact q.elim
end
section
variable {X:Cx}{E:XK}{a:Expr}{f:Ev->Res D}{pos:Pos}
noncomputable def zEm:V->Option Int->Option Int->Hp->VK->Prop:=fun x lo hi H Q=>∃ z,x=.str z/\z.length<=sizeLine/\Q (.str (Txt.slice z lo hi)) H
theorem zAk:SlR X zEm:=by
 intro pins s σ H x v vl vu lo hi sl Q I rx hs pl pu h;obtain⟨z,rfl,hz,q⟩:=h;obtain⟨t,rfl⟩:=rx;have fin:∀ t' k,EP X pins σ Q (.str (Txt.slice z lo hi) t') { s with toks:=k }:=fun t' k=>⟨.str (Txt.slice z lo hi),H,I.tok _,⟨_,rfl⟩,q⟩
 refine⟨"str",_,PySem.F.slot_str_getitem.lookup,typeIs_str s z t,?_⟩;cases pl with
 | none =>
  cases pu with
  | none=>exact wpAny_getItem_str_slice (l:=none) (u:=none) (st:=none) hs rfl (post_val_or_str ⟨Nat.le_trans (Txt.slice_le z _ _) hz,fin⟩)
  | int j uj=>exact wpAny_getItem_str_slice (l:=none) (u:=some (j,uj)) (st:=none) hs rfl (post_val_or_str ⟨Nat.le_trans (Txt.slice_le z _ _) hz,fin⟩)
 | int i ui =>
  cases pu with
  | none=>exact wpAny_getItem_str_slice (l:=some (i,ui)) (u:=none) (st:=none) hs rfl (post_val_or_str ⟨Nat.le_trans (Txt.slice_le z _ _) hz,fin⟩)
  | int j uj=>exact wpAny_getItem_str_slice (l:=some (i,ui)) (u:=some (j,uj)) (st:=none) hs rfl (post_val_or_str ⟨Nat.le_trans (Txt.slice_le z _ _) hz,fin⟩)
noncomputable def znO (x:D) (l h:Option Int):Res D:=match x with
 | .lst ds=>.ok (.lst (zlI ds l h))
 | .str z=>if z.length<=line then .ok (.str (Txt.slice z l h)) else .stuck
 | .tup ds=>if HT.sIx ds.length 0 l=0/\HT.sIx ds.length ds.length h=ds.length then .stuck else .ok (.tup (zlI ds l h))
 | _=>.stuck
noncomputable def zxM (f:Ev->Res D) (lo hi:Ev->Res (Option Int)):Ev->Res D:=fun ρ=>(f ρ).bind fun x=>(lo ρ).bind fun l=>(hi ρ).bind fun h=>znO x l h
theorem zf0 {lo hi:Option Expr}{p2:Pos}{fl fh:Ev->Res (Option Int)}(ha:DE X E a f)(hl:DO X E lo fl)(hh:DO X E hi fh):DE X E (.Subscript a (.Slice lo hi none p2) pos) (zxM f fl fh) :=
 ⟨zaK (zqC (SlR.or zsR (SlR.or zAk zAj)) ha.o hl.o hh.o) (zpC (m:=znO) fun x v l h H Ha Q hs r q=>by
  cases x with
  | lst ds =>
   obtain⟨p,vs,rfl,h1,h2⟩:=zan.mp r;exact .inl ⟨p,vs,rfl,zaA.sqL hs h1,fun n hn=>q _ _ _ (zaI hs hn) (zan.mpr ⟨n,_,rfl,SqL.of zar,(h2.cut l h).mono (zaI hs hn).z⟩)⟩
  | str z =>
   unfold znO at q
   by_cases c:z.length<=line
   .simp only[if_pos c] at q
    exact .inr (.inl ⟨z,Rep.str_iff.mp r,zcU c,zaM hs q (Rep.str_iff.mpr rfl)⟩)
   .simp only[if_neg c] at q;exact q.elim
  | tup ds =>
   unfold znO at q
   by_cases c:HT.sIx ds.length 0 l=0/\HT.sIx ds.length ds.length h=ds.length
   .simp only[if_pos c] at q;exact q.elim
   .simp only[if_neg c] at q
    obtain⟨p,vs,rfl,h1,h2⟩:=zau.mp r;exact .inr (.inr ⟨p,vs,rfl,zaA.sqT hs h1,by rw[← h2.length];exact c,fun n hn=>q _ _ _ (zaI hs hn) (zau.mpr ⟨n,_,rfl,SqT.of zar,(h2.cut l h).mono (zaI hs hn).z⟩)⟩)
  | _=>exact q.elim)⟩
end
noncomputable def Its (z:Str):It:=⟨fun i _=>i < z.cps.size,fun i H x H'=>H'=H/\∃ c,z.cps[i]?=some c/\x=.str ⟨#[c]⟩,fun i _=>z.cps.size<=i⟩
theorem zrG {P:Program}{w:World}{K:W.Frag}{tg:Expr}(z:Str)(t:Tok)(it:Addr):zzT P w K tg (Its z) [it] it (fun i h=>h.IsStrIter it "str_ascii_iterator" z t i) where
 mem:=by simp
 obj:=fun i h st b hb=>by
  have e:b=it:=by simpa using hb
  subst e;obtain⟨o,e,c,d⟩:=st;exact⟨o,e,fun v z=>by rw[d] at z;cases z⟩
 keep:=fun i h h' st k=>let ⟨o,ho,r⟩:=st;⟨o,k it (by simp) o ho,r⟩
 item:=by
  intro X hP hw hK hc i pins s σ H E I hf st hg;subst hP hw hK;have hg':i < z.cps.size:=hg;obtain⟨f0,f1,f2,f3,f4,f5⟩:=hf it (by simp);refine wpAny_pyNext_ascii_item st (c:=z.cps[i]) (by simp [hg']) fun h' st' sb=>?_;have I1:Inv X pins σ H { s with heap:=h',toks:=s.toks+1 }:=I.turned (t':=s.toks+1) (fun b o hb e=>(sb.2 b hb).trans e) f0 f1 f3 f4 f5;obtain⟨o,e,c,d⟩:=id st';exact⟨_,rfl,zwx (s:={ s with heap:=h',toks:=s.toks+1 }) e c d (by decide) ⟨.str ⟨#[z.cps[i]]⟩,H,I1,⟨_,rfl⟩,⟨rfl,_,by simp [hg'],rfl⟩,st',fun b hb=>(hf b hb).1⟩⟩
 done:=by
  intro X hP hw hK hc i pins s σ H E I hf st hg;subst hP hw hK;have hg':z.cps.size<=i:=hg;obtain⟨f0,f1,f2,f3,f4,f5⟩:=hf it (by simp);exact wpAny_pyNext_ascii_end (I.ok.hd hc) st (by simp [hg']) fun h' eb=>⟨rfl,I.turned (t':=s.toks) (fun b o hb e=>eb b o hb e) f0 f1 f3 f4 f5⟩
 self:=fun _ _ _ _ _ st h=>wpAny_pyIter_striter_ascii st h
theorem zsH {P:Program}{w:World}{K:W.Frag}{tg:Expr}(z:Str)(t:Tok)(it:Addr):zzT P w K tg (Its z) [it] it (fun i h=>h.IsStrIter it "str_iterator" z t i) where
 mem:=by simp
 obj:=fun i h st b hb=>by
  have e:b=it:=by simpa using hb
  subst e;obtain⟨o,e,c,d⟩:=st;exact⟨o,e,fun v z=>by rw[d] at z;cases z⟩
 keep:=fun i h h' st k=>let ⟨o,ho,r⟩:=st;⟨o,k it (by simp) o ho,r⟩
 item:=by
  intro X hP hw hK hc i pins s σ H E I hf st hg;subst hP hw hK;have hg':i < z.cps.size:=hg;obtain⟨f0,f1,f2,f3,f4,f5⟩:=hf it (by simp);refine wpAny_pyNext_wide_item st (c:=z.cps[i]) (by simp [hg']) fun h' st' sb=>?_;have I1:Inv X pins σ H { s with heap:=h',toks:=s.toks+1 }:=I.turned (t':=s.toks+1) (fun b o hb e=>(sb.2 b hb).trans e) f0 f1 f3 f4 f5;obtain⟨o,e,c,d⟩:=id st';exact⟨_,rfl,zwx (s:={ s with heap:=h',toks:=s.toks+1 }) e c d (by decide) ⟨.str ⟨#[z.cps[i]]⟩,H,I1,⟨_,rfl⟩,⟨rfl,_,by simp [hg'],rfl⟩,st',fun b hb=>(hf b hb).1⟩⟩
 done:=by
  intro X hP hw hK hc i pins s σ H E I hf st hg;subst hP hw hK;have hg':z.cps.size<=i:=hg;obtain⟨f0,f1,f2,f3,f4,f5⟩:=hf it (by simp);exact wpAny_pyNext_wide_end (I.ok.hd hc) st (by simp [hg']) fun h' eb=>⟨rfl,I.turned (t':=s.toks) (fun b o hb e=>eb b o hb e) f0 f1 f3 f4 f5⟩
 self:=fun _ _ _ _ _ st h=>wpAny_pyIter_striter_wide st h
def zEx (tl:TE):TI:=fun σ H R=>tl σ H fun x H1=>∃ z,x=.str z/\R (Its z) H1
theorem zAN {X:Cx}{tg l:Expr}{tl:TE}(hl:PE X l tl):PI X tg l (zEx tl):=by
 intro pins s σ H R I h;refine thn (hl pins s σ H _ I h) fun v s1 ⟨x,H1,I1,r1,q1⟩=>?_;obtain⟨z,rfl,q⟩:=q1;obtain⟨t,rfl⟩:=r1;have fpo:∀ b∈[s1.heap.objs.size],zrB X pins H1 b:=fun b hb=>by
  have e:b=s1.heap.objs.size:=by simpa using hb
  subst e;exact I1.fpOk (Nat.le_refl _) (I1.hok.fresh (Nat.le_refl _))
 cases ha:z.cps.all (· < 128) with
 | false=>exact wpAny_pyIter_wide ha ⟨s1.heap.objs.size,[s1.heap.objs.size],_,_,H1,rfl,I1.kept (t':=s1.toks) fun b o e=>Heap.get?_push_of_some _ e,zsH z t _,⟨_,Heap.get?_push_size _ rfl,rfl,rfl⟩,fpo,q⟩
 | true=>exact wpAny_pyIter_ascii ha ⟨s1.heap.objs.size,[s1.heap.objs.size],_,_,H1,rfl,I1.kept (t':=s1.toks) fun b o e=>Heap.get?_push_of_some _ e,zrG z t _,⟨_,Heap.get?_push_size _ rfl,rfl,rfl⟩,fpo,q⟩
def zix (z:Str):List D:=z.cps.toList.map fun c=>.str ⟨#[c]⟩
theorem zhW (z:Str):(zix z).length=z.cps.size:=by unfold zix;simp
section
variable {X:Cx}{E:XK}{He H0e:Hp}{f:Ev->Res D}{s:Ev->Res Fl}{pos:Pos}
end
section
variable {X:Cx}{E:XK}
noncomputable def zDF (K:W.Frag):List V->Hp->VK->Prop:=fun xs H Q=>∃ (p:Addr) (bs:List Bool),xs=[.ref p]/\SqL K H p (bs.map V.bl)/\Q (.bl (bs.all id)) H
theorem zpr:∀ bs:List Bool,(List.range bs.length).all (fun i=>bs.getD i false)=bs.all id
 | []=>rfl
 | b::r=>by
  rw[List.length_cons,List.range_succ_eq_map,List.all_cons,List.all_map,List.all_cons,← zpr r];rfl
theorem zrt (hc:X.calm=true):zhU X (.builtin "all") (zDF X.K):=by
 intro pins s σ H xs us Q I r h;obtain⟨p,bs,rfl,hq,q⟩:=h;obtain⟨u,rfl,rx⟩:=znJ r;cases rx;obtain⟨its,rv,pl,hz⟩:=I.list hq;have hlen:=rv.length;rw[List.length_map] at hlen;have hne:p≠s.heap.objs.size:=Nat.ne_of_lt pl.lt;refine call_all_walk (wpAny_pyIter_list pl.isList ?_);have pl2:(s.heap.push { cls:=.type "list_iterator",data:=.fields #[.ref p,.int 0 0] }).IsList p its.toArray:=by
  obtain⟨o,k1,k2⟩:=pl.isList;exact⟨o,Heap.get?_push_of_some _ k1,k2⟩
 refine⟨s.heap.objs.size,_,_,_,_,_,fun i=>bs.getD i false,rfl,Walks.list (A:=X.A.in1) (I.ok.hd hc) s.heap.objs.size p hne its.toArray,⟨⟨_,Heap.get?_push_size _ rfl,rfl,rfl⟩,pl2⟩,?_,fun h' tk hk=>?_⟩
 .intro i v s' Q' E' hv hQ
  have hv':its[i]?=some v:=by simpa using hv
  have hi:i < its.length:=(List.getElem?_eq_some_iff.mp hv').1;obtain⟨w,e1,e2⟩:=rv.get (show(bs.map V.bl)[i]?=some (V.bl (bs.getD i false)) by
   rw[List.getElem?_map,List.getElem?_eq_getElem (by omega)];simp [List.getD,List.getElem?_eq_getElem (show i < bs.length by omega)])
  rw[hv'] at e1;cases e1;obtain rfl:v=Value.bool _:=e2;exact wpAny_truthy_bool hQ
 .have hall:(List.range its.toArray.size).all (fun i=>bs.getD i false)=bs.all id:=by
   rw[List.size_toArray,← hlen];exact zpr bs
  rw[hall];exact⟨.bl _,H,I.kept (t':=tk) (fun b o e=>hk b o (by simp only[List.mem_singleton];exact Nat.ne_of_lt (Heap.lt_size e)) (Heap.get?_push_of_some _ e)),rfl,q⟩
def zec:List D->Option (List Bool)
 | []=>some []
 | .bl b::r=>(zec r).map (b::·)
 | _=>none
theorem zpk {K:W.Frag}{H:Hp}:∀ {ds:List D}{bs:List Bool}{vs:List V},zec ds=some bs->Reps K H ds vs->vs=bs.map V.bl
 | [],bs,vs,h,r=>by cases h;exact Reps.nil_iff.mp r
 | d::ds,bs,vs,h,r=>by
  obtain⟨v,r',rfl,h1,h2⟩:=zap.mp r;cases d with
  | bl x =>
   unfold zec at h;cases e:zec ds with
   | none=>rw[e] at h;cases h
   | some zs =>
    rw[e] at h;cases h;rw[zaq.mp h1,zpk e h2];rfl
  | _=>cases h
noncomputable def zzx (x:D):Res D:=match x with
 | .lst ds=>match zec ds with
  | some bs=>.ok (.bl (bs.all id))
  | none=>.stuck
 | _=>.stuck
theorem zxQ:zhV X E (zDF X.K) (m1 zzx):=zpi fun x v H Ha Q hs r q=>by
 cases x with
 | lst ds =>
  unfold zzx at q;obtain⟨p,vs,rfl,h1,h2⟩:=zan.mp r;cases e:zec ds with
  | none=>simp only[e] at q;exact q.elim
  | some bs =>
   simp only[e] at q;exact⟨p,bs,rfl,by rw[← zpk e h2];exact zaA.sqL hs h1,zaM hs q (rb _)⟩
 | _=>exact q.elim
end
end DL
namespace L2
open PySem PySem.Spec PyProof.Rows
section
variable {κ:Type}[DecidableEq κ]
def zst (kvs:List (κ×V))(k:κ):Option V:=(kvs.find? fun kv=>decide (kv.1=k)).map (·.2)
noncomputable def zlS (kvs:List (κ×V)) (k:κ) (v:V):List (κ×V) :=
 if(kvs.any fun kv=>decide (kv.1=k))=true then kvs.map (fun kv=>if kv.1=k then(kv.1,v) else kv) else kvs++[(k,v)]
def zzh (kvs:List (κ×V))(k:κ):List (κ×V):=kvs.filter fun kv=>decide (kv.1≠k)
theorem zi9 {p:κ×V}{r:List (κ×V)}{k:κ}(e:p.1=k):zst (p::r) k=some p.2:=by simp [zst,List.find?_cons,e]
theorem zg3 {p:κ×V}{r:List (κ×V)}{k:κ}(e:¬ p.1=k):zst (p::r) k=zst r k:=by simp [zst,List.find?_cons,e]
theorem zqo (k:κ):∀ kvs:List (κ×V),(kvs.any fun kv=>decide (kv.1=k))=(zst kvs k).isSome
 | []=>rfl
 | p::r=>by
  rw[List.any_cons]
  by_cases e:p.1=k
  .simp only[zi9 e,decide_eq_true e,Bool.true_or,Option.isSome_some]
  .rw[zg3 e,decide_eq_false e,Bool.false_or];exact zqo k r
theorem zgR (kvs:List (κ×V))(k:κ)(v:V):(zlS kvs k v).length<=kvs.length+1:=by
 unfold zlS;split
 .rw[List.length_map];omega
 .rw[List.length_append,List.length_cons,List.length_nil];omega
theorem zxV.isSome_eq {o:Option V}{u:Option Value}(r:zxV o u):o.isSome=u.isSome:=by
 cases o with
 | none=>cases u with
  | none=>rfl
  | some _=>exact(show False from r).elim
 | some _=>cases u with
  | none=>exact(show False from r).elim
  | some _=>rfl
theorem KV.val {kvs:List (κ×V)}{vs:List (κ×Value)}(r:KV kvs vs)(k:κ):zxV (zst kvs k) (valueAt vs k):=by
 unfold KV at r
 induction r with
 | nil=>exact True.intro
 | @cons p q ps qs h t ih =>
  obtain⟨h1,h2⟩:=h
  by_cases e:p.1=k
  .have e':q.1=k:=h1.symm.trans e
   have b:valueAt (q::qs) k=some q.2:=by simp [valueAt,List.find?_cons,e']
   rw[zi9 e,b];exact h2
  .have e':¬ q.1=k:=fun z=>e (h1.trans z)
   have b:valueAt (q::qs) k=valueAt qs k:=by simp [valueAt,List.find?_cons,e']
   rw[zg3 e,b];exact ih
theorem KV.any {kvs:List (κ×V)}{vs:List (κ×Value)}(r:KV kvs vs)(k:κ):(kvs.any fun kv=>decide (kv.1=k))=vs.any fun kv=>decide (kv.1=k):=by
 unfold KV at r
 induction r with
 | nil=>rfl
 | cons h t ih=>rw[List.any_cons,List.any_cons,ih,h.1]
theorem KV.repl {kvs:List (κ×V)}{vs:List (κ×Value)}(r:KV kvs vs)(k:κ){y:V}{u:Value}(ry:zbw y u) :
  KV (kvs.map fun kv=>if kv.1=k then(kv.1,y) else kv) (vs.map fun kv=>if kv.1=k then(kv.1,u) else kv):=by
 unfold KV at r ⊢
 induction r with
 | nil=>exact .nil
 | @cons p q ps qs h t ih =>
  rw[List.map_cons,List.map_cons];refine .cons ?_ ih;obtain⟨h1,h2⟩:=h
  by_cases e:p.1=k
  .rw[if_pos e,if_pos (h1.symm.trans e)];exact⟨h1,ry⟩
  .rw[if_neg e,if_neg (fun z=>e (h1.trans z))];exact⟨h1,h2⟩
theorem KV.put {kvs:List (κ×V)}{vs:List (κ×Value)}(r:KV kvs vs)(k:κ){y:V}{u:Value}(ry:zbw y u):KV (zlS kvs k y) (stored vs k u):=by
 unfold zlS stored;rw[r.any k]
 by_cases e:(vs.any fun kv=>decide (kv.1=k))=true
 .rw[if_pos e,if_pos e];exact r.repl k ry
 .rw[if_neg e,if_neg e];exact Paired.snoc r ⟨rfl,ry⟩
theorem KV.length {kvs:List (κ×V)}{vs:List (κ×Value)}(r:KV kvs vs):kvs.length=vs.length:=Paired.length r
end
theorem zr4 {P:Program}{w:World}{k:Key}{u:Value}(r:zbw (kV k) u):(zbV P w).is k u=true:=by
 cases k with
 | inl i=>obtain⟨t,e⟩:=(show ∃ t,u=Value.int i t from r);subst e;exact zpV P w i t
 | inr x=>obtain⟨t,e⟩:=(show ∃ t,u=Value.str x t from r);subst e;exact zpU P w x t
theorem zn8 {P:Program}{w:World}:∀ {ks:List Key}{us:List Value},zbO (ks.map kV) us->ItemsAre (zbV P w) ks us
 | [],_,r=>by rw[List.map_nil] at r;cases r;exact .nil
 | k::ks,_,r=>by
  rw[List.map_cons] at r;cases r with
  | cons h t=>exact .cons (zr4 h) (zn8 t)
abbrev KT (H:Hp):List (List Key×V)->List (List Key×Addr×Value)->Prop:=Paired fun p q=>p.1=q.1/\H q.2.1=some (.tup (p.1.map kV))/\zbw p.2 q.2.2
theorem KT.val {H:Hp}{kvs:List (List Key×V)}{xs:List (List Key×Addr×Value)}(r:KT H kvs xs)(k:List Key):zxV (zst kvs k) ((atKey xs k).map (·.2)):=by
 induction r with
 | nil=>exact True.intro
 | @cons p q ps qs h t ih =>
  obtain⟨h1,_,h2⟩:=h
  by_cases e:p.1=k
  .have e':q.1=k:=h1.symm.trans e
   have b:atKey (q::qs) k=some q.2:=by simp [atKey,List.find?_cons,e']
   rw[zi9 e,b];exact h2
  .have e':¬ q.1=k:=fun z=>e (h1.trans z)
   have b:atKey (q::qs) k=atKey qs k:=by simp [atKey,List.find?_cons,e']
   rw[zg3 e,b];exact ih
theorem KT.repl {H:Hp}{kvs:List (List Key×V)}{xs:List (List Key×Addr×Value)}(r:KT H kvs xs)(k:List Key){y:V}{u:Value}(ry:zbw y u) :
  KT H (kvs.map fun kv=>if kv.1=k then(kv.1,y) else kv) (xs.map (putAt k u)):=by
 induction r with
 | nil=>exact .nil
 | @cons p q ps qs h t ih =>
  rw[List.map_cons,List.map_cons];refine .cons ?_ ih;obtain⟨h1,h2,h3⟩:=h;unfold putAt
  by_cases e:p.1=k
  .rw[if_pos e,if_pos (h1.symm.trans e)];exact⟨h1,h2,ry⟩
  .rw[if_neg e,if_neg (fun z=>e (h1.trans z))];exact⟨h1,h2,h3⟩
theorem KT.put {H:Hp}{kvs:List (List Key×V)}{xs:List (List Key×Addr×Value)}(r:KT H kvs xs)(k:List Key){b:Addr}{y:V}{u:Value}(hb:H b=some (.tup (k.map kV)))(ry:zbw y u) :
  KT H (zlS kvs k y) (storedH xs k b u):=by
 have e:(kvs.any fun kv=>decide (kv.1=k))=(atKey xs k).isSome:=by
  rw[zqo,(r.val k).isSome_eq,Option.isSome_map]
 unfold zlS storedH;rw[e]
 by_cases q:(atKey xs k).isSome=true
 .rw[if_pos q,if_pos q];exact r.repl k ry
 .rw[if_neg q,if_neg q];exact Paired.snoc r ⟨rfl,hb,ry⟩
theorem KT.keeps {H H':Hp}{kvs:List (List Key×V)}{xs:List (List Key×Addr×Value)}(r:KT H kvs xs)(ht:∀ b ys,H b=some (.tup ys)->H' b=some (.tup ys)):KT H' kvs xs :=
 zg2 r fun _ _ z=>⟨z.1,ht _ _ z.2.1,z.2.2⟩
section
variable {P:Program}{w:World}{H:Hp}{h:Heap}{a:Addr}
theorem zAB {u:HO}(ok:HOk P w H h)(e:Rd H a u):zdg P w H h a u:=e.ok ok
theorem zsd {kvs:List (Key×V)}(ok:HOk P w H h)(e:Rd H a (.dK kvs)):kvs.length<=sizeLine/\(a==sysModules)=false/\∃ vs,KV kvs vs/\h.DictOf (zbV P w) a vs :=
 show zdg P w H h a (.dK kvs) from zAB ok e
theorem zBJ {kvs:List (Key×V)}(ok:HOk P w H h)(e:H a=some (.dK kvs)):kvs.length<=sizeLine/\(a==sysModules)=false/\∃ vs,KV kvs vs/\h.DictOf (zbV P w) a vs:=zsd ok (.inl e)
theorem zn7 {ks:List Key}(ok:HOk P w H h)(e:H a=some (.tup (ks.map kV))):(tupleKind (zbV P w)).is h ks a:=by
 obtain⟨_,its,r,o,h1,h2,n,h3⟩:=(show zdg P w H h a (.tup (ks.map kV)) from ok a _ e)
 exact⟨o,its.toArray,n,h1,h2,h3,by simpa using zn8 r⟩
theorem zuT {kvs:List (List Key×V)}(ok:HOk P w H h)(e:Rd H a (.dT kvs)):kvs.length<=sizeLine/\(a==sysModules)=false /\
  ∃ xs,KT H kvs xs/\h.DictOfH (tupleKind (zbV P w)) a xs:=by
 obtain⟨z,y,xs,r,o,es,ep,h1,h2,h3,h4,h5⟩:=(show zdg P w H h a (.dT kvs) from zAB ok e)
 refine⟨z,y,xs,r,o,es,ep,h1,h2,h3,h4,fun x hx=>?_,h5⟩;have all:∀ {l:List (List Key×V)}{m:List (List Key×Addr×Value)},KT H l m->∀ x∈m,(tupleKind (zbV P w)).is h x.1 x.2.1:=by
  intro l m q
  induction q with
  | nil=>intro x hx;exact nomatch hx
  | @cons p q ps qs hq t ih =>
   intro x hx;rcases List.mem_cons.mp hx with e | hx
   .subst e
    exact zn7 ok (by rw[← hq.1];exact hq.2.1)
   .exact ih x hx
 exact all r x hx
theorem zDb {kvs:List (List Key×V)}(ok:HOk P w H h)(e:H a=some (.dT kvs)):kvs.length<=sizeLine/\(a==sysModules)=false /\
  ∃ xs,KT H kvs xs/\h.DictOfH (tupleKind (zbV P w)) a xs:=zuT ok (.inl e)
end
noncomputable def zw0 (H:Hp) (a:Addr) (y:V) (r:Option V):Prop :=
 (∃ kvs k,Rd H a (.dK kvs)/\y=kV k/\r=zst kvs k)∨∃ kvs k b,Rd H a (.dT kvs)/\y=.ref b/\H b=some (.tup (k.map kV))/\r=zst kvs k
noncomputable def zzU (H:Hp) (a:Addr) (y v:V) (H':Hp):Prop :=
 (∃ kvs k,H a=some (.dK kvs)/\y=kV k/\kvs.length < sizeLine/\H'=upd H a (.dK (zlS kvs k v))) ∨
 ∃ kvs k b,H a=some (.dT kvs)/\y=.ref b/\H b=some (.tup (k.map kV))/\kvs.length < sizeLine/\H'=upd H a (.dT (zlS kvs k v))
theorem zzU.k {H:Hp}{a:Addr}{kvs:List (Key×V)}{k:Key}{v:V}(e:H a=some (.dK kvs))(hl:kvs.length < sizeLine):zzU H a (kV k) v (upd H a (.dK (zlS kvs k v))):=.inl ⟨kvs,k,e,rfl,hl,rfl⟩
section
variable {X:Cx}{pins:List (Addr×Obj)}{σ:St}{H:Hp}{s:Shared}{a:Addr}{y v:V}{u r:Value}{o:Option V}{A:Around}{E:Value->Shared->Prop}
theorem Inv.big (I:Inv X pins σ H s):sysModules < s.heap.objs.size:=by
 have h:mainGlobals < s.heap.objs.size:=(I.mod.glob.keeps I.bk).lt;exact Nat.lt_trans (by decide) h
theorem zu7 {Q:Value->Shared->Prop}(hu:A.units+1 < cLine)(I:Inv X pins σ H s)(g:zw0 H a y (some v))(ry:zbw y u)(h:∀ w' s',Inv X pins σ H s'->zbw v w'->Q w' s') :
  wpAny (model X.prog X.w) A (getItem (.ref a) u) Q E s:=by
 rcases g with⟨kvs,k,e,ey,l⟩ | ⟨kvs,k,b,e,ey,eb,l⟩
 .subst ey
  obtain⟨z,hd,vs,rel,dd⟩:=zsd I.hok e;obtain⟨w',hw,rw'⟩:=ziZ (v:=v) (o:=valueAt vs k) (by rw[l];exact rel.val k);exact wpAny_getItem_of (zr4 ry) dd.mapOf hw (h w' _ (I.tok _) rw')
 .subst ey
  cases (show u=Value.ref b from ry);obtain⟨z,hd,xs,rel,dd⟩:=zuT I.hok e;obtain⟨w',hw,rw'⟩:=ziZ (v:=v) (o:=(atKey xs k).map (·.2)) (by rw[l];exact rel.val k);obtain⟨p,hp,hp2⟩:=Option.map_eq_some_iff.mp hw;refine wpAny_getItem_heap (tupleKind_room_in1 hu) (zn7 I.hok eb) dd hp ?_;rw[hp2];exact h w' _ (I.tok _) rw'
theorem zEC {Q:Value->Shared->Prop}(hu:A.units+1 < cLine)(I:Inv X pins σ H s)(g:zw0 H a y o)(ry:zbw y u)(h:∀ s',Inv X pins σ H s'->Q (.bool o.isSome) s') :
  wpAny (model X.prog X.w) A (compareOp .In u (.ref a)) Q E s:=by
 rcases g with⟨kvs,k,e,ey,l⟩ | ⟨kvs,k,b,e,ey,eb,l⟩
 .subst ey
  obtain⟨z,hd,vs,rel,dd⟩:=zsd I.hok e;refine wpAny_in_of (zr4 ry) hd dd.mapOf ?_;rw[← (rel.val k).isSome_eq,← l];exact h _ (I.tok _)
 .subst ey
  cases (show u=Value.ref b from ry);obtain⟨z,hd,xs,rel,dd⟩:=zuT I.hok e;refine wpAny_in_heap (tupleKind_room_in1 hu) (zn7 I.hok eb) hd dd ?_;have q:=(rel.val k).isSome_eq;rw[Option.isSome_map] at q;rw[← q,← l];exact h _ (I.tok _)
theorem zzv {Q:Value->Shared->Prop}(hu:A.units+1 < cLine)(I:Inv X pins σ H s)(g:zw0 H a y o)(ry:zbw y u)(h:∀ s',Inv X pins σ H s'->Q (.bool (!o.isSome)) s') :
  wpAny (model X.prog X.w) A (compareOp .NotIn u (.ref a)) Q E s:=by
 rcases g with⟨kvs,k,e,ey,l⟩ | ⟨kvs,k,b,e,ey,eb,l⟩
 .subst ey
  obtain⟨z,hd,vs,rel,dd⟩:=zsd I.hok e;refine wpAny_notIn_of (zr4 ry) hd dd.mapOf ?_;rw[← (rel.val k).isSome_eq,← l];exact h _ (I.tok _)
 .subst ey
  cases (show u=Value.ref b from ry);obtain⟨z,hd,xs,rel,dd⟩:=zuT I.hok e;refine wpAny_notIn_heap (tupleKind_room_in1 hu) (zn7 I.hok eb) hd dd ?_;have q:=(rel.val k).isSome_eq;rw[Option.isSome_map] at q;rw[← q,← l];exact h _ (I.tok _)
theorem zqd {h':Heap}{t':Nat}{ob:HO}(I:Inv X pins σ H s)(mu:Mut (H a))(hs:Heap.SameBut a s.heap h')(he:∃ q,h'.get? a=some q)(new:zdg X.prog X.w (upd H a ob) h' a ob) :
  Inv X pins σ (upd H a ob) { s with heap:=h',toks:=t' } :=
 I.write (x:=a) (e:=a) mu (.inl rfl) (fun b q hb z=>(hs.2 b hb).trans z) he new
theorem zxJ {P:Program}{w:World}{H':Hp}{h':Heap}{kvs:List (Key×V)}{vs:List (Key×Value)}(z:kvs.length<=sizeLine)(hd:(a==sysModules)=false)(rel:KV kvs vs)(dd:h'.DictOf (zbV P w) a vs) :
  zdg P w H' h' a (.dK kvs):=⟨z,hd,vs,rel,dd⟩
theorem zu4 {H':Hp}{Q:Unit->Shared->Prop}(hu:A.units+1 < cLine)(I:Inv X pins σ H s)(g:zzU H a y v H')(ry:zbw y u)(rv:zbw v r)(h:∀ s',Inv X pins σ H' s'->Q () s') :
  wpAny (model X.prog X.w) A (setItem (.ref a) u r) Q E s:=by
 rcases g with⟨kvs,k,e,ey,l,eH⟩ | ⟨kvs,k,b,e,ey,eb,l,eH⟩
 .subst ey eH
  obtain⟨z,hd,vs,rel,dd⟩:=zBJ I.hok e;have hz:vs.length<=sizeLine:=by rw[← rel.length];exact z
  have hl:(zlS kvs k v).length<=sizeLine:=by have:=zgR kvs k v;omega
  refine wpAny_setItem_pairs (hsz:=hz) (zr4 ry) dd fun h' dd' hs=>h _ ?_;have he:∃ q,h'.get? a=some q:=let ⟨q,_,_,hq,_⟩:=dd';⟨q,hq⟩;exact zqd I (by rw[e];exact True.intro) hs he (zxJ hl hd (rel.put k rv) dd')
 .subst ey eH
  cases (show u=Value.ref b from ry);obtain⟨z,hd,xs,rel,dd⟩:=zDb I.hok e;have hz:xs.length<=sizeLine:=by rw[← Paired.length rel];exact z
  have hl:(zlS kvs k v).length<=sizeLine:=by have:=zgR kvs k v;omega
  refine wpAny_setItem_heap (hsz:=hz) (tupleKind_room_in1 hu) (zn7 I.hok eb) dd fun h' dd' hs=>h _ ?_;obtain⟨q,es,ep,hq,h2,h3,h4,_,h5⟩:=dd';refine zqd I (by rw[e];exact True.intro) hs ⟨q,hq⟩ ⟨hl,hd,_,(rel.put k eb rv).keeps fun c ys ec=>?_,q,es,ep,hq,h2,h3,h4,h5⟩;rw[zal (zCU ec e (fun z=>nomatch z))];exact ec
end
section
variable {X:Cx}{pins:List (Addr×Obj)}{σ:St}{H:Hp}{s:Shared}{a:Addr}{kvs:List (Key×V)}{k:Key}{u:Value}{A:Around}{E:Value->Shared->Prop}
theorem zDg {Q:Value->Shared->Prop}(I:Inv X pins σ H s)(e:Rd H a (.dK kvs))(h:∀ t s',Inv X pins σ H s'->Q (.int kvs.length t) s'):wpAny (model X.prog X.w) A (call (.builtin "len") [.ref a]) Q E s:=by
 obtain⟨z,hd,vs,rel,dd⟩:=zsd I.hok e;refine call_len_dict hd dd (by rw[← rel.length];rw[sizeLine_eq] at z;omega) ?_;rw[← rel.length];exact h _ _ (I.tok _)
end
def zDo (i:Expr):Prop:=∀ ov iv,subscripted i false ov iv=operate [ov,iv] (getItem ov iv)
theorem zyj {prog:Program}{w:World}{A:Around}{E:Value->Shared->Prop}{s:Shared}{env:Env}{value slice:Expr}{pos:Pos}{T id:String}{Q:Value->Shared->Prop}
  (hl:typeLookup (.type T) "__getitem__"=pure (some (.builtin id)))(hs:zDo slice)
  (h:wpAny (model prog w) A (eval value env) (fun o sg=>wpAny (model prog w) A (eval slice env) (fun i sj=>sj.TypeIs o T/\wpAny (model prog w) A (getItem o i) Q E sj) E sg) E s) :
  wpAny (model prog w) A (eval (.Subscript value slice pos) env) Q E s:=by
 refine Subscript_ (wpAny_mono h (fun o sg hV=>wpAny_mono hV (fun i sj hX=>?_) fun _ _ x=>x) fun _ _ x=>x);obtain⟨hT,hX⟩:=hX;unfold subscriptTail;refine wpAny_bind ?_;rw[getitemInPython_of_ne hT.not_modules];refine wpAny_bind (wpAny_specialOf hT hl ?_);have fin:wpAny (model prog w) A (subscripted slice false o i) (fun r sk=>wpAny (model prog w) A (letTemporaryGo value o r >>= fun _=>pure r) Q E sk) E sj:=by
  rw[hs o i];exact wpAny_operating (wpAny_mono hX (fun r sk hW=>wpAny_bind (wpAny_letTemporaryGo (wpAny_pure hW))) fun _ _ x=>x)
 first
  | exact wpAny_pure (wpAny_bind fin)
  | exact wpAny_bind (wpAny_pure (wpAny_bind fin))
  | exact wpAny_bind fin
theorem zqb {X:Cx}{pins:List (Addr×Obj)}{σ:St}{H:Hp}{s:Shared}{a:Addr}{y:V}{o:Option V}(I:Inv X pins σ H s)(g:zw0 H a y o):s.TypeIs (.ref a) "dict":=by
 rcases g with⟨kvs,k,e,_,_⟩ | ⟨kvs,k,b,e,_,_,_⟩
 .obtain⟨_,_,vs,_,dd⟩:=zsd I.hok e
  exact dd.typeIs
 .obtain⟨_,_,xs,_,dd⟩:=zuT I.hok e
  exact dd.typeIs
noncomputable def zCt (td ty:TE):TE:=fun σ H Q=>td σ H fun x H1=>ty σ H1 fun y H2=>∃ a v,x=.ref a/\zw0 H2 a y (some v)/\Q v H2
noncomputable def zCD (td ty tv:TE):TS:=fun D σ H=>tv σ H fun v H1=>td σ H1 fun x H2=>ty σ H2 fun y H3=>∃ a H4,x=.ref a/\zzU H3 a y v H4/\D.nx σ H4
section
variable {X:Cx}{o i e value:Expr}{pos pos' tpos:Pos}{td ty tv:TE}
theorem zyD (hu:X.A.units+1 < cLine)(ho:PE X o td)(hi:PE X i ty)(hs:zDo i):PE X (.Subscript o i pos) (zCt td ty):=by
 intro pins s σ H Q I h;refine zyj PySem.F.slot_dict_getitem.lookup hs (thn (ho pins s σ H _ I h) fun u s1 ⟨x,H1,I1,rx,q1⟩=>thn (hi pins s1 σ H1 _ I1 q1) fun iv s2 ⟨y,H2,I2,ry,a,v,ex,g,q2⟩=>?_);subst ex;obtain rfl:u=Value.ref a:=rx;exact⟨zqb I2 g,zu7 hu I2 g ry fun w' s3 I3 rw'=>⟨v,H2,I3,rw',q2⟩⟩
theorem zyt (hu:X.A.units+1 < cLine)(ho:PE X o td)(hi:PE X i ty)(hv:PE X value tv)(hs:swapsWith value (some (.Subscript o i pos')) pos.line X.env=pure false) :
  PS X (.Assign [.Subscript o i pos'] value pos) (zCD td ty tv):=by
 intro pins s σ H D I h;refine wpAny_Assign_Subscript (thn (hv pins s σ H _ I h) fun r s1 ⟨v,H1,I1,rv,q1⟩=>thn (ho pins s1 σ H1 _ I1 q1) fun u s2 ⟨x,H2,I2,rx,q2⟩=>thn (hi pins s2 σ H2 _ I2 q2) fun iv s3 ⟨y,H3,I3,ry,a,H4,ex,g,q3⟩=>?_) hs;subst ex;obtain rfl:u=Value.ref a:=rx;exact zu4 hu I3 g ry rv fun s4 I4=>⟨σ,H4,I4,q3⟩
end
theorem zrj {P:Program}{w:World}{H:Hp}(h:Heap)(hb:sysModules < h.objs.size):zdg P w H (h.push { cls:=.type "dict",data:=.dict #[] }) h.objs.size (.dK []) :=
 ⟨Nat.zero_le _,beq_eq_false_iff_ne.mpr (Ne.symm (Nat.ne_of_lt hb)),[],.nil,Heap.DictOf.new h⟩
def zAd:TE:=fun _ H Q=>∀ p,H p=none->Q (.ref p) (upd H p (.dK []))
section
variable {X:Cx}{pos:Pos}
theorem zwf:PE X (.Dict [] [] pos) zAd:=fun pins s σ H Q I h =>
 wpAny_Dict_empty ⟨.ref s.heap.objs.size,_,I.laid (a:=s.heap.objs.size) (o:=.dK []) (t':=s.toks) (fun _ _ q=>Heap.get?_push_of_some _ q) (Nat.le_refl _) (zrj s.heap I.big),rfl,h _ (I.hok.fresh (Nat.le_refl _))⟩
end
noncomputable def zsL:List (TE×TE)->St->Hp->(List (V×V)->Hp->Prop)->Prop
 | [],_,H,Q=>Q [] H
 | (tk,tv)::r,σ,H,Q=>tk σ H fun x H1=>tv σ H1 fun y H2=>zsL r σ H2 fun ps H3=>Q ((x,y)::ps) H3
abbrev VV:List (V×V)->List (Value×Value)->Prop:=Paired fun p q=>zbw p.1 q.1/\zbw p.2 q.2
noncomputable def PPs (X:Cx) (pos:Pos) (keys:List (Option Expr)) (values:List Expr) (trs:List (TE×TE)):Prop :=
 ∀ (pins:List (Addr×Obj)) (s:Shared) (σ:St) (H:Hp) (Q:List (V×V)->Hp->Prop),Inv X pins σ H s->zsL trs σ H Q ->
  wpAny (model X.prog X.w) X.A (evalPairs (pairTrees keys values X.env pos)) (fun vs s'=>∃ ps H',Inv X pins σ H' s'/\VV ps vs/\Q ps H') X.xe s
theorem zyu {X:Cx}{pos:Pos}:PPs X pos [] [] []:=fun pins s σ H Q I h=>pairTrees_nil_walk ⟨[],H,I,.nil,h⟩
theorem zwb {X:Cx}{pos:Pos}{k v:Expr}{ks:List (Option Expr)}{vs:List Expr}{tk tv:TE}{trs:List (TE×TE)}(hk:PE X k tk)(hv:PE X v tv)(hr:PPs X pos ks vs trs) :
  PPs X pos (some k::ks) (v::vs) ((tk,tv)::trs):=fun pins s σ H Q I h =>
 pairTrees_cons_walk (thn (hk pins s σ H _ I h) fun u s1 ⟨x,H1,I1,rx,q1⟩=>thn (hv pins s1 σ H1 _ I1 q1) fun w2 s2 ⟨y,H2,I2,ry,q2⟩ =>
  thn (hr pins s2 σ H2 _ I2 q2) fun ws s3 ⟨ps,H3,I3,rel,q3⟩=>⟨(x,y)::ps,H3,I3,.cons ⟨rx,ry⟩ rel,q3⟩)
def zn0 (kvs more:List (Key×V)):List (Key×V):=more.foldl (fun acc kv=>zlS acc kv.1 kv.2) kvs
theorem KV.merge:∀ {more:List (Key×V)}{rs:List (Key×Value)}{kvs:List (Key×V)}{vs:List (Key×Value)},KV more rs->KV kvs vs->KV (zn0 kvs more) (merged vs rs):=by
 intro more rs kvs vs r;unfold KV at r
 induction r generalizing kvs vs with
 | nil=>intro q;exact q
 | @cons p q ps qs h t ih =>
  intro r0;have e:KV (zlS kvs p.1 p.2) (stored vs q.1 q.2):=by
   have:=r0.put p.1 h.2;rw[← h.1];exact this
  exact ih e
theorem zhb:∀ (more kvs:List (Key×V)),(zn0 kvs more).length<=kvs.length+more.length
 | [],kvs=>by show kvs.length<=kvs.length+0;omega
 | p::r,kvs=>by
  have h1:=zhb r (zlS kvs p.1 p.2);have h2:=zgR kvs p.1 p.2;show(zn0 (zlS kvs p.1 p.2) r).length<=_;rw[List.length_cons];omega
theorem zmn {P:Program}{w:World}:∀ {kvs:List (Key×V)}{ws:List (Value×Value)},VV (kvs.map fun kv=>(kV kv.1,kv.2)) ws->∃ rs,Carries (zbV P w) ws rs/\KV kvs rs
 | [],_,r=>by rw[List.map_nil] at r;cases r;exact⟨[],True.intro,.nil⟩
 | p::kvs,_,r=>by
  rw[List.map_cons] at r;cases r with
  | @cons a b as bs h t =>
   obtain⟨rs,c,q⟩:=zmn (P:=P) (w:=w) t;obtain⟨b1,b2⟩:=b;exact⟨(p.1,b2)::rs,⟨zr4 h.1,rfl,c⟩,.cons ⟨rfl,h.2⟩ q⟩
noncomputable def zCs (trs:List (TE×TE)):TE:=fun σ H Q=>∀ p,H p=none->zsL trs σ (upd H p (.dK [])) fun ps H2=>H2 p=some (.dK [])/\∃ kvs:List (Key×V),ps=kvs.map (fun kv=>(kV kv.1,kv.2))/\kvs.length<=15/\Q (.ref p) (upd H2 p (.dK (zn0 [] kvs)))
theorem zyC {X:Cx}{pos:Pos}{keys:List (Option Expr)}{values:List Expr}{trs:List (TE×TE)}(h:PPs X pos keys values trs)(hall:keys.all (·.isSome)=true)(hl:keys.length=values.length)(h0:keys≠[])
  (h15:keys.length<=15):PE X (.Dict keys values pos) (zCs trs):=by
 intro pins s σ H Q I q;have hn:=I.hok.fresh (Nat.le_refl s.heap.objs.size);have I1:=I.laid (a:=s.heap.objs.size) (o:=.dK []) (h':=s.heap.push { cls:=.type "dict",data:=.dict #[] }) (t':=s.toks) (fun _ _ q=>Heap.get?_push_of_some _ q) (Nat.le_refl _) (zrj s.heap I.big);refine wpAny_Dict_walk (knd:=zbV X.prog X.w) hall hl h0 h15 (thn (h pins _ σ _ _ I1 (q _ hn)) fun ws s2 ⟨ps,H2,I2,rel,e,kvs,ep,lk,q2⟩=>?_);subst ep;obtain⟨rs,c,rk⟩:=zmn (P:=X.prog) (w:=X.w) rel;obtain⟨z,hd,vs0,r0,dd⟩:=zBJ I2.hok e;cases r0;refine⟨rs,c,dd,fun h' dd' hs=>⟨.ref s.heap.objs.size,_,?_,rfl,q2⟩⟩;have hz:(zn0 [] kvs).length<=sizeLine:=by
  have h1:=zhb kvs [];rw[List.length_nil] at h1;rw[sizeLine_eq];omega
 have he:∃ q,h'.get? s.heap.objs.size=some q:=let ⟨q,_,_,hq,_⟩:=dd';⟨q,hq⟩;exact zqd I2 (by rw[e];exact True.intro) hs he (zxJ hz hd (rk.merge .nil) dd')
section
variable {X:Cx}{pins:List (Addr×Obj)}{σ:St}{H:Hp}{s:Shared}{a:Addr}{y d:V}{u r:Value}{o:Option V}{A:Around}{E:Value->Shared->Prop}
end
section
variable {X:Cx}{o e f:Expr}{apos cpos:Pos}{td ty tx:TE}
end
section
variable {X:Cx}{pins:List (Addr×Obj)}{σ:St}{H:Hp}{s:Shared}{a:Addr}{kvs:List (Key×V)}{A:Around}{E:Value->Shared->Prop}
end
section
variable {X:Cx}{pins:List (Addr×Obj)}{σ:St}{H:Hp}{s:Shared}{a:Addr}{y:V}{u:Value}{A:Around}{E:Value->Shared->Prop}
end
end L2
namespace DL
open PySem PySem.Spec PyProof.Rows L2
section
variable {X:Cx}{E:XK}{e:Expr}{f:Ev->Res D}{pos p1:Pos}
def dOne (x:Str)(d:D):Res D:=.ok (.dic [x] [d])
end
noncomputable def zk8 (cells:List (Str×Addr)):List (Str×NameKind)->List (Str×Addr)->List (Str×Addr)
 | [],acc=>acc
 | (n,k)::r,acc=>if(k==NameKind.free)=true then zk8 cells r ((n,(cells.lookup n).getD 0)::acc) else zk8 cells r acc
theorem zhD {scope:Scope}{env:PySem.Env}(h:∀ x∈scope.names,x.2=.free->∃ c,env.cells.lookup x.1=some c):closureFor scope env=pure (zk8 env.cells scope.names []):=by
 simp only[closureFor];have key:∀ (names:List (Str×NameKind)) (acc:List (Str×Addr)),(∀ x∈names,x.2=.free->∃ c,env.cells.lookup x.1=some c) ->
   (forIn names acc fun(x:Str×NameKind) (z:List (Str×Addr)) =>
      if(x.snd==NameKind.free)=true then do
       let y ← cellOf env x.fst
       pure (ForInStep.yield ((x.fst,y)::z))
      else(pure (ForInStep.yield z):Sem _))=pure (zk8 env.cells names acc):=by
  intro names
  induction names with
  | nil=>intro acc _;rfl
  | cons x r ih =>
   intro acc hh;obtain⟨n,k⟩:=x;rw[List.forIn_cons]
   by_cases hk:(k==NameKind.free)=true
   .obtain⟨c,hc⟩:=hh (n,k) List.mem_cons_self (by simpa using hk)
    have hcell:cellOf env n=pure c:=by unfold cellOf;rw[show env.cells.lookup n=some c from hc]
    simp only[hk,if_true];rw[hcell];have:=ih ((n,c)::acc) (fun y hy=>hh y (List.mem_cons_of_mem _ hy));rw[show zk8 env.cells ((n,k)::r) acc=zk8 env.cells r ((n,c)::acc) by
     show(if(k==NameKind.free)=true then _ else _)=_;rw[if_pos hk,show env.cells.lookup n=some c from hc];rfl]
    rw[← this];rfl
   .have:=ih acc (fun y hy=>hh y (List.mem_cons_of_mem _ hy))
    rw[if_neg hk];rw[show zk8 env.cells ((n,k)::r) acc=zk8 env.cells r acc by
     show(if(k==NameKind.free)=true then _ else _)=_;rw[if_neg hk]]
    rw[← this];rfl
 rw[key _ _ h];rfl
theorem znt {cells:List (Str×Addr)}:∀ {names:List (Str×NameKind)}{acc:List (Str×Addr)}{x:Str}{c:Addr},(∀ y∈names,y.2=.free->∃ c,cells.lookup y.1=some c) ->
  (zk8 cells names acc).lookup x=some c->acc.lookup x=some c∨cells.lookup x=some c
 | [],acc,x,c,_,h=>.inl h
 | (n,k)::r,acc,x,c,hh,h=>by
  unfold zk8 at h
  by_cases hk:(k==NameKind.free)=true
  .rw[if_pos hk] at h
   obtain⟨d,hd⟩:=hh (n,k) List.mem_cons_self (by simpa using hk);rcases znt (fun y hy=>hh y (List.mem_cons_of_mem _ hy)) h with h | h
   .rw[List.lookup_cons] at h
    cases e:x==n with
    | true =>
     rw[e] at h;rw[show cells.lookup n=some d from hd] at h;cases h;rw[eq_of_beq e];exact .inr hd
    | false=>rw[e] at h;exact .inl h
   .exact .inr h
  .rw[if_neg hk] at h
   exact znt (fun y hy=>hh y (List.mem_cons_of_mem _ hy)) h
theorem zjT {α:Type}{x:Str}:∀ {l:List (Str×α)},(∃ v,(x,v)∈l)->∃ v,l.lookup x=some v
 | [],⟨v,h⟩=>by cases h
 | (n,w)::r,⟨v,h⟩=>by
  rw[List.lookup_cons];cases e:x==n with
  | true=>exact⟨w,rfl⟩
  | false =>
   rcases List.mem_cons.mp h with h | h
   .cases h;simp at e
   .exact zjT ⟨v,h⟩
theorem znv {cells:List (Str×Addr)}{x:Str}{c:Addr}:∀ {names:List (Str×NameKind)}{acc:List (Str×Addr)},(x,c)∈acc->(x,c)∈zk8 cells names acc
 | [],acc,h=>h
 | (n,k)::r,acc,h=>by
  unfold zk8
  by_cases hk:(k==NameKind.free)=true
  .rw[if_pos hk];exact znv (List.mem_cons_of_mem _ h)
  .rw[if_neg hk];exact znv h
theorem znu {cells:List (Str×Addr)}{x:Str}:∀ {names:List (Str×NameKind)}{acc:List (Str×Addr)},(x,NameKind.free)∈names->∃ c,(zk8 cells names acc).lookup x=some c:=by
 intro names
 induction names with
 | nil=>intro acc h;cases h
 | cons y r ih =>
  intro acc h;obtain⟨n,k⟩:=y;unfold zk8;rcases List.mem_cons.mp h with h | h
  .cases h
   rw[if_pos (by rfl)];exact zjT ⟨_,znv List.mem_cons_self⟩
  .by_cases hk:(k==NameKind.free)=true
   .rw[if_pos hk];exact ih h
   .rw[if_neg hk];exact ih h
noncomputable def zdf (X:Cx) (N:List Str) (scope:Scope) (s:Shared) (H:Hp) (C:Addr) (fp:List Addr) (pn:List (Addr×Obj)):Cx :=
 { X with N:=N,sf:=s,Ha:=H,env:=compEnvC scope (zk8 X.env.cells scope.names []) C X.env,outer:=X.stack,stack:=X.stack,ex:=fp,fn:=fun _=>false,pn:=pn,xe:=fun _ _=>False }
noncomputable def zi8 (n:Nat) (fr:List Nat) (σ:L2.St):L2.St:=List.replicate n none++fr.map fun(i:Nat)=>(σ[i]?).getD none
noncomputable def zzL (X:Cx) (N:List Str) (n:Nat) (fr:List Nat) (scope:Scope):Prop :=
 N.length=n+fr.length/\((N.drop n).zip fr).all (fun p=>X.N[p.2]?==some p.1&&X.env.scope.names.lookup p.1==some .cell&&scope.names.lookup p.1==some .free&&(relabel scope X.env).names.lookup p.1==some .cell)=true
theorem zzL.at {X:Cx}{N:List Str}{n:Nat}{fr:List Nat}{scope:Scope}(h:zzL X N n fr scope){k:Nat}{x:Str}{v:V}{σ:L2.St}(hx:N[k]?=some x)(hv:(zi8 n fr σ)[k]?=some (some v)) :
  ∃ i:Nat,X.N[i]?=some x/\σ[i]?=some (some v)/\X.env.scope.names.lookup x=some .cell/\scope.names.lookup x=some .free/\(relabel scope X.env).names.lookup x=some .cell:=by
 unfold zi8 at hv
 by_cases hk:k < n
 .rw[List.getElem?_append_left (by simpa using hk),List.getElem?_replicate,if_pos hk] at hv
  cases hv
 .rw[List.getElem?_append_right (by simpa using hk),List.length_replicate,List.getElem?_map] at hv
  cases hi:fr[k-n]? with
  | none=>rw[hi] at hv;cases hv
  | some i =>
   rw[hi] at hv;have hz:((N.drop n).zip fr)[k-n]?=some (x,i):=by
    rw[List.getElem?_zip_eq_some];exact⟨by rw[List.getElem?_drop,show n+(k-n)=k by omega];exact hx,hi⟩
   have:=List.all_eq_true.mp h.2 _ (List.mem_of_getElem? hz);simp only[Bool.and_eq_true,beq_iff_eq] at this;refine⟨i,this.1.1.1,?_,this.1.1.2,this.1.2,this.2⟩;simp only[Option.map_some,Option.some.injEq] at hv;cases hs:σ[i]? with
   | none=>rw[hs] at hv;cases hv
   | some u=>rw[hs] at hv;exact congrArg some hv
noncomputable def PIf (X:Cx) (ifs:List Expr) (t:TT):Prop :=
 ∀ (pins:List (Addr×Obj)) (s:Shared) (σ:L2.St) (H:Hp) (Q:Bool->Hp->Prop),Inv X pins σ H s->t σ H Q ->
  wpAny (model X.prog X.w) X.A (forIn ifs true fun c r=>if r=true then do let ok ← isTrue c X.env (eval c X.env);pure (ForInStep.yield ok) else pure (ForInStep.yield r)) (TP X pins σ Q) X.xe s
def zz9:TT:=fun _ H Q=>Q true H
theorem ztc {X:Cx}:PIf X [] zz9:=fun _ _ _ H _ I h=>wpAny_tests_nil ⟨H,I,h⟩
theorem zyx {X:Cx}{c:Expr}{t:TT}(h:PT X c t):PIf X [c] t:=fun pins s σ H Q I q=>wpAny_tests_one (h pins s σ H Q I q)
theorem zlJ {prog:Program}{w:World}{A:Around}{R:Result->Shared->Prop}{s:Shared}{elt target iter:Expr}{ifs:List Expr}{scope:Scope}{pos:Pos}{it acc:Value}{env:PySem.Env}(I:Nat->Shared->Prop)
  (turn:∀ n s,I n s->wpAny (model prog w) A (pyNext it) (fun r sg=>match r with
   | none=>R (.ok .next) sg
   | some v=>wpAny (model prog w) A (letOwnedTupleGo target it v) (fun _ sg'=>wpAny (model prog w) A (assign target env v) (fun _ sj =>
     wpAny (model prog w) A (forIn ifs true fun c r=>if r=true then do let ok ← isTrue c env (eval c env);pure (ForInStep.yield ok) else pure (ForInStep.yield r)) (fun ok sk =>
      if ok=true then wpAny (model prog w) A (eval elt env) (fun x si =>
       wpAny (model prog w) A (call (.builtin "list.append") [acc,x]) (fun _ so=>∃ m,m < n/\I m so) (fun _ _=>False) si) (fun _ _=>False) sk
      else ∃ m,m < n/\I m sk) (fun _ _=>False) sj) (fun _ _=>False) sg') (fun _ _=>False) sg) (fun _ _=>False) s)
  (n:Nat) (h:I n s) :
  codeAny (model prog w) A (.compLoop (.ListComp elt [⟨target,iter,ifs,0⟩] scope pos) 0 it acc env) R s:=by
 refine codeAny_loop rfl I (fun n s hI=>?_) n h;show wpAny _ A ((compTurn (.ListComp elt [⟨target,iter,ifs,0⟩] scope pos) 0 it acc env).onRaise (fun x=>do noteFrame x env;theTreesLotGoes x)) _ _ s;refine wpAny_noted ?_;rw[compTurn_list];refine wpAny_bind (wpAny_standAt (wpAny_bind (wpAny_mono (turn n s hI) (fun r sg hV=>?_) fun _ _ h'=>h'.elim)));cases r with
 | none=>exact wpAny_pure hV
 | some v =>
  refine wpAny_bind (wpAny_mono hV (fun _ sg' hV'=>?_) fun _ _ h'=>h'.elim);refine wpAny_bind (wpAny_mono hV' (fun _ sj hX=>wpAny_bind (wpAny_mono hX (fun ok sk hW=>?_) fun _ _ h'=>h'.elim)) fun _ _ h'=>h'.elim);cases ok with
  | false=>exact wpAny_pure ⟨rfl,hW⟩
  | true =>
   exact wpAny_bind (wpAny_bind (wpAny_mono hW (fun x si hU=>wpAny_bind (wpAny_mono hU (fun _ so hZ=>wpAny_pure (wpAny_pure ⟨rfl,hZ⟩)) fun _ _ h'=>h'.elim)) fun _ _ h'=>h'.elim))
noncomputable def znK (n:Nat) (fr:List Nat) (g:TG) (tt:TT) (te:TE) (J:It) (σ:L2.St) (H1:Hp) (Q:VK):Prop:=∀ D,H1 D=none->∃ W:Nat->Nat->List V->L2.St->Hp->Prop,(∃ m,W 0 m [] (zi8 n fr σ) (upd H1 D (.lst []))) /\
 ∀ i m ys σ' H',W i m ys σ' H'->H' D=some (.lst ys)/\((J.stop i H'/\Q (.ref D) H')∨(J.go i H'/\ys.length < sizeLine/\∀ x H2,J.yld i H' x H2->g x σ' H2 fun σ3 H3=>tt σ3 H3 fun b H4 =>
  if b=true then te σ3 H4 fun y H5=>H5 D=some (.lst ys)/\∃ m',m' < m/\W (i+1) m' (ys++[y]) σ3 (upd H5 D (.lst (ys++[y])))
  else ∃ m',m' < m/\W (i+1) m' ys σ3 H4))
theorem zpa {X:Cx}{tg iter elt:Expr}{ifs:List Expr}{scope:Scope}{pos:Pos}{N:List Str}{n:Nat}{fr:List Nat}{g:TG}{tt:TT}{te:TE}(hc:X.calm=true)(hfr:zzL X N n fr scope)
  (hcell:∀ x∈scope.names,x.2≠.cell)(hfree:∀ x∈scope.names,x.2=.free->X.env.scope.names.lookup x.1=some .cell)(hkind:scope.kind=.function)
  (blk:∀ s H C fp pn,PG (zdf X N scope s H C fp pn) tg g/\PIf (zdf X N scope s H C fp pn) ifs tt/\PE (zdf X N scope s H C fp pn) elt te)
  {pins:List (Addr×Obj)}{σ:L2.St}{s2:Shared}{Q:VK}{itv:Value}{RR:Value->Addr->Result->Shared->Prop}
  (h2:PIE X pins σ tg (fun J H1=>znK n fr g tt te J σ H1 Q) itv s2)
  (fin:∀ (Da C:Addr) (s6:Shared) (H5:Hp) (m:Str->Option Value),Inv X pins σ H5 s6->s6.heap.Ns C m->zrB X pins H5 C->Q (.ref Da) H5->RR (.ref Da) C (.ok .next) s6) :
  wpAny (model X.prog X.w) X.A (newList []) (fun acc sk=>wpAny (model X.prog X.w) X.A (newFunctionEnv scope X.env.globals (zk8 X.env.cells scope.names []) [] X.env.qual none .none (some X.env)) (fun cenv si =>
   codeAny (model X.prog X.w) X.A (.compStart (.ListComp elt [⟨tg,iter,ifs,0⟩] scope pos) 0 itv acc { cenv with scope:=relabel scope X.env }) (RR acc cenv.locals) si) X.xe sk) X.xe s2:=by
 obtain⟨it,fp,tn,J,H2,e,I2,T,st2,f2,q⟩:=h2;subst e;have hD:H2 s2.heap.objs.size=none:=I2.fresh;refine wpAny_newObj_type ?_;have I3:Inv X pins σ (upd H2 s2.heap.objs.size (.lst [])) { s2 with heap:=s2.heap.push { cls:=.type "list",data:=.seq ([]:List Value).toArray } }:=I2.lnew (t':=s2.toks) (its:=[]) .nil (Nat.zero_le _);obtain⟨W,⟨m0,w0⟩,turn⟩:=q s2.heap.objs.size hD;generalize hs3:({ s2 with heap:=s2.heap.push { cls:=.type "list",data:=.seq ([]:List Value).toArray } }:Shared)=s3 at I3 ⊢;have hs3h:s3.heap=s2.heap.push { cls:=.type "list",data:=.seq ([]:List Value).toArray }:=by rw[← hs3]
 have hDs:s2.heap.objs.size < s3.heap.objs.size:=by rw[hs3h,Heap.size_push];exact Nat.lt_succ_self _
 have fpl:∀ b∈fp,b < s2.heap.objs.size:=fun b hb=>by
  obtain⟨o,ho,_⟩:=T.obj _ _ st2 b hb;exact Heap.lt_size ho
 have kept3:∀ b o,s2.heap.get? b=some o->s3.heap.get? b=some o:=fun b o e=>by rw[hs3h];exact Heap.get?_push_of_some _ e
 have st3:tn 0 s3.heap:=T.keep _ _ _ st2 fun b _ o e=>kept3 b o e;generalize hDa:s2.heap.objs.size=Da at *;generalize hH3:upd H2 Da (.lst [])=H3 at *;have fr3:∀ b∈fp,H3 b=none:=fun b hb=>by rw[← hH3,zal (Nat.ne_of_lt (fpl b hb))];exact(f2 b hb).1
 have cls:∀ x c,(zk8 X.env.cells scope.names []).lookup x=some c->X.env.cells.lookup x=some c:=fun x c e=>by
  rcases znt (fun y hy hf=>I3.ok.has y.1 (.inl (hfree y hy hf))) e with e | e
  .cases e
  .exact e
 refine wpAny_newFunctionEnv hcell (by intro y hy;simp at hy) (fun h4 ns4 sb4=>?_) hkind;have k4:∀ b o,s3.heap.get? b=some o->h4.get? b=some o:=fun b o e=>(sb4.2 b (Nat.ne_of_lt (Heap.lt_size e))).trans (Heap.get?_push_of_some _ e);generalize hC:s3.heap.objs.size=C at *;have hCn:H3 C=none:=I3.hok.fresh (by rw[hC];exact Nat.le_refl _);have ltC:∀ b o,s3.heap.get? b=some o->b≠C:=fun b o e=>by rw[← hC];exact Nat.ne_of_lt (Heap.lt_size e)
 have cellC:∀ x c,X.env.cells.lookup x=some c->c≠C:=fun x c e=>by
  obtain⟨v,o,ho,_⟩:=I3.cell x c e;exact ltC c o ho
 have fpC:∀ b∈fp,b≠C:=fun b hb=>by
  have:=fpl b hb;exact Nat.ne_of_lt (Nat.lt_trans this hDs)
 show codeAny (model X.prog X.w) X.A (.compStart (.ListComp elt [⟨tg,iter,ifs,0⟩] scope pos) 0 (.ref it) (.ref Da) (compEnvC scope (zk8 X.env.cells scope.names []) C X.env)) _ _;generalize hs4:({ s3 with heap:=h4,toks:=s3.toks+([]:List (Str×Value)).length }:Shared)=s4;have hs4h:s4.heap=h4:=by rw[← hs4]
 have ok:(zdf X N scope s3 H3 C fp (X.pn++pins)).Ok:=by
  refine⟨I3.ok.mod,hkind,I3.ok.glob,I3.ok.blt,Nat.le_of_eq hC,fun x y c e1 e2=>I3.ok.inj x y c (cls x c e1) (cls y c e2),fun x e=>?_,fun x c e=>?_,fun _=>I3.ok.hd hc,I3.ok.frames,.inl rfl,fun b hb=>⟨fpC b hb,fun x c e=>(f2 b hb).2.2.2.2.1 x c (cls x c e)⟩,I3.bs,Nat.le_trans I3.ok.bsz I3.sz,fun b o e hb=>?_,fun b hb z=>?_,I3.stack,I3.stkFree⟩
  .have mm:∀ k:NameKind,(relabel scope X.env).names.lookup x=some k->(k=.cell∨k=.free)->(x,NameKind.free)∈scope.names:=fun k hk hk2=>by
    have hm:=PySem.mem_of_lookup hk;obtain⟨⟨n',k'⟩,hm1,hm2⟩:=List.mem_map.mp hm;dsimp only at hm2;split at hm2
    .rename_i hcnd
     cases hm2;simp only[Bool.and_eq_true,beq_iff_eq] at hcnd;rw[hcnd.1.1] at hm1;exact hm1
    .cases hm2
     rcases hk2 with rfl | rfl
     .exact absurd rfl (hcell _ hm1)
     .exact hm1
   rcases e with e | e
   .exact znu (mm _ e (.inl rfl))
   .exact znu (mm _ e (.inr rfl))
  .cases e
  .rcases(f2 b hb).2.2.2.1 with z | z
   .exact I3.ok.noex b o e z
   .exact absurd (Nat.lt_of_lt_of_le (Heap.lt_size e) (Nat.le_trans I3.ok.bsz z)) (Nat.lt_irrefl _)
  .rcases List.mem_cons.mp (I3.stkSub b z) with z | z
   .exact(f2 b hb).2.1 z
   .exact(f2 b hb).2.2.1 z
 have I4:Inv (zdf X N scope s3 H3 C fp (X.pn++pins)) [] (zi8 n fr σ) H3 s4:=by
  refine⟨ok,by rw[← hs4];rfl,by rw[← hs4];exact I3.bare,by rw[hs4h];exact Un.kept k4,⟨_,by rw[hs4h];exact ns4,fun i x v h1 h2 h3=>?_⟩,fun x c e=>?_,hCn,fun x c e=>I3.freeC x c (cls x c e),fun p hp=>?_,by rw[hs4h];exact I3.hok.kept k4,?_⟩
  .obtain⟨j,j1,j2,j3,j4,j5⟩:=hfr.at h1 h2
   obtain⟨m,hn,hl⟩:=I3.loc;obtain⟨u,ru,l⟩:=hl j x v j1 j2 (.inr (.inl j3));refine⟨u,ru,.inr ⟨.inl j5,?_⟩⟩;rcases l with⟨z,_⟩ | ⟨_,c,z1,z2⟩
   .rw[show X.env.kindOf x=X.env.scope.names.lookup x from rfl,j3] at z;cases z
   .obtain⟨c',hc'⟩:=znu (cells:=X.env.cells) (names:=scope.names) (acc:=[]) (PySem.mem_of_lookup j4)
    have:=cls x c' hc';rw[z1] at this;cases this;obtain⟨oc,q1,q2⟩:=z2;exact⟨c,hc',oc,by rw[hs4h];exact k4 _ _ q1,q2⟩
  .obtain⟨v,oc,q1,q2⟩:=I3.cell x c (cls x c e)
   exact⟨v,oc,by rw[hs4h];exact k4 _ _ q1,q2⟩
  .rw[List.append_nil] at hp
   obtain⟨p1,p2,p3,p4,p5⟩:=I3.pin p hp;refine⟨by rw[hs4h];exact k4 _ _ p1,p2,ltC _ _ p1,fun z=>?_,p5⟩;rcases List.mem_cons.mp (I3.stkSub _ z) with z | z
   .exact p3 z
   .exact p4 z
  .show(zi8 n fr σ).length=N.length
   unfold zi8;rw[List.length_append,List.length_replicate,List.length_map,hfr.1]
 have st4:tn 0 s4.heap:=by rw[hs4h];exact T.keep _ _ _ st3 fun b _ o e=>k4 b o e
 have stat:∀ {H':Hp},(∀ b∈fp,H' b=none)->∀ b∈fp,zrB (zdf X N scope s3 H3 C fp (X.pn++pins)) [] H' b:=fun hn b hb=>by
  refine⟨hn b hb,fpC b hb,fun z=>?_,.inl hb,fun x c e=>(f2 b hb).2.2.2.2.1 x c (cls x c e),fun p hp=>?_⟩
  .rcases List.mem_cons.mp (I3.stkSub b z) with z | z
   .exact(f2 b hb).2.1 z
   .exact(f2 b hb).2.2.1 z
  .rw[List.append_nil] at hp
   exact(f2 b hb).2.2.2.2.2 p hp
 have loop:codeAny (model X.prog X.w) X.A (.compLoop (.ListComp elt [⟨tg,iter,ifs,0⟩] scope pos) 0 (.ref it) (.ref Da) (compEnvC scope (zk8 X.env.cells scope.names []) C X.env)) (RR (.ref Da) C) s4:=by
  refine zlJ (fun n s'=>∃ i ys σ' H',Inv (zdf X N scope s3 H3 C fp (X.pn++pins)) [] σ' H' s'/\tn i s'.heap/\(∀ b∈fp,H' b=none)/\W i n ys σ' H') ?_ m0 ⟨0,[],_,H3,I4,st4,fr3,w0⟩;rintro k s5 ⟨i,ys,σ5,H5,I5,st5,fr5,w5⟩;obtain⟨hDl,ways⟩:=turn i k ys σ5 H5 w5;rcases ways with⟨stop,fin'⟩ | ⟨go,hz,step⟩
  .refine thn (T.done (zdf X N scope s3 H3 C fp (X.pn++pins)) rfl rfl rfl hc i [] s5 σ5 H5 (fun _ _=>False) I5 (stat fr5) st5 stop) fun r s6 ⟨hr,I6⟩=>?_
   subst hr;obtain⟨mm,nsm,_⟩:=I6.loc;have free6:H5 C=none:=I6.free;have hok:HOk X.prog X.w H5 s6.heap:=I6.hok;have un:Un (frs X.stack) fp H3 H5 s3.heap s6.heap:=I6.base;have IX:Inv X pins σ H5 s6:=I3.call' (s':=s6) (ch:=fp) I6.os un hok I6.bare (fun b hb=>⟨(f2 b hb).2.2.2.1,(f2 b hb).2.1,(f2 b hb).2.2.2.2.1,(f2 b hb).2.2.2.2.2⟩);have fC:zrB X pins H5 C:=I3.fpOk (b:=C) (H':=H5) (by rw[hC];exact Nat.le_refl _) free6;exact fin Da C s6 H5 mm IX nsm fC fin'
  .refine thn (T.item (zdf X N scope s3 H3 C fp (X.pn++pins)) rfl rfl rfl hc i [] s5 σ5 H5 (fun _ _=>False) I5 (stat fr5) st5 go) fun r s6 ⟨u,hr,h6⟩=>?_
   subst hr;refine thn h6 fun _ s7 ⟨x,H7,I7,r7,y7,st7,fr7⟩=>?_;have I7':=I7.pinned (stat fr7) (T.obj _ _ st7);refine thn ((blk s3 H3 C fp (X.pn++pins)).1 _ s7 σ5 H7 x u _ I7' r7 (step x H7 y7)) fun _ s8 ⟨σ8,H8,I8,q8⟩=>?_;refine thn ((blk s3 H3 C fp (X.pn++pins)).2.1 _ s8 σ8 H8 _ I8 q8) fun b s8b ⟨H8b,I8b,q8b⟩=>?_;have back:∀ {σ':L2.St}{H':Hp}{s':Shared},L2.Inv (zdf X N scope s3 H3 C fp (X.pn++pins)) (([]:List (Addr×Obj))++znV fp s7.heap) σ' H' s'->tn (i+1) s'.heap/\∀ b∈fp,H' b=none:=fun {σ' H' s'} I'=>by
    refine⟨T.keep _ _ _ st7 fun b hb o e=>(I'.pin (b,o) (List.mem_append_right _ (List.mem_append_right _ (zgg hb e)))).1,fun b hb=>?_⟩;obtain⟨o,e,d⟩:=T.obj _ _ st7 b hb;exact(I'.pin (b,o) (List.mem_append_right _ (List.mem_append_right _ (zgg hb e)))).2.1
   cases b with
   | false =>
    rw[if_neg Bool.false_ne_true] at q8b ⊢;obtain⟨m',hm,w9⟩:=q8b;exact⟨m',hm,i+1,ys,σ8,_,I8b.unpinned,(back I8b).1,(back I8b).2,w9⟩
   | true =>
    rw[if_pos rfl] at q8b ⊢;refine thn ((blk s3 H3 C fp (X.pn++pins)).2.2 _ s8b σ8 H8b _ I8b q8b) fun y s9 ⟨yv,H9,I9,r9,hD9,m',hm,w9⟩=>?_;refine thn (zjQ (X:=zdf X N scope s3 H3 C fp (X.pn++pins)) _ s9 σ8 H9 (.ref Da) [yv] (.ref Da) [y] (fun v H'=>H'=upd H9 Da (.lst (ys++[yv]))) I9 rfl (.cons r9 .nil) ⟨Da,ys,yv,rfl,rfl,hD9,hz,rfl⟩) fun _ s10 ⟨v10,H10,I10,_,e10⟩=>?_;subst e10;exact⟨m',hm,i+1,ys++[yv],σ8,_,I10.unpinned,(back I10).1,(back I10).2,w9⟩
 exact codeAny_compStart_list loop (T.self _ 0 _ _ _ st4 loop)
structure ItD (K:W.Frag) (ds:List D) (J:It) (Ha:Hp):Prop where
 go:∀ (i:Nat) (H' Ha':Hp),zaA Ha Ha'->zaA Ha' H'->i < ds.length->J.go i H'
 yld:∀ (i:Nat) (H' Ha':Hp) (x:V) (H2:Hp) (d:D),zaA Ha Ha'->zaA Ha' H'->ds[i]?=some d->J.yld i H' x H2->∃ H₀2,zbj H' Ha' H2 H₀2/\Rep K H₀2 d x
 stop:∀ (i:Nat) (H' Ha':Hp),zaA Ha Ha'->zaA Ha' H'->ds.length<=i->J.stop i H'
noncomputable def tDI (K:W.Frag) (E:XK) (src:Ev->Res (List D)):TI:=fun σ H R=>∃ Ha ρ,zaA Ha H/\Reads K Ha σ ρ/\match src ρ with
 | .ok ds=>∀ J H' Ha',zbj H Ha H' Ha'->ItD K ds J Ha'->R J H'
 | .exn x=>∀ C ox H' Ha',zbj H Ha H' Ha'->ExR K Ha' x C ox->E C ox H'
 | .stuck=>False
structure DI (X:Cx) (E:XK) (tg iter:Expr) (src:Ev->Res (List D)):Prop where
 o:PI X tg iter (tDI X.K E src)
theorem zh7 {X:Cx}{tg iter:Expr}{t t':TI}(h:PI X tg iter t)(w:∀ σ H R,t' σ H R->t σ H R):PI X tg iter t':=fun pins s σ H R I q=>h pins s σ H R I (w σ H R q)
noncomputable def zvz (f:Ev->Res D):Ev->Res (List D):=fun ρ=>(f ρ).bind fun d=>match d with
 | .lst ds=>.ok ds
 | _=>.stuck
noncomputable def zEi (f:Ev->Res D):Ev->Res (List D):=fun ρ=>(f ρ).bind fun d=>match d with
 | .tup ds=>.ok ds
 | _=>.stuck
noncomputable def zB8 (f:Ev->Res D):Ev->Res (List D):=fun ρ=>(f ρ).bind fun d=>match d with
 | .str z=>.ok (zix z)
 | _=>.stuck
noncomputable def zgI (f:Ev->Res D):Ev->Res (List D):=fun ρ=>(f ρ).bind fun d=>match d with
 | .int j=>if -4611686018427387904<=j/\j < 4611686018427387904 then .ok (intsFrom 0 j.toNat) else .stuck
 | _=>.stuck
section
variable {X:Cx}{E:XK}{tg e a b:Expr}{f g:Ev->Res D}
theorem zkV (h:DE X E e f):DI X E tg e (zvz f):=by
 refine⟨zh7 (ztd h.o) fun σ H R ⟨Ha,ρ,hs,hr,q⟩=>⟨Ha,ρ,hs,hr,?_⟩⟩;unfold zvz at q;cases e1:f ρ with
 | stuck=>rw[e1] at q;exact q
 | exn x=>rw[e1] at q;exact q
 | ok d =>
  rw[e1] at q;intro v H1 H01 g1 r1;cases d with
  | lst ds =>
   obtain⟨p,vs,rfl,hv,hrv⟩:=zan.mp r1;refine⟨p,rfl,⟨vs,zaA.sqL g1.sub hv⟩,q _ H1 H01 g1 ⟨fun i H' Ha' s1 s2 hi=>?_,fun i H' Ha' x H2 d s1 s2 hd hy=>?_,fun i H' Ha' s1 s2 hi=>?_⟩⟩
   .exact⟨vs,vs[i]'(by rw[← hrv.length];exact hi),zaA.sqL (s1.trans s2) hv,by simp⟩
   .obtain⟨rfl,hy⟩:=hy
    obtain⟨u,k1,k2⟩:=hrv.get hd;have:=hy vs (zaA.sqL (s1.trans s2) hv);rw[k1] at this;cases this;exact⟨Ha',zbj.refl s2,k2.mono s1⟩
   .exact⟨vs,zaA.sqL (s1.trans s2) hv,by rw[← hrv.length];exact hi⟩
  | _=>exact q.elim
theorem zBK (h:DE X E e f):DI X E tg e (zB8 f):=by
 refine⟨zh7 (zAN h.o) fun σ H R ⟨Ha,ρ,hs,hr,q⟩=>⟨Ha,ρ,hs,hr,?_⟩⟩;unfold zB8 at q;cases e1:f ρ with
 | stuck=>rw[e1] at q;exact q
 | exn x=>rw[e1] at q;exact q
 | ok d =>
  rw[e1] at q;intro v H1 H01 g1 r1;cases d with
  | str z =>
   refine⟨z,Rep.str_iff.mp r1,q _ H1 H01 g1 ⟨fun i H' Ha' s1 s2 hi=>?_,fun i H' Ha' x H2 d s1 s2 hd hy=>?_,fun i H' Ha' s1 s2 hi=>?_⟩⟩
   .rw[zhW] at hi;exact hi
   .obtain⟨rfl,c,hc,rfl⟩:=hy
    have:d=.str ⟨#[c]⟩:=by
     unfold zix at hd;rw[List.getElem?_map] at hd;have h2:z.cps.toList[i]?=some c:=by simpa using hc
     rw[h2] at hd;cases hd;rfl
    subst this;exact⟨Ha',zbj.refl s2,Rep.str_iff.mpr rfl⟩
   .rw[zhW] at hi;exact hi
  | _=>exact q.elim
theorem zn9 {K:W.Frag}{lo:Int}{n:Nat}{H:Hp}:ItD K (intsFrom lo n) (Itr lo n) H:=by
 have hl:(intsFrom lo n).length=n:=by unfold intsFrom;simp
 refine⟨fun i H' Ha' _ _ hi=>?_,fun i H' Ha' x H2 d s1 s2 hd hy=>?_,fun i H' Ha' _ _ hi=>?_⟩
 .rw[hl] at hi;exact hi
 .obtain⟨rfl,rfl⟩:=hy
  have:d=.int (lo+i):=by
   unfold intsFrom at hd;rw[List.getElem?_map] at hd;cases e:(List.range n)[i]? with
   | none=>rw[e] at hd;cases hd
   | some k =>
    rw[e] at hd;have hk:k=i:=by
     obtain⟨h1,h2⟩:=List.getElem?_eq_some_iff.mp e;simpa using h2.symm
    subst hk;cases hd;rfl
  subst this;exact⟨Ha',zbj.refl s2,zah.mpr rfl⟩
 .rw[hl] at hi;exact hi
theorem zfZ {p pos:Pos}(hg:Gl X "range")(hm:X.mg "range"=none)(h:DE X E a f)(hn:nst a=true:=by exact rfl):DI X E tg (.Call (.Name "range" p) [a] [] pos) (zgI f):=by
 refine⟨zh7 (zjE hg hm (zdZ h.o zg7 (zeP hn)) (zeP hn)) fun σ H R ⟨Ha,ρ,hs,hr,q⟩=>⟨Ha,ρ,hs,hr,?_⟩⟩;unfold zgI at q;cases e1:f ρ with
 | stuck=>rw[e1] at q;exact q
 | exn x=>rw[e1] at q;exact q
 | ok d =>
  rw[e1] at q;intro v H1 H01 g1 r1;cases d with
  | int j =>
   replace q:match (if -4611686018427387904<=j/\j < 4611686018427387904 then Res.ok (intsFrom 0 j.toNat) else .stuck) with
    | .ok ds=>∀ J H' Ha',zbj H Ha H' Ha'->ItD X.K ds J Ha'->R J H'
    | .exn x=>∀ C ox H' Ha',zbj H Ha H' Ha'->ExR X.K Ha' x C ox->E C ox H'
    | .stuck=>False:=q
   by_cases hj:-4611686018427387904<=j/\j < 4611686018427387904
   .rw[if_pos hj] at q
    rw[zah.mp r1];exact⟨j,rfl,hj.1,hj.2,q _ H1 H01 g1 zn9⟩
   .rw[if_neg hj] at q;exact q.elim
  | _=>exact q.elim
end
noncomputable def znT (src:Ev->Res (List D)) (tg:Ev->D->Res Ev) (s:Ev->Res Fl):Ev->Res Fl:=fun ρ=>(src ρ).bind fun ds=>zd2 tg s ds ρ
section
variable {X:Cx}{E:XK}{He H0e:Hp}{st:Stmt}{s:Ev->Res Fl}{pos:Pos}
theorem zgn.step2 {K:W.Frag}{Hb Ha:Hp}{tg:Ev->D->Res Ev}{ds:List D}{D':zi0}{i:Nat}{σ:L2.St}{H:Hp}{d:D}{v:V}{ρ:Ev}(z:zaA Hb Ha)(h:SRx K He H0e Ha σ H ρ)(q:zbM K E He H0e Ha (zd2 tg s (ds.drop i) ρ) D')(hd:ds[i]?=some d)(rv:Rep K Ha d v)
  (he:∀ ρ,tg ρ d=.stuck∨∃ ρ',tg ρ d=.ok ρ') :
  tG K He H0e tg v σ H fun σ2 H2=>tS K E He H0e s { D' with nx:=zgn K E He H0e Hb tg s ds D' (i+1),ct:=zgn K E He H0e Hb tg s ds D' (i+1),bk:=D'.nx } σ2 H2:=by
 have hi:i < ds.length:=(List.getElem?_eq_some_iff.mp hd).1;have hdr:ds.drop i=d::ds.drop (i+1):=by
  rw[List.drop_eq_getElem_cons hi];rw[List.getElem?_eq_getElem hi] at hd;cases hd;rfl
 rw[hdr] at q;refine⟨Ha,ρ,d,h,rv,?_⟩;unfold zd2 at q;rcases he ρ with e1 | ⟨ρ1,e1⟩
 .rw[e1] at q;exact q.elim
 .rw[e1] at q ⊢
  intro σ' H' Ha' z' h';refine⟨Ha',ρ1,h',?_⟩;replace q:=zbM.grow (r:=(s ρ1).bind fun x=>match x with
   | .nx ρ2=>zd2 tg s (ds.drop (i+1)) ρ2
   | .ct ρ2=>zd2 tg s (ds.drop (i+1)) ρ2
   | .bk ρ2=>.ok (.nx ρ2)
   | .rt d=>.ok (.rt d)) q z'
  cases e2:s ρ1 with
  | stuck=>rw[e2] at q;exact q
  | exn x=>rw[e2] at q;exact q
  | ok r =>
   rw[e2] at q;cases r with
   | nx ρ2=>exact fun σ3 H3 H03 z3 h3=>⟨H03,ρ2,(z.trans z').trans z3,h3,zbM.grow (r:=zd2 tg s (ds.drop (i+1)) ρ2) q z3⟩
   | ct ρ2=>exact fun σ3 H3 H03 z3 h3=>⟨H03,ρ2,(z.trans z').trans z3,h3,zbM.grow (r:=zd2 tg s (ds.drop (i+1)) ρ2) q z3⟩
   | bk ρ2=>exact q
   | rt d=>exact q
theorem zqa {tgt iter:Expr}{body:List Stmt}{tg:Ev->D->Res Ev}{src:Ev->Res (List D)}(hp:PassesOwn (model X.prog X.w) X.A X.env X.xe)(hc:X.calm=true)(hi:DI X E tgt iter src)(hg:DG X E He H0e tgt tg)(ht:zsr tg)(hb:DSs X E He H0e body s)
  (hs:∀ x,foldedSetIterable iter X.env x=pure x:=by intro _;rfl):DS X E He H0e (.For tgt iter body [] pos) (znT src tg s):=by
 refine⟨za3 (zqA hp hc hi.o hg.o hb.o hs) fun D' σ H ⟨Ha,ρ,h,q⟩=>⟨Ha,ρ,h.g.sub,h.rd,?_⟩⟩;unfold znT at q;cases e1:src ρ with
 | stuck=>rw[e1] at q;exact q
 | exn x=>rw[e1] at q;exact fun C ox H' Ha' g r=>q C ox H' Ha' (h.g.trans g) r
 | ok ds =>
  rw[e1] at q;intro J H1 H01 g it;have q1:zbM X.K E He H0e H01 (zd2 tg s ds ρ) D':=zbM.grow (r:=zd2 tg s ds ρ) q g.z;refine⟨fun i m σ' H'=>m+i=ds.length/\zgn X.K E He H0e H01 tg s ds D' i σ' H',⟨ds.length,rfl,H01,ρ,zaA.refl _,h.grow g,q1⟩,?_⟩;rintro i m σ' H' ⟨hm,Ha',ρ',z,h',hq⟩
  by_cases hlt:i < ds.length
  .refine .inr ⟨it.go i H' Ha' z h'.g.sub hlt,fun σ2 H2=>zgn X.K E He H0e H01 tg s ds D' (i+1) σ2 H2,fun σ2 H2 hl=>⟨m-1,by omega,by omega,hl⟩,fun x H2 hy=>?_⟩
   obtain⟨H₀2,g2,rp⟩:=it.yld i H' Ha' x H2 ds[i] z h'.g.sub (List.getElem?_eq_getElem hlt) hy;exact zgn.step2 (z.trans g2.z) (h'.grow g2) (zbM.grow (r:=zd2 tg s (ds.drop i) ρ') hq g2.z) (List.getElem?_eq_getElem hlt) rp fun ρ=>ht ρ _
  .have e:i=ds.length:=by omega
   refine .inl ⟨it.stop i H' Ha' z h'.g.sub (by omega),?_⟩;subst e;exact zgn.done ⟨Ha',ρ',z,h',hq⟩
end
def zjn (f:Ev->Res D):Prop:=∀ ρ d,f ρ=.ok d->∃ ds,d=.lst ds
theorem zqq {K:W.Frag}{E:XK}{f:Ev->Res D}(hf:zjn f){σ:L2.St}{H:Hp}{Q:VK}(h:tD K E f σ H Q):tF K E f σ H Q:=by
 obtain⟨Ha,ρ,hs,hr,q⟩:=h;refine⟨Ha,ρ,hs,hr,?_⟩;cases e1:f ρ with
 | stuck=>rw[e1] at q;exact q
 | exn x=>rw[e1] at q;exact q
 | ok d =>
  obtain⟨ds,rfl⟩:=hf ρ d e1;rw[e1] at q;intro p vs H' Ha' g hp h0 hv rp;have n0:Ha p=none:=hs.free hp;refine q (.ref p) H' (upd Ha' p (.lst vs)) ⟨g.s,fun b o e=>?_,fun b o e=>?_,fun b k1 k2=>?_⟩ (zan.mpr ⟨p,vs,rfl,SqL.of zar,rp.mono fun b o e=>?_⟩)
  .rw[zal (by intro z;subst z;rw[n0] at e;cases e)];exact g.z _ _ e
  .by_cases hb:b=p
   .subst hb;rw[zar] at e;cases e;exact hv
   .rw[zal hb] at e;exact g.sub _ _ e
  .by_cases hb:b=p
   .subst hb;exact hp
   .rw[zal hb] at k1;exact g.nw b k1 k2
  .rw[zal (by intro z;subst z;rw[h0] at e;cases e)];exact e
theorem zwN {X:Cx}{E:XK}{e:Expr}{f:Ev->Res D}(hf:zjn f)(h:DF X E e f):DE X E e f:=⟨zaK h.o fun σ H Q q=>zqq hf q⟩
noncomputable def zdy (n:Nat) (fr:List Nat) (ρ:Ev):Ev:=List.replicate n .no++fr.map fun(i:Nat)=>match ρ[i]? with
 | some (.sh d)=>.sh d
 | _=>.no
noncomputable def zbt (b:Ev) (tg:Ev->D->Res Ev) (tt fe:Ev->Res D):List D->Res (List D)
 | []=>.ok []
 | d::r=>(tg b d).bind fun ρ1=>(tt ρ1).bind fun t=>match t with
  | .bl true=>(fe ρ1).bind fun x=>(zbt b tg tt fe r).bind fun xs=>.ok (x::xs)
  | .bl false=>zbt b tg tt fe r
  | _=>.stuck
noncomputable def zeN (n:Nat) (fr:List Nat) (src:Ev->Res (List D)) (tg:Ev->D->Res Ev) (tt fe:Ev->Res D):Ev->Res D:=fun ρ=>(src ρ).bind fun ds =>
 if ds.length<=line then match zbt (zdy n fr ρ) tg tt fe ds with
  | .ok es=>.ok (.lst es)
  | _=>.stuck
 else .stuck
theorem zo9 {n:Nat}{fr:List Nat}{src:Ev->Res (List D)}{tg:Ev->D->Res Ev}{tt fe:Ev->Res D}:zjn (zeN n fr src tg tt fe):=fun ρ d h=>by
 unfold zeN at h;cases e1:src ρ with
 | stuck=>rw[e1] at h;cases h
 | exn x=>rw[e1] at h;cases h
 | ok ds =>
  rw[e1] at h;replace h:(if ds.length<=line then match zbt (zdy n fr ρ) tg tt fe ds with
   | .ok es=>Res.ok (D.lst es)
   | _=>.stuck else .stuck)=.ok d:=h
  split at h
  .split at h
   .cases h;exact⟨_,rfl⟩
   .cases h
  .cases h
theorem zgj {b:Ev}{tg:Ev->D->Res Ev}{tt fe:Ev->Res D}{d:D}{r es:List D}(h:zbt b tg tt fe (d::r)=.ok es) :
  ∃ ρ1 t,tg b d=.ok ρ1/\tt ρ1=.ok (.bl t)/\((t=true/\∃ x xs,fe ρ1=.ok x/\zbt b tg tt fe r=.ok xs/\es=x::xs)∨(t=false/\zbt b tg tt fe r=.ok es)):=by
 unfold zbt at h;cases e1:tg b d with
 | stuck=>rw[e1] at h;cases h
 | exn z=>rw[e1] at h;cases h
 | ok ρ1 =>
  rw[e1] at h;replace h:((tt ρ1).bind fun t=>match t with
   | .bl true=>(fe ρ1).bind fun x=>(zbt b tg tt fe r).bind fun xs=>Res.ok (x::xs)
   | .bl false=>zbt b tg tt fe r
   | _=>.stuck)=.ok es:=h
  cases e2:tt ρ1 with
  | stuck=>rw[e2] at h;cases h
  | exn z=>rw[e2] at h;cases h
  | ok t =>
   rw[e2] at h;cases t with
   | bl t =>
    cases t with
    | true =>
     replace h:((fe ρ1).bind fun x=>(zbt b tg tt fe r).bind fun xs=>Res.ok (x::xs))=.ok es:=h;cases e3:fe ρ1 with
     | stuck=>rw[e3] at h;cases h
     | exn z=>rw[e3] at h;cases h
     | ok x =>
      rw[e3] at h;replace h:((zbt b tg tt fe r).bind fun xs=>Res.ok (x::xs))=.ok es:=h;cases e4:zbt b tg tt fe r with
      | stuck=>rw[e4] at h;cases h
      | exn z=>rw[e4] at h;cases h
      | ok xs=>rw[e4] at h;cases h;exact⟨ρ1,true,rfl,e2,.inl ⟨rfl,x,xs,e3,rfl,rfl⟩⟩
    | false=>exact⟨ρ1,false,rfl,e2,.inr ⟨rfl,h⟩⟩
   | _=>cases h
theorem zf4 {b:Ev}{tg:Ev->D->Res Ev}{tt fe:Ev->Res D}{d x:D}{r:List D}{ρ1:Ev}(h1:tg b d=.ok ρ1)(h2:tt ρ1=.ok (.bl true))(h3:fe ρ1=.ok x):zbt b tg tt fe (d::r)=(zbt b tg tt fe r).bind fun xs=>.ok (x::xs):=by
 rw[zbt,h1];simp only[Res.bind,h2,h3]
theorem znr {b:Ev}{tg:Ev->D->Res Ev}{tt fe:Ev->Res D}{d:D}{r:List D}{ρ1:Ev}(h1:tg b d=.ok ρ1)(h2:tt ρ1=.ok (.bl false)):zbt b tg tt fe (d::r)=zbt b tg tt fe r:=by
 rw[zbt,h1];simp only[Res.bind,h2]
theorem zk7 {b:Ev}{tg:Ev->D->Res Ev}{tt fe:Ev->Res D}:∀ {r q es:List D},zbt b tg tt fe (r++q)=.ok es->∃ e1 e2,zbt b tg tt fe r=.ok e1/\zbt b tg tt fe q=.ok e2/\es=e1++e2
 | [],q,es,h=>⟨[],es,rfl,h,rfl⟩
 | d::r,q,es,h=>by
  obtain⟨ρ1,t,h1,h2,h3⟩:=zgj h;rcases h3 with⟨rfl,x,xs,h3,h4,rfl⟩ | ⟨rfl,h4⟩
  .obtain⟨e1,e2,k1,k2,rfl⟩:=zk7 h4
   refine⟨x::e1,e2,?_,k2,rfl⟩;rw[zf4 h1 h2 h3,k1];rfl
  .obtain⟨e1,e2,k1,k2,rfl⟩:=zk7 h4
   refine⟨e1,e2,?_,k2,rfl⟩;rw[znr h1 h2];exact k1
theorem zgi {b:Ev}{tg:Ev->D->Res Ev}{tt fe:Ev->Res D}:∀ {r q e1 e2:List D},zbt b tg tt fe r=.ok e1->zbt b tg tt fe q=.ok e2->zbt b tg tt fe (r++q)=.ok (e1++e2)
 | [],q,e1,e2,h,h'=>by cases h;exact h'
 | d::r,q,e1,e2,h,h'=>by
  obtain⟨ρ1,t,h1,h2,h3⟩:=zgj h;show zbt b tg tt fe (d::(r++q))=_;rcases h3 with⟨rfl,x,xs,h3,h4,rfl⟩ | ⟨rfl,h4⟩
  .rw[zf4 h1 h2 h3,zgi h4 h'];rfl
  .rw[znr h1 h2];exact zgi h4 h'
theorem zns {b:Ev}{tg:Ev->D->Res Ev}{tt fe:Ev->Res D}:∀ {r es:List D},zbt b tg tt fe r=.ok es->es.length<=r.length
 | [],es,h=>by cases h;exact Nat.le_refl _
 | d::r,es,h=>by
  obtain⟨ρ1,t,h1,h2,h3⟩:=zgj h;rcases h3 with⟨rfl,x,xs,h3,h4,rfl⟩ | ⟨rfl,h4⟩
  .exact Nat.succ_le_succ (zns h4)
  .exact Nat.le_succ_of_le (zns h4)
noncomputable def zzI (n:Nat) (tg:Ev->D->Res Ev):Prop:=∀ ρ d ρ',tg ρ d=.ok ρ'->ρ'.length=ρ.length/\∀ (k:Nat),n<=k->ρ'[k]?=ρ[k]?
theorem zef {i n:Nat}(h:i < n):zzI n (zdN i):=fun ρ d ρ' e=>by
 cases e;exact⟨by simp,fun k hk=>by rw[List.getElem?_set_ne (by omega)]⟩
theorem zsm {K:W.Frag}{Ha:Hp}{σ:L2.St}{ρ:Ev}{n:Nat}{fr:List Nat}(h:Reads K Ha σ ρ):Reads K Ha (zi8 n fr σ) (zdy n fr ρ):=fun i d e=>by
 unfold zdy at e;unfold zi8
 by_cases hi:i < n
 .rw[List.getElem?_append_left (by simpa using hi),List.getElem?_replicate,if_pos hi] at e
  cases e
 .rw[List.getElem?_append_right (by simpa using hi),List.length_replicate,List.getElem?_map] at e ⊢
  cases hf:fr[i-n]? with
  | none=>rw[hf] at e;cases e
  | some j =>
   rw[hf] at e;simp only[Option.map_some,Option.some.injEq] at e ⊢;cases hj:ρ[j]? with
   | none=>rw[hj] at e;cases e
   | some s =>
    rw[hj] at e;cases s with
    | sh d' =>
     cases e;obtain⟨v,h1,h2⟩:=h j d hj;exact⟨v,by rw[h1];rfl,h2⟩
    | _=>cases e
theorem zzD {n:Nat}{fr:List Nat}{ρ:Ev}{k:Nat}(h:k < n):(zdy n fr ρ)[k]?=some .no:=by
 unfold zdy;rw[List.getElem?_append_left (by simpa using h),List.getElem?_replicate,if_pos h]
theorem zwX {n:Nat}{fr:List Nat}{ρ:Ev}(i j:Nat)(es:List D):(zdy n fr ρ)[i]?≠some (.ox j es):=fun e=>by
 unfold zdy at e
 by_cases hj:i < n
 .rw[List.getElem?_append_left (by simpa using hj),List.getElem?_replicate,if_pos hj] at e;cases e
 .rw[List.getElem?_append_right (by simpa using hj),List.getElem?_map] at e
  cases hf:fr[i-(List.replicate n Sl.no).length]? with
  | none=>rw[hf] at e;cases e
  | some z =>
   rw[hf] at e;simp only[Option.map_some,Option.some.injEq] at e;split at e<;>cases e
theorem zvo {n:Nat}{fr:List Nat}{ρ:Ev}{σ:L2.St}(i:Nat)(a:Addr)(e:(zdy n fr ρ)[i]?=some (.pt a)):σ[i]?=some (some (.ref a)):=by
 unfold zdy at e
 by_cases hj:i < n
 .rw[List.getElem?_append_left (by simpa using hj),List.getElem?_replicate,if_pos hj] at e;cases e
 .rw[List.getElem?_append_right (by simpa using hj),List.getElem?_map] at e
  cases hf:fr[i-(List.replicate n Sl.no).length]? with
  | none=>rw[hf] at e;cases e
  | some z =>
   rw[hf] at e;simp only[Option.map_some,Option.some.injEq] at e;split at e<;>cases e
theorem zru {n:Nat}{fr:List Nat}{ρ:Ev}:(zdy n fr ρ).length=n+fr.length:=by unfold zdy;simp
theorem zsj {K:W.Frag}{E:XK}{n:Nat}{fr:List Nat}{tg:Ev->D->Res Ev}{tt fe:Ev->Res D}{σ:L2.St}{ρ:Ev}{H Ha H1 H01:Hp}{ds es:List D}{J:It}{Q:VK}(hsame:zaA Ha H)(g1:zbj H Ha H1 H01)(it:ItD K ds J H01)(hl:ds.length<=line)
  (e2:zbt (zdy n fr ρ) tg tt fe ds=.ok es)(hr:Reads K H01 σ ρ)(hok:zzI n tg)
  (q:∀ p vs H' Ha',zbj H Ha H' Ha'->H p=none->Ha' p=none->H' p=some (.lst vs)->Reps K Ha' es vs->Q (.ref p) H') :
  znK n fr (zC6 K tg) (tDT K E tt) (tD K E fe) J σ H1 Q:=by
 intro Da hDa;have h0D:H01 Da=none:=g1.sub.free hDa;refine⟨fun i m ys σ' H'=>m=ds.length-i/\i<=ds.length/\σ'.length=n+fr.length/\∃ Ha',zbj H1 H01 H' Ha'/\Ha' Da=none/\H' Da=some (.lst ys)/\Reads K Ha' σ' (zdy n fr ρ)/\∃ es1,zbt (zdy n fr ρ) tg tt fe (ds.take i)=.ok es1/\Reps K Ha' es1 ys,
  ⟨ds.length,by simp,Nat.zero_le _,by unfold zi8;simp,H01,?_,h0D,zar,zsm hr,[],rfl,Reps.nil⟩,?_⟩
 .refine⟨fun b o e=>by rw[zal (zaQ e hDa)];exact e,zaA.refl _,fun b o e=>?_,fun b k1 k2=>absurd k2 k1⟩
  rw[zal (by intro z;subst z;rw[h0D] at e;cases e)];exact g1.sub _ _ e
 .rintro i m ys σ' H' ⟨rfl,hile,hsl,Ha',gg,hD0,hDl,hrd,es1,hes1,hys⟩
  refine⟨hDl,?_⟩
  by_cases hlt:i < ds.length
  .refine .inr ⟨it.go i H' Ha' gg.z gg.sub hlt,?_,?_⟩
   .rw[← hys.length]
    have:=zns hes1;rw[List.length_take] at this;have h2:line < sizeLine:=by decide
    omega
   .intro x H2 hy
    obtain⟨H₀2,g2,rp⟩:=it.yld i H' Ha' x H2 ds[i] gg.z gg.sub (List.getElem?_eq_getElem hlt) hy;have hsplit:ds=ds.take i++(ds[i]::ds.drop (i+1)):=by rw[← List.drop_eq_getElem_cons hlt,List.take_append_drop]
    rw[hsplit] at e2;obtain⟨a1,a2,k1,k2,k3⟩:=zk7 e2;rw[hes1] at k1;cases k1;obtain⟨ρ1,t,t1,t2,t3⟩:=zgj k2;have hn2:H₀2 Da=none:=by
     cases qq:H₀2 Da with
     | none=>rfl
     | some o=>have:=g2.nw Da (by rw[qq];simp) hD0;rw[hDl] at this;cases this
    have hD2:H2 Da=some (.lst ys):=g2.s _ _ hDl;refine⟨H2,H₀2,H₀2,zdy n fr ρ,ds[i],⟨zbj.refl g2.sub,hrd.mono g2.z,fun j d' e=>?_,fun j k d1 d2 _ e=>?_,by rw[zru,hsl],OX.none zwX zvo⟩,rp,?_⟩
    .unfold zdy at e
     by_cases hj:j < n
     .rw[List.getElem?_append_left (by simpa using hj),List.getElem?_replicate,if_pos hj] at e;cases e
     .rw[List.getElem?_append_right (by simpa using hj),List.getElem?_map] at e
      cases hf:fr[j-(List.replicate n Sl.no).length]? with
      | none=>rw[hf] at e;cases e
      | some z =>
       rw[hf] at e;simp only[Option.map_some,Option.some.injEq] at e;split at e<;>cases e
    .unfold zdy at e
     by_cases hj:j < n
     .rw[List.getElem?_append_left (by simpa using hj),List.getElem?_replicate,if_pos hj] at e;cases e
     .rw[List.getElem?_append_right (by simpa using hj),List.getElem?_map] at e
      cases hf:fr[j-(List.replicate n Sl.no).length]? with
      | none=>rw[hf] at e;cases e
      | some z =>
       rw[hf] at e;simp only[Option.map_some,Option.some.injEq] at e;split at e<;>cases e
    .rw[t1]
     intro σ3 H3 H03 z3 s3;have hrl:=hok _ _ _ t1;have hσ3:σ3.length=n+fr.length:=by rw[← s3.ln,hrl.1,zru]
     have back:∀ {Hx:Hp},zaA H03 Hx->Reads K Hx σ3 (zdy n fr ρ):=fun {Hx} sx k d e=>by
      by_cases hk:k < n
      .rw[zzD hk] at e;cases e
      .rw[← hrl.2 k (by omega)] at e
       obtain⟨v,h1,h2⟩:=s3.rd k d e;exact⟨v,h1,h2.mono sx⟩
     have n3:H03 Da=none:=by
      cases qq:H03 Da with
      | none=>rfl
      | some o=>have:=s3.g.nw Da (by rw[qq];simp) hn2;rw[hD2] at this;cases this
     have hD3:H3 Da=some (.lst ys):=s3.g.s _ _ hD2;refine⟨H03,ρ1,s3.g.sub,s3.rd,?_⟩;rw[t2];intro H4 H04 g4;have hD4:H4 Da=some (.lst ys):=g4.s _ _ hD3;have n4:H04 Da=none:=by
      cases qq:H04 Da with
      | none=>rfl
      | some o=>have:=g4.nw Da (by rw[qq];simp) n3;rw[hD3] at this;cases this
     have htake:ds.take (i+1)=ds.take i++[ds[i]]:=by rw[List.take_add_one,List.getElem?_eq_getElem hlt];rfl
     have g04:=(gg.trans g2).trans (s3.g.trans g4);rcases t3 with⟨rfl,y,xs,t3,t4,_⟩ | ⟨rfl,t4⟩
     .rw[if_pos rfl]
      refine⟨H04,ρ1,g4.sub,s3.rd.mono g4.z,?_⟩;rw[t3];intro yv H5 H05 g5 ry;have hD5:H5 Da=some (.lst ys):=g5.s _ _ hD4;have n5:H05 Da=none:=by
       cases qq:H05 Da with
       | none=>rfl
       | some o=>have:=g5.nw Da (by rw[qq];simp) n4;rw[hD4] at this;cases this
      have gall:=g04.trans g5;refine⟨hD5,ds.length-(i+1),by omega,rfl,hlt,hσ3,H05,⟨fun b o e=>?_,gall.z,fun b o e=>?_,gall.nw⟩,n5,zar,back (g4.z.trans g5.z),es1++[y],?_,?_⟩
      .rw[zal (zaQ e hDa)];exact gall.s _ _ e
      .rw[zal (by intro z;subst z;rw[n5] at e;cases e)];exact gall.sub _ _ e
      .rw[htake]
       refine zgi hes1 ?_;rw[zf4 t1 t2 t3];rfl
      .exact(hys.mono ((g2.z.trans s3.g.z).trans (g4.z.trans g5.z))).app (Reps.cons ry Reps.nil)
     .rw[if_neg Bool.false_ne_true]
      refine⟨ds.length-(i+1),by omega,rfl,hlt,hσ3,H04,g04,n4,hD4,back g4.z,es1,?_,hys.mono ((g2.z.trans s3.g.z).trans g4.z)⟩;rw[htake];rw[show es1=es1++[] by simp];refine zgi hes1 ?_;rw[znr t1 t2];rfl
  .have hi2:i=ds.length:=by omega
   refine .inl ⟨it.stop i H' Ha' gg.z gg.sub (by omega),?_⟩;rw[hi2,List.take_length] at hes1;rw[e2] at hes1;cases hes1;exact q Da ys H' Ha' (g1.trans gg) (g1.s.free hDa) hD0 hDl hys
structure DIf (X:Cx) (E:XK) (ifs:List Expr) (f:Ev->Res D):Prop where
 o:PIf X ifs (tDT X.K E f)
def mYes:Ev->Res D:=fun _=>.ok (.bl true)
theorem zkU {X:Cx}{E:XK}:DIf X E [] mYes:=⟨fun pins s σ H Q I ⟨Ha,ρ,hs,hr,q⟩=>ztc pins s σ H Q I (q H Ha (zbj.refl hs))⟩
theorem zu1 {X:Cx}{E:XK}{c:Expr}{f:Ev->Res D}(h:DT X E c f):DIf X E [c] f:=⟨zyx h.o⟩
structure DCo (X:Cx) (E:XK) (e:Expr) (f:Ev->Res D):Prop where
 ev:PE X e (tF X.K E f)
 st:∀ {i:Nat}{x:Str}{pos' spos:Pos},X.N.Nodup->X.N[i]?=some x->X.env.scope.names.lookup x=some .local -> swapsWith e (some (.Name x pos')) spos.line X.env=pure true->PS X (.Assign [.Name x pos'] e spos) (zB7 (tF X.K E f) (zwy i))
theorem dco {X:Cx}{E:XK}{tgt iter elt:Expr}{ifs:List Expr}{scope:Scope}{pos:Pos}(N:List Str)(n:Nat)(fr:List Nat){src:Ev->Res (List D)}{tg:Ev->D->Res Ev}{tt fe:Ev->Res D}(hc:X.calm=true)(hi:DI X E tgt iter src)(hok:zzI n tg)
  (blk:∀ s H C fp pn,(∀ He H0e,DG (zdf X N scope s H C fp pn) E He H0e tgt tg)/\DIf (zdf X N scope s H C fp pn) E ifs tt/\DE (zdf X N scope s H C fp pn) E elt fe)
  (hfr:zzL X N n fr scope)(hcell:∀ x∈scope.names,x.2≠.cell)(hfree:∀ x∈scope.names,x.2=.free->X.env.scope.names.lookup x.1=some .cell)(hkind:scope.kind=.function)(hnames:∀ x∈scope.names,x.2=.local -> scope.names.lookup x.1=some .local)
  (hs:∀ x,foldedSetIterable iter X.env x=pure x:=by intro _;rfl):DCo X E (.ListComp elt [⟨tgt,iter,ifs,0⟩] scope pos) (zeN n fr src tg tt fe):=by
 have blk':∀ s H C fp pn,PG (zdf X N scope s H C fp pn) tgt (zC6 X.K tg)/\PIf (zdf X N scope s H C fp pn) ifs (tDT X.K E tt)/\PE (zdf X N scope s H C fp pn) elt (tD X.K E fe):=fun s H C fp pn =>
  ⟨fun pins s' σ' H' v u Q' I r ⟨He,H0e,q'⟩=>((blk s H C fp pn).1 He H0e).o pins s' σ' H' v u Q' I r q',(blk s H C fp pn).2.1.o,(blk s H C fp pn).2.2.o⟩
 have first:∀ {pins:List (Addr×Obj)}{s:Shared}{σ:L2.St}{H:Hp}{Q:VK}{RR:Value->Addr->Result->Shared->Prop},L2.Inv X pins σ H s->tF X.K E (zeN n fr src tg tt fe) σ H Q ->
   (∀ (Da C:Addr) (s6:Shared) (H5:Hp) (m:Str->Option Value),L2.Inv X pins σ H5 s6->s6.heap.Ns C m->zrB X pins H5 C->Q (.ref Da) H5->RR (.ref Da) C (.ok .next) s6) ->
   wpAny (model X.prog X.w) X.A (eval iter X.env) (fun x sg=>wpAny (model X.prog X.w) X.A (pyIter x) (fun it sj=>wpAny (model X.prog X.w) X.A (newList []) (fun acc sk =>
    wpAny (model X.prog X.w) X.A (newFunctionEnv scope X.env.globals (zk8 X.env.cells scope.names []) [] X.env.qual none .none (some X.env)) (fun cenv si =>
     codeAny (model X.prog X.w) X.A (.compStart (.ListComp elt [⟨tgt,iter,ifs,0⟩] scope pos) 0 it acc { cenv with scope:=relabel scope X.env }) (RR acc cenv.locals) si) X.xe sk) X.xe sj) X.xe sg) X.xe s:=by
  intro pins s σ H Q RR I ⟨Ha,ρ,hsame,hr,q⟩ fin;refine thn (hi.o pins s σ H (fun J H1=>znK n fr (zC6 X.K tg) (tDT X.K E tt) (tD X.K E fe) J σ H1 Q) I ⟨Ha,ρ,hsame,hr,?_⟩) fun v s1 h1=>thn h1 fun itv s2 h2=>zpa (N:=N) hc hfr hcell hfree hkind blk' h2 fin;unfold zeN at q;cases e1:src ρ with
  | stuck=>rw[e1] at q;exact q
  | exn x=>rw[e1] at q;exact q
  | ok ds =>
   rw[e1] at q;intro J H1 H01 g1 it;replace q:match (if ds.length<=line then match zbt (zdy n fr ρ) tg tt fe ds with
     | .ok es=>Res.ok (D.lst es)
     | _=>.stuck else .stuck) with
    | .ok (.lst ds)=>∀ p vs H' Ha',zbj H Ha H' Ha'->H p=none->Ha' p=none->H' p=some (.lst vs)->Reps X.K Ha' ds vs->Q (.ref p) H'
    | .ok _=>False
    | .exn x=>∀ C ox H' Ha',zbj H Ha H' Ha'->ExR X.K Ha' x C ox->E C ox H'
    | .stuck=>False:=q
   by_cases hl:ds.length<=line
   .rw[if_pos hl] at q
    cases e2:zbt (zdy n fr ρ) tg tt fe ds with
    | stuck=>rw[e2] at q;exact q.elim
    | exn x=>rw[e2] at q;exact q.elim
    | ok es =>
     rw[e2] at q;exact zsj hsame g1 it hl e2 (hr.mono g1.z) hok q
   .rw[if_neg hl] at q;exact q.elim
 have hcl:∀ {pins:List (Addr×Obj)}{s:Shared}{σ:L2.St}{H:Hp},L2.Inv X pins σ H s->closureFor scope X.env=pure (zk8 X.env.cells scope.names []):=fun {pins s σ H} I=>zhD fun y hy hf=>I.ok.has y.1 (.inl (hfree y hy hf));refine⟨fun pins s σ H Q I h=>?_,fun {i x pos' spos} hN hi' hx hsw pins s σ H D' I h=>?_⟩
 .rw[eval_ListComp]
  refine wpAny_comprehension_free (use:=none) rfl hs (hcl I) hkind hnames (first (RR:=fun acc C=>compPost (model X.prog X.w) X.A X.xe none (EP X pins σ Q) acc C) I h fun Da C s6 H5 m I6 ns fC q=>?_);refine⟨m,ns,fun h' sb=>⟨.ref Da,H5,?_,rfl,q⟩⟩;exact I6.turned (t':=s6.toks) (it:=C) (fun b o hb e=>(sb.2 b hb).trans e) fC.1 fC.2.1 fC.2.2.2.1 fC.2.2.2.2.1 fC.2.2.2.2.2
 .rw[exec_Assign_Name_used _ _ _ _ hsw]
  refine wpAny_bind (wpAny_standAt (wpAny_bind ?_));show wpAny _ X.A (do let _ ← comprehension (.ListComp elt [⟨tgt,iter,ifs,0⟩] scope pos) scope X.env _ (newList []) false (eval iter X.env) (some (assign (.Name x pos') X.env))) _ _ s;refine wpAny_bind (wpAny_mono (wpAny_comprehension_free (use:=some (assign (.Name x pos') X.env)) (Q:=fun _ s'=>SP X pins D' .next s') rfl hs (hcl I) hkind hnames
   (first (RR:=fun acc C=>compPost (model X.prog X.w) X.A X.xe (some (assign (.Name x pos') X.env)) (fun _ s'=>SP X pins D' .next s') acc C) I h fun Da C s6 H5 m I6 ns fC q=>?_)) (fun _ s' hq=>wpAny_pure (wpAny_pure hq)) fun _ _ e=>e)
  show wpAny _ X.A (assign (.Name x pos') X.env (.ref Da)) _ _ _;refine wpAny_assign_Name (zjq (v:=.ref Da) I6 hN hi' (.inl hx) rfl (fun s' I' ⟨a,sb,ha⟩=>?_) (.inr hx));have hCa:C≠a:=by
   rcases ha with rfl | ha
   .exact fC.2.1
   .exact fun z=>fC.2.2.2.2.1 x a ha z.symm
  refine⟨m,ns.sameBut sb hCa,fun h' sb'=>⟨_,H5,?_,q⟩⟩;exact I'.turned (t':=s'.toks) (it:=C) (fun b o hb e=>(sb'.2 b hb).trans e) fC.1 fC.2.1 fC.2.2.2.1 fC.2.2.2.2.1 fC.2.2.2.2.2
theorem zDd {X:Cx}{E:XK}{e:Expr}{f:Ev->Res D}(h:DCo X E e f):DF X E e f:=⟨h.ev⟩
theorem zsg {X:Cx}{E:XK}{e:Expr}{n:Nat}{fr:List Nat}{src:Ev->Res (List D)}{tg:Ev->D->Res Ev}{tt fe:Ev->Res D}(h:DCo X E e (zeN n fr src tg tt fe)):DE X E e (zeN n fr src tg tt fe):=zwN zo9 (zDd h)
section
variable {X:Cx}{E:XK}{He H0e:Hp}{e:Expr}{f:Ev->Res D}{s:Ev->Res Fl}{pos:Pos}{st:Stmt}
def unown (i:Nat)(ρ:Ev):Ev:=match ρ[i]? with
 | some (.ow d)=>ρ.set i (.sh d)
 | _=>ρ
def zAs (i:Nat)(s:Ev->Res Fl):Ev->Res Fl:=fun ρ=>s (unown i ρ)
theorem SRx.unown {K:W.Frag}{Ha H:Hp}{σ:L2.St}{ρ:Ev}(h:SRx K He H0e Ha σ H ρ)(i:Nat):∃ Ha',zaA Ha Ha'/\SRx K He H0e Ha' σ H (DL.unown i ρ):=by
 unfold DL.unown;cases e:ρ[i]? with
 | none=>exact⟨Ha,zaA.refl _,h⟩
 | some s =>
  cases s with
  | no=>exact⟨Ha,zaA.refl _,h⟩
  | sh d=>exact⟨Ha,zaA.refl _,h⟩
  | ox j ds=>exact⟨Ha,zaA.refl _,h⟩
  | pt a=>exact⟨Ha,zaA.refl _,h⟩
  | ow d =>
   obtain⟨a,k1,k2,k3,k4⟩:=h.ow i d e;obtain⟨o,h5,hrep⟩:∃ o,H a=some o/\∀ Hb,zaA Ha Hb->Hb a=some o->Rep K Hb d (.ref a):=by
    cases d with
    | lst ds=>obtain⟨vs,h5,h6⟩:=k4;exact⟨_,h5,fun Hb z e=>zan.mpr ⟨a,vs,rfl,SqL.of e,h6.mono z⟩⟩
    | dic ks ds=>obtain⟨vs,h5,hl,h6⟩:=k4;exact⟨_,h5,fun Hb z e=>by rw[Rep];exact⟨a,_,vs,rfl,.inl e,rfl,hl,h6.mono z⟩⟩
    | _=>exact k4.elim
   have z:zaA Ha (upd Ha a o):=fun b o' q=>by rw[zal (by intro z;subst z;rw[k3] at q;cases q)];exact q
   have h':SRx K He H0e (upd Ha a o) σ H (ρ.set i .no):=by
    have nset:∀ (j:Nat) (s:Sl),(ρ.set i .no)[j]?=some s->s≠.no->j≠i/\ρ[j]?=some s:=fun j s q hs=>by
     by_cases hj:i=j
     .subst hj
      rw[List.getElem?_set_self'] at q;rw[e] at q;cases q;exact absurd rfl hs
     .rw[List.getElem?_set_ne hj] at q;exact⟨fun z=>hj z.symm,q⟩
    refine⟨⟨h.g.s,h.g.z.trans z,fun b o' q=>?_,fun b q1 q2=>?_⟩,fun j d' q=>?_,fun j d' q=>?_,fun j k d1 d2 hn q1 q2=>?_,by simp [h.ln],h.ex.upd (fun j s q=>?_) z (fun b us _ eb=>eb) fun q us _ q0 hq hd=>?_⟩
    rotate_left 5
    .by_cases hs:s=.no
     .exact .inr (.inr (.inl hs))
     .exact .inl ⟨(nset j s q hs).2,rfl⟩
    .have hq':q≠a:=by
      intro zz;subst zz;exact hd i _ e k1
     exact⟨hq,by rw[zal hq'];exact q0⟩
    .by_cases hb:b=a
     .subst hb;rw[zar] at q;cases q;exact h5
     .rw[zal hb] at q;exact h.g.sub _ _ q
    .by_cases hb:b=a
     .subst hb;exact k2
     .rw[zal hb] at q1;exact h.g.nw b q1 q2
    .obtain⟨hj,q⟩:=nset j _ q (fun z=>nomatch z)
     obtain⟨v,q1,q2⟩:=h.rd j d' q;exact⟨v,q1,q2.mono z⟩
    .obtain⟨hj,q⟩:=nset j _ q (fun z=>nomatch z)
     obtain⟨b,q1,q2,q3,q4⟩:=h.ow j d' q;have hb:b≠a:=by
      intro zz;subst zz;exact h.ap j i d' d hj q e (by rw[q1,k1])
     refine⟨b,q1,q2,by rw[zal hb];exact q3,?_⟩;cases d' with
     | lst ds'=>obtain⟨vs',h7,h8⟩:=q4;exact⟨vs',h7,h8.mono z⟩
     | dic ks' ds'=>obtain⟨vs',h7,hl,h8⟩:=q4;exact⟨vs',h7,hl,h8.mono z⟩
     | _=>exact q4.elim
    .obtain⟨_,q1⟩:=nset j _ q1 (fun z=>nomatch z)
     obtain⟨_,q2⟩:=nset k _ q2 (fun z=>nomatch z);exact h.ap j k d1 d2 hn q1 q2
   refine⟨_,z,?_⟩;have hp:=h'.put (i:=i) (d:=d) (v:=.ref a) (hrep _ z zar);rw[List.set_set] at hp;have hσ:σ.set i (some (V.ref a))=σ:=by
    apply List.ext_getElem?;intro k
    by_cases hk:i=k
    .subst hk
     obtain⟨hil,_⟩:=List.getElem?_eq_some_iff.mp k1;rw[List.getElem?_set_self hil,k1]
    .rw[List.getElem?_set_ne hk]
   rw[hσ] at hp;exact hp
theorem zBG (i:Nat)(h:DS X E He H0e st s):DS X E He H0e st (zAs i s):=⟨za3 h.o fun D' σ H ⟨Ha,ρ,hr,q⟩=>by
 obtain⟨Ha',z,hr'⟩:=hr.unown i;exact⟨Ha',DL.unown i ρ,hr',zbM.grow (r:=s (DL.unown i ρ)) q z⟩⟩
end
theorem zzu {X:Cx}{E:XK}{tgt iter elt:Expr}{ifs:List Expr}{scope:Scope}{pos:Pos}(N:List Str)(n:Nat)(fr:List Nat){src:Ev->Res (List D)}{tg:Ev->D->Res Ev}{tt fe:Ev->Res D}(hc:X.calm=true)(hi:DI X E tgt iter src)(hok:zzI n tg)
  (blk:∀ s H C fp pn,(∀ He H0e,DG (zdf X N scope s H C fp pn) E He H0e tgt tg)/\DIf (zdf X N scope s H C fp pn) E ifs tt/\DE (zdf X N scope s H C fp pn) E elt fe)
  (hfr:zzL X N n fr scope)(hcell:(scope.names.all fun x=>!(x.2==.cell))=true)(hfree:(scope.names.all fun x=>!(x.2==.free)||(X.env.scope.names.lookup x.1==some .cell))=true)(hkind:scope.kind=.function)
  (hnames:(scope.names.all fun x=>!(x.2==.local)||(scope.names.lookup x.1==some .local))=true)
  (hs:∀ x,foldedSetIterable iter X.env x=pure x:=by intro _;rfl):DCo X E (.ListComp elt [⟨tgt,iter,ifs,0⟩] scope pos) (zeN n fr src tg tt fe):=by
 refine dco N n fr hc hi hok blk hfr (fun x hx z=>?_) (fun x hx z=>?_) hkind (fun x hx z=>?_) hs
 .have:=List.all_eq_true.mp hcell x hx
  rw[z] at this;simp at this
 .have:=List.all_eq_true.mp hfree x hx
  rw[z] at this;simpa using this
 .have:=List.all_eq_true.mp hnames x hx
  rw[z] at this;simpa using this
theorem zzg {X:Cx}{E:XK}{He H0e:Hp}{e:Expr}{f:Ev->Res D}{pos:Pos}{i:Nat}{x:Str}{pos':Pos}(hN:X.N.Nodup)(hi:X.N[i]?=some x)(hx:X.env.scope.names.lookup x=some .local)(hl:zjn f)(he:DCo X E e f)(hs:swapsWith e (some (.Name x pos')) pos.line X.env=pure true:=by rfl):DS X E He H0e (.Assign [.Name x pos'] e pos) (zb6 i f):=by
 refine⟨za3 (he.st hN hi hx hs) fun D σ H ⟨Ha,ρ,h,q⟩=>?_⟩;refine zqq hl ⟨Ha,ρ,h.g.sub,h.rd,?_⟩;refine plain h q fun d v H' Ha' _ g rp q'=>?_;exact q' _ H' Ha' (zaA.refl _) ((h.grow g).put rp)
end DL
namespace Com
open PySem L2 DL
noncomputable def zdv:Ev->Res Fl :=
 (zaw (zg5 (zie 1) (zaa (zad 1) (dC (.int 0)) dNe)
 (zaw (zvA 0 1 (zae (zad 1) (zae (zaa (zad 0) (zad 1) zfw) zaH)))
 zao))
 (zaw (zde (zam (zae (zad 0) zaH) (m1 zzS)))
 zao))
def zgt:List D->Res D:=zdY 2 zdv
noncomputable def zdP:Ev->Res Fl :=
 (zaw (zb6 2 (zam (zae (zad 0) (zae (zad 1) zaH)) zgt))
 (zaw (zde (zam (zae (zaa (zad 0) (zad 2) zpy) (zae (zaa (zad 1) (zad 2) zpy) zaH)) zjR))
 zao))
def zm2:List D->Res D:=zdY 3 zdP
noncomputable def zsn:Ev->Res Fl :=
 (zaw (zde (zlw (zdG (zad 0) (zdt "int")) (zet (zdG (zad 0) (zdt "bool")))))
 zao)
def zbs:List D->Res D:=zdY 1 zsn
noncomputable def zcD:Ev->Res Fl :=
 (zaw (zb6 2 (zam (zae (zad 0) zaH) (m1 zzS)))
 (zaw (zb6 3 (zam (zae (zad 1) zaH) (m1 zzS)))
 (zaw (zg5 (zie 3) (zaa (zad 3) (dC (.int 0)) dNe)
 (zaw (zb6 4 (zaa (zad 2) (zad 3) zfw))
 (zaw (zb6 2 (zad 3))
 (zaw (zb6 3 (zad 4))
 zao))))
 (zaw (zde (zad 2))
 zao))))
def zaU:List D->Res D:=zdY 5 zcD
noncomputable def ziu:Ev->Res Fl :=
 (zaw (sIf (dOr (zet (zam (zae (zad 0) zaH) zbs)) (zet (zam (zae (zad 1) zaH) zbs)))
 (zaw zdh
 zao)
 zao)
 (zaw (sIf (zaa (zad 1) (dC (.int 0)) dEq)
 (zaw zdh
 zao)
 zao)
 (zaw (zb6 2 (zam (zae (zad 0) (zae (zad 1) zaH)) zaU))
 (zaw (sIf (zaa (zad 1) (dC (.int 0)) dLt)
 (zaw (zb6 2 (zdG (zad 2) zBO))
 zao)
 zao)
 (zaw (zde (zam (zae (zaa (zad 0) (zad 2) zpy) (zae (zaa (zad 1) (zad 2) zpy) zaH)) zjR))
 zao)))))
def zcb:List D->Res D:=zdY 3 ziu
noncomputable def zrv:Ev->Res Fl :=
 (zaw (zde (zam (zae (zaa (zaa (zaa (zad 0) (dC (.int 0)) dIx) (zaa (zad 1) (dC (.int 1)) dIx) zbN) (zaa (zaa (zad 1) (dC (.int 0)) dIx) (zaa (zad 0) (dC (.int 1)) dIx) zbN) zcP) (zae (zaa (zaa (zad 0) (dC (.int 1)) dIx) (zaa (zad 1) (dC (.int 1)) dIx) zbN) zaH)) zcb))
 zao)
def zeg:List D->Res D:=zdY 2 zrv
noncomputable def zpp:Ev->Res Fl :=
 (zaw (zde (zaa (zaa (zaa (zad 0) (dC (.int 0)) dIx) (zaa (zad 1) (dC (.int 1)) dIx) zbN) (zaa (zaa (zad 1) (dC (.int 0)) dIx) (zaa (zad 0) (dC (.int 1)) dIx) zbN) dLt))
 zao)
def zcf:List D->Res D:=zdY 2 zpp
noncomputable def znB:Ev->Res Fl :=
 (zaw (zb6 1 (dC (.tup [(.int 0),(.int 1)])))
 (zaw (zpF (zad 0) (zdN 2)
 (zaw (zb6 1 (zam (zae (zad 1) (zae (zad 2) zaH)) zeg))
 zao))
 (zaw (zde (zad 1))
 zao)))
def m_sum_of:List D->Res D:=zdY 3 znB
theorem bok {α β:Type}{a:α}{f:α->Res β}:(Res.ok a).bind f=f a:=rfl
theorem zgq {s t:Ev->Res Fl}{ρ ρ':Ev}(h:s ρ=.ok (.nx ρ')):zaw s t ρ=t ρ':=by unfold zaw;rw[h];rfl
theorem zqt {s t:Ev->Res Fl}{ρ:Ev}{d:D}(h:s ρ=.ok (.rt d)):zaw s t ρ=.ok (.rt d):=by unfold zaw;rw[h];rfl
theorem zvT {s:Ev->Res Fl}{ρ ρ':Ev}(h:s ρ=.ok (.nx ρ')):zaw s zao ρ=.ok (.nx ρ'):=by unfold zaw;rw[h];rfl
theorem zsT {i:Nat}{f:Ev->Res D}{ρ:Ev}{d:D}(h:f ρ=.ok d):zb6 i f ρ=.ok (.nx (ρ.set i (.sh d))):=by unfold zb6;rw[h];rfl
theorem zqu {f:Ev->Res D}{ρ:Ev}{d:D}(h:f (shr ρ)=.ok d):zde f ρ=.ok (.rt d):=by unfold zde;rw[h];rfl
theorem zC1 {c:Ev->Res D}{s t:Ev->Res Fl}{ρ:Ev}(h:c (shr ρ)=.ok (.bl false)):sIf c s t ρ=t ρ:=by unfold sIf;rw[h];rfl
theorem zjP {i j:Int}:dNe (.int i) (.int j)=.ok (.bl (!(i==j))):=by unfold dNe;rw[if_pos ⟨rfl,rfl⟩,eqD]
theorem zl8 {i j:Int}:dEq (.int i) (.int j)=.ok (.bl (i==j)):=by unfold dEq;rw[if_pos ⟨rfl,rfl⟩,eqD]
theorem zgk {f:Ev->Res D}{fa:Ev->Res (List D)}{ρ:Ev}{x:D}{xs:List D}(h:f ρ=.ok x)(h':fa ρ=.ok xs):zae f fa ρ=.ok (x::xs):=by unfold zae;rw[h,bok,h'];rfl
theorem zhG {f g:Ev->Res D}{op:D->D->Res D}{ρ:Ev}{x y:D}(h:f ρ=.ok x)(h':g ρ=.ok y):zaa f g op ρ=op x y:=by unfold zaa;rw[h,bok,h'];rfl
theorem zjm {fa:Ev->Res (List D)}{m:List D->Res D}{ρ:Ev}{xs:List D}(h:fa ρ=.ok xs):zam fa m ρ=m xs:=by unfold zam;rw[h];rfl
theorem ztz {a b:Int}(h:b≠0):zfw (.int a) (.int b)=.ok (.int (a.fmod b)):=by
 show(if decide (b≠0)=true then Res.ok (D.int (a.fmod b)) else .stuck)=_;rw[if_pos (decide_eq_true h)]
theorem zrk {a b:Int}(h:zfv a b=true):zpy (.int a) (.int b)=.ok (.int (a.fdiv b)):=by
 show(if zfv a b=true then Res.ok (D.int (a.fdiv b)) else .stuck)=_;rw[if_pos h]
theorem zm6 (a b:Int):Int.gcd b (a.fmod b)=Int.gcd a b:=by
 rw[Int.fmod_def,Int.gcd_sub_mul_left_right,Int.gcd_comm]
theorem ztZ {a b:Int}(h:b≠0):(a.fmod b).natAbs < b.natAbs:=by
 rcases Int.lt_or_gt_of_ne h with hb | hb
 .have h1:=Int.fmod_lt_of_pos (-a) (show 0 < -b by omega)
  have h2:=Int.fmod_nonneg_of_pos (-a) (show 0 < -b by omega);rw[Int.neg_fmod_neg] at h1 h2;omega
 .have h1:=Int.fmod_lt_of_pos a hb
  have h2:=Int.fmod_nonneg_of_pos a hb;omega
theorem ziM:∀ (n:Nat) (a b:Int),b.natAbs < n->∃ g:Int,g.natAbs=Int.gcd a b /\
  zbT (zaa (zad 1) (dC (.int 0)) dNe) (zaw (zvA 0 1 (zae (zad 1) (zae (zaa (zad 0) (zad 1) zfw) zaH))) zao) n [.sh (.int a),.sh (.int b)]=.ok (.nx [.sh (.int g),.sh (.int 0)])
 | 0,a,b,h=>absurd h (Nat.not_lt_zero _)
 | n+1,a,b,h=>by
  unfold zbT;have c:(zaa (zad 1) (dC (.int 0)) dNe) (shr [.sh (.int a),.sh (.int b)])=.ok (.bl (!(b==0))):=zjP;rw[c]
  by_cases hb:b=0
  .subst hb
   exact⟨a,by simp,rfl⟩
  .have e:(!(b==0))=true:=by simp [hb]
   obtain⟨g,h1,h2⟩:=ziM n b (a.fmod b) (by have:=ztZ (a:=a) hb;omega);refine⟨g,by rw[h1,zm6],?_⟩;rw[← h2];rw[e];have st:(zaw (zvA 0 1 (zae (zad 1) (zae (zaa (zad 0) (zad 1) zfw) zaH))) zao) [.sh (.int a),.sh (.int b)]=.ok (.nx [.sh (.int b),.sh (.int (a.fmod b))]):=by
    refine zvT ?_;unfold zvA;have:(zae (zad 1) (zae (zaa (zad 0) (zad 1) zfw) zaH)) [.sh (.int a),.sh (.int b)]=.ok [.int b,.int (a.fmod b)]:=by
     exact zgk rfl (zgk (ztz hb) rfl)
    rw[this];rfl
   show(Res.bind _ _)=_;rw[st];rfl
theorem zse (a b:Int):zgt [.int a,.int b]=.ok (.int (Int.gcd a b)):=by
 obtain⟨g,h1,h2⟩:=ziM (b.natAbs+1) a b (Nat.lt_succ_self _);have w:zg5 (zie 1) (zaa (zad 1) (dC (.int 0)) dNe) (zaw (zvA 0 1 (zae (zad 1) (zae (zaa (zad 0) (zad 1) zfw) zaH))) zao) [.sh (.int a),.sh (.int b)]=.ok (.nx [.sh (.int g),.sh (.int 0)]):=h2;have r:zdv [.sh (.int a),.sh (.int b)]=.ok (.rt (.int (if g < 0 then -g else g))):=by
  unfold zdv;rw[zgq w];exact zqt (zqu rfl)
 show(zdv [.sh (.int a),.sh (.int b)]).bind _=_;rw[r];show Res.ok (D.int (if g < 0 then -g else g))=_
 congr 2
 rw[← h1];split<;>omega
theorem zk5:∀ (n:Nat) (x y:D) (a b:Int) (r:Sl),0<=a->0<=b->b.natAbs < n->∃ r',
  zbT (zaa (zad 3) (dC (.int 0)) dNe) (zaw (zb6 4 (zaa (zad 2) (zad 3) zfw)) (zaw (zb6 2 (zad 3)) (zaw (zb6 3 (zad 4)) zao))) n [.sh x,.sh y,.sh (.int a),.sh (.int b),r]=.ok (.nx [.sh x,.sh y,.sh (.int (Int.gcd a b)),.sh (.int 0),r'])
 | 0,_,_,a,b,_,_,_,h=>absurd h (Nat.not_lt_zero _)
 | n+1,x,y,a,b,r,ha,hb0,h=>by
  unfold zbT;have c:∀ r,(zaa (zad 3) (dC (.int 0)) dNe) (shr [.sh x,.sh y,.sh (.int a),.sh (.int b),r])=.ok (.bl (!(b==0))):=fun r=>zjP;rw[c]
  by_cases hb:b=0
  .subst hb
   refine⟨r,?_⟩;have e:((Int.gcd a 0:Nat):Int)=a:=by simp;omega
   rw[e];rfl
  .have e:(!(b==0))=true:=by simp [hb]
   have hp:0 < b:=by omega
   obtain⟨r',h2⟩:=zk5 n x y b (a.fmod b) (.sh (.int (a.fmod b))) hb0 (Int.fmod_nonneg_of_pos a hp) (by have:=ztZ (a:=a) hb;omega);refine⟨r',?_⟩;rw[zm6] at h2;rw[← h2,e];have st:(zaw (zb6 4 (zaa (zad 2) (zad 3) zfw)) (zaw (zb6 2 (zad 3)) (zaw (zb6 3 (zad 4)) zao))) [.sh x,.sh y,.sh (.int a),.sh (.int b),r]=.ok (.nx [.sh x,.sh y,.sh (.int b),.sh (.int (a.fmod b)),.sh (.int (a.fmod b))]):=by
    have m:(zaa (zad 2) (zad 3) zfw) [.sh x,.sh y,.sh (.int a),.sh (.int b),r]=.ok (.int (a.fmod b)):=by
     exact ztz hb
    rw[zgq (zsT m)];rfl
   show(Res.bind _ _)=_;rw[st];rfl
theorem zhC (a b:Int):zaU [.int a,.int b]=.ok (.int (Int.gcd a b)):=by
 have e:∀ i:Int,(if i < 0 then -i else i)=(i.natAbs:Int):=fun i=>by split<;>omega
 obtain⟨r',h⟩:=zk5 ((b.natAbs:Int).natAbs+1) (.int a) (.int b) a.natAbs b.natAbs .no (Int.natCast_nonneg _) (Int.natCast_nonneg _) (Nat.lt_succ_self _);have hg:Int.gcd (a.natAbs:Int) (b.natAbs:Int)=Int.gcd a b:=by simp [Int.gcd]
 rw[hg] at h;have r:zcD [.sh (.int a),.sh (.int b),.no,.no,.no]=.ok (.rt (.int (Int.gcd a b))):=by
  unfold zcD;rw[zgq (ρ':=[.sh (.int a),.sh (.int b),.sh (.int (a.natAbs:Int)),.no,.no]) (by rw[← e a];rfl)];rw[zgq (ρ':=[.sh (.int a),.sh (.int b),.sh (.int (a.natAbs:Int)),.sh (.int (b.natAbs:Int)),.no]) (by rw[← e b];rfl)];have w:zg5 (zie 3) (zaa (zad 3) (dC (.int 0)) dNe) (zaw (zb6 4 (zaa (zad 2) (zad 3) zfw)) (zaw (zb6 2 (zad 3)) (zaw (zb6 3 (zad 4)) zao))) [.sh (.int a),.sh (.int b),.sh (.int (a.natAbs:Int)),.sh (.int (b.natAbs:Int)),.no]=.ok (.nx [.sh (.int a),.sh (.int b),.sh (.int (Int.gcd a b)),.sh (.int 0),r']):=h;rw[zgq w];exact zqt (zqu rfl)
 show(zcD [.sh (.int a),.sh (.int b),.no,.no,.no]).bind _=_;rw[r];rfl
theorem zrN:(2:Nat) ^ 64<=B60:=by rw[zmG];exact Nat.pow_le_pow_right (by decide) (by decide)
theorem zDS {i:Int}(h:i.natAbs < 18446744073709551616):i.natAbs < B60:=Nat.lt_of_lt_of_le h zrN
theorem ze1 {i j:Int}(h:i.natAbs < 18446744073709551616)(h':j.natAbs < 18446744073709551616):zer i j=true:=by
 unfold zer;rw[Bool.and_eq_true];exact⟨decide_eq_true (zDS h),decide_eq_true (zDS h')⟩
theorem zeA {i j:Int}(h:i.natAbs < B60)(h':j.natAbs < B60):zer i j=true:=by
 unfold zer;rw[Bool.and_eq_true];exact⟨decide_eq_true h,decide_eq_true h'⟩
theorem zzn {i j:Int}(h0:j≠0)(h:j.natAbs < B9):zfv i j=true:=by
 unfold zfv;rw[Bool.and_eq_true,Bool.or_eq_true];exact⟨decide_eq_true h0,.inl (decide_eq_true h)⟩
theorem zkT {i j:Int}(h0:j≠0)(h:i.natAbs < B13):zfv i j=true:=by
 unfold zfv;rw[Bool.and_eq_true,Bool.or_eq_true];exact⟨decide_eq_true h0,.inr (decide_eq_true h)⟩
theorem zjW {ds:List D}{k:Nat}{d:D}(h:ds[k]?=some d):dIx (.lst ds) (.int (k:Int))=.ok d:=by
 unfold dIx;simp only[zbf h]
theorem zfu {a b:Int}(hb:0 < b):0<=a.fmod b/\a.fmod b < b:=⟨Int.fmod_nonneg_of_pos a hb,Int.fmod_lt_of_pos a hb⟩
theorem ztQ {n k:Nat}(h:k < n):(DL.intsFrom 0 n).drop k=.int (k:Int)::(DL.intsFrom 0 n).drop (k+1):=by
 have hl:(DL.intsFrom 0 n).length=n:=by unfold DL.intsFrom;simp
 rw[List.drop_eq_getElem_cons (by rw[hl];exact h)]
 congr 1
 unfold DL.intsFrom;simp
theorem zwu {n:Nat}:(DL.intsFrom 0 n).drop n=[]:=by
 have hl:(DL.intsFrom 0 n).length=n:=by unfold DL.intsFrom;simp
 exact List.drop_eq_nil_of_le (by omega)
theorem zfR {tg:Ev->D->Res Ev}{s:Ev->Res Fl}{d:D}{r:List D}{ρ ρ1 ρ2:Ev}(h1:tg ρ d=.ok ρ1)(h2:s ρ1=.ok (.nx ρ2)):zd2 tg s (d::r) ρ=zd2 tg s r ρ2:=by
 rw[zd2,h1,bok,h2,bok]
def isI:D->Bool
 | .int _=>true
 | _=>false
theorem zd1 (d:D):zbs [d]=.ok (.bl (isI d)):=by cases d<;>first | rfl | (rename_i k _;cases k<;>rfl)
theorem zeh {a g:Int}(hg:0 < g):a.fdiv g=a / g:=Int.fdiv_eq_ediv_of_nonneg a (by omega)
theorem zid {a b:Int}(h:b≠0):0 < (Int.gcd a b:Int):=by
 have:=Int.gcd_pos_of_ne_zero_right a h;omega
theorem zBc {a b:Int}(hb:0 < b)(h1:a.natAbs < B13)(h2:b.natAbs < B13):zm2 [.int a,.int b]=.ok (.tup [.int (a / Int.gcd a b),.int (b / Int.gcd a b)]):=by
 have hg:=zid (a:=a) (b:=b) (by omega);have r:zdP [.sh (.int a),.sh (.int b),.no]=.ok (.rt (.tup [.int (a / Int.gcd a b),.int (b / Int.gcd a b)])):=by
  unfold zdP;rw[zgq (ρ':=[.sh (.int a),.sh (.int b),.sh (.int (Int.gcd a b))]) (zsT ((zjm (xs:=[.int a,.int b]) rfl).trans (zse a b)))];refine zqt (zqu ?_);refine(zjm (xs:=[.int (a / Int.gcd a b),.int (b / Int.gcd a b)]) (zgk ?_ (zgk ?_ rfl))).trans rfl
  .rw[← zeh hg]
   exact(zhG (x:=.int a) (y:=.int (Int.gcd a b)) rfl rfl).trans (zrk (zkT (by omega) h1))
  .rw[← zeh hg]
   exact(zhG (x:=.int b) (y:=.int (Int.gcd a b)) rfl rfl).trans (zrk (zkT (by omega) h2))
 show(zdP [.sh (.int a),.sh (.int b),.no]).bind _=_;rw[r];rfl
theorem zv2 {a b:Int}(hb:0 < b)(h1:a.natAbs < B13)(h2:b.natAbs < B13):zcb [.int a,.int b]=.ok (.tup [.int (a / Int.gcd a b),.int (b / Int.gcd a b)]):=by
 have hg:=zid (a:=a) (b:=b) (by omega);have r:ziu [.sh (.int a),.sh (.int b),.no]=.ok (.rt (.tup [.int (a / Int.gcd a b),.int (b / Int.gcd a b)])):=by
  unfold ziu;rw[zgq (ρ':=[.sh (.int a),.sh (.int b),.no]) (zC1 (t:=zao) rfl)];rw[zgq (ρ':=[.sh (.int a),.sh (.int b),.no]) (zC1 (t:=zao) ((zhG (x:=.int b) (y:=.int 0) rfl rfl).trans (zl8.trans (by rw[beq_eq_false_iff_ne.mpr (by omega)]))))];rw[zgq (ρ':=[.sh (.int a),.sh (.int b),.sh (.int (Int.gcd a b))]) (zsT ((zjm (xs:=[.int a,.int b]) rfl).trans (zhC a b)))];rw[zgq (ρ':=[.sh (.int a),.sh (.int b),.sh (.int (Int.gcd a b))]) (zC1 (t:=zao) (by
   show Res.ok (D.bl (decide (b < 0)))=_;rw[decide_eq_false (by omega)]))]
  refine zqt (zqu ?_);refine(zjm (xs:=[.int (a / Int.gcd a b),.int (b / Int.gcd a b)]) (zgk ?_ (zgk ?_ rfl))).trans rfl
  .rw[← zeh hg]
   exact(zhG (x:=.int a) (y:=.int (Int.gcd a b)) rfl rfl).trans (zrk (zkT (by omega) h1))
  .rw[← zeh hg]
   exact(zhG (x:=.int b) (y:=.int (Int.gcd a b)) rfl rfl).trans (zrk (zkT (by omega) h2))
 show(ziu [.sh (.int a),.sh (.int b),.no]).bind _=_;rw[r];rfl
def zC7 (p q:Int):D:=.tup [.int p,.int q]
end Com
open Com
namespace Com
open PySem L2 DL
abbrev Fra:=Int×Int
def fr (x:Fra):D:=zC7 x.1 x.2
def N60:Nat:=1000000000000000000000000000000000000000000000000000000000000
theorem zB4:N60<=B9:=by rw[zw1];exact Nat.le_trans (show N60<=2 ^ 200 by decide) (Nat.pow_le_pow_right (by decide) (by decide))
theorem zzJ:N60<=B13:=by rw[zmH];exact Nat.le_trans (show N60<=2 ^ 200 by decide) (Nat.pow_le_pow_right (by decide) (by decide))
theorem zvx:N60<=B60:=by rw[zmG];exact Nat.le_trans (show N60<=2 ^ 200 by decide) (Nat.pow_le_pow_right (by decide) (by decide))
theorem znE:B13<=B60:=by rw[zmH,zmG];exact Nat.pow_le_pow_right (by decide) (by decide)
structure Low (x:Fra):Prop where
 q1:1<=x.2
 g1:Int.gcd x.1 x.2=1
structure zgo (x:Fra):Prop extends Low x where
 pN:x.1.natAbs < N60
 qN:x.2.natAbs < N60
def low (a b:Int):Fra:=(a / Int.gcd a b,b / Int.gcd a b)
theorem zic {a b:Int}(hb:0 < b):Low (low a b):=by
 have hg:=zid (a:=a) (b:=b) (by omega);refine⟨?_,Int.gcd_ediv_gcd_ediv_gcd (by omega)⟩;have:=Int.ediv_gcd_ne_zero_if_ne_zero_right a (show b≠0 by omega);have h2:0<=b / (Int.gcd a b:Int):=Int.ediv_nonneg (by omega) (by omega);show 1<=b / (Int.gcd a b:Int);omega
theorem zy3 {a b:Int}:(low a b).1*b=a*(low a b).2:=by
 unfold low;obtain⟨x,hx⟩:=Int.gcd_dvd_left a b;obtain⟨y,hy⟩:=Int.gcd_dvd_right a b
 by_cases hg:(Int.gcd a b:Int)=0
 .simp only[hg,Int.ediv_zero,Int.zero_mul,Int.mul_zero]
 .generalize hG:(Int.gcd a b:Int)=G at *
  have e1:a / G=x:=by rw[hx];exact Int.mul_ediv_cancel_left x hg
  have e2:b / G=y:=by rw[hy];exact Int.mul_ediv_cancel_left y hg
  show a / G*b=a*(b / G);rw[e1,e2]
  calc x*b=x*(G*y):=by rw[← hy]
   _=G*x*y:=by grind
   _=a*y:=by rw[← hx]
theorem zpX {a b:Int}:(low a b).1.natAbs<=a.natAbs:=Int.natAbs_ediv_le_natAbs _ _
theorem zpW {a b:Int}:(low a b).2.natAbs<=b.natAbs:=Int.natAbs_ediv_le_natAbs _ _
theorem zqx {a b:Int}(hb:0 < b)(h1:a.natAbs < B13)(h2:b.natAbs < B13):zcb [.int a,.int b]=.ok (fr (low a b)):=zv2 hb h1 h2
theorem zCZ {a b:Int}(hb:0 < b)(h1:a.natAbs < N60)(h2:b.natAbs < N60):zgo (low a b):=⟨zic hb,Nat.lt_of_le_of_lt zpX h1,Nat.lt_of_le_of_lt zpW h2⟩
theorem zsS {n:Nat}(x:Fra):zbo (n+1) (fr x)=true:=by
 cases n<;>rfl
theorem zDa {x y:Fra}:eqD (fr x) (fr y)=(x.1==y.1&&x.2==y.2):=by
 unfold fr zC7;simp [eqD,eqDs]
theorem zsc {x:Fra}:eqD (fr x) (fr x)=true:=by rw[zDa];simp
def flt (x y:Fra):Bool:=decide (x.1*y.2 < y.1*x.2)
theorem zat {α:Type}{a b:α}(h:a=b):a=b:=h
def zAo (t:Ev->Res Fl)(r:Fl):Res Fl:=match r with
 | .nx ρ'=>t ρ'
 | r=>.ok r
def zDw (i:Nat)(ρ:Ev)(d:D):Res Fl:=.ok (.nx (ρ.set i (.sh d)))
def zDx (d:D):Res Fl:=.ok (.rt d)
def zzh (ρ:Ev)(_:D):Res Fl:=.ok (.nx ρ)
noncomputable def ifK (s t:Ev->Res Fl) (ρ:Ev) (x:D):Res Fl:=match x with
 | .bl b=>if b=true then s ρ else t ρ
 | _=>.stuck
noncomputable def zDK (i:Nat) (ρ:Ev) (d:D):Res Fl:=match d with
 | .lst ds=>.ok (.nx (ρ.set i (.ow (.lst ds))))
 | _=>.stuck
noncomputable def zA0 (s:Option Sl) (k:List D->Res Fl):Res Fl:=match s with
 | some (.ow (.lst ds))=>k ds
 | _=>.stuck
noncomputable def zD2 (i:Nat) (ρ:Ev) (ds:List D) (d:D):Res Fl:=if ds.length < line then .ok (.nx (ρ.set i (.ow (.lst (ds++[d]))))) else .stuck
noncomputable def zBW (i:Nat) (ρ:Ev) (ds:List D) (d:D):Res Fl:=if zpw d=true/\ds.length < line then .ok (.nx (ρ.set i (.ow (.lst (ds++[d]))))) else .stuck
def zlS (i:Nat)(ρ:Ev)(k:Ev->Res D)(ds:List D)(d:D):Res Fl:=(k ρ).bind (DL.putAt ρ i ds d)
noncomputable def zxa (i:Nat) (ρ:Ev) (ds:List D) (d j:D):Res Fl:=if zpw d=true then DL.putAt ρ i ds d j else .stuck
def zAH (i:Nat)(ρ:Ev)(k:Ev->Res D)(ds:List D)(d:D):Res Fl:=(k (shr ρ)).bind (zxa i ρ ds d)
noncomputable def zz2 (is:List Nat) (ρ:Ev) (d:D):Res Fl:=match zeZ is.length d with
 | some ds=>.ok (.nx (zdT ρ is ds))
 | none=>.stuck
noncomputable def zDI (i j:Nat) (ρ:Ev) (ds:List D):Res Fl:=match ds with
 | [x,y]=>.ok (.nx ((ρ.set i (.sh x)).set j (.sh y)))
 | _=>.stuck
def k2 (g:Ev->Res D)(op:D->D->Res D)(ρ:Ev)(x:D):Res D:=(g ρ).bind (op x)
def zvc (x:D)(xs:List D):Res (List D):=.ok (x::xs)
def zBQ (fa:Ev->Res (List D))(ρ:Ev)(x:D):Res (List D):=(fa ρ).bind (zvc x)
noncomputable def zDk (g:Ev->Res D) (ρ:Ev) (x:D):Res D:=match x with
 | .bl true=>g ρ
 | .bl false=>.ok (.bl false)
 | _=>.stuck
noncomputable def orK (g:Ev->Res D) (ρ:Ev) (x:D):Res D:=match x with
 | .bl true=>.ok (.bl true)
 | .bl false=>g ρ
 | _=>.stuck
def zDN (x:D):Res D:=match x with
 | .bl b=>.ok (.bl (!b))
 | _=>.stuck
noncomputable def zC0 (f g:Ev->Res D) (ρ:Ev) (x:D):Res D:=match x with
 | .bl true=>f ρ
 | .bl false=>g ρ
 | _=>.stuck
def zDt (s:Option Sl):Res D:=match s with
 | some (.sh d)=>.ok d
 | _=>.stuck
def zzP (s:Sl):Sl:=match s with
 | .ow d=>.sh d
 | .ox _ ds=>.sh (.tup ds)
 | x=>x
def zCE (r:Fl):Res D:=match r with
 | .nx _=>.ok .non
 | .rt d=>.ok d
 | _=>.stuck
def osK (x:D):Res (Option Int):=match x with
 | .int i=>.ok (some i)
 | _=>.stuck
def zzO (x:D)(l:Option Int)(h:Option Int):Res D:=znO x l h
def slK (hi:Ev->Res (Option Int))(ρ:Ev)(x:D)(l:Option Int):Res D:=(hi ρ).bind (zzO x l)
def zDv (lo hi:Ev->Res (Option Int))(ρ:Ev)(x:D):Res D:=(lo ρ).bind (slK hi ρ x)
noncomputable def zDV (tg:Ev->D->Res Ev) (s:Ev->Res Fl) (ρ:Ev) (d:D):Res Fl:=match d with
 | .lst ds=>zd2 tg s ds ρ
 | _=>.stuck
noncomputable def zCf (op':D->D->Res D) (h:Ev->Res D) (ρ:Ev) (y z:D):Res D:=match z with
 | .bl true=>(h ρ).bind (op' y)
 | .bl false=>.ok (.bl false)
 | _=>.stuck
def zDi (op op':D->D->Res D)(h:Ev->Res D)(ρ:Ev)(x y:D):Res D:=(op x y).bind (zCf op' h ρ y)
def chK (op op':D->D->Res D)(g h:Ev->Res D)(ρ:Ev)(x:D):Res D:=(g ρ).bind (zDi op op' h ρ x)
section
variable {s t:Ev->Res Fl}{f g h:Ev->Res D}{fa:Ev->Res (List D)}{ρ r:Ev}{i j:Nat}{d x y:D}{ds xs:List D}{op op':D->D->Res D}{a b:Int}
theorem zsa {α β:Type}{a:α}{k:α->Res β}:(Res.ok a).bind k=k a:=zat rfl
theorem zoq:zaw s t ρ=(s ρ).bind (zAo t):=zat rfl
theorem zkc:zAo t (.nx ρ)=t ρ:=zat rfl
theorem zkb:zAo t (.rt d)=.ok (.rt d):=zat rfl
theorem zka:zAo t (.bk ρ)=.ok (.bk ρ):=zat rfl
theorem zj9:zAo t (.ct ρ)=.ok (.ct ρ):=zat rfl
theorem zkp:zao ρ=.ok (.nx ρ):=zat rfl
theorem zop:zb6 i f ρ=(f ρ).bind (zDw i ρ):=zat rfl
theorem zj8:zDw i ρ d=.ok (.nx (ρ.set i (.sh d))):=zat rfl
theorem zot:zde f ρ=(f (shr ρ)).bind zDx:=zat rfl
theorem zkg:zDx d=.ok (.rt d):=zat rfl
theorem zkf:zCA ρ=.ok (.rt .non):=zat rfl
theorem zkK:zmR f ρ=(f (shr ρ)).bind (zzh ρ):=zat rfl
theorem zho:zzh ρ d=.ok (.nx ρ):=zat rfl
theorem zua:sIf f s t ρ=(f (shr ρ)).bind (ifK s t ρ):=zat rfl
theorem zoP:ifK s t ρ (.bl true)=s ρ:=zat rfl
theorem zoO:ifK s t ρ (.bl false)=t ρ:=zat rfl
theorem zoD:zrK i f ρ=(f ρ).bind (zDK i ρ):=zat rfl
theorem zkn:zDK i ρ (.lst ds)=.ok (.nx (ρ.set i (.ow (.lst ds)))):=zat rfl
theorem zoY:zeW i f ρ=zA0 ρ[i]? fun ds=>(f ρ).bind (zD2 i ρ ds):=zat rfl
theorem zkm {k:List D->Res Fl}:zA0 (some (.ow (.lst ds))) k=k ds:=zat rfl
theorem ze6 (h:decide (ds.length<=999)=true):zD2 i ρ ds d=.ok (.nx (ρ.set i (.ow (.lst (ds++[d]))))):=if_pos (Nat.lt_of_le_of_lt (of_decide_eq_true h) (by decide))
theorem zkM:zvX i f ρ=zA0 ρ[i]? fun ds=>(f (shr ρ)).bind (zBW i ρ ds):=zat rfl
theorem zht (hf:zpw d=true)(h:decide (ds.length<=999)=true):zBW i ρ ds d=.ok (.nx (ρ.set i (.ow (.lst (ds++[d]))))):=if_pos ⟨hf,Nat.lt_of_le_of_lt (of_decide_eq_true h) (by decide)⟩
theorem zov:zAq i f g ρ=zA0 ρ[i]? fun ds=>(f ρ).bind (zlS i ρ g ds):=zat rfl
theorem zkk:zlS i ρ g ds d=(g ρ).bind (DL.putAt ρ i ds d):=zat rfl
theorem zkj:zCB i f g ρ=zA0 ρ[i]? fun ds=>(f (shr ρ)).bind (zAH i ρ g ds):=zat rfl
theorem zhi:zAH i ρ g ds d=(g (shr ρ)).bind (zxa i ρ ds d):=zat rfl
theorem zoQ:zAs i s ρ=s (unown i ρ):=zat rfl
theorem zog {is:List Nat}:zEj is f ρ=(f ρ).bind (zz2 is ρ):=zat rfl
theorem zoB:zvA i j fa ρ=(fa ρ).bind (zDI i j ρ):=zat rfl
theorem zkl:zDI i j ρ [x,y]=.ok (.nx ((ρ.set i (.sh x)).set j (.sh y))):=zat rfl
theorem zuo {o:D->Res D}:zdG f o ρ=(f ρ).bind o:=zat rfl
theorem zun:zaa f g op ρ=(f ρ).bind (k2 g op ρ):=zat rfl
theorem zoX:k2 g op ρ x=(g ρ).bind (op x):=zat rfl
theorem zum {m:List D->Res D}:zam fa m ρ=(fa ρ).bind m:=zat rfl
theorem zoI:zaH ρ=.ok []:=zat rfl
theorem zkL:zae f fa ρ=(f ρ).bind (zBQ fa ρ):=zat rfl
theorem zhq:zBQ fa ρ x=(fa ρ).bind (zvc x):=zat rfl
theorem zhp:zvc x xs=.ok (x::xs):=zat rfl
theorem zoZ:zlw f g ρ=(f ρ).bind (zDk g ρ):=zat rfl
theorem zkO:zDk g ρ (.bl true)=g ρ:=zat rfl
theorem zkN:zDk g ρ (.bl false)=.ok (.bl false):=zat rfl
theorem zt6:dOr f g ρ=(f ρ).bind (orK g ρ):=zat rfl
theorem zoG:orK g ρ (.bl true)=.ok (.bl true):=zat rfl
theorem zoF:orK g ρ (.bl false)=g ρ:=zat rfl
theorem zoH:zet f ρ=(f ρ).bind zDN:=zat rfl
theorem zko {c:Bool}:zDN (.bl c)=.ok (.bl (!c)):=zat rfl
theorem zoN:dIf h f g ρ=(h ρ).bind (zC0 f g ρ):=zat rfl
theorem zkH:zC0 f g ρ (.bl true)=f ρ:=zat rfl
theorem zkG:zC0 f g ρ (.bl false)=g ρ:=zat rfl
theorem zof:zad i ρ=zDt ρ[i]?:=zat rfl
theorem zj1:zDt (some (.sh d))=.ok d:=zat rfl
theorem zBq:dC d ρ=.ok d:=zat rfl
theorem zj7:shr []=[]:=zat rfl
theorem zoo {c:Sl}:shr (c::r)=zzP c::shr r:=zat rfl
theorem zj6:zzP (.ow d)=.sh d:=zat rfl
theorem znc:zzP (.ox j ds)=.sh (.tup ds):=zat rfl
theorem zj5:zzP (.sh d)=.sh d:=zat rfl
theorem zj4:zzP .no=.no:=zat rfl
theorem zos {n:Nat}:zdY n s ds=(s (ds.map Sl.sh++List.replicate (n-ds.length) .no)).bind zCE:=zat rfl
theorem zke:zCE (.rt d)=.ok d:=zat rfl
theorem zkd:zCE (.nx ρ)=.ok .non:=zat rfl
theorem zt5:ze0 f ρ=(f ρ).bind osK:=zat rfl
theorem zoE:osK (.int a)=.ok (some a):=zat rfl
theorem zt7:zft ρ=.ok none:=zat rfl
theorem zt3 {lo hi:Ev->Res (Option Int)}:zxM f lo hi ρ=(f ρ).bind (zDv lo hi ρ):=zat rfl
theorem zon {lo hi:Ev->Res (Option Int)}:zDv lo hi ρ x=(lo ρ).bind (slK hi ρ x):=zat rfl
theorem zom {hi:Ev->Res (Option Int)}{l:Option Int}:slK hi ρ x l=(hi ρ).bind (zzO x l):=zat rfl
theorem zol {l l':Option Int}:zzO (.lst ds) l l'=.ok (.lst (zlI ds l l')):=zat rfl
theorem zoR {tg:Ev->D->Res Ev}:zpF f tg s ρ=(f ρ).bind (zDV tg s ρ):=zat rfl
theorem zkJ {tg:Ev->D->Res Ev}:zDV tg s ρ (.lst ds)=zd2 tg s ds ρ:=zat rfl
theorem zhs:zgB op op' f g h ρ=(f ρ).bind (chK op op' g h ρ):=zat rfl
theorem zub:chK op op' g h ρ x=(g ρ).bind (zDi op op' h ρ x):=zat rfl
theorem zoU:zDi op op' h ρ x y=(op x y).bind (zCf op' h ρ y):=zat rfl
theorem zoT:zCf op' h ρ y (.bl true)=(h ρ).bind (op' y):=zat rfl
theorem zoS:zCf op' h ρ y (.bl false)=.ok (.bl false):=zat rfl
theorem zoM {o:Int->Int->D}:iop (fun _ _=>true) o (.int a) (.int b)=.ok (o a b):=zat rfl
theorem zo0:zcP (.int a) (.int b)=.ok (.int (a+b)):=zat rfl
theorem zfX {es:List D}(h:decide (ds.length+es.length<=1000)=true):zcP (.lst ds) (.lst es)=.ok (.lst (ds++es)):=if_pos (Nat.le_trans (of_decide_eq_true h) (by decide))
theorem zoJ:zBO (.int a)=.ok (.int (-a)):=zat rfl
theorem zt9 {m:D->Res D}:m1 m [x]=m x:=zat rfl
theorem zt8 {m:D->D->Res D}:m2 m [x,y]=m x y:=zat rfl
theorem zds:zgl (.lst ds)=.ok (.int ds.length):=zat rfl
theorem zkq:zgl (.tup ds)=.ok (.int ds.length):=zat rfl
theorem zok (h:decide (ds.length<=1000)=true):zjR ds=.ok (.tup ds):=if_pos (Nat.le_trans (of_decide_eq_true h) (by decide))
theorem zoL (h:decide (ds.length<=1000)=true):zi5 ds=.ok (.lst ds):=if_pos (Nat.le_trans (of_decide_eq_true h) (by decide))
theorem zcv:zdt "bool" (.non)=.ok (.bl false):=zat rfl
theorem zda {c:Bool}:zdt "bool" (.bl c)=.ok (.bl true):=zat rfl
theorem zcx:zdt "bool" (.int a)=.ok (.bl false):=zat rfl
theorem zcu {z:Str}:zdt "bool" (.str z)=.ok (.bl false):=zat rfl
theorem zct:zdt "bool" (.tup ds)=.ok (.bl false):=zat rfl
theorem zcw:zdt "bool" (.lst ds)=.ok (.bl false):=zat rfl
theorem zcy {ks:List Str}:zdt "bool" (.dic ks ds)=.ok (.bl false):=zat rfl
theorem zc5:zdt "int" (.non)=.ok (.bl false):=zat rfl
theorem zdx {c:Bool}:zdt "int" (.bl c)=.ok (.bl true):=zat rfl
theorem zc7:zdt "int" (.int a)=.ok (.bl true):=zat rfl
theorem zc4 {z:Str}:zdt "int" (.str z)=.ok (.bl false):=zat rfl
theorem zc3:zdt "int" (.tup ds)=.ok (.bl false):=zat rfl
theorem zc6:zdt "int" (.lst ds)=.ok (.bl false):=zat rfl
theorem zc8 {ks:List Str}:zdt "int" (.dic ks ds)=.ok (.bl false):=zat rfl
theorem zcY:zdt "str" (.non)=.ok (.bl false):=zat rfl
theorem zdw {c:Bool}:zdt "str" (.bl c)=.ok (.bl false):=zat rfl
theorem zc0:zdt "str" (.int a)=.ok (.bl false):=zat rfl
theorem zcX {z:Str}:zdt "str" (.str z)=.ok (.bl true):=zat rfl
theorem zcW:zdt "str" (.tup ds)=.ok (.bl false):=zat rfl
theorem zcZ:zdt "str" (.lst ds)=.ok (.bl false):=zat rfl
theorem zc1 {ks:List Str}:zdt "str" (.dic ks ds)=.ok (.bl false):=zat rfl
theorem zbZ:zdt "tuple" (.non)=.ok (.bl false):=zat rfl
theorem zcg {c:Bool}:zdt "tuple" (.bl c)=.ok (.bl false):=zat rfl
theorem zb1:zdt "tuple" (.int a)=.ok (.bl false):=zat rfl
theorem zbY {z:Str}:zdt "tuple" (.str z)=.ok (.bl false):=zat rfl
theorem zbX:zdt "tuple" (.tup ds)=.ok (.bl true):=zat rfl
theorem zb0:zdt "tuple" (.lst ds)=.ok (.bl false):=zat rfl
theorem zb2 {ks:List Str}:zdt "tuple" (.dic ks ds)=.ok (.bl false):=zat rfl
theorem zcj:zdt "list" (.non)=.ok (.bl false):=zat rfl
theorem zc2 {c:Bool}:zdt "list" (.bl c)=.ok (.bl false):=zat rfl
theorem zcl:zdt "list" (.int a)=.ok (.bl false):=zat rfl
theorem zci {z:Str}:zdt "list" (.str z)=.ok (.bl false):=zat rfl
theorem zch:zdt "list" (.tup ds)=.ok (.bl false):=zat rfl
theorem zck:zdt "list" (.lst ds)=.ok (.bl true):=zat rfl
theorem zcm {ks:List Str}:zdt "list" (.dic ks ds)=.ok (.bl false):=zat rfl
theorem zcp:zdt "dict" (.non)=.ok (.bl false):=zat rfl
theorem zc9 {c:Bool}:zdt "dict" (.bl c)=.ok (.bl false):=zat rfl
theorem zcr:zdt "dict" (.int a)=.ok (.bl false):=zat rfl
theorem zco {z:Str}:zdt "dict" (.str z)=.ok (.bl false):=zat rfl
theorem zcn:zdt "dict" (.tup ds)=.ok (.bl false):=zat rfl
theorem zcq:zdt "dict" (.lst ds)=.ok (.bl false):=zat rfl
theorem zcs {ks:List Str}:zdt "dict" (.dic ks ds)=.ok (.bl true):=zat rfl
theorem zeG:zio (.non) .non=.ok (.bl true):=zat rfl
theorem zd5:zdF (.non) .non=.ok (.bl false):=zat rfl
theorem zfW {c:Bool}:zio (.bl c) .non=.ok (.bl false):=zat rfl
theorem zeD {c:Bool}:zdF (.bl c) .non=.ok (.bl true):=zat rfl
theorem zeI:zio (.int a) .non=.ok (.bl false):=zat rfl
theorem zd7:zdF (.int a) .non=.ok (.bl true):=zat rfl
theorem zeF {z:Str}:zio (.str z) .non=.ok (.bl false):=zat rfl
theorem zd4 {z:Str}:zdF (.str z) .non=.ok (.bl true):=zat rfl
theorem zeE:zio (.tup ds) .non=.ok (.bl false):=zat rfl
theorem zd3:zdF (.tup ds) .non=.ok (.bl true):=zat rfl
theorem zeH:zio (.lst ds) .non=.ok (.bl false):=zat rfl
theorem zd6:zdF (.lst ds) .non=.ok (.bl true):=zat rfl
theorem zeJ {ks:List Str}:zio (.dic ks ds) .non=.ok (.bl false):=zat rfl
theorem zd8 {ks:List Str}:zdF (.dic ks ds) .non=.ok (.bl true):=zat rfl
theorem zbW (h:zer a b=true):zbN (.int a) (.int b)=.ok (.int (a*b)):=if_pos h
theorem zoK (h:(b==0)=false):zfw (.int a) (.int b)=.ok (.int (a.fmod b)):=ztz (fun z=>by rw[z] at h;cases h)
theorem zl7 (h:zfv a b=true):zpy (.int a) (.int b)=.ok (.int (a.fdiv b)):=if_pos h
theorem zj3 {is:List Nat}(h:(ds.length==is.length)=true):zz2 is ρ (.lst ds)=.ok (.nx (zdT ρ is ds)):=by
 unfold zz2 zeZ;simp only[if_pos (eq_of_beq h)]
theorem zj2 {is:List Nat}(h:(ds.length==is.length)=true):zz2 is ρ (.tup ds)=.ok (.nx (zdT ρ is ds)):=by
 unfold zz2 zeZ;simp only[if_pos (eq_of_beq h)]
theorem zt4 {is:List Nat}:zdT ρ (i::is) (d::ds)=zdT (ρ.set i (.sh d)) is ds:=zat rfl
theorem zor:zdT ρ [] ds=ρ:=zat rfl
def unK (i:Nat)(ρ:Ev)(s:Option Sl):Ev:=match s with
 | some (.ow d)=>ρ.set i (.sh d)
 | _=>ρ
theorem zt2:unown i ρ=unK i ρ ρ[i]?:=zat rfl
theorem zoj:unK i ρ (some (.ow d))=ρ.set i (.sh d):=zat rfl
theorem zoi:unK i ρ (some (.sh d))=ρ:=zat rfl
theorem zoh:unK i ρ (some .no)=ρ:=zat rfl
theorem ze5 {n:Nat}{j:Int}(h:ixN ds.length j=some n):DL.putAt ρ i ds d (.int j)=.ok (.nx (ρ.set i (.ow (.lst (ds.set n d))))):=by
 unfold DL.putAt;simp only[h]
theorem zij {x0:D}:dIx (.lst (x0::xs)) (.int 0)=.ok x0:=by
 unfold dIx;simp only[show atI (x0::xs) 0=some x0 from zbf (j:=0) rfl]
theorem zkx {x0:D}:dIx (.tup (x0::xs)) (.int 0)=.ok x0:=by
 unfold dIx;simp only[show atI (x0::xs) 0=some x0 from zbf (j:=0) rfl]
theorem zii {x0 x1:D}:dIx (.lst (x0::x1::xs)) (.int 1)=.ok x1:=by
 unfold dIx;simp only[show atI (x0::x1::xs) 1=some x1 from zbf (j:=1) rfl]
theorem zkw {x0 x1:D}:dIx (.tup (x0::x1::xs)) (.int 1)=.ok x1:=by
 unfold dIx;simp only[show atI (x0::x1::xs) 1=some x1 from zbf (j:=1) rfl]
theorem zkF {x0 x1 x2:D}:dIx (.lst (x0::x1::x2::xs)) (.int 2)=.ok x2:=by
 unfold dIx;simp only[show atI (x0::x1::x2::xs) 2=some x2 from zbf (j:=2) rfl]
theorem zkv {x0 x1 x2:D}:dIx (.tup (x0::x1::x2::xs)) (.int 2)=.ok x2:=by
 unfold dIx;simp only[show atI (x0::x1::x2::xs) 2=some x2 from zbf (j:=2) rfl]
theorem zkE {x0 x1 x2 x3:D}:dIx (.lst (x0::x1::x2::x3::xs)) (.int 3)=.ok x3:=by
 unfold dIx;simp only[show atI (x0::x1::x2::x3::xs) 3=some x3 from zbf (j:=3) rfl]
theorem zku {x0 x1 x2 x3:D}:dIx (.tup (x0::x1::x2::x3::xs)) (.int 3)=.ok x3:=by
 unfold dIx;simp only[show atI (x0::x1::x2::x3::xs) 3=some x3 from zbf (j:=3) rfl]
theorem zkD {x0 x1 x2 x3 x4:D}:dIx (.lst (x0::x1::x2::x3::x4::xs)) (.int 4)=.ok x4:=by
 unfold dIx;simp only[show atI (x0::x1::x2::x3::x4::xs) 4=some x4 from zbf (j:=4) rfl]
theorem zkt {x0 x1 x2 x3 x4:D}:dIx (.tup (x0::x1::x2::x3::x4::xs)) (.int 4)=.ok x4:=by
 unfold dIx;simp only[show atI (x0::x1::x2::x3::x4::xs) 4=some x4 from zbf (j:=4) rfl]
theorem zkC {x0 x1 x2 x3 x4 x5:D}:dIx (.lst (x0::x1::x2::x3::x4::x5::xs)) (.int 5)=.ok x5:=by
 unfold dIx;simp only[show atI (x0::x1::x2::x3::x4::x5::xs) 5=some x5 from zbf (j:=5) rfl]
theorem zks {x0 x1 x2 x3 x4 x5:D}:dIx (.tup (x0::x1::x2::x3::x4::x5::xs)) (.int 5)=.ok x5:=by
 unfold dIx;simp only[show atI (x0::x1::x2::x3::x4::x5::xs) 5=some x5 from zbf (j:=5) rfl]
theorem zkB {x0 x1 x2 x3 x4 x5 x6:D}:dIx (.lst (x0::x1::x2::x3::x4::x5::x6::xs)) (.int 6)=.ok x6:=by
 unfold dIx;simp only[show atI (x0::x1::x2::x3::x4::x5::x6::xs) 6=some x6 from zbf (j:=6) rfl]
theorem zkA {x0 x1 x2 x3 x4 x5 x6 x7:D}:dIx (.lst (x0::x1::x2::x3::x4::x5::x6::x7::xs)) (.int 7)=.ok x7:=by
 unfold dIx;simp only[show atI (x0::x1::x2::x3::x4::x5::x6::x7::xs) 7=some x7 from zbf (j:=7) rfl]
theorem zkz {x0 x1 x2 x3 x4 x5 x6 x7 x8:D}:dIx (.lst (x0::x1::x2::x3::x4::x5::x6::x7::x8::xs)) (.int 8)=.ok x8:=by
 unfold dIx;simp only[show atI (x0::x1::x2::x3::x4::x5::x6::x7::x8::xs) 8=some x8 from zbf (j:=8) rfl]
theorem zky {x0 x1 x2 x3 x4 x5 x6 x7 x8 x9:D}:dIx (.lst (x0::x1::x2::x3::x4::x5::x6::x7::x8::x9::xs)) (.int 9)=.ok x9:=by
 unfold dIx;simp only[show atI (x0::x1::x2::x3::x4::x5::x6::x7::x8::x9::xs) 9=some x9 from zbf (j:=9) rfl]
theorem zhn {x0 x1 x2 x3 x4 x5 x6 x7 x8 x9 x10:D}:dIx (.lst (x0::x1::x2::x3::x4::x5::x6::x7::x8::x9::x10::xs)) (.int 10)=.ok x10:=by
 unfold dIx;simp only[show atI (x0::x1::x2::x3::x4::x5::x6::x7::x8::x9::x10::xs) 10=some x10 from zbf (j:=10) rfl]
theorem zhm {x0 x1 x2 x3 x4 x5 x6 x7 x8 x9 x10 x11:D}:dIx (.lst (x0::x1::x2::x3::x4::x5::x6::x7::x8::x9::x10::x11::xs)) (.int 11)=.ok x11:=by
 unfold dIx;simp only[show atI (x0::x1::x2::x3::x4::x5::x6::x7::x8::x9::x10::x11::xs) 11=some x11 from zbf (j:=11) rfl]
theorem zhl {x0 x1 x2 x3 x4 x5 x6 x7 x8 x9 x10 x11 x12:D}:dIx (.lst (x0::x1::x2::x3::x4::x5::x6::x7::x8::x9::x10::x11::x12::xs)) (.int 12)=.ok x12:=by
 unfold dIx;simp only[show atI (x0::x1::x2::x3::x4::x5::x6::x7::x8::x9::x10::x11::x12::xs) 12=some x12 from zbf (j:=12) rfl]
theorem zhk {x0 x1 x2 x3 x4 x5 x6 x7 x8 x9 x10 x11 x12 x13:D}:dIx (.lst (x0::x1::x2::x3::x4::x5::x6::x7::x8::x9::x10::x11::x12::x13::xs)) (.int 13)=.ok x13:=by
 unfold dIx;simp only[show atI (x0::x1::x2::x3::x4::x5::x6::x7::x8::x9::x10::x11::x12::x13::xs) 13=some x13 from zbf (j:=13) rfl]
theorem zul:((0:Nat):Int)=0:=zat rfl
theorem zuk:((1:Nat):Int)=1:=zat rfl
theorem zuj:((2:Nat):Int)=2:=zat rfl
theorem zui:((3:Nat):Int)=3:=zat rfl
theorem zuh:((4:Nat):Int)=4:=zat rfl
theorem zug:((5:Nat):Int)=5:=zat rfl
theorem zuf:((6:Nat):Int)=6:=zat rfl
theorem zue:((7:Nat):Int)=7:=zat rfl
theorem zud:((8:Nat):Int)=8:=zat rfl
theorem zuc:((9:Nat):Int)=9:=zat rfl
theorem zoW:((10:Nat):Int)=10:=zat rfl
theorem zoV:((11:Nat):Int)=11:=zat rfl
theorem zoA {x0:D}:DL.putAt ρ i (x0::xs) d (.int 0)=.ok (.nx (ρ.set i (.ow (.lst (d::xs))))):=by
 refine(ze5 (n:=0) ?_).trans rfl;unfold ixN;rw[if_pos (by decide),if_pos (by simp only[List.length_cons];omega)];rfl
theorem zoz {x0 x1:D}:DL.putAt ρ i (x0::x1::xs) d (.int 1)=.ok (.nx (ρ.set i (.ow (.lst (x0::d::xs))))):=by
 refine(ze5 (n:=1) ?_).trans rfl;unfold ixN;rw[if_pos (by decide),if_pos (by simp only[List.length_cons];omega)];rfl
theorem zoy {x0 x1 x2:D}:DL.putAt ρ i (x0::x1::x2::xs) d (.int 2)=.ok (.nx (ρ.set i (.ow (.lst (x0::x1::d::xs))))):=by
 refine(ze5 (n:=2) ?_).trans rfl;unfold ixN;rw[if_pos (by decide),if_pos (by simp only[List.length_cons];omega)];rfl
theorem zox {x0 x1 x2 x3:D}:DL.putAt ρ i (x0::x1::x2::x3::xs) d (.int 3)=.ok (.nx (ρ.set i (.ow (.lst (x0::x1::x2::d::xs))))):=by
 refine(ze5 (n:=3) ?_).trans rfl;unfold ixN;rw[if_pos (by decide),if_pos (by simp only[List.length_cons];omega)];rfl
theorem zow {x0 x1 x2 x3 x4:D}:DL.putAt ρ i (x0::x1::x2::x3::x4::xs) d (.int 4)=.ok (.nx (ρ.set i (.ow (.lst (x0::x1::x2::x3::d::xs))))):=by
 refine(ze5 (n:=4) ?_).trans rfl;unfold ixN;rw[if_pos (by decide),if_pos (by simp only[List.length_cons];omega)];rfl
theorem zoC:zsw (.int 10) (.int 60)=.ok (.int (N60:Int)):=by
 have e:(10:Int) ^ (60:Int).toNat=(N60:Int):=by decide
 rw[← e];rfl
end
noncomputable def zBj (fa:Ev->Res (List D)) (ρ:Ev) (x:D):Res D:=match x with
 | .str z=>(fa ρ).bind (zm4 z)
 | _=>.stuck
theorem zkr {f:Ev->Res D}{fa:Ev->Res (List D)}{ρ:Ev}:zsi f fa ρ=(f ρ).bind (zBj fa ρ):=zat rfl
theorem zhj {fa:Ev->Res (List D)}{ρ:Ev}{z:Str}:zBj fa ρ (.str z)=(fa ρ).bind (zm4 z):=zat rfl
noncomputable def zDy (g:Ev->Res D) (ρ:Ev) (x:D):Res D:=match x with
 | .lst ds=>(g ρ).bind (zBN (.lst ds))
 | _=>.stuck
theorem zou {f g:Ev->Res D}{ρ:Ev}:zEk f g ρ=(f ρ).bind (zDy g ρ):=zat rfl
theorem zki {g:Ev->Res D}{ρ:Ev}{ds:List D}:zDy g ρ (.lst ds)=(g ρ).bind (zBN (.lst ds)):=zat rfl
theorem zqY {α:Type}{x:α}:∀ {n:Nat},(List.replicate n [x]).flatten=List.replicate n x
 | 0=>rfl
 | n+1=>by rw[List.replicate_succ,List.flatten_cons,zqY,List.replicate_succ];rfl
theorem zkh {x:D}{k:Int}(h:(decide (0<=k)&&decide (k<=1000))=true):zBN (.lst [x]) (.int k)=.ok (.lst (List.replicate k.toNat x)):=by
 simp only[Bool.and_eq_true,decide_eq_true_eq] at h;unfold zBN;have:([x]:List D).length*k.toNat<=line/\-9223372036854775808<=k/\k < 9223372036854775808:=⟨by
  have h2:k.toNat<=1000:=by omega
  show 1*k.toNat<=line;have:(1000:Nat)<=line:=by decide
  omega,by omega,by omega⟩
 simp only[if_pos this,zqY]
end Com
local macro_rules | `(tactic| open_line with[$xs,*])=>`(tactic| simp only[zsa,zoq,zkc,zkb,zka,zj9,zkp,zop,zj8,zot,zkg,zkf,zkK,zho,zua,zoP,zoO,zoD,zkn,zoY,zkm,zkM,zov,zkk,zkj,zhi,zoQ,zog,zoB,zkl,zuo,zun,zoX,zum,zoI,zkL,zhq,zhp,zoZ,zkO,zkN,zt6,zoG,zoF,zoH,zko,zoN,zkH,zkG,zof,zj1,zBq,zj7,zoo,zj6,zj5,zj4,zos,zke,zkd,zt5,zoE,zt7,zt3,zon,zom,zol,zoR,zkJ,zhs,zub,zoU,zoT,zoS,zoM,zo0,zoJ,zt9,zt8,zds,zkq,zoC,zl8,zjP,List.map_cons,List.map_nil,List.length_cons,List.length_nil,List.replicate_succ,List.replicate_zero,List.nil_append,List.cons_append,List.getElem?_cons_zero,List.getElem?_cons_succ,List.set_cons_zero,List.set_cons_succ,Nat.sub_zero,Nat.reduceSub,Nat.reduceAdd,Nat.add_zero,Nat.zero_add,Bool.not_true,Bool.not_false,zok,zoL,zfX,ze6,zht,zoK,zj3,zj2,zt4,zor,zt2,zoj,zoi,zoh,zij,zii,zkF,zkE,zkD,zkC,zkB,zkA,zkz,zky,zhn,zhm,zhl,zhk,zkx,zkw,zkv,zku,zkt,zks,decide_true,decide_false,Nat.reduceLeDiff,Nat.reduceBEq,Int.reduceBEq,beq_self_eq_true,DL.dOne,DL.mYes,zcv,zda,zcx,zcu,zct,zcw,zcy,zc5,zdx,zc7,zc4,zc3,zc6,zc8,zcY,zdw,zc0,zcX,zcW,zcZ,zc1,zbZ,zcg,zb1,zbY,zbX,zb0,zb2,zcj,zc2,zcl,zci,zch,zck,zcm,zcp,zc9,zcr,zco,zcn,zcq,zcs,zeG,zd5,zfW,zeD,zeI,zd7,zeF,zd4,zeE,zd3,zeH,zd6,zeJ,zd8,zul,zuk,zuj,zui,zuh,zug,zuf,zue,zud,zuc,zoW,zoV,Int.reduceLT,Int.reduceLE,Int.reduceSub,Int.reduceAdd,Int.reduceMul,Int.reduceNeg,zkr,zhj,zoA,zoz,zoy,zox,zow,zou,zki,zkh,Int.reduceToNat,Bool.and_self,$[$xs:term],*])
namespace Com
open PySem L2 DL
noncomputable def zf7:Ev->Res Fl :=
 (zaw (sIf (dOr (zet (zdG (zad 0) (zdt "str"))) (zet (zgB dLe dLe (dC (.int 1)) (zam (zae (zad 0) zaH) (m1 zgl)) (dC (.int 8)))))
 (zaw (zde (dC (.bl false)))
 zao)
 zao)
 (zaw (zde (zam (zae (zeN 1 [] (zB8 (zad 0)) (zdN 0) mYes (zaa (zad 0) (dC (.str "abcdefghijklmnopqrstuvwxyz")) dIn)) zaH) (m1 zzx)))
 zao))
def zce:List D->Res D:=zdY 1 zf7
noncomputable def zcN:Ev->Res Fl :=
 (zaw (sIf (dOr (zet (zdG (zad 0) (zdt "tuple"))) (zaa (zam (zae (zad 0) zaH) (m1 zgl)) (dC (.int 2)) dNe))
 (zaw (zde (dC (.bl false)))
 zao)
 zao)
 (zaw (sIf (dOr (zet (zam (zae (zaa (zad 0) (dC (.int 0)) dIx) zaH) zbs)) (zet (zam (zae (zaa (zad 0) (dC (.int 1)) dIx) zaH) zbs)))
 (zaw (zde (dC (.bl false)))
 zao)
 zao)
 (zaw (zde (zlw (zaa (zaa (zad 0) (dC (.int 1)) dIx) (dC (.int 1)) dGe) (zaa (zam (zae (zaa (zad 0) (dC (.int 0)) dIx) (zae (zaa (zad 0) (dC (.int 1)) dIx) zaH)) zaU) (dC (.int 1)) dEq)))
 zao)))
def zdm:List D->Res D:=zdY 1 zcN
def abc:Str:="abcdefghijklmnopqrstuvwxyz"
def zoc (c:Nat):Bool:=occ ⟨#[c]⟩ abc
def nameB (z:Str):Bool:=decide (1<=z.length)&&(decide (z.length<=8)&&z.cps.toList.all zoc)
def zCW:D->Bool
 | .str z=>nameB z
 | _=>false
def fit:D->Bool
 | .str z=>decide (z.length<=line)
 | _=>true
theorem zpf {b:Ev}{tg:Ev->D->Res Ev}{tt fe:Ev->Res D}{F:D->D}:∀ {ds:List D},(∀ d∈ds,∃ ρ1,tg b d=.ok ρ1/\tt ρ1=.ok (.bl true)/\fe ρ1=.ok (F d))->zbt b tg tt fe ds=.ok (ds.map F)
 | [],_=>rfl
 | d::r,h=>by
  obtain⟨ρ1,h1,h2,h3⟩:=h d List.mem_cons_self;rw[zf4 h1 h2 h3,zpf (fun e he=>h e (List.mem_cons_of_mem _ he))];rfl
theorem zlc {α:Type}(F:α->Bool):∀ (cs:List α),zec (cs.map fun c=>D.bl (F c))=some (cs.map F)
 | []=>rfl
 | c::r=>by
  show(zec (r.map fun c=>D.bl (F c))).map (F c::·)=_;rw[zlc F r];rfl
theorem zrX {z:Str}(hz:z.length<=line):zeN 1 [] (zB8 (zad 0)) (zdN 0) mYes (zaa (zad 0) (dC (.str "abcdefghijklmnopqrstuvwxyz")) dIn) [.sh (.str z)]=.ok (.lst (z.cps.toList.map fun c=>.bl (zoc c))):=by
 have hl:(zix z).length<=line:=by rw[zhW];exact hz
 unfold zeN;show(if(zix z).length<=line then _ else _)=_;rw[if_pos hl];have:zbt (zdy 1 [] [.sh (.str z)]) (zdN 0) mYes (zaa (zad 0) (dC (.str "abcdefghijklmnopqrstuvwxyz")) dIn) (zix z)=.ok (z.cps.toList.map fun c=>D.bl (zoc c)):=by
  unfold zix
  induction z.cps.toList with
  | nil=>rfl
  | cons c r ih =>
   rw[List.map_cons,zf4 (x:=.bl (zoc c)) rfl rfl rfl,ih];rfl
 rw[this]
theorem zr6 {d:D}(h:fit d=true):zce [d]=.ok (.bl (zCW d)):=by
 cases d with
 | str z =>
  have hz:z.length<=line:=of_decide_eq_true h;have hlen:zgl (.str z)=.ok (.int z.length):=if_pos hz;show zdY 1 zf7 _=.ok (.bl (nameB z));unfold nameB
  by_cases h1:1<=z.length
  .by_cases h8:z.length<=8
   .have e1:decide ((1:Int)<=(z.length:Int))=true:=decide_eq_true (by omega)
    have e2:decide ((z.length:Int)<=8)=true:=decide_eq_true (by omega);open_line with[zf7,hlen,e1,e2,zrX hz,zzx,zlc,decide_eq_true h1,decide_eq_true h8,Bool.true_and]
    simp [List.all_map,Function.comp_def]
   .have e1:decide ((1:Int)<=(z.length:Int))=true:=decide_eq_true (by omega)
    have e2:decide ((z.length:Int)<=8)=false:=decide_eq_false (by omega);open_line with[zf7,hlen,e1,e2,decide_eq_true h1,decide_eq_false h8,Bool.false_and,Bool.and_false]
  .have e1:decide ((1:Int)<=(z.length:Int))=false:=decide_eq_false (by omega)
   open_line with[zf7,hlen,e1,decide_eq_false h1,Bool.false_and]
 | ob k _=>cases k<;>rfl
 | _=>rfl
def znU:D->Bool
 | .tup [.int p,.int q]=>decide (1<=q)&&(Int.gcd p q==1)
 | _=>false
theorem zBr {g:Nat}:((g:Int)==1)=(g==1):=by
 cases h:(g==1) with
 | true=>rw[eq_of_beq h];rfl
 | false =>
  have:g≠1:=fun z=>by rw[z] at h;cases h
  exact beq_eq_false_iff_ne.mpr (by omega)
theorem zz5 {xs:List D}:(∃ x y,xs=[x,y])∨xs.length≠2:=by
 match xs with
 | []=>exact .inr (by decide)
 | [x]=>exact .inr (by simp)
 | [x,y]=>exact .inl ⟨x,y,rfl⟩
 | x::y::z::r=>exact .inr (by simp)
theorem zv1:∀ {xs:List D},xs.length≠2->znU (.tup xs)=false
 | [],_=>rfl
 | [x],_=>by cases x<;>rfl
 | [x,y],h=>absurd rfl h
 | x::y::z::r,_=>by cases x<;>cases y<;>rfl
theorem zrM {x y:D}:znU (.tup [x,y])=(isI x&&(isI y&&znU (.tup [x,y]))):=by
 cases x<;>cases y<;>rfl
theorem zoa (d:D):zdm [d]=.ok (.bl (znU d)):=by
 cases d with
 | tup xs =>
  rcases zz5 (xs:=xs) with⟨x,y,rfl⟩ | h
  .rw[zrM]
   show zdY 1 zcN _=_;cases hx:isI x with
   | false=>open_line with[zcN,zd1,hx,Bool.false_and]
   | true =>
    cases hy:isI y with
    | false=>open_line with[zcN,zd1,hx,hy,Bool.false_and,Bool.true_and]
    | true =>
     cases x<;>first | (cases hx;done) | skip
     cases y<;>first | (cases hy;done) | skip
     rename_i p q;show _=Res.ok (D.bl (decide (1<=q)&&(Int.gcd p q==1)))
     by_cases hq:1<=q
     .open_line with[zcN,zd1,hx,hy,zhC,Bool.true_and,decide_eq_true hq,zBr]
     .open_line with[zcN,zd1,hx,hy,zhC,Bool.true_and,decide_eq_false hq,Bool.false_and]
  .have e2:((xs.length:Int)==2)=false:=beq_eq_false_iff_ne.mpr (by omega)
   rw[zv1 h];show zdY 1 zcN _=_;open_line with[zcN,e2]
 | ob k _=>cases k<;>rfl
 | _=>rfl
theorem zzy {α:Type}{F:α->D}{xs:List α}{lo hi:Option Int}:zlI (xs.map F) lo hi=((xs.drop (HT.sIx xs.length 0 lo)).take (HT.sIx xs.length xs.length hi-HT.sIx xs.length 0 lo)).map F:=by
 unfold zlI;rw[List.length_map,← List.map_drop,← List.map_take]
end Com
namespace DL
open PySem PySem.Spec PyProof.Rows L2
section
variable {P:Program}{w:World}{K:W.Frag}{mg:Str->Option Value}{base:Heap}{N:List Str}{qual:Str}{scope:Scope}{f:Addr}{cd:Value}{A:Around}{outer:List PySem.Env}{s0:Shared}{H0:Hp}{E:XK}
 {pins:List (Addr×Obj)}{σ:L2.St}{H:Hp}{s:Shared}
end
noncomputable def zw4 (x:Str) (fa:Ev->Res (List D)):Ev->Res Fl:=fun ρ=>(fa (shr ρ)).bind fun ds=>if ds.length<=line then .exn ⟨x,[]⟩ else .stuck
section
variable {P:Program}{w:World}{K:W.Frag}{mg:Str->Option Value}{base:Heap}{N:List Str}{qual:Str}{scope:Scope}{f:Addr}{cd:Value}{A:Around}{outer:List PySem.Env}{s0:Shared}{H0:Hp}{E:XK}{He H0e:Hp}
end
section
variable {P:Program}{w:World}{st:List PySem.Env}{H H':Hp}{h g g' B:Heap}
end
section
variable {X:Cx}{pins:List (Addr×Obj)}{σ:L2.St}{H:Hp}{s:Shared}{e:Addr}
end
section
variable {X:Cx}{pins:List (Addr×Obj)}{σ:L2.St}{H:Hp}{s:Shared}{CX:CXT}{k:Nat}{f:Addr}{fd:FuncData}{ps:List Str}{sp:Sp}{Ex:XK}{x:Str}{p pos:Pos}{e:Expr}{es:List Expr}{t:TA}
end
section
variable {X:Cx}{E:XK}{e:Expr}{es:List Expr}{fa:Ev->Res (List D)}{pos:Pos}
end
structure zB2 (k:Nat) (A:Around):Prop where
 dp:A.depth+3*k+5 < recursionLimit
 un:A.units+16*k+200 < cLine
theorem zgm.h {k:Nat}{A:Around}(r:zgm k A):zB2 k A:=⟨r.dp,r.un⟩
structure FnH (P:Program) (w:World) (K:W.Frag) (mg:Str->Option Value) (base:Heap) (k:Nat) (f:Addr) (fd:FuncData) (ps:List Str) (sp:Sp):Prop where
 len:∀ vs H Q E,sp vs H Q E->vs.length=ps.length
 run:∀ (A:Around) (outer:List PySem.Env) (s:Shared) (H:Hp) (args:Args) (us:List Value) (vs:List V) (Q:VK) (E:XK),zB2 k A->zB6 P w K mg base A outer s H->BindsTo s fd args (ps.zip us)->zbO vs us->sp vs H Q E ->
  codeAny (model P w) A (.call (.ref f) args) (CR CX0 outer P w H s Q E) s
theorem FnH.ok {P:Program}{w:World}{K:W.Frag}{mg:Str->Option Value}{base:Heap}{k:Nat}{f:Addr}{fd:FuncData}{ps:List Str}{sp:Sp}(F:FnH P w K mg base k f fd ps sp):zcz P w K mg base CX0 k f fd ps sp :=
 ⟨F.len,fun A outer s H args us vs Q E hr=>F.run A outer s H args us vs Q E (zgm.h hr)⟩
section
variable {X:Cx}{E:XK}{e a:Expr}{es:List Expr}{f:Ev->Res D}{fa:Ev->Res (List D)}{pos:Pos}
end
section
variable {X:Cx}{E:XK}{e a:Expr}{es:List Expr}{f:Ev->Res D}{pos:Pos}{tab:Str->Option Bool}
end
end DL
namespace DL
open PySem PySem.Spec PyProof.Rows L2 PySem.W
end DL
namespace Com
open PySem L2 DL
section
variable {α β:Type}
end
end Com
namespace DL
open PySem PySem.Spec PyProof.Rows L2
section
variable {X:Cx}{E:XK}{tg a b c:Expr}{f g:Ev->Res D}
end
section
variable {X:Cx}{pins:List (Addr×Obj)}{σ:L2.St}{H:Hp}{s:Shared}{h':Heap}
theorem zsG {t':Nat}{fp:List Addr}{T:Addr}{xs:List V}(I:Inv X pins σ H s)(k:∀ b o,b∉fp->s.heap.get? b=some o->h'.get? b=some o)(hf:∀ b∈fp,zrB X pins H b)(hT:s.heap.objs.size<=T)
  (new:zdg X.prog X.w (upd H T (.tup xs)) h' T (.tup xs)):Inv X pins σ (upd H T (.tup xs)) { s with heap:=h',toks:=t' }:=by
 have hn:H T=none:=I.hok.fresh hT;have nit:∀ b u,H b=some u->b∉fp:=fun b u e z=>by rw[(hf b z).1] at e;cases e
 refine I.step (g':=s.gens) (d':=s.drawn) (ch:=fp) (fun b hb=>?_) (fun b o _ _ hc e _=>k b o hc e) (fun b o _ _ hc e _=>⟨o.slots,k b o hc e⟩) (fun b o _ e n=>?_)
  (fun b o hc e=>⟨o,k b o hc e⟩) (fun b xs e=>by rw[zal (zaQ e hn)];exact e) (fun b o u e=>by rw[zal (zaQ e hn)];exact e) (fun b ps e=>⟨#[],by rw[zal (zaQ e hn),e];simp⟩) (fun m hm=>?_) (fun b u e=>?_) I.bare
 .obtain⟨_,f1,_,f3,f4,f5⟩:=hf b hb
  exact⟨f3,f1,f4,f5⟩
 .rw[zal (Nat.ne_of_lt (Nat.lt_of_lt_of_le (Heap.lt_size e) hT))];exact n
 .obtain⟨o,es,ep,ho,r⟩:=hm
  exact⟨o,es,ep,k _ o (fun z=>(hf _ z).2.1 rfl) ho,r⟩
 .by_cases hb:b=T
  .subst hb;rw[zar] at e;cases e;exact new
  .rw[zal hb] at e
   refine(I.hok b u e).stay (fun c v hc q=>k c v ?_ q) (fun c q=>by rw[zal (zaQ q hn)];exact q) fun c xs q=>by rw[zal (zaQ q hn)];exact q
   rcases hc with z | z
   .rw[z];exact nit b u e
   .exact nit c _ z
theorem zx9 {t':Nat}{fp:List Addr}(I:Inv X pins σ H s)(k:∀ b o,b∉fp->s.heap.get? b=some o->h'.get? b=some o)(hf:∀ b∈fp,zrB X pins H b):Inv X pins σ H { s with heap:=h',toks:=t' }:=by
 have nit:∀ b u,H b=some u->b∉fp:=fun b u e z=>by rw[(hf b z).1] at e;cases e
 refine I.step (g':=s.gens) (d':=s.drawn) (ch:=fp) (fun b hb=>?_) (fun b o _ _ hc e _=>k b o hc e) (fun b o _ _ hc e _=>⟨o.slots,k b o hc e⟩) (fun b o _ e n=>n)
  (fun b o hc e=>⟨o,k b o hc e⟩) (fun b xs e=>e) (fun b o u e=>e) (fun b ps e=>⟨#[],by rw[e];simp⟩) (fun m hm=>?_) (fun b u e=>?_) I.bare
 .obtain⟨_,f1,_,f3,f4,f5⟩:=hf b hb
  exact⟨f3,f1,f4,f5⟩
 .obtain⟨o,es,ep,ho,r⟩:=hm
  exact⟨o,es,ep,k _ o (fun z=>(hf _ z).2.1 rfl) ho,r⟩
 .refine(I.hok b u e).stay (fun c v hc q=>k c v ?_ q) (fun _ q=>q) fun _ _ q=>q
  rcases hc with z | z
  .rw[z];exact nit b u e
  .exact nit c _ z
end
noncomputable def Ite (K:W.Frag) (a:Addr):It :=
 ⟨fun i H=>∃ xs x,SqL K H a xs/\xs[i]?=some x,fun i H x H'=>∃ p y,H p=none/\x=.ref p/\(∀ xs,SqL K H a xs->xs[i]?=some y)/\H'=upd H p (.tup [.int i,y]),fun i H=>∃ xs,SqL K H a xs/\xs.length<=i⟩
theorem zsJ {P:Program}{w:World}{K:W.Frag}{elts:List Expr}{k:Nat}{pos:Pos}(a it e:Addr)(hne:e≠it)(hae:a≠e)(hai:a≠it) :
  zzT P w K (.Tuple elts k pos) (Ite K a) [e,it] e (fun i h=>(∃ old,IsEnum h e it i old)/\h.IsListIter it a i) where
 mem:=by simp
 obj:=fun i h st b hb=>by
  obtain⟨⟨old,he⟩,o,h1,h2,h3⟩:=st;rcases List.mem_cons.mp hb with rfl | hb
  .exact⟨_,he,fun v z=>by cases z⟩
  .rcases List.mem_cons.mp hb with rfl | hb
   .exact⟨o,h1,fun v z=>by rw[h3] at z;cases z⟩
   .cases hb
 keep:=fun i h h' st k=>by
  obtain⟨⟨old,he⟩,hi⟩:=st;exact⟨⟨old,k e (by simp) _ he⟩,hi.at fun o y=>k it (by simp) o y⟩
 item:=by
  intro X hP hw hK hc i pins s σ H E I hf st hg;subst hP hw hK;obtain⟨xs,x,hq,hx⟩:=hg;obtain⟨its,rv,p,hz⟩:=I.list hq;obtain⟨u,hu,ru⟩:=rv.get hx;have W:=WalksT.enumerate (prog:=X.prog) (w:=X.w) (I.ok.hd hc) e it a hne hae hai its.toArray;have hil:i < its.toArray.size:=by simpa using (List.getElem?_eq_some_iff.mp hu).1
  refine W.item i s _ _ hil ⟨st.1,st.2,p.isList⟩ fun T vals h' tk hPt hT hTup hMid hk=>?_;refine⟨_,rfl,W.go elts k pos i T _ _ _ hMid fun h'' st'' hk''=>?_⟩;obtain⟨t,y,hy,rfl⟩:=hPt;have hyu:y=u:=by
   have:its[i]?=some y:=by simpa using hy
   rw[hu] at this;cases this;rfl
  subst hyu;obtain⟨o,ho,hr⟩:=hTup;have ho':=hk'' T o (W.apart i T _ hMid) ho;refine⟨.ref T,upd H T (.tup [.int i,x]),zsG (s:=s) (h':=h'') (t':=tk) I (fun b o hb e=>hk'' b o hb (hk b o hb e)) hf hT ⟨by show 2<=sizeLine;decide,[.int i t,y],.cons ⟨t,rfl⟩ (.cons ru .nil),o,ho',hr⟩,rfl,⟨T,x,I.hok.fresh hT,rfl,fun ys hy=>by rw[I.list_inj hy hq];exact hx,rfl⟩,⟨st''.1,st''.2.1⟩,fun b hb=>?_⟩;have hb0:=(hf b hb).1;obtain⟨ob,hob,_⟩:∃ o,s.heap.get? b=some o/\∀ v,o.data≠.cell v:=by
   obtain⟨⟨old,he⟩,o,h1,h2,h3⟩:=st;rcases List.mem_cons.mp hb with rfl | hb
   .exact⟨_,he,fun v z=>by cases z⟩
   .rcases List.mem_cons.mp hb with rfl | hb
    .exact⟨o,h1,fun v z=>by rw[h3] at z;cases z⟩
    .cases hb
  rw[zal (Nat.ne_of_lt (Nat.lt_of_lt_of_le (Heap.lt_size hob) hT))];exact hb0
 done:=by
  intro X hP hw hK hc i pins s σ H E I hf st hg;subst hP hw hK;obtain⟨xs,hq,hx⟩:=hg;obtain⟨its,rv,p,hz⟩:=I.list hq;have hl:=rv.length;obtain⟨⟨old,he⟩,hi⟩:=st;exact wpAny_pyNext_enum_end (I.ok.hd hc) he hi p.isList (by simp;omega) fun h' hx=>⟨rfl,zx9 (t':=s.toks) I (fun b o hb e=>hx b o (fun z=>hb (by simp [z])) e) hf⟩
 self:=fun _ _ _ _ _ st h=>by
  obtain⟨⟨old,he⟩,_⟩:=st;exact wpAny_pyIter_enum he h
section
variable {X:Cx}{E:XK}{elts:List Expr}{k:Nat}{tp:Pos}{e a b:Expr}{f g:Ev->Res D}
noncomputable def zC4 (K:W.Frag) (ta:TA):TI:=fun σ H R=>ta σ H fun vs H1=>∃ a,vs=[.ref a]/\(∃ xs,SqL K H1 a xs)/\R (Ite K a) H1
theorem zyy {ta:TA}{p pos:Pos}(hg:Gl X "enumerate")(hm:X.mg "enumerate"=none)(ha:PA X [a] ta)(hs:starEach [a] X.env=[(false,eval a X.env)]:=by rfl):PI X (.Tuple elts k tp) (.Call (.Name "enumerate" p) [a] [] pos) (zC4 X.K ta):=by
 intro pins s σ H R I h;refine Call_ (zn6 I hg hm PyProof.Rows.Boot.«enumerate» (PyProof.Rows.callWith_type1 (thn (ha pos pins s σ H _ I h) fun us s1 ⟨vs,H1,I1,r1,q1⟩=>?_) hs rfl));obtain⟨l,e,⟨xs,hq⟩,q⟩:=q1;subst e;cases r1 with
 | cons r rr =>
  cases rr;cases r;obtain⟨its,rv,p,hz⟩:=I1.list hq;have hlt:l < s1.heap.objs.size:=by obtain⟨o,n,e,_⟩:=p;exact Heap.lt_size e
  refine call_enumerate_list p.isList fun h' he hi hsz hk=>?_;refine wpAny_pyIter_enum he ?_;refine⟨s1.heap.objs.size+1,[s1.heap.objs.size+1,s1.heap.objs.size],_,_,H1,rfl,I1.kept (t':=s1.toks) hk,zsJ l s1.heap.objs.size (s1.heap.objs.size+1) (Nat.succ_ne_self _) (Nat.ne_of_lt (Nat.lt_succ_of_lt hlt)) (Nat.ne_of_lt hlt),⟨⟨_,he⟩,hi⟩,fun b hb=>?_,q⟩;have hb':s1.heap.objs.size<=b:=by
   rcases List.mem_cons.mp hb with rfl | hb
   .omega
   .rcases List.mem_cons.mp hb with rfl | hb
    .exact Nat.le_refl _
    .cases hb
  exact I1.fpOk hb' (I1.hok.fresh hb')
def numbered (n:Nat):List D->List D
 | []=>[]
 | d::ds=>.tup [.int n,d]::numbered (n+1) ds
theorem zfM:∀ (ds:List D) (n:Nat),(numbered n ds).length=ds.length
 | [],_=>rfl
 | d::ds,n=>by simp [numbered,zfM ds]
theorem zfN:∀ (ds:List D) (n i:Nat),(numbered n ds)[i]?=(ds[i]?).map fun d=>D.tup [.int (n+i:Nat),d]
 | [],_,_=>by simp [numbered]
 | d::ds,n,0=>by simp [numbered]
 | d::ds,n,i+1=>by simp only[numbered,List.getElem?_cons_succ];rw[zfN ds (n+1) i,show n+1+i=n+(i+1) by omega]
noncomputable def zzN (f:Ev->Res D):Ev->Res (List D):=fun ρ=>(f ρ).bind fun d=>match d with
 | .lst ds=>.ok (numbered 0 ds)
 | _=>.stuck
theorem zyb {K:W.Frag}{H Ha:Hp}{p:Addr}{vs:List V}{ds:List D}(hs:zaA Ha H)(hp:H p=none)(r:Reps K Ha ds vs):∃ H₀2,zbj H Ha (upd H p (.tup vs)) H₀2/\Rep K H₀2 (.tup ds) (.ref p) :=
 ⟨upd Ha p (.tup vs),zaI hs hp,zau.mpr ⟨p,vs,rfl,SqT.of zar,r.mono (zaI (o:=.tup vs) hs hp).z⟩⟩
theorem zqc {p pos:Pos}(hg:Gl X "enumerate")(hm:X.mg "enumerate"=none)(h:DE X E a f)(hn:nst a=true:=by exact rfl):DI X E (.Tuple elts k tp) (.Call (.Name "enumerate" p) [a] [] pos) (zzN f):=by
 refine⟨zh7 (zyy hg hm (zdZ h.o zg7 (zeP hn)) (zeP hn)) fun σ H R ⟨Ha,ρ,hs,hr,q⟩=>⟨Ha,ρ,hs,hr,?_⟩⟩;unfold zzN at q;cases e1:f ρ with
 | stuck=>rw[e1] at q;exact q
 | exn x=>rw[e1] at q;exact q
 | ok d =>
  rw[e1] at q;intro v H1 H01 g1 r1;cases d with
  | lst ds =>
   obtain⟨l,vs,rfl,hv,hrv⟩:=zan.mp r1;refine⟨l,rfl,⟨vs,zaA.sqL g1.sub hv⟩,q _ H1 H01 g1 ⟨fun i H' Ha' s1 s2 hi=>?_,fun i H' Ha' x H2 d s1 s2 hd hy=>?_,fun i H' Ha' s1 s2 hi=>?_⟩⟩
   .rw[zfM] at hi
    exact⟨vs,vs[i]'(by rw[← hrv.length];exact hi),zaA.sqL (s1.trans s2) hv,by simp⟩
   .obtain⟨p,y,hp,rfl,hy,rfl⟩:=hy
    rw[zfN] at hd;cases ei:ds[i]? with
    | none=>rw[ei] at hd;cases hd
    | some d' =>
     rw[ei] at hd;cases hd;obtain⟨u,k1,k2⟩:=hrv.get ei;have:=hy vs (zaA.sqL (s1.trans s2) hv);rw[k1] at this;cases this;exact zyb s2 hp (Reps.cons (zah.mpr (by simp)) (Reps.cons (k2.mono s1) Reps.nil))
   .rw[zfM] at hi
    exact⟨vs,zaA.sqL (s1.trans s2) hv,by rw[← hrv.length];exact hi⟩
  | _=>exact q.elim
end
section
variable {X:Cx}{E:XK}{elts:List Expr}{k:Nat}{tp:Pos}{e a b:Expr}{f g:Ev->Res D}
end
noncomputable def zzc (f:Str):List Str->List D->Option D
 | k::ks,d::ds=>if f=k then some d else zzc f ks ds
 | _,_=>none
noncomputable def zED (f:Str) (x:D):Res D:=match x with
 | .ob (.ins c ks) ds=>match zzc f ks ds with
  | some d=>.ok d
  | none=>.stuck
 | _=>.stuck
section
variable {X:Cx}{E:XK}{e a b o:Expr}{es:List Expr}{fe fo:Ev->Res D}{fa:Ev->Res (List D)}{pos:Pos}
noncomputable def zEs (c:Str) (ks:List Str) (ds:List D):Res D:=if ds.length=ks.length then .ok (.ob (.ins c ks) ds) else .stuck
def zgv:List D->Option (List Int)
 | []=>some []
 | .int x::r=>(zgv r).map (x::·)
 | _=>none
theorem zqT {K:W.Frag}{H:Hp}:∀ {ds:List D}{ys:List Int}{vs:List V}{us:List Value},zgv ds=some ys->Reps K H ds vs->zbO vs us->IntsAre us ys
 | [],ys,vs,us,h,r,q=>by
  cases h;rw[Reps.nil_iff.mp r] at q;cases q;exact .nil
 | d::ds,ys,vs,us,h,r,q=>by
  obtain⟨v,r',rfl,h1,h2⟩:=zap.mp r;cases q with
  | cons q1 q2 =>
   cases d with
   | int x =>
    unfold zgv at h;cases e:zgv ds with
    | none=>rw[e] at h;cases h
    | some zs =>
     rw[e] at h;cases h;rw[zah.mp h1] at q1;obtain⟨t,rfl⟩:=q1;exact .cons _ _ (zqT e h2 q2)
   | _=>cases h
def zxo (a:Int):List Int->List Int
 | []=>[a]
 | b::l=>if a<=b then a::b::l else b::zxo a l
def zgJ:List Int->List Int
 | []=>[]
 | a::l=>zxo a (zgJ l)
theorem zjZ (a:Int):∀ l:List Int,(zxo a l).Perm (a::l)
 | []=>by unfold zxo;exact .refl _
 | b::l=>by
  unfold zxo;split
  .exact .refl _
  .exact((zjZ a l).cons b).trans (.swap a b l)
theorem zdQ:∀ l:List Int,(zgJ l).Perm l
 | []=>.refl _
 | a::l=>by unfold zgJ;exact(zjZ a _).trans ((zdQ l).cons a)
theorem zjY (a:Int):∀ l:List Int,l.Pairwise (·<=·)->(zxo a l).Pairwise (·<=·)
 | [],_=>by simp [zxo]
 | b::l,h=>by
  rw[List.pairwise_cons] at h;unfold zxo;split
  .rename_i c
   refine List.pairwise_cons.mpr ⟨fun x hx=>?_,List.pairwise_cons.mpr h⟩;rcases List.mem_cons.mp hx with rfl | hx
   .exact c
   .exact Int.le_trans c (h.1 x hx)
  .rename_i c
   refine List.pairwise_cons.mpr ⟨fun x hx=>?_,zjY a l h.2⟩;rcases List.mem_cons.mp ((zjZ a l).mem_iff.mp hx) with rfl | hx
   .omega
   .exact h.1 x hx
theorem zfB:∀ l:List Int,(zgJ l).Pairwise (·<=·)
 | []=>.nil
 | a::l=>by unfold zgJ;exact zjY a _ (zfB l)
noncomputable def zw7 (K:W.Frag):List V->Hp->VK->Prop:=fun xs H Q=>∃ p ds ns,xs=[.ref p]/\Rep K H (.lst ds) (.ref p)/\zgv ds=some ns/\ns.length < 64/\∀ l,H l=none->Q (.ref l) (upd H l (.lst ((zgJ ns).map V.int)))
theorem zfy:∀ {us:List Value}{ns:List Int},IntsAre us ns->zbO (ns.map V.int) us
 | _,_,.nil=>.nil
 | _,_,.cons _ t h=>.cons ⟨_,rfl⟩ (zfy h)
theorem zqS:∀ {us:List Value}{ns:List Int},IntsAre us ns->us.length=ns.length
 | _,_,.nil=>rfl
 | _,_,.cons _ _ h=>by simp [zqS h]
theorem zmo:zhU X (.builtin "sorted") (zw7 X.K):=by
 intro pins s σ H xs us Q I r h;obtain⟨p,ds,ns,rfl,hr,hi,hl,q⟩:=h;obtain⟨u,rfl,ru⟩:=r.one;obtain⟨a,vs,its,ea,rfl,h1,h2,h3,h4,_⟩:=zaG I hr ru;have hI:=zqT hi h2 h3;refine sorted_ints h4 hI (by rw[zqS hI];exact hl) fun out ns' a1 a2 a3=>?_;obtain⟨e,he⟩:=sortedAll_at s.heap its out;have en:ns'=zgJ ns:=W.ksm_same (a2.trans (zdQ ns).symm) a3 (zfB ns);subst en;have hz:(zgJ ns).length=ns.length:=(zdQ ns).length_eq;refine⟨.ref (s.heap.objs.size+1),upd H (s.heap.objs.size+1) (.lst ((zgJ ns).map V.int)),I.laid (o:=.lst ((zgJ ns).map V.int)) (t':=s.toks) (fun b o e=>sortedAll_old e) (Nat.le_succ _) ⟨?_,out.toList,e,zfy a1,?_⟩,rfl,q _ (I.hok.fresh (Nat.le_succ _))⟩
 .rw[List.length_map,hz];exact Nat.le_trans (Nat.le_of_lt hl) (by decide)
 .simpa [seqObj] using he
noncomputable def zu9 (x:D):Res D:=match x with
 | .lst ds=>match zgv ds with
  | some ns=>if ns.length < 64 then .ok (.lst ((zgJ ns).map D.int)) else .stuck
  | none=>.stuck
 | _=>.stuck
theorem zvf:zhV X E (zw7 X.K) (m1 zu9):=zpi fun x v H Ha Q hs r q=>by
 cases x with
 | lst ds =>
  unfold zu9 at q;cases e:zgv ds with
  | none=>simp only[e] at q;exact q.elim
  | some ns =>
   simp only[e] at q
   by_cases c:ns.length < 64
   .rw[if_pos c] at q
    obtain⟨p,vs,rfl,h1,h2⟩:=zan.mp r;exact⟨p,ds,ns,rfl,r.mono hs,e,c,fun l hl=>q _ _ _ (zaI hs hl) (zan.mpr ⟨l,_,rfl,SqL.of zar,zlr _⟩)⟩
   .rw[if_neg c] at q;exact q.elim
 | _=>exact q.elim
def zEw (x:D)(ds:List D):Option Nat:=ds.findIdx? fun d=>eqD d x
noncomputable def zva (x y:D):Res D:=match x with
 | .lst ds=>if zbo 40 y=true/\ds.all (zbo 40)=true then match zEw y ds with
   | some j=>.ok (.int j)
   | none=>.stuck
  else .stuck
 | _=>.stuck
noncomputable def zzw (fo:Ev->Res D) (fe:Ev->Res D):Ev->Res D:=fun ρ=>(fo ρ).bind fun x=>match x with
 | .lst ds=>(fe ρ).bind fun y=>zva (.lst ds) y
 | _=>.stuck
end
section
variable {X:Cx}{E:XK}{He H0e:Hp}{e:Expr}{es:List Expr}{f:Ev->Res D}{fa:Ev->Res (List D)}{pos:Pos}
noncomputable def aFr (f:Ev->Res D) (fa:Ev->Res (List D)):Ev->Res (List D):=fun ρ=>(f ρ).bind fun x=>match x with
 | .lst ds=>(fa ρ).bind fun xs=>.ok (.lst ds::xs)
 | _=>.stuck
def zEv:Sl->Bool
 | .ox _ _=>true
 | _=>false
def zEq (i:Nat)(ρ:Ev):Bool:=(ρ.set i .no).all fun s=>!(zEv s)
noncomputable def zDJ (i j:Nat) (ρ:Ev) (ds:List D):Res Fl:=match ds[j]? with
 | some (.lst _)=>if ds.length<=line/\zEq i ρ=true then .ok (.nx (ρ.set i (.ox j ds))) else .stuck
 | _=>.stuck
def zCC (i j:Nat)(fa:Ev->Res (List D)):Ev->Res Fl:=fun ρ=>(fa ρ).bind (zDJ i j ρ)
noncomputable def zzA (i j:Nat) (ρ:Ev) (s:Option Sl):Res Fl:=match s with
 | some (.ox j' ds)=>if j'=j then .ok (.nx (ρ.set i (.ox j (ds.set j (.lst []))))) else .stuck
 | _=>.stuck
def zAu (i j:Nat):Ev->Res Fl:=fun ρ=>zzA i j ρ ρ[i]?
end
end DL
namespace Com
open PySem L2 DL
def zBm (tg:Ev->D->Res Ev)(s:Ev->Res Fl)(ρ:Ev)(ds:List D):Res Fl:=zd2 tg s ds ρ
def zAg (d:D):Res (List D):=match d with
 | .lst ds=>.ok (numbered 0 ds)
 | _=>.stuck
def zAf (d:D):Res (List D):=match d with
 | .lst ds=>.ok ds
 | _=>.stuck
def zAe (d:D):Res (List D):=match d with
 | .tup ds=>.ok ds
 | _=>.stuck
noncomputable def ziq (n:Nat) (fr:List Nat) (tg:Ev->D->Res Ev) (tt fe:Ev->Res D) (ρ:Ev) (ds:List D):Res D:=if ds.length<=line then match zbt (zdy n fr ρ) tg tt fe ds with
  | .ok es=>.ok (.lst es)
  | _=>.stuck
 else .stuck
noncomputable def liK (fe:Ev->Res D) (ρ:Ev) (x:D):Res D:=match x with
 | .lst ds=>(fe ρ).bind (zva (.lst ds))
 | _=>.stuck
def zvd (x:D)(xs:List D):Res (List D):=.ok (x::xs)
noncomputable def frK (fa:Ev->Res (List D)) (ρ:Ev) (x:D):Res (List D):=match x with
 | .lst ds=>(fa ρ).bind (zvd (.lst ds))
 | _=>.stuck
theorem zq6 {x:D}{xs:List D}:zvd x xs=.ok (x::xs):=zat rfl
noncomputable def zzb (tg:Ev->D->Res Ev) (s:Ev->Res Fl) (ρ:Ev) (d:D):Res Fl:=match d with
 | .int j=>if -4611686018427387904<=j/\j < 4611686018427387904 then zd2 tg s (intsFrom 0 j.toNat) ρ else .stuck
 | _=>.stuck
section
variable {s t:Ev->Res Fl}{f g h:Ev->Res D}{src:Ev->Res (List D)}{fa:Ev->Res (List D)}{ρ r:Ev}{i j n:Nat}{d x y:D}{ds es xs:List D}{a b:Int}{tg:Ev->D->Res Ev}{tt fe:Ev->Res D}{fr:List Nat}
theorem znf:znT src tg s ρ=(src ρ).bind (zBm tg s ρ):=zat rfl
theorem zjk:zBm tg s ρ ds=zd2 tg s ds ρ:=zat rfl
theorem znb:zzN f ρ=(f ρ).bind zAg:=zat rfl
theorem zjj:zAg (.lst ds)=.ok (numbered 0 ds):=zat rfl
theorem zna:zvz f ρ=(f ρ).bind zAf:=zat rfl
theorem zji:zAf (.lst ds)=.ok ds:=zat rfl
theorem zm9:zEi f ρ=(f ρ).bind zAe:=zat rfl
theorem zjh:zAe (.tup ds)=.ok ds:=zat rfl
theorem znj:zeN n fr src tg tt fe ρ=(src ρ).bind (ziq n fr tg tt fe ρ):=zat rfl
theorem zq9 {c f:Str}{ks:List Str}:zED f (.ob (.ins c ks) ds)=(match zzc f ks ds with | some d=>.ok d | none=>.stuck):=zat rfl
theorem zni {f k:Str}{ks:List Str}:zzc f (k::ks) (d::ds)=if f=k then some d else zzc f ks ds:=zat rfl
theorem znh {f:Str}:zzc f (f::ks) (d::ds)=some d:=by unfold zzc;rw[if_pos rfl]
theorem zng {c:Str}{ks:List Str}(h:(ds.length==ks.length)=true):zEs c ks ds=.ok (.ob (.ins c ks) ds):=if_pos (eq_of_beq h)
theorem zwF:zzw f g ρ=(f ρ).bind (liK g ρ):=zat rfl
theorem zq4:liK g ρ (.lst ds)=(g ρ).bind (zva (.lst ds)):=zat rfl
theorem zsb {is:List Nat}(h:(ds.length==is.length)=true):zm7 is ρ (.tup ds)=.ok (zdT ρ is ds):=by
 show(match (if ds.length=is.length then some ds else none) with | some ds=>Res.ok (zdT ρ is ds) | none=>.stuck)=_;rw[if_pos (eq_of_beq h)]
theorem zq8:aFr f fa ρ=(f ρ).bind (frK fa ρ):=zat (by unfold aFr;cases f ρ with | ok x=>cases x<;>rfl | _=>rfl)
theorem zq7:frK fa ρ (.lst ds)=(fa ρ).bind (zvd (.lst ds)):=zat rfl
theorem znd:zCC i j fa ρ=(fa ρ).bind (zDJ i j ρ):=zat rfl
theorem zjl:zAu i j ρ=zzA i j ρ ρ[i]?:=zat rfl
theorem zhr:zzA i j ρ (some (.ox j ds))=.ok (.nx (ρ.set i (.ox j (ds.set j (.lst []))))):=if_pos rfl
theorem zwH:zdN i ρ d=.ok (ρ.set i (.sh d)):=zat rfl
theorem zkI:zvW f tg s ρ=(f (shr ρ)).bind (zzb tg s ρ):=zat rfl
theorem zqX {k:Nat}(h:k<=1000000):zzb tg s ρ (.int (k:Int))=zd2 tg s (intsFrom 0 k) ρ:=by
 unfold zzb;dsimp only;rw[if_pos ⟨by omega,by omega⟩,Int.toNat_natCast]
theorem zq2 {l h:Option Int}(c:(HT.sIx ds.length 0 l==0&&HT.sIx ds.length ds.length h==ds.length)=false):zzO (.tup ds) l h=.ok (.tup (zlI ds l h)):=by
 show(if _ then _ else _)=_;rw[if_neg (fun z=>by rw[z.1,z.2] at c;simp at c)]
theorem zik {x:D}(h:decide (ds.length+es.length<=1000)=true):zcP (.tup (x::ds)) (.tup es)=.ok (.tup (x::ds++es)):=by
 refine if_pos ⟨rfl,?_⟩;have:=of_decide_eq_true h;show ds.length+1+es.length<=line;have:(1001:Nat)<=line:=by decide
 omega
theorem znk {x y:Str}(h:decide (x.length+y.length<=1000)=true):zcP (.str x) (.str y)=.ok (.str (x++y)):=if_pos (Nat.le_trans (of_decide_eq_true h) (by decide))
theorem zne {z:Str}(h:decide (z.length<=1000)=true):zgl (.str z)=.ok (.int z.length):=if_pos (Nat.le_trans (of_decide_eq_true h) (by decide))
theorem zwD:zDh (.int a) (.int b)=.ok (.int (if b > a then b else a)):=zat rfl
theorem zwG:zk3 (.bl true)=.ok (.int 1):=zat rfl
theorem zq5:zk3 (.bl false)=.ok (.int 0):=zat rfl
theorem zwE:zsh (.lst ds)=.ok (.lst ds):=zat rfl
theorem zq3:zsh (.tup ds)=.ok (.lst ds):=zat rfl
theorem zl6:zsw (.int 10) (.int 18)=.ok (.int 1000000000000000000):=zat rfl
theorem zwC:zsw (.int 10) (.int 9)=.ok (.int 1000000000):=zat rfl
theorem znq {F:D->D}(hl:ds.length<=1000000)(h:∀ d∈ds,∃ ρ1,tg (zdy n fr ρ) d=.ok ρ1/\tt ρ1=.ok (.bl true)/\fe ρ1=.ok (F d)):ziq n fr tg tt fe ρ ds=.ok (.lst (ds.map F)):=by
 unfold ziq;rw[if_pos (show ds.length<=line from hl),zpf h]
theorem zk6 {B:Ev}{F:D->D}{p:D->Bool}:∀ {ds:List D},(∀ d∈ds,∃ ρ1,tg B d=.ok ρ1/\tt ρ1=.ok (.bl (p d))/\(p d=true->fe ρ1=.ok (F d)))->zbt B tg tt fe ds=.ok ((ds.filter p).map F)
 | [],_=>rfl
 | d::ds,h=>by
  obtain⟨ρ1,h1,h2,h3⟩:=h d List.mem_cons_self;have ih:=zk6 (ds:=ds) fun d hd=>h d (List.mem_cons_of_mem _ hd);unfold zbt;rw[h1,bok,h2,bok];cases hp:p d with
  | true =>
   show(fe ρ1).bind _=_;rw[h3 hp,bok,ih,bok,List.filter_cons_of_pos hp];rfl
  | false =>
   show zbt B tg tt fe ds=_;rw[ih,List.filter_cons_of_neg (by rw[hp];decide)]
theorem zqf {F:D->D}{p:D->Bool}(hl:ds.length<=1000000)(h:∀ d∈ds,∃ ρ1,tg (zdy n fr ρ) d=.ok ρ1/\tt ρ1=.ok (.bl (p d))/\(p d=true->fe ρ1=.ok (F d))):ziq n fr tg tt fe ρ ds=.ok (.lst ((ds.filter p).map F)):=by
 unfold ziq;rw[if_pos (show ds.length<=line from hl),zk6 h]
end
theorem zzK:N60<=2 ^ 200:=by decide
def un (s x:Fra):Fra:=(s.1*x.2+x.1*s.2,s.2*x.2)
theorem zDU {f:Ev->Res D}{tg:Ev->D->Res Ev}{s:Ev->Res Fl}{ρ:Ev}{ds:List D}(h:f ρ=.ok (.lst ds)):zpF f tg s ρ=zd2 tg s ds ρ:=by unfold zpF;rw[h];rfl
end Com
local macro_rules | `(tactic| open_line with[$xs,*])=>`(tactic| simp only[zsa,zoq,zkc,zkb,zka,zj9,zkp,zop,zj8,zot,zkg,zkf,zkK,zho,zua,zoP,zoO,zoD,zkn,zoY,zkm,zkM,zov,zkk,zkj,zhi,zoQ,zog,zoB,zkl,zuo,zun,zoX,zum,zoI,zkL,zhq,zhp,zoZ,zkO,zkN,zt6,zoG,zoF,zoH,zko,zoN,zkH,zkG,zof,zj1,zBq,zj7,zoo,zj6,zj5,zj4,znc,zq8,zq7,zq6,znd,zjl,zhr,zos,zke,zkd,zt5,zoE,zt7,zt3,zon,zom,zol,zoR,zkJ,zhs,zub,zoU,zoT,zoS,zoM,zo0,zoJ,zt9,zt8,zds,zkq,zoC,zl8,zjP,List.map_cons,List.map_nil,List.length_cons,List.length_nil,List.replicate_succ,List.replicate_zero,List.nil_append,List.cons_append,List.getElem?_cons_zero,List.getElem?_cons_succ,List.set_cons_zero,List.set_cons_succ,Nat.sub_zero,Nat.reduceSub,Nat.reduceAdd,Nat.add_zero,Nat.zero_add,Bool.not_true,Bool.not_false,zok,zoL,zfX,ze6,zht,zoK,zj3,zj2,zt4,zor,zt2,zoj,zoi,zoh,zij,zii,zkF,zkE,zkD,zkC,zkB,zkA,zkz,zky,zhn,zhm,zhl,zhk,zkx,zkw,zkv,zku,zkt,zks,decide_true,decide_false,Nat.reduceLeDiff,Nat.reduceBEq,Int.reduceBEq,beq_self_eq_true,DL.dOne,DL.mYes,zcv,zda,zcx,zcu,zct,zcw,zcy,zc5,zdx,zc7,zc4,zc3,zc6,zc8,zcY,zdw,zc0,zcX,zcW,zcZ,zc1,zbZ,zcg,zb1,zbY,zbX,zb0,zb2,zcj,zc2,zcl,zci,zch,zck,zcm,zcp,zc9,zcr,zco,zcn,zcq,zcs,zeG,zd5,zfW,zeD,zeI,zd7,zeF,zd4,zeE,zd3,zeH,zd6,zeJ,zd8,zul,zuk,zuj,zui,zuh,zug,zuf,zue,zud,zuc,zoW,zoV,Int.reduceLT,Int.reduceLE,Int.reduceSub,Int.reduceAdd,Int.reduceMul,Int.reduceNeg,zkr,zhj,zoA,zoz,zoy,zox,zow,zou,zki,zkh,Int.reduceToNat,Bool.and_self,znf,zjk,znb,zjj,zna,zji,zm9,zjh,znj,zq9,zni,znh,zng,zwF,zq4,zsb,zkI,zq2,zik,znk,zne,zwD,zwG,zq5,zwE,zq3,zwH,zl6,zwC,$[$xs:term],*])
local macro_rules | `(tactic| open_line with[$xs,*] seeing $h)=>`(tactic| simp only[zsa,zoq,zkc,zkb,zka,zj9,zkp,zop,zj8,zot,zkg,zkf,zkK,zho,zua,zoP,zoO,zoD,zkn,zoY,zkm,zkM,zov,zkk,zkj,zhi,zoQ,zog,zoB,zkl,zuo,zun,zoX,zum,zoI,zkL,zhq,zhp,zoZ,zkO,zkN,zt6,zoG,zoF,zoH,zko,zoN,zkH,zkG,zof,zj1,zBq,zj7,zoo,zj6,zj5,zj4,znc,zq8,zq7,zq6,znd,zjl,zhr,zos,zke,zkd,zt5,zoE,zt7,zt3,zon,zom,zol,zoR,zkJ,zhs,zub,zoU,zoT,zoS,zoM,zo0,zoJ,zt9,zt8,zds,zkq,zoC,zl8,zjP,List.map_cons,List.map_nil,List.length_cons,List.length_nil,List.replicate_succ,List.replicate_zero,List.nil_append,List.cons_append,List.getElem?_cons_zero,List.getElem?_cons_succ,List.set_cons_zero,List.set_cons_succ,Nat.sub_zero,Nat.reduceSub,Nat.reduceAdd,Nat.add_zero,Nat.zero_add,Bool.not_true,Bool.not_false,zok,zoL,zfX,ze6,zht,zoK,zj3,zj2,zt4,zor,zt2,zoj,zoi,zoh,zij,zii,zkF,zkE,zkD,zkC,zkB,zkA,zkz,zky,zhn,zhm,zhl,zhk,zkx,zkw,zkv,zku,zkt,zks,decide_true,decide_false,Nat.reduceLeDiff,Nat.reduceBEq,Int.reduceBEq,beq_self_eq_true,DL.dOne,DL.mYes,zcv,zda,zcx,zcu,zct,zcw,zcy,zc5,zdx,zc7,zc4,zc3,zc6,zc8,zcY,zdw,zc0,zcX,zcW,zcZ,zc1,zbZ,zcg,zb1,zbY,zbX,zb0,zb2,zcj,zc2,zcl,zci,zch,zck,zcm,zcp,zc9,zcr,zco,zcn,zcq,zcs,zeG,zd5,zfW,zeD,zeI,zd7,zeF,zd4,zeE,zd3,zeH,zd6,zeJ,zd8,zul,zuk,zuj,zui,zuh,zug,zuf,zue,zud,zuc,zoW,zoV,Int.reduceLT,Int.reduceLE,Int.reduceSub,Int.reduceAdd,Int.reduceMul,Int.reduceNeg,zkr,zhj,zoA,zoz,zoy,zox,zow,zou,zki,zkh,Int.reduceToNat,Bool.and_self,znf,zjk,znb,zjj,zna,zji,zm9,zjh,znj,zq9,zni,znh,zng,zwF,zq4,zsb,zkI,zq2,zik,znk,zne,zwD,zwG,zq5,zwE,zq3,zwH,zl6,zwC,$[$xs:term],*] at $(⟨h⟩):ident)
namespace Com
open PySem L2 DL
theorem zgh {a b:Int}(ha:0<=a)(hb:0 < b):0<=(low a b).1:=Int.ediv_nonneg ha (by omega)
theorem zy4 {a b:Int}(ha:0 < a)(hb:0 < b):0 < (low a b).1:=by
 have hg:0 < (Int.gcd a b:Int):=zid (by omega);have hd:(Int.gcd a b:Int)∣a:=Int.gcd_dvd_left ..;exact Int.ediv_pos_of_pos_of_dvd ha (by omega) hd
theorem zBn {a:Int}(h0:0<=a)(h1:a < (N60:Int)):zgo (a,1):=⟨⟨by show(1:Int)<=1;decide,by show Int.gcd a 1=1;exact Int.gcd_one_right ..⟩,by show a.natAbs < N60;omega,by show(1:Int).natAbs < N60;decide⟩
theorem zDT {a:Int}(h0:0<=a)(h1:a < (N60:Int)):a.natAbs < B13:=Nat.lt_of_lt_of_le (show a.natAbs < N60 by omega) zzJ
theorem ztX {i:Nat}{body:Ev->Res Fl}(P:Nat->Ev->Prop){n:Nat}(h:∀ k,k < n->∀ ρ,P k ρ->∃ ρ2,body (ρ.set i (.sh (.int (k:Int))))=.ok (.nx ρ2)/\P (k+1) ρ2){ρ:Ev}(h0:P 0 ρ):∃ ρ',zd2 (zdN i) body (intsFrom 0 n) ρ=.ok (.nx ρ')/\P n ρ':=by
 have key:∀ (m k:Nat) (ρ:Ev),k+m=n->P k ρ->∃ ρ',zd2 (zdN i) body ((intsFrom 0 n).drop k) ρ=.ok (.nx ρ')/\P n ρ':=by
  intro m
  induction m with
  | zero =>
   intro k ρ hk hp;have:k=n:=by omega
   subst this;rw[zwu];exact⟨ρ,rfl,hp⟩
  | succ m ih =>
   intro k ρ hk hp;obtain⟨ρ2,h1,h2⟩:=h k (by omega) ρ hp;rw[ztQ (by omega),zfR (tg:=zdN i) rfl h1];exact ih (k+1) ρ2 (by omega) h2
 exact key n 0 ρ (by omega) h0
theorem zp2 {tg:Ev->D->Res Ev}{body:Ev->Res Fl}{ds:List D}(P:Nat->Ev->Prop)(h:∀ k d,ds[k]?=some d->∀ ρ,P k ρ->∃ ρ1 ρ2,tg ρ d=.ok ρ1/\body ρ1=.ok (.nx ρ2)/\P (k+1) ρ2){ρ:Ev}(h0:P 0 ρ):∃ ρ',zd2 tg body ds ρ=.ok (.nx ρ')/\P ds.length ρ':=by
 have key:∀ (m k:Nat) (ρ:Ev),k+m=ds.length->P k ρ->∃ ρ',zd2 tg body (ds.drop k) ρ=.ok (.nx ρ')/\P ds.length ρ':=by
  intro m
  induction m with
  | zero =>
   intro k ρ hk hp;have:k=ds.length:=by omega
   subst this;rw[List.drop_length];exact⟨ρ,rfl,hp⟩
  | succ m ih =>
   intro k ρ hk hp;have hlt:k < ds.length:=by omega
   obtain⟨ρ1,ρ2,h1,h2,h3⟩:=h k ds[k] (List.getElem?_eq_getElem hlt) ρ hp;rw[List.drop_eq_getElem_cons hlt,zfR h1 h2];exact ih (k+1) ρ2 (by omega) h3
 exact key ds.length 0 ρ (by omega) h0
structure Drawn (sz vs:List Int):Prop where
 len:vs.length=sz.length
 bnd:∀ (i:Nat) (v s:Int),vs[i]?=some v->sz[i]?=some s->0<=v/\v < s
theorem Drawn.at {sz vs:List Int}(W:Drawn sz vs)(i:Nat){s:Int}(h:sz[i]?=some s):∃ v,vs[i]?=some v/\(0<=v/\v < s)/\dIx (.lst (vs.map D.int)) (.int (i:Int))=.ok (.int v):=by
 have hi:i < vs.length:=by rw[W.len];exact(List.getElem?_eq_some_iff.mp h).1
 refine⟨vs[i],List.getElem?_eq_getElem hi,W.bnd i _ _ (List.getElem?_eq_getElem hi) h,zjW ?_⟩;rw[List.getElem?_map,List.getElem?_eq_getElem hi];rfl
theorem zqj:("abcdefghijklmnopqrstuvwxyz" : Str).cps.toList=(List.range 26).map (97 + ·):=by decide +kernel
theorem zB1:∀ n,n < 26->zoc (97+n)=true:=by decide +kernel
theorem zB0 {v:Int}(h0:0<=v)(h1:v < 26):dIx (.str "abcdefghijklmnopqrstuvwxyz") (.int v)=.ok (.str ⟨#[97+v.toNat]⟩):=by
 obtain⟨n,rfl⟩:=Int.eq_ofNat_of_zero_le h0;have hn:n < 26:=by omega
 have e:atI ("abcdefghijklmnopqrstuvwxyz" : Str).cps.toList ((n:Nat):Int)=some (97+n):=zbf (by rw[zqj];simp [hn]);show(if("abcdefghijklmnopqrstuvwxyz" : Str).length<=line then(match atI ("abcdefghijklmnopqrstuvwxyz" : Str).cps.toList ((n:Nat):Int) with | some c=>Res.ok (D.str ⟨#[c]⟩) | none=>.stuck) else .stuck)=_;rw[if_pos (by decide),e];rfl
theorem ztL:∀ cs:List Nat,Str.join "" (cs.map fun c=>(⟨#[c]⟩:Str))=⟨cs.toArray⟩
 | []=>rfl
 | [c]=>rfl
 | c::d::cs=>by
  show(⟨#[c]⟩:Str)++""++Str.join "" ((d::cs).map fun c=>(⟨#[c]⟩:Str))=_;rw[ztL (d::cs)];apply Str.ext';show(#[c]++("" : Str).cps)++(d::cs).toArray=_;have:("" : Str).cps=#[]:=rfl;rw[this];simp
theorem zsN:∀ cs:List Nat,zgp (cs.map fun c=>D.str ⟨#[c]⟩)=some (cs.map fun c=>(⟨#[c]⟩:Str))
 | []=>rfl
 | c::cs=>by
  show(zgp (cs.map fun c=>D.str ⟨#[c]⟩)).map _=_;rw[zsN cs];rfl
theorem zr5 {cs:List Nat}(h:cs.length<=1000):zm4 "" [.lst (cs.map fun c=>D.str ⟨#[c]⟩)]=.ok (.str ⟨cs.toArray⟩):=by
 have fit:zfQ "" (cs.map fun c=>(⟨#[c]⟩:Str))=true:=by
  unfold zfQ;have e:((cs.map fun c=>(⟨#[c]⟩:Str)).map (·.length)).sum=cs.length:=by
   clear h
   induction cs with
   | nil=>rfl
   | cons c cs ih =>
    simp only[List.map_cons,List.sum_cons,List.length_cons,ih];show 1+cs.length=_;omega
  rw[e,Bool.and_eq_true];exact⟨by decide,decide_eq_true (by rw[List.length_map];omega)⟩
 show(match zgp (cs.map fun c=>D.str ⟨#[c]⟩) with | some ys=>if zfQ "" ys=true then Res.ok (D.str (Txt.join "" ys)) else .stuck | none=>.stuck)=_;rw[zsN];show(if zfQ "" _=true then Res.ok (D.str (Txt.join "" _)) else .stuck)=_;rw[if_pos fit];show Res.ok (D.str (Builtin.Str.glued "" _))=_;rw[StrLaws.glued_eq_join,ztL]
structure zlu (zs:List Str):Prop where
 nd:zs.Nodup
 nm:∀ z∈zs,nameB z=true
theorem zBP (a:List Nat):(⟨a.toArray⟩:Str).length=a.length:=by show a.toArray.size=_;simp
structure Tie where
 a:Str
 b:Str
 w:Str
 l:Fra
 o:Option Fra
def zaz:Option Fra->D
 | none=>.non
 | some x=>fr x
def zbS (t:Tie):D:=.tup [.str t.a,.str t.b,.str t.w,fr t.l,zaz t.o]
structure zqk (zs:List Str) (t:Tie):Prop where
 a:t.a∈zs
 b:t.b∈zs
 ne:t.a≠t.b
 w:t.w="one"∨t.w="both"
 l:zgo t.l
 l0:0<=t.l.1
 o:∀ x,t.o=some x->zgo x/\0 < x.1
theorem zlL {zs:List Str}{k:Int}(h0:0<=k)(h1:k < zs.length):∃ z,zs[k.toNat]?=some z/\dIx (.lst (zs.map D.str)) (.int k)=.ok (.str z):=by
 obtain⟨n,rfl⟩:=Int.eq_ofNat_of_zero_le h0;have hn:n < zs.length:=by omega
 refine⟨zs[n],by simp [hn],zjW ?_⟩;rw[List.getElem?_map,List.getElem?_eq_getElem hn];rfl
theorem zx4 {k:Int}(h0:0<=k)(h1:k < 2):∃ z:Str,(z="one"∨z="both")/\dIx (.lst [.str "one",.str "both"]) (.int k)=.ok (.str z):=by
 have:k=0∨k=1:=by omega
 rcases this with rfl | rfl
 .exact⟨_,.inl rfl,zij⟩
 .exact⟨_,.inr rfl,zii⟩
theorem zpq {n d e:Int}(h2:2<=n)(d0:0<=d)(d1:d < n)(e0:0<=e)(e1:e < n-1):(0<=(d+1+e).fmod n/\(d+1+e).fmod n < n)/\(d+1+e).fmod n≠d:=by
 refine⟨zfu (by omega),?_⟩;rw[Int.fmod_eq_emod_of_nonneg _ (by omega)]
 by_cases h:d+1+e < n
 .rw[Int.emod_eq_of_lt (by omega) h];omega
 .have:(d+1+e) % n=d+1+e-n:=by
   rw[← Int.sub_emod_right (d+1+e) n,Int.emod_eq_of_lt (by omega) (by omega)]
  rw[this];omega
theorem zjc {α:Type}{zs:List α}(nd:zs.Nodup){i j:Nat}{x y:α}(hi:zs[i]?=some x)(hj:zs[j]?=some y)(hij:i≠j):x≠y:=by
 intro e;subst e;obtain⟨h1,e1⟩:=List.getElem?_eq_some_iff.mp hi;obtain⟨h2,e2⟩:=List.getElem?_eq_some_iff.mp hj;exact hij ((List.getElem_inj nd).mp (e1.trans e2.symm))
noncomputable def zle:Ev->Res Fl :=
 (zaw (zde (zlw (zam (zae (zad 0) zaH) zdm) (zaa (zaa (zad 0) (dC (.int 0)) dIx) (dC (.int 0)) dGe)))
 zao)
def zby:List D->Res D:=zdY 1 zle
noncomputable def zmp:Ev->Res Fl :=
 (zaw (zde (dOr (zaa (zad 0) (dC (.non)) zio) (zlw (zam (zae (zad 0) zaH) zdm) (zaa (zaa (zad 0) (dC (.int 0)) dIx) (dC (.int 0)) dGt))))
 zao)
def zdR:List D->Res D:=zdY 1 zmp
noncomputable def zrw:Ev->Res Fl :=
 (zaw (sIf (dOr (zet (zdG (zad 0) (zdt "tuple"))) (zaa (zam (zae (zad 0) zaH) (m1 zgl)) (dC (.int 5)) dNe))
 (zaw (zde (dC (.bl false)))
 zao)
 zao)
 (zaw (sIf (dOr (zet (zam (zae (zaa (zad 0) (dC (.int 0)) dIx) zaH) zce)) (dOr (zet (zam (zae (zaa (zad 0) (dC (.int 1)) dIx) zaH) zce)) (zaa (zaa (zad 0) (dC (.int 0)) dIx) (zaa (zad 0) (dC (.int 1)) dIx) dEq)))
 (zaw (zde (dC (.bl false)))
 zao)
 zao)
 (zaw (sIf (dOr (zet (zdG (zaa (zad 0) (dC (.int 2)) dIx) (zdt "str"))) (zaa (zaa (zad 0) (dC (.int 2)) dIx) (dC (.tup [(.str "one"),(.str "both")])) zdd))
 (zaw (zde (dC (.bl false)))
 zao)
 zao)
 (zaw (zde (zlw (zam (zae (zaa (zad 0) (dC (.int 3)) dIx) zaH) zby) (zam (zae (zaa (zad 0) (dC (.int 4)) dIx) zaH) zdR)))
 zao))))
def ze2:List D->Res D:=zdY 1 zrw
noncomputable def zfn:Ev->Res Fl :=
 (zaw (sIf (dOr (zet (zdG (zad 0) (zdt "list"))) (zet (zgB dLe dLe (dC (.int 2)) (zam (zae (zad 0) zaH) (m1 zgl)) (dC (.int 7)))))
 (zaw zdh
 zao)
 zao)
 (zaw (znT (zzN (zad 0)) (zm7 [1,2])
 (zaw (sIf (dOr (zet (zam (zae (zad 2) zaH) zce)) (zaa (zad 2) (zxM (zad 0) zft (ze0 (zad 1))) dIn))
 (zaw zdh
 zao)
 zao)
 zao))
 zao))
def zbg:List D->Res D:=zdY 3 zfn
noncomputable def zgE:Ev->Res Fl :=
 (zaw (sIf (dOr (zet (zdG (zad 0) (zdt "list"))) (zaa (zam (zae (zad 0) zaH) (m1 zgl)) (dC (.int 14)) dGt))
 (zaw zdh
 zao)
 zao)
 (zaw (znT (zzN (zad 0)) (zm7 [2,3])
 (zaw (sIf (dOr (zet (zam (zae (zad 3) zaH) ze2)) (dOr (zaa (zaa (zad 3) (dC (.int 0)) dIx) (zad 1) zdd) (zaa (zaa (zad 3) (dC (.int 1)) dIx) (zad 1) zdd)))
 (zaw zdh
 zao)
 zao)
 zao))
 zao))
def zbK:List D->Res D:=zdY 4 zgE
noncomputable def zmr:Ev->Res Fl :=
 (zaw (zde (zlw (zam (zae (zad 0) zaH) zce) (zaa (zad 0) (zad 1) dIn)))
 zao)
def zdn:List D->Res D:=zdY 2 zmr
noncomputable def zhH:Ev->Res Fl :=
 (zaw (sIf (dOr (zet (zdG (zad 0) (zdt "tuple"))) (zaa (zam (zae (zad 0) zaH) (m1 zgl)) (dC (.int 4)) dNe))
 (zaw zdh
 zao)
 zao)
 (zaw (zmR (zam (zae (zaa (zad 0) (dC (.int 0)) dIx) zaH) zbg))
 (zaw (zmR (zam (zae (zaa (zad 0) (dC (.int 1)) dIx) (zae (zaa (zad 0) (dC (.int 0)) dIx) zaH)) zbK))
 (zaw (sIf (zet (zam (zae (zaa (zad 0) (dC (.int 2)) dIx) (zae (zaa (zad 0) (dC (.int 0)) dIx) zaH)) zdn))
 (zaw zdh
 zao)
 zao)
 (zaw (sIf (dOr (zet (zam (zae (zaa (zad 0) (dC (.int 3)) dIx) (zae (zaa (zad 0) (dC (.int 0)) dIx) zaH)) zdn)) (zaa (zaa (zad 0) (dC (.int 3)) dIx) (zaa (zad 0) (dC (.int 2)) dIx) dEq))
 (zaw zdh
 zao)
 zao)
 zao)))))
def zb8:List D->Res D:=zdY 1 zhH
noncomputable def zf6:Ev->Res Fl :=
 (zaw (zde (zlw (zam (zae (zad 1) zaH) zbs) (zgB dLe dLt (dC (.int 0)) (zad 1) (zam (zae (zaa (zad 0) (dC (.int 1)) dIx) zaH) (m1 zgl)))))
 zao)
def zbc:List D->Res D:=zdY 2 zf6
noncomputable def zfm:Ev->Res Fl :=
 (zaw (zmR (zam (zae (zad 0) zaH) zb8))
 (zaw (sIf (zet (zdG (zad 1) (zdt "list")))
 (zaw zdh
 zao)
 zao)
 (zaw (zb6 2 (zdG (dC (.int 1)) zBO))
 (zaw (zpF (zad 1) (zdN 3)
 (zaw (sIf (dOr (zet (zam (zae (zad 0) (zae (zad 3) zaH)) zbc)) (zaa (zad 3) (zad 2) dLe))
 (zaw zdh
 zao)
 zao)
 (zaw (sIf (zaa (zaa (zaa (zaa (zad 0) (dC (.int 1)) dIx) (zad 3) dIx) (dC (.int 4)) dIx) (dC (.non)) zio)
 (zaw zdh
 zao)
 zao)
 (zaw (zb6 2 (zad 3))
 zao))))
 zao))))
def zaT:List D->Res D:=zdY 4 zfm
structure Web where
 ps:List Str
 ts:List Tie
 fi:Str
 la:Str
def zbR (w:Web):D:=.tup [.lst (w.ps.map D.str),.lst (w.ts.map zbS),.str w.fi,.str w.la]
structure zed (w:Web):Prop where
 n2:2<=w.ps.length
 n7:w.ps.length<=7
 nm:zlu w.ps
 t14:w.ts.length<=14
 ts:∀ t∈w.ts,zqk w.ps t
 fi:w.fi∈w.ps
 la:w.la∈w.ps
 ne:w.fi≠w.la
theorem zg9 {z:Str}(h:nameB z=true):zce [.str z]=.ok (.bl true):=by
 have hl:z.length<=8:=by
  unfold nameB at h;simp only[Bool.and_eq_true,decide_eq_true_eq] at h;exact h.2.1
 rw[zr6 (show fit (.str z)=true from decide_eq_true (Nat.le_trans hl (by decide)))];show Res.ok (D.bl (nameB z))=_;rw[h]
theorem zlR {x:Fra}(h:Low x):zdm [fr x]=.ok (.bl true):=by
 rw[zoa];show Res.ok (D.bl (znU (.tup [.int x.1,.int x.2])))=_;have h1:=h.q1;have h2:=h.g1;show Res.ok (D.bl (decide (1<=x.2)&&(Int.gcd x.1 x.2==1)))=_;rw[decide_eq_true h1,h2];rfl
theorem zjV {x:Fra}(h:Low x)(h0:0<=x.1):zby [fr x]=.ok (.bl true):=by
 have e:fr x=.tup [.int x.1,.int x.2]:=rfl;have h1:=zlR h;rw[e] at h1 ⊢;open_line with[zby,zle,h1,decide_eq_true h0,decide_eq_true (show x.1≥0 from h0)]
theorem zrC {o:Option Fra}(h:∀ x,o=some x->Low x/\0 < x.1):zdR [zaz o]=.ok (.bl true):=by
 cases o with
 | none=>rfl
 | some x =>
  obtain⟨hx,h0⟩:=h x rfl;have e:zaz (some x)=.tup [.int x.1,.int x.2]:=rfl;have h1:=zlR hx;rw[show fr x=.tup [.int x.1,.int x.2] from rfl] at h1;rw[e];open_line with[zdR,zmp,h1,decide_eq_true h0]
theorem zup {x y:Str}:dEq (.str x) (.str y)=.ok (.bl (x==y)):=by unfold dEq;rw[if_pos ⟨rfl,rfl⟩,eqD]
theorem zvP {zs:List Str}{t:Tie}(nm:zlu zs)(h:zqk zs t):ze2 [zbS t]=.ok (.bl true):=by
 obtain⟨a,b,w,l,o⟩:=t;obtain⟨ha,hb,hne,hw,hl,hl0,ho⟩:=h;have h1:=zg9 (nm.nm a ha);have h2:=zg9 (nm.nm b hb);have h3:=zjV hl.toLow hl0;have h4:=zrC (o:=o) fun x hx=>⟨(ho x hx).1.toLow,(ho x hx).2⟩
 have h5:(a==b)=false:=beq_eq_false_iff_ne.mpr hne;have h6:zdd (.str w) (.tup [.str "one",.str "both"])=.ok (.bl false):=by
  rcases hw with rfl | rfl<;>rfl
 have e:zbS ⟨a,b,w,l,o⟩=.tup [.str a,.str b,.str w,fr l,zaz o]:=rfl;rw[e];open_line with[ze2,zrw,h1,h2,zup,h5,h6,h3,h4]
theorem zvr {zs:List Str}{z:Str}:(zs.map D.str).any (fun d=>eqD d (.str z))=decide (z∈zs):=by
 induction zs with
 | nil=>rfl
 | cons y zs ih =>
  rw[List.map_cons,List.any_cons,ih];show((y==z)||decide (z∈zs))=_
  by_cases h:y=z
  .subst h;simp
  .have:(y==z)=false:=beq_eq_false_iff_ne.mpr h
   rw[this,Bool.false_or];have:z∈y::zs↔z∈zs:=by simp [Ne.symm h]
   exact decide_eq_decide.mpr this.symm
theorem znQ {n:Nat}{zs:List Str}:(zs.map D.str).all (zbo n)=true:=List.all_eq_true.mpr fun d hd=>by
 obtain⟨z,_,rfl⟩:=List.mem_map.mp hd;cases n<;>rfl
theorem ztS {zs:List Str}{z:Str}:dIn (.str z) (.lst (zs.map D.str))=.ok (.bl (decide (z∈zs))):=by
 have e:inD (.str z) (.lst (zs.map D.str))=some (decide (z∈zs)):=(if_pos ⟨rfl,znQ⟩).trans (congrArg some zvr);unfold dIn;rw[e]
theorem zrU {zs:List Str}{z:Str}:zdd (.str z) (.lst (zs.map D.str))=.ok (.bl (!(decide (z∈zs)))):=by
 have e:inD (.str z) (.lst (zs.map D.str))=some (decide (z∈zs)):=(if_pos ⟨rfl,znQ⟩).trans (congrArg some zvr);unfold zdd;rw[e]
theorem zlU {zs:List Str}{z:Str}(h:nameB z=true)(hz:z∈zs):zdn [.str z,.lst (zs.map D.str)]=.ok (.bl true):=by
 open_line with[zdn,zmr,zg9 h,ztS,decide_eq_true hz]
theorem ziH {α:Type}{F:α->D}{xs:List α}{k:Nat}{d:D}(h:(numbered 0 (xs.map F))[k]?=some d):∃ x,xs[k]?=some x/\d=.tup [.int (k:Int),F x]:=by
 rw[zfN,List.getElem?_map] at h;cases e:xs[k]? with
 | none=>rw[e] at h;cases h
 | some x =>
  rw[e] at h;cases h;exact⟨x,rfl,by simp⟩
theorem zxN {α:Type}{F:α->D}{xs:List α}{k:Nat}(h:k<=xs.length):zlI (xs.map F) none (some (k:Int))=(xs.take k).map F:=by
 rw[zzy,HT.sIx_none,HT.sIx_nat,Nat.min_eq_left h,List.drop_zero,Nat.sub_zero]
theorem ztb {zs:List Str}(h2:2<=zs.length)(h7:zs.length<=7)(nm:zlu zs):zbg [.lst (zs.map D.str)]=.ok .non:=by
 obtain⟨ρ',hl,_⟩:=zp2 (ds:=numbered 0 (zs.map D.str)) (tg:=zm7 [1,2]) (ρ:=[.sh (.lst (zs.map D.str)),.no,.no])
  (body:=(zaw (sIf (dOr (zet (zam (zae (zad 2) zaH) zce)) (zaa (zad 2) (zxM (zad 0) zft (ze0 (zad 1))) dIn)) (zaw zdh zao) zao) zao))
  (fun k ρ=>∃ a b,ρ=[.sh (.lst (zs.map D.str)),a,b]) (by
   rintro k d hd ρ ⟨a,b,rfl⟩;obtain⟨z,hz,rfl⟩:=ziH hd;refine⟨_,[.sh (.lst (zs.map D.str)),.sh (.int (k:Int)),.sh (.str z)],zsb rfl,?_,_,_,rfl⟩;have hk:k < zs.length:=(List.getElem?_eq_some_iff.mp hz).1;have hnot:decide (z∈zs.take k)=false:=decide_eq_false fun hm=>by
    obtain⟨j,hj⟩:=List.mem_iff_getElem?.mp hm;have hjk:j < k:=by have:=(List.getElem?_eq_some_iff.mp hj).1;simp at this;omega
    rw[List.getElem?_take_of_lt hjk] at hj;exact zjc nm.nd hj hz (by omega) rfl
   open_line with[zg9 (nm.nm z (List.mem_of_getElem? hz)),zxN (Nat.le_of_lt hk),ztS,hnot]) ⟨.no,.no,rfl⟩
 have e1:decide ((2:Int)<=(zs.length:Int))=true:=decide_eq_true (by omega);have e2:decide ((zs.length:Int)<=7)=true:=decide_eq_true (by omega);open_line with[zbg,zfn,List.length_map,e1,e2,hl]
theorem zyc {zs:List Str}{ts:List Tie}(h14:ts.length<=14)(nm:zlu zs)(ht:∀ t∈ts,zqk zs t):zbK [.lst (ts.map zbS),.lst (zs.map D.str)]=.ok .non:=by
 obtain⟨ρ',hl,_⟩:=zp2 (ds:=numbered 0 (ts.map zbS)) (tg:=zm7 [2,3]) (ρ:=[.sh (.lst (ts.map zbS)),.sh (.lst (zs.map D.str)),.no,.no])
  (body:=(zaw (sIf (dOr (zet (zam (zae (zad 3) zaH) ze2)) (dOr (zaa (zaa (zad 3) (dC (.int 0)) dIx) (zad 1) zdd) (zaa (zaa (zad 3) (dC (.int 1)) dIx) (zad 1) zdd))) (zaw zdh zao) zao) zao))
  (fun k ρ=>∃ a b,ρ=[.sh (.lst (ts.map zbS)),.sh (.lst (zs.map D.str)),a,b]) (by
   rintro k d hd ρ ⟨a,b,rfl⟩;obtain⟨t,ht',rfl⟩:=ziH hd;refine⟨_,[.sh (.lst (ts.map zbS)),.sh (.lst (zs.map D.str)),.sh (.int (k:Int)),.sh (zbS t)],zsb rfl,?_,_,_,rfl⟩;have hT:=ht t (List.mem_of_getElem? ht');have h1:=zvP nm hT;rw[show zbS t=.tup [.str t.a,.str t.b,.str t.w,fr t.l,zaz t.o] from rfl] at h1 ⊢;open_line with[h1,zrU,decide_eq_true hT.a,decide_eq_true hT.b]) ⟨.no,.no,rfl⟩
 have e1:decide ((14:Int) < (ts.length:Int))=false:=decide_eq_false (by omega);open_line with[zbK,zgE,List.length_map,e1,decide_eq_false (show ¬ (ts.length:Int) > 14 by omega),hl]
theorem zzZ {w:Web}(h:zed w):zb8 [zbR w]=.ok .non:=by
 obtain⟨ps,ts,fi,la⟩:=w;have h1:=ztb h.n2 h.n7 h.nm;have h2:=zyc h.t14 h.nm h.ts;have h3:=zlU (h.nm.nm fi h.fi) h.fi;have h4:=zlU (h.nm.nm la h.la) h.la;have h5:(la==fi)=false:=beq_eq_false_iff_ne.mpr (Ne.symm h.ne);rw[show zbR ⟨ps,ts,fi,la⟩=.tup [.lst (ps.map D.str),.lst (ts.map zbS),.str fi,.str la] from rfl];open_line with[zb8,zhH,h1,h2,h3,h4,zup,h5]
noncomputable def zf5:Ev->Res Fl :=
 (zaw (zb6 1 (dC (.int 1)))
 (zaw (zpF (zad 0) (zdN 2)
 (zaw (zb6 1 (zaa (zaa (zad 1) (zam (zae (zad 1) (zae (zaa (zad 2) (dC (.int 1)) dIx) zaH)) zaU) zpy) (zaa (zad 2) (dC (.int 1)) dIx) zbN))
 zao))
 (zaw (zde (zad 1))
 zao)))
def zbr:List D->Res D:=zdY 3 zf5
noncomputable def zms:Ev->Res Fl :=
 (zaw (zde (zaa (zaa (zad 0) (dC (.int 0)) dIx) (zaa (zad 1) (zaa (zad 0) (dC (.int 1)) dIx) zpy) zbN))
 zao)
def zdo:List D->Res D:=zdY 2 zms
noncomputable def zgC:Ev->Res Fl :=
 (zaw (zb6 1 (zam (zae (zeN 1 [] (zvz (zad 0)) (zdN 0) (zaa (zad 0) (dC (.non)) zdF) (zad 0)) zaH) zbr))
 (zaw (zde (zam (zae (zeN 1 [1] (zvz (zad 0)) (zdN 0) mYes (dIf (zaa (zad 0) (dC (.non)) zio) (dC (.non)) (zam (zae (zad 0) (zae (zad 1) zaH)) zdo))) (zae (zad 1) zaH)) zjR))
 zao))
def zbJ:List D->Res D:=zdY 2 zgC
def zbn (ks:List Nat):D:=.lst (ks.map fun(k:Nat)=>D.int (k:Int))
structure zlq (w:Web) (ks:List Nat):Prop where
 up:ks.Pairwise (· < ·)
 wo:∀ k∈ks,∃ t x,w.ts[k]?=some t/\t.o=some x
theorem zlq.lt {w:Web}{ks:List Nat}(T:zlq w ks):∀ k∈ks,k < w.ts.length:=fun k hk=>by
 obtain⟨t,x,h1,h2⟩:=T.wo k hk;exact(List.getElem?_eq_some_iff.mp h1).1
theorem zz1:∀ {ks:List Nat}{n:Nat},ks.Pairwise (· < ·)->(∀ k∈ks,k < n)->ks.length<=n:=by
 intro ks n h hb;have:∀ (ks:List Nat) (lo:Nat),ks.Pairwise (· < ·)->(∀ k∈ks,lo<=k/\k < n)->lo+ks.length<=n∨ks=[]:=by
  intro ks
  induction ks with
  | nil=>intro lo _ _;exact .inr rfl
  | cons a ks ih =>
   intro lo hp hb;rw[List.pairwise_cons] at hp;have ha:=hb a List.mem_cons_self;rcases ih (a+1) hp.2 (fun k hk=>⟨hp.1 k hk,(hb k (List.mem_cons_of_mem _ hk)).2⟩) with h | h
   .left;simp;omega
   .left;subst h;simp;omega
 rcases this ks 0 h (fun k hk=>⟨Nat.zero_le _,hb k hk⟩) with h | h
 .omega
 .subst h;simp
theorem zqp {w:Web}{k:Nat}{t:Tie}(h:w.ts[k]?=some t):dIx (.lst (w.ts.map zbS)) (.int (k:Int))=.ok (zbS t):=zjW (by rw[List.getElem?_map,h];rfl)
theorem zpT {w:Web}{k:Nat}(h:k < w.ts.length):zbc [zbR w,.int (k:Int)]=.ok (.bl true):=by
 rw[show zbR w=.tup [.lst (w.ps.map D.str),.lst (w.ts.map zbS),.str w.fi,.str w.la] from rfl];open_line with[zbc,zf6,zd1,isI,List.length_map,decide_eq_true (show(0:Int)<=(k:Int) by omega),decide_eq_true (show(k:Int) < (w.ts.length:Int) by omega)]
theorem taking_ok {w:Web}{ks:List Nat}(W:zed w)(T:zlq w ks):zaT [zbR w,zbn ks]=.ok .non:=by
 obtain⟨ρ',hl,_⟩:=zp2 (ds:=ks.map fun(k:Nat)=>D.int (k:Int)) (tg:=zdN 3) (ρ:=[.sh (zbR w),.sh (zbn ks),.sh (.int (-1)),.no])
  (body:=(zaw (sIf (dOr (zet (zam (zae (zad 0) (zae (zad 3) zaH)) zbc)) (zaa (zad 3) (zad 2) dLe))
   (zaw zdh zao) zao)
   (zaw (sIf (zaa (zaa (zaa (zaa (zad 0) (dC (.int 1)) dIx) (zad 3) dIx) (dC (.int 4)) dIx) (dC (.non)) zio)
   (zaw zdh zao) zao)
   (zaw (zb6 2 (zad 3)) zao))))
  (fun j ρ=>∃ (ah:Int) (x:Sl),ρ=[.sh (zbR w),.sh (zbn ks),.sh (.int ah),x]/\∀ v∈ks.drop j,ah < (v:Int)) (by
   rintro j d hd ρ ⟨ah,x,rfl,hah⟩;rw[List.getElem?_map] at hd;cases e:ks[j]? with
   | none=>rw[e] at hd;cases hd
   | some k =>
    rw[e] at hd;cases hd;have hj:j < ks.length:=(List.getElem?_eq_some_iff.mp e).1;have hkm:=List.mem_of_getElem? e;obtain⟨t,y,h1,h2⟩:=T.wo k hkm;have hdr:ks.drop j=k::ks.drop (j+1):=by
     rw[List.drop_eq_getElem_cons hj]
     congr 1
     rw[List.getElem?_eq_getElem hj] at e;exact Option.some.inj e
    have hk:ah < (k:Int):=hah k (by rw[hdr];exact List.mem_cons_self);refine⟨_,[.sh (zbR w),.sh (zbn ks),.sh (.int (k:Int)),.sh (.int (k:Int))],rfl,?_,_,_,rfl,fun v hv=>?_⟩
    .have hn:=zpT (T.lt k hkm)
     have hix:=zqp h1;rw[show zbR w=.tup [.lst (w.ps.map D.str),.lst (w.ts.map zbS),.str w.fi,.str w.la] from rfl] at hn ⊢;rw[show zbS t=.tup [.str t.a,.str t.b,.str t.w,fr t.l,zaz t.o] from rfl,h2] at hix;open_line with[hn,decide_eq_false (show ¬ (k:Int)<=ah by omega),hix,zaz,fr,zC7]
    .have hp:(k::ks.drop (j+1)).Pairwise (· < ·):=by rw[← hdr];exact T.up.sublist (List.drop_sublist _ _)
     have:=(List.pairwise_cons.mp hp).1 v hv;omega) ⟨-1,.no,rfl,fun v _=>by omega⟩
 have hw:=zzZ W;unfold zbn at hl ⊢;open_line with[zaT,zfm,hw,hl]
theorem zp1 {x y:Fra}(h1:x.1.natAbs < B60)(h2:x.2.natAbs < B60)(h3:y.1.natAbs < B60)(h4:y.2.natAbs < B60):zcf [fr x,fr y]=.ok (.bl (flt x y)):=by
 rw[show fr x=.tup [.int x.1,.int x.2] from rfl,show fr y=.tup [.int y.1,.int y.2] from rfl];open_line with[zcf,zpp,zbW (zeA h1 h4),zbW (zeA h3 h2)]
 rfl
def zi7 (b:Int)(x:Fra):Int:=b / (Int.gcd b x.2:Int)*x.2
def bot (xs:List Fra):Int:=xs.foldl zi7 1
structure zss (k:Nat) (b:Int):Prop where
 pos:0 < b
 bd:b.natAbs<=2 ^ (200*k)
theorem zpI {k:Nat}(h:k<=60):2 ^ (200*k) < B13:=by rw[zmH];exact Nat.pow_lt_pow_right (by decide) (by omega)
theorem zqW {a b:Int}(h:b≠0):0 < (Int.gcd a b:Int):=zid h
theorem zss.step {k:Nat}{b:Int}{x:Fra}(h:zss k b)(hx:zgo x):zss (k+1) (zi7 b x)/\b∣zi7 b x/\x.2∣zi7 b x:=by
 have q1:=hx.q1;have hg:0 < (Int.gcd b x.2:Int):=zqW (by omega);have hd:(Int.gcd b x.2:Int)∣b:=Int.gcd_dvd_left ..;have hd2:(Int.gcd b x.2:Int)∣x.2:=Int.gcd_dvd_right ..;have hq:0 < b / (Int.gcd b x.2:Int):=Int.ediv_pos_of_pos_of_dvd h.pos (by omega) hd;refine⟨⟨Int.mul_pos hq (by omega),?_⟩,?_,⟨b / (Int.gcd b x.2:Int),by unfold zi7;rw[Int.mul_comm]⟩⟩
 .unfold zi7
  rw[Int.natAbs_mul,show 200*(k+1)=200*k+200 by omega,Nat.pow_add];refine Nat.mul_le_mul (Nat.le_trans (Int.natAbs_ediv_le_natAbs _ _) h.bd) (Nat.le_trans (Nat.le_of_lt hx.qN) zzK)
 .obtain⟨c,hc⟩:=hd
  obtain⟨d,hd'⟩:=hd2;refine⟨d,?_⟩;unfold zi7;generalize (Int.gcd b x.2:Int)=g at *;have e1:b / g=c:=by rw[hc];exact Int.mul_ediv_cancel_left c (by omega)
  rw[e1,hd',hc,← Int.mul_assoc,Int.mul_comm c g]
theorem zxR {xs:List Fra}(hx:∀ x∈xs,zgo x):∀ (b:Int) (k:Nat),zss k b->zss (k+xs.length) (xs.foldl zi7 b)/\b∣xs.foldl zi7 b/\∀ x∈xs,x.2∣xs.foldl zi7 b:=by
 induction xs with
 | nil=>intro b k h;exact⟨h,Int.dvd_refl b,fun x hx=>nomatch hx⟩
 | cons x xs ih =>
  intro b k h;obtain⟨h1,h2,h3⟩:=h.step (hx x List.mem_cons_self);obtain⟨k1,k2,k3⟩:=ih (fun y hy=>hx y (List.mem_cons_of_mem _ hy)) _ _ h1;refine⟨?_,Int.dvd_trans h2 k2,fun y hy=>?_⟩
  .rw[List.length_cons,show k+(xs.length+1)=k+1+xs.length by omega];exact k1
  .rcases List.mem_cons.mp hy with rfl | hy
   .exact Int.dvd_trans h3 k2
   .exact k3 y hy
theorem zwV {L:Sl}:∀ (xs:List Fra) (k:Nat) (b:Int) (z:Sl),zss k b->k+xs.length<=60->(∀ x∈xs,zgo x)->∃ z',zd2 (zdN 2) (zaw (zb6 1 (zaa (zaa (zad 1) (zam (zae (zad 1) (zae (zaa (zad 2) (dC (.int 1)) dIx) zaH)) zaU) zpy) (zaa (zad 2) (dC (.int 1)) dIx) zbN)) zao) (xs.map fr) [L,.sh (.int b),z] =
  .ok (.nx [L,.sh (.int (xs.foldl zi7 b)),z']):=by
 intro xs
 induction xs with
 | nil=>intro k b z _ _ _;exact⟨z,rfl⟩
 | cons x xs ih =>
  intro k b z h hk hx;have hxx:=hx x List.mem_cons_self;have q1:=hxx.q1;obtain⟨h1,h2,h3⟩:=h.step hxx;simp only[List.length_cons] at hk;obtain⟨z',hz'⟩:=ih (k+1) _ (.sh (fr x)) h1 (by omega) (fun y hy=>hx y (List.mem_cons_of_mem _ hy));refine⟨z',?_⟩;have hg:0 < (Int.gcd b x.2:Int):=zqW (by omega);have hdiv:zfv b (Int.gcd b x.2:Int)=true:=zkT (by omega) (Nat.lt_of_le_of_lt h.bd (zpI (by omega)));have hb13:(b / (Int.gcd b x.2:Int)).natAbs < B13:=Nat.lt_of_le_of_lt (Nat.le_trans (Int.natAbs_ediv_le_natAbs _ _) h.bd) (zpI (by omega));have hmul:zer (b / (Int.gcd b x.2:Int)) x.2=true:=zeA (Nat.lt_of_lt_of_le hb13 znE) (Nat.lt_of_lt_of_le hxx.qN zvx);rw[List.map_cons,zfR (ρ1:=[L,.sh (.int b),.sh (fr x)]) (ρ2:=[L,.sh (.int (zi7 b x)),.sh (fr x)]) rfl ?_]
  .exact hz'
  .rw[show fr x=.tup [.int x.1,.int x.2] from rfl]
   open_line with[zhC,zl7 hdiv,zeh hg,zbW hmul]
   rfl
theorem zvn {xs:List Fra}(hl:xs.length<=60)(hx:∀ x∈xs,zgo x):zbr [.lst (xs.map fr)]=.ok (.int (bot xs)):=by
 obtain⟨z',hz⟩:=zwV (L:=.sh (.lst (xs.map fr))) xs 0 1 .no ⟨by decide,by decide⟩ (by omega) hx;open_line with[zbr,zf5,hz]
 rfl
def wI (b:Int):Option Fra->D
 | none=>.non
 | some x=>.int (x.1*(b / x.2))
def zgK (os:List (Option Fra)):List Fra:=os.filterMap id
theorem ztB {os:List (Option Fra)}{x:Fra}:x∈zgK os↔some x∈os:=by unfold zgK;simp
theorem zvK {x:Fra}{b:Int}(hx:zgo x)(hb:b.natAbs < B13):zdo [fr x,.int b]=.ok (.int (x.1*(b / x.2))):=by
 have q1:=hx.q1;have hdiv:zfv b x.2=true:=zzn (by omega) (Nat.lt_of_lt_of_le hx.qN zB4);have hmul:zer x.1 (b / x.2)=true:=zeA (Nat.lt_of_lt_of_le hx.pN zvx) (Nat.lt_of_lt_of_le (Nat.lt_of_le_of_lt (Int.natAbs_ediv_le_natAbs _ _) hb) znE);rw[show fr x=.tup [.int x.1,.int x.2] from rfl];open_line with[zdo,zms,zl7 hdiv,zeh (show 0 < x.2 by omega),zbW hmul]
theorem zfC:∀ os:List (Option Fra),(os.map zaz).filter (fun d=>!(zr7 d))=(zgK os).map fr
 | []=>rfl
 | none::os=>by
  rw[List.map_cons,List.filter_cons_of_neg (by decide),zfC os];rfl
 | some x::os=>by
  have:zr7 (zaz (some x))=false:=rfl;rw[List.map_cons,List.filter_cons_of_pos (by rw[this];rfl),zfC os];rfl
theorem zvV {os:List (Option Fra)}(hl:os.length<=60)(hx:∀ x,some x∈os->zgo x):zbJ [.lst (os.map zaz)]=.ok (.tup [.lst (os.map (wI (bot (zgK os)))),.int (bot (zgK os))]):=by
 have hxs:∀ x∈zgK os,zgo x:=fun x h=>hx x (ztB.mp h);have hls:(zgK os).length<=60:=Nat.le_trans (List.length_filterMap_le _ _) hl;have h1:=zvn hls hxs;obtain⟨B,_,_⟩:=zxR hxs 1 0 ⟨by decide,by decide⟩;have hb:(bot (zgK os)).natAbs < B13:=Nat.lt_of_le_of_lt B.bd (zpI (by omega));have c1:ziq 1 [] (zdN 0) (zaa (zad 0) (dC (.non)) zdF) (zad 0) [.sh (.lst (os.map zaz)),.no] (os.map zaz)=.ok (.lst ((zgK os).map fr)):=by
  rw[zqf (F:=id) (p:=fun d=>!(zr7 d)) (by rw[List.length_map];omega)]
  .rw[List.map_id,zfC]
  .intro d hd
   exact⟨[.sh d],rfl,rfl,fun _=>rfl⟩
 have c2:ziq 1 [1] (zdN 0) mYes (dIf (zaa (zad 0) (dC (.non)) zio) (dC (.non)) (zam (zae (zad 0) (zae (zad 1) zaH)) zdo)) [.sh (.lst (os.map zaz)),.sh (.int (bot (zgK os)))] (os.map zaz)=.ok (.lst (os.map (wI (bot (zgK os))))):=by
  rw[znq (F:=fun d=>match d with | .tup [.int p,.int q]=>.int (p*(bot (zgK os) / q)) | _=>.non) (by rw[List.length_map];omega)]
  .congr 2
   rw[List.map_map];apply List.map_congr_left;intro o _;cases o<;>rfl
  .intro d hd
   obtain⟨o,ho,rfl⟩:=List.mem_map.mp hd;refine⟨[.sh (zaz o),.sh (.int (bot (zgK os)))],rfl,rfl,?_⟩;cases o with
   | none=>rfl
   | some x =>
    have hw:=zvK (hx x ho) hb;rw[show fr x=.tup [.int x.1,.int x.2] from rfl] at hw;rw[show zaz (some x)=.tup [.int x.1,.int x.2] from rfl];open_line with[hw]
 open_line with[zbJ,zgC,c1,h1,c2]
def zAn (i:Nat)(ρ:Ev)(d:D):Res Fl:=if zpw d=true then .ok (.nx (ρ.set i (.sh d))) else .stuck
theorem zC9 {i:Nat}{f:Ev->Res D}{ρ:Ev}:zCz i f ρ=(f (shr ρ)).bind (zAn i ρ):=rfl
theorem zCx {i:Nat}{ρ:Ev}{x:Fra}:zAn i ρ (fr x)=.ok (.nx (ρ.set i (.sh (fr x)))):=rfl
theorem zCV {x:Fra}:dNe (fr x) (fr x)=.ok (.bl false):=by
 unfold dNe;rw[if_pos ⟨zsS x,zsS x⟩,zsc];rfl
theorem zqn {c:Ev->Res D}{s:Ev->Res Fl}{n:Nat}{ρ ρ2:Ev}(h1:c (shr ρ)=.ok (.bl true))(h2:s ρ=.ok (.nx ρ2)):zbT c s (n+1) ρ=zbT c s n ρ2:=by
 conv=>lhs;unfold zbT
 rw[h1,h2];rfl
theorem znH {c:Ev->Res D}{s:Ev->Res Fl}{n:Nat}{ρ:Ev}(h1:c (shr ρ)=.ok (.bl false)):zbT c s (n+1) ρ=.ok (.nx ρ):=by
 conv=>lhs;unfold zbT
 rw[h1];rfl
end Com
namespace DL
open PySem PySem.Spec PyProof.Rows L2
noncomputable def zCK (K:W.Frag) (E:XK) (He H0e Ha:Hp) (r:Res Fl) (D:zi0):Prop:=match r with
 | .ok (.rt (.lst es))=>∀ p us H Ha',zbj He H0e H Ha'->He p=none->Ha' p=none->H p=some (.lst us)->Reps K Ha' es us->D.rt (.ref p) H
 | .exn x=>∀ C ox H Ha',zbj He H0e H Ha'->ExR K Ha' x C ox->E C ox H
 | _=>False
noncomputable def tSF (K:W.Frag) (E:XK) (He H0e:Hp) (g:Ev->Res Fl):TS:=fun D σ H=>∃ Ha ρ,SRx K He H0e Ha σ H ρ/\zCK K E He H0e Ha (g ρ) D
structure zCj (X:Cx) (E:XK) (He H0e:Hp) (st:List Stmt) (g:Ev->Res Fl):Prop where
 o:PSs X st (tSF X.K E He H0e g)
section
variable {X:Cx}{E:XK}{He H0e:Hp}{st:Stmt}{rest:List Stmt}{e:Expr}{es:List Expr}{f:Ev->Res D}{fa:Ev->Res (List D)}{s t:Ev->Res Fl}{pos:Pos}
def zCy (t:Ev->Res Fl)(r:Fl):Res Fl:=match r with
 | .nx ρ=>t ρ
 | _=>.stuck
def zrI (s t:Ev->Res Fl):Ev->Res Fl:=fun ρ=>(s ρ).bind (zCy t)
theorem zo2 (h1:DS X E He H0e st s)(h2:zCj X E He H0e rest t):zCj X E He H0e (st::rest) (zrI s t):=by
 refine⟨?_⟩;refine zeY (zg6 h1.o h2.o) fun D σ H ⟨Ha,ρ,h,q⟩=>⟨Ha,ρ,h,?_⟩
 unfold zrI at q;cases e1:s ρ with
 | stuck=>rw[e1] at q;exact q
 | exn x=>rw[e1] at q;exact q
 | ok r =>
  rw[e1] at q;cases r with
  | nx ρ'=>exact fun σ' H' Ha' s' h'=>⟨Ha',ρ',h',q⟩
  | rt d=>exact q.elim
  | bk ρ'=>exact q.elim
  | ct ρ'=>exact q.elim
end
def zCQ (r:Fl):Res D:=match r with
 | .rt (.lst es)=>.ok (.lst es)
 | _=>.stuck
noncomputable def zAw (n:Nat) (s:Ev->Res Fl) (ds:List D):Res D:=(s (ds.map Sl.sh++List.replicate (n-ds.length) .no)).bind zCQ
noncomputable def zCJ (K:W.Frag) (E:XK) (H Ha:Hp) (r:Res D) (Q:VK):Prop:=match r with
 | .ok (.lst es)=>∀ p us H' Ha',zbj H Ha H' Ha'->H p=none->Ha' p=none->H' p=some (.lst us)->Reps K Ha' es us->Q (.ref p) H'
 | .exn x=>∀ C ox H' Ha',zbj H Ha H' Ha'->ExR K Ha' x C ox->E C ox H'
 | _=>False
noncomputable def spF (K:W.Frag) (n:Nat) (m:List D->Res D):Sp:=fun vs H Q E=>vs.length=n/\∃ Ha ds,zaA Ha H/\Reps K Ha ds vs/\zCJ K E H Ha (m ds) Q
theorem zr9 {P:Program}{w:World}{K:W.Frag}{mg:Str->Option Value}{base:Heap}{x qual:Str}{st:Stmt}{f:Addr}{fd:FuncData}{N ps:List Str}{k:Nat}{s:Ev->Res Fl}(F:Fun K x qual st f fd)(S:zaB N ps (defScope st))
  (hbody:∀ (cdv:Value) (A:Around) (outer:List PySem.Env) (s0:Shared) (H Ha:Hp) (E:XK),zgm k (A.deeper (envOfC qual (defScope st) s0.heap.objs.size f cdv)) ->
   zCj (zwS CX0 P w K mg base N qual (defScope st) f cdv A outer s0 H E).nox E H Ha (defBody st) s):zcz P w K mg base CX0 (k+1) f fd ps (spF K ps.length (zAw N.length s)):=by
 have hpl:ps.length<=N.length:=by have:=congrArg List.length S.pre;rw[List.length_take] at this;omega
 refine F.ok S (fun vs H Q E h=>h.1) fun cdv A outer s0 H vs Q E hr h=>?_;obtain⟨hn,Ha,ds,hs,hv,q⟩:=h;refine⟨_,(hbody cdv A outer s0 H Ha E hr).o,Ha,ds.map Sl.sh++List.replicate (N.length-ds.length) .no,?_,?_⟩
 .refine⟨zbj.refl hs,zjr hv,fun i d e=>?_,fun i j d d' hij e=>?_,?_,OX.none znM zlN⟩
  .by_cases hi:i < ds.length
   .rw[List.getElem?_append_left (by simpa using hi),List.getElem?_map] at e
    cases q:ds[i]? with
    | none=>rw[q] at e;cases e
    | some d'=>rw[q] at e;cases e
   .rw[List.getElem?_append_right (by simpa using hi),List.getElem?_replicate] at e
    split at e<;>cases e
  .by_cases hi:i < ds.length
   .rw[List.getElem?_append_left (by simpa using hi),List.getElem?_map] at e
    cases q:ds[i]? with
    | none=>rw[q] at e;cases e
    | some d'=>rw[q] at e;cases e
   .rw[List.getElem?_append_right (by simpa using hi),List.getElem?_replicate] at e
    split at e<;>cases e
  .unfold L2.start
   have:=hv.length;simp only[List.length_append,List.length_map,List.length_replicate];omega
 .unfold zAw at q
  cases e1:s (ds.map Sl.sh++List.replicate (N.length-ds.length) .no) with
  | stuck=>rw[e1] at q;exact q
  | exn x=>rw[e1] at q;exact q
  | ok r =>
   rw[e1] at q;cases r with
   | rt d =>
    cases d with
    | lst es=>exact fun p us H' Ha' g hp h0 hv' rr=>q p us H' Ha' g hp h0 hv' rr
    | _=>exact q.elim
   | _=>exact q.elim
section
variable {X:Cx}{E:XK}{He H0e:Hp}{e:Expr}{es:List Expr}{f:Ev->Res D}{fa:Ev->Res (List D)}{pos:Pos}
theorem zzq {CX:CXT}{k n:Nat}{fn:Addr}{fd:FuncData}{ps:List Str}{m:List D->Res D}{x:Str}{p:Pos}(F:zcz X.prog X.w X.K X.mg X.base CX k fn fd ps (spF X.K n m))(hr:zgm k X.A)(hg:Gl X x)(hm:X.mg x=some (.ref fn))
  (hk:W.keepIn X.K (.ref fn)=true)(hb:zlK X.K fd ps [])(hx:zgb CX X E)(ha:DA X E (e::es) fa)(hn:(e::es).length=n:=by rfl)(hl:∀ ρ ds,fa ρ=.ok ds->ds.length=(e::es).length)
  (hdb:(x==("__debug__" : Str))=false:=by decide)(he:starEach (e::es) X.env=(false,eval e X.env)::starEach es X.env:=by exact zaX rfl)(hpl:(backTo pos (starEach es X.env)).any (·.1)=false:=by exact zbC rfl) :
  DF X E (.Call (.Name x p) (e::es) [] pos) (zam fa m):=by
 refine⟨?_⟩;refine zaK (zmW F hr hg hm hk hb .nil hx ha.o hdb he hpl) fun σ H Q h=>?_;obtain⟨Ha,ρ,hs,hr,q⟩:=h;refine⟨Ha,ρ,hs,hr,?_⟩;unfold zam at q;cases e1:fa ρ with
 | stuck=>rw[e1] at q;exact q
 | exn x=>rw[e1] at q;exact q
 | ok ds =>
  rw[e1] at q;intro v H1 H01 g1 r1;refine⟨?_,H01,ds,g1.sub,by simpa using r1,?_⟩
  .have:=r1.length
   have:=hl ρ ds e1;simp only[List.append_nil];omega
  .replace q:match m ds with
    | .ok (.lst ds)=>∀ p vs H' Ha',zbj H Ha H' Ha'->H p=none->Ha' p=none->H' p=some (.lst vs)->Reps X.K Ha' ds vs->Q (.ref p) H'
    | .ok _=>False
    | .exn x=>∀ C ox H' Ha',zbj H Ha H' Ha'->ExR X.K Ha' x C ox->E C ox H'
    | .stuck=>False:=q
   cases e2:m ds with
   | stuck=>rw[e2] at q;exact q
   | exn x=>rw[e2] at q;exact fun C ox H' Ha' g ex=>q C ox H' Ha' (g1.trans g) ex
   | ok d =>
    rw[e2] at q;cases d with
    | lst es=>exact fun p us H' Ha' g hp h0 hv rr=>q p us H' Ha' (g1.trans g) (g1.s.free hp) h0 hv rr
    | _=>exact q.elim
end
section
variable {X:Cx}{E:XK}{He H0e:Hp}{e a b:Expr}{es:List Expr}{f g:Ev->Res D}{fa:Ev->Res (List D)}{pos:Pos}
noncomputable def zCe (x y:D):Res D:=match x,y with
 | .int i,.int j=>.ok (.int (if j < i then j else i))
 | _,_=>.stuck
theorem zBR:zhV X E (fun xs H Q=>∃ i j,xs=[.int i,.int j]/\Q (.int (if j < i then j else i)) H) (m2 zCe):=zBU fun x y v u H Ha Q hs r r' q=>by
 cases x with
 | int i =>
  cases y with
  | int j=>exact⟨i,j,by rw[zah.mp r,zah.mp r'],zaM hs q (ri _)⟩
  | _=>exact q.elim
 | _=>exact q.elim
end
end DL
namespace Cod
open PySem L2 DL Com
theorem zBY {c:Int}:zzS (.int c)=.ok (.int (c.natAbs:Int)):=by
 show Res.ok (D.int (if c < 0 then -c else c))=_
 congr 2
 split<;>omega
noncomputable def zmt:Ev->Res Fl :=
 (zaw (zb6 2 (zam (zae (zad 0) zaH) (m1 zzS)))
 (zaw (zb6 3 (zad 1))
 (zaw (zg5 (zie 3) (zaa (zad 3) (dC (.int 0)) dNe)
 (zaw (zvA 2 3 (zae (zad 3) (zae (zaa (zad 2) (zad 3) zfw) zaH)))
 zao))
 (zaw (zde (zam (zae (zaa (zad 0) (zad 2) zpy) (zae (zaa (zad 1) (zad 2) zpy) zaH)) zjR))
 zao))))
def za6:List D->Res D:=zdY 4 zmt
theorem zqP {A B:Sl}:∀ (n:Nat) (a b:Int),0<=a->0<=b->b.natAbs < n->zbT (zaa (zad 3) (dC (.int 0)) dNe) (zaw (zvA 2 3 (zae (zad 3) (zae (zaa (zad 2) (zad 3) zfw) zaH))) zao) n [A,B,.sh (.int a),.sh (.int b)]=.ok (.nx [A,B,.sh (.int (Int.gcd a b:Int)),.sh (.int 0)])
 | 0,a,b,_,_,h=>absurd h (Nat.not_lt_zero _)
 | n+1,a,b,ha,hb,h=>by
  by_cases h0:b=0
  .subst h0
   have hc:(zaa (zad 3) (dC (.int 0)) dNe) (shr [A,B,.sh (.int a),.sh (.int 0)])=.ok (.bl false):=by
    cases A<;>cases B<;>rfl
   rw[znH hc];have:((Int.gcd a 0:Nat):Int)=a:=by rw[Int.gcd_zero_right];omega
   rw[this]
  .have hc:(zaa (zad 3) (dC (.int 0)) dNe) (shr [A,B,.sh (.int a),.sh (.int b)])=.ok (.bl true):=by
    have:(b==0)=false:=beq_eq_false_iff_ne.mpr h0;cases A<;>cases B<;>open_line with[this]
   have f:=zfu (a:=a) (b:=b) (by omega);have hb0:(b==0)=false:=beq_eq_false_iff_ne.mpr h0;rw[zqn (ρ2:=[A,B,.sh (.int b),.sh (.int (a.fmod b))]) hc ?_,zqP n b (a.fmod b) (by omega) f.1 (by omega)]
   .rw[zm6]
   .cases A<;>cases B<;>open_line with[hb0]
theorem low_ok {a b:Int}(hb:0 < b)(h1:a.natAbs < B13)(h2:b.natAbs < B13):za6 [.int a,.int b]=.ok (fr (low a b)):=by
 have hg:0 < (Int.gcd a b:Int):=zid (by omega);have hgn:(Int.gcd (a.natAbs:Int) b:Int)=(Int.gcd a b:Int):=by
  congr 1
 have hl:=zqP (A:=.sh (.int a)) (B:=.sh (.int b)) (b.natAbs+1) (a.natAbs:Int) b (by omega) (by omega) (Nat.lt_succ_self _);rw[hgn] at hl;have hwh:∀ (c:Ev->Res D) (s:Ev->Res Fl),zg5 (zie 3) c s [.sh (.int a),.sh (.int b),.sh (.int (a.natAbs:Int)),.sh (.int b)]=zbT c s (b.natAbs+1) [.sh (.int a),.sh (.int b),.sh (.int (a.natAbs:Int)),.sh (.int b)]:=fun _ _=>rfl;have d1:(Int.gcd a b:Int)∣a:=Int.gcd_dvd_left ..;have d2:(Int.gcd a b:Int)∣b:=Int.gcd_dvd_right ..;have q1:zfv a (Int.gcd a b:Int)=true:=zkT (by omega) h1;have q2:zfv b (Int.gcd a b:Int)=true:=zkT (by omega) h2;have e1:a.fdiv (Int.gcd a b:Int)=a / (Int.gcd a b:Int):=zeh hg;have e2:b.fdiv (Int.gcd a b:Int)=b / (Int.gcd a b:Int):=zeh hg;open_line with[za6,zmt,zBY,hwh,hl,zl7 q1,zl7 q2,e1,e2]
 rfl
def S (cs:List Nat):Str:=⟨cs.toArray⟩
theorem S_inj {a b:List Nat}(h:S a=S b):a=b:=by
 have:=congrArg (fun s:Str=>s.cps.toList) h;simpa [S] using this
theorem zDm (a:List Nat):(S a).length=a.length:=zBP a
structure IsNm (cs:List Nat):Prop where
 l1:1<=cs.length
 l8:cs.length<=8
 ab:∀ x∈cs,zoc x=true
theorem IsNm.nameB {cs:List Nat}(h:IsNm cs):Com.nameB (S cs)=true:=by
 unfold Com.nameB;rw[zDm];simp only[Bool.and_eq_true,decide_eq_true_eq];exact⟨h.l1,h.l8,List.all_eq_true.mpr fun x hx=>h.ab x (by simpa [S] using hx)⟩
def nmsD (css:List (List Nat)):List D:=css.map fun cs=>D.str (S cs)
theorem nodup_le {α:Type}[DecidableEq α]:∀ {l m:List α},l.Nodup->(∀ x∈l,x∈m)->l.length<=m.length
 | [],_,_,_=>Nat.zero_le _
 | a::l,m,nd,h=>by
  rw[List.nodup_cons] at nd;have ha:=h a List.mem_cons_self;have:=nodup_le (l:=l) (m:=m.erase a) nd.2 fun x hx=>by
   have hne:x≠a:=fun z=>nd.1 (z▸hx);exact(List.mem_erase_of_ne hne).mpr (h x (List.mem_cons_of_mem _ hx))
  rw[List.length_erase_of_mem ha] at this;have:=List.length_pos_of_mem ha;simp only[List.length_cons];omega
noncomputable def zsO (d:D):Res (List D):=match d with
 | .int j=>if -4611686018427387904<=j/\j < 4611686018427387904 then .ok (intsFrom 0 j.toNat) else .stuck
 | _=>.stuck
theorem ev_srcR1 {f:Ev->Res D}{ρ:Ev}:zgI f ρ=(f ρ).bind zsO:=zat rfl
theorem srcR1_nat {k:Nat}(h:k<=1000000):zsO (.int (k:Int))=.ok (intsFrom 0 k):=by
 unfold zsO;dsimp only;rw[if_pos ⟨by omega,by omega⟩,Int.toNat_natCast]
def first (es:List Int)(m:Nat):List Nat:=(List.range m).map fun j=>97+((es[2+j]?).getD 0).toNat
end Cod
namespace DL
open PySem PySem.Spec PyProof.Rows L2
section
variable {X:Cx}{c e:Expr}{es:List Expr}{fc:Ev->Res D}{fa:Ev->Res (List D)}{ga gb:Ev->Res Fl}{sa sb:Stmt}{pos:Pos}
end
section
variable {X:Cx}{E:XK}{e a b o:Expr}{es:List Expr}{fe fo:Ev->Res D}{fa:Ev->Res (List D)}{pos:Pos}
end
section
variable {prog:Program}{w:World}{A:Around}{E:Value->Shared->Prop}{h:Heap}{g:Array GenState}{d:Drawn}{t:Nat}{os:OsState}
variable {nm q:Str}{C N:Addr}{bs bm bmB:List Value}{hdct:Bool}{sn:List Str}{sub:List Value}{ab:Bool}{col:Option Bool}{dd:Option Addr}{k0 k1 k2 k3 k5:Option Value}{B newId initId:String}{mN:Str->Option Value}{rest:List Value}{fI:Addr}{oI:Obj}
end
section
variable {M:Model}{A:Around}{E:Value->Shared->Prop}{env:PySem.Env}
variable {nm q:Str}{C N:Addr}{bs bm:List Value}{hdct:Bool}{sn:List Str}{sub:List Value}{ab:Bool}{col:Option Bool}{dd:Option Addr}{k0 k1 k2 k3 k5:Option Value}{newId:String}
end
section
variable {prog:Program}{w:World}{A:Around}{K:W.Frag}{C x:Addr}{s:Shared}{R:Result->Shared->Prop}
end
section
variable {X:Cx}{o value:Expr}{f:Str}{pos pos':Pos}{ta tv:TE}
end
section
variable {X:Cx}
end
section
variable {X:Cx}
end
section
variable {prog:Program}{w:World}{A:Around}{E:Value->Shared->Prop}{s:Shared}{env:PySem.Env}
variable {nm q:Str}{C N:Addr}{bs bm bmB:List Value}{hdct:Bool}{sn:List Str}{sub:List Value}{ab:Bool}{col:Option Bool}{dd:Option Addr}{k0 k1 k2 k3 k5:Option Value}{B newId initId:String}{mN:Str->Option Value}{fI:Addr}{oI:Obj}
end
section
variable {P:Program}{w:World}{K:W.Frag}{mg:Str->Option Value}{base:Heap}{N:List Str}{qual:Str}{scope:Scope}{f:Addr}{cd:Value}{A:Around}{outer:List PySem.Env}{s0:Shared}{H0:Hp}{E:XK}{He H0e:Hp}
end
def zEL (x:D):Res D:=match x with
 | .lst ds=>.ok (.lst ds.reverse)
 | _=>.stuck
section
variable {X:Cx}{E:XK}{e a st:Expr}{f:Ev->Res D}{te:TE}{pos p2:Pos}
end
noncomputable def zsv (f:Ev->Res D) (lo hi:Ev->Res (Option Int)):Ev->Res D:=fun ρ=>(f ρ).bind fun x=>(lo ρ).bind fun l=>(hi ρ).bind fun h=>match x with
 | .lst ds=>.ok (.lst (zlI ds l h))
 | _=>.stuck
section
variable {X:Cx}{E:XK}{a:Expr}{f:Ev->Res D}{pos p2:Pos}
theorem zrm {lo hi:Option Expr}{fl fh:Ev->Res (Option Int)}(ha:DE X E a f)(hl:DO X E lo fl)(hh:DO X E hi fh):DF X E (.Subscript a (.Slice lo hi none p2) pos) (zsv f fl fh):=by
 refine⟨zaK (zqC zsR ha.o hl.o hh.o) fun σ H Q ⟨Ha,ρ,hs,hr,q⟩=>⟨Ha,ρ,hs,hr,?_⟩⟩;unfold zsv at q;cases e1:f ρ with
 | stuck=>rw[e1] at q;exact q
 | exn x=>rw[e1] at q;exact q
 | ok x =>
  rw[e1] at q;intro v H1 H01 g1 r1;refine⟨H01,ρ,g1.sub,hr.mono g1.z,?_⟩;simp only[Res.bind] at q;cases e2:fl ρ with
  | stuck=>rw[e2] at q;exact q
  | exn x=>rw[e2] at q;exact fun C ox H' Ha' g' ex=>q C ox H' Ha' (g1.trans g') ex
  | ok l =>
   rw[e2] at q;intro H2 H02 g2;refine⟨H02,ρ,g2.sub,(hr.mono g1.z).mono g2.z,?_⟩;simp only[Res.bind] at q;cases e3:fh ρ with
   | stuck=>rw[e3] at q;exact q
   | exn x=>rw[e3] at q;exact fun C ox H' Ha' g' ex=>q C ox H' Ha' ((g1.trans g2).trans g') ex
   | ok h =>
    rw[e3] at q;intro H3 H03 g3;simp only[Res.bind] at q;have g:=(g1.trans g2).trans g3;cases x with
    | lst ds =>
     simp only at q;obtain⟨b,vs,rfl,h1,h2⟩:=zan.mp ((r1.mono g2.z).mono g3.z);refine⟨b,vs,rfl,zaA.sqL g3.sub h1,fun p hp=>?_⟩;have h0:H03 p=none:=g3.sub.free hp;refine q p _ _ H03 (g.trans ⟨fun b o q=>by rw[zal (zaQ q hp)];exact q,zaA.refl _,fun b o q=>?_,fun a h1 h2=>absurd h2 h1⟩) (g.s.free hp) h0 zar (h2.cut l h);rw[zal (by intro z;subst z;rw[h0] at q;cases q)];exact g3.sub _ _ q
    | _=>exact q.elim
end
section
variable {X:Cx}{E:XK}{a b o:Expr}{f g fo:Ev->Res D}{pos:Pos}
end
section
variable {P:Program}{w:World}{K:W.Frag}{mg:Str->Option Value}{base:Heap}{N:List Str}{qual:Str}{scope:Scope}{f:Addr}{cd:Value}{A:Around}{outer:List PySem.Env}{s0:Shared}{H0:Hp}{E:XK}{He H0e:Hp}
end
end DL
namespace DL
open PySem PySem.Spec PySem.Calls PySem.W PyProof.Rows Builtin Builtin.ObjectAttr Builtin.Getset_descriptor
section
variable {prog:Program}{w:World}{A:Around}{E:Value->Shared->Prop}{h:Heap}{g:Array GenState}{d:Drawn}{t:Nat}{os:OsState}{a C:Addr}{o:Obj}{od:Option Obj}{K:Frag}{name:Str}{v:Value}
end
end DL
namespace DL
open PySem PySem.Spec PyProof.Rows L2
section
variable {X:Cx}{E:XK}{e:Expr}{fe:Ev->Res D}{pos:Pos}{f:Str}{ta:TE}{tab:Str->Option Bool}
end
theorem ln1 {α:Type}{us:List α}(h:us.length=1):∃ a,us=[a]:=List.length_eq_one_iff.mp h
theorem ln2 {α:Type}{us:List α}(h:us.length=2):∃ a b,us=[a,b]:=by
 cases us with
 | nil=>cases h
 | cons a us=>obtain⟨b,rfl⟩:=ln1 (Nat.succ.inj h);exact⟨a,b,rfl⟩
theorem ln3 {α:Type}{us:List α}(h:us.length=3):∃ a b c,us=[a,b,c]:=by
 cases us with
 | nil=>cases h
 | cons a us=>obtain⟨b,c,rfl⟩:=ln2 (Nat.succ.inj h);exact⟨a,b,c,rfl⟩
end DL
namespace Com
open PySem L2 DL
end Com
namespace DL
open PySem PySem.Spec PyProof.Rows L2
section
variable {X:Cx}{E:XK}{e o:Expr}{fe fo:Ev->Res D}{pos:Pos}
end
end DL
namespace DL
open PySem PySem.Spec PyProof.Rows L2 PySem.Builtin PySem.Builtin.Str
section
variable {prog:Program}{w:World}{A:Around}{E:Value->Shared->Prop}{s:Shared}{x y:Str}{t u:Tok}{Q:Value->Shared->Prop}
end
section
variable {X:Cx}{E:XK}{e o:Expr}{fe fo:Ev->Res D}{pos:Pos}
end
end DL
namespace DL
open PySem PySem.Spec PyProof.Rows L2
section
variable {X:Cx}{E:XK}{a b:Expr}{f g:Ev->Res D}{pos:Pos}
end
end DL
namespace DL
open PySem PySem.Spec PyProof.Rows
section
variable {prog:Program}{w:World}{A:Around}{E:Value->Shared->Prop}{s:Shared}
end
section
variable {prog:Program}{w:World}{A:Around}{E:Value->Shared->Prop}{s:Shared}
end
section
variable {prog:Program}{w:World}{A:Around}{s:Shared}
end
end DL
namespace DL
open PySem PySem.Spec PyProof.Rows L2
section
variable {X:Cx}{E:XK}{a:Expr}{f:Ev->Res D}{te:TE}{p p2 p3 pos:Pos}
end
def isE (d:D):Bool:=match d with
 | .dic [] []=>true
 | _=>false
section
variable {X:Cx}{E:XK}{pins:List (Addr×Obj)}{σ:L2.St}{H:Hp}{s:Shared}
theorem zs3 (I:Inv X pins σ H s){d:D}{v:V}{u:Value}(h:isE d=true)(r:Rep X.K H d v)(q:zbw v u):∃ a,u=.ref a/\(a==sysModules)=false/\s.heap.DictOf (zbV X.prog X.w) a []:=by
 unfold isE at h;split at h
 .rw[Rep] at r
  obtain⟨a,kvs,vs,h1,h2,h3,h4,h5⟩:=r;have:kvs=[]:=by rw[h3];rfl
  subst this h1;obtain rfl:u=Value.ref a:=q;obtain⟨_,n1,vs',k1,d1⟩:=(show zdg X.prog X.w H s.heap a (.dK []) from h2.ok I.hok)
  obtain rfl:vs'=[]:=by cases k1;rfl
  exact⟨a,rfl,n1,d1⟩
 .cases h
end
section
variable {X:Cx}{E:XK}{He H0e:Hp}{e:Expr}{f:Ev->Res D}{is:List Nat}{es:List Expr}{pos:Pos}
end
structure FT (K:W.Frag) (mg:Str->Option Value) (x:Str) (st:Stmt) (ps:List Str) (a:Addr) (d:FuncData):Prop where
 F:Fun K x x st a d
 b:zlK K d ps []
 g:mg x=some (.ref a)
noncomputable def QA (K:W.Frag) (x:Str) (st:Stmt) (a:Addr):Prop:=W.nsIn K mainGlobals x=some (some (.ref a))/\W.keepIn K (.ref a)=true/\∃ oc kV dc pm cd ct od an sl,K.lookup a=some ⟨oc,od,.func (W.fnOf x x (defArgs st) (defBody st) (defScope st) .none kV dc pm an cd ct),sl⟩/\W.codeIn K cd x=true
theorem zy9 {K:W.Frag}{h:Heap}{mg:Str->Option Value}{x:Str}{st:Stmt}{ps:List Str}{a:Addr}(X:K.In h)(G:h.Ns mainGlobals mg)(q:QA K x st a)
  (hb:∀ (kV doc pm:Value) (an:Option Addr) (cdv ct:Value) (us:List Value),us.length=ps.length->bindArgs (W.fnOf x x (defArgs st) (defBody st) (defScope st) .none kV doc pm an cdv ct) ⟨us,[]⟩=pure (ps.zip us)) :
  ∃ d,FT K mg x st ps a d/\∃ kV doc pm an cdv ct,d=W.fnOf x x (defArgs st) (defBody st) (defScope st) .none kV doc pm an cdv ct:=by
 obtain⟨e1,e4,oc,kV,dc,pm,cd,ct,od,an,sl,e2,e3⟩:=q;exact⟨_,⟨zxp e2 e3 e4,(zxp (st:=st) e2 e3 e4).binds hb,W.mg_of X G e1⟩,_,_,_,_,_,_,rfl⟩
section
variable {K:W.Frag}{h:Heap}{mg:Str->Option Value}{x:Str}{st:Stmt}{N ps:List Str}{a:Addr}(X:K.In h) (G:h.Ns mainGlobals mg) (q:QA K x st a) (S:zaB N ps (defScope st))
include X G q S in
theorem ft1 (hn:ps.length=1:=by rfl)(hb:∀ (kV doc pm:Value) (an:Option Addr) (cdv ct b:Value),bindArgs (W.fnOf x x (defArgs st) (defBody st) (defScope st) .none kV doc pm an cdv ct) ⟨[b],[]⟩=pure (ps.zip [b]):=by intros;rfl):∃ d,FT K mg x st ps a d/\∃ kV doc pm an cdv ct,d=W.fnOf x x (defArgs st) (defBody st) (defScope st) .none kV doc pm an cdv ct :=
 zy9 X G q fun _ _ _ _ _ _ us hl=>by
  obtain⟨b,rfl⟩:=ln1 (hl.trans hn);exact hb ..
include X G q S in
theorem ft2 (hn:ps.length=2:=by rfl)(hb:∀ (kV doc pm:Value) (an:Option Addr) (cdv ct b c:Value),bindArgs (W.fnOf x x (defArgs st) (defBody st) (defScope st) .none kV doc pm an cdv ct) ⟨[b,c],[]⟩=pure (ps.zip [b,c]):=by intros;rfl):∃ d,FT K mg x st ps a d/\∃ kV doc pm an cdv ct,d=W.fnOf x x (defArgs st) (defBody st) (defScope st) .none kV doc pm an cdv ct :=
 zy9 X G q fun _ _ _ _ _ _ us hl=>by
  obtain⟨b,c,rfl⟩:=ln2 (hl.trans hn);exact hb ..
include X G q S in
theorem ft3 (hn:ps.length=3:=by rfl)(hb:∀ (kV doc pm:Value) (an:Option Addr) (cdv ct b c d:Value),bindArgs (W.fnOf x x (defArgs st) (defBody st) (defScope st) .none kV doc pm an cdv ct) ⟨[b,c,d],[]⟩=pure (ps.zip [b,c,d]):=by intros;rfl):∃ d,FT K mg x st ps a d/\∃ kV doc pm an cdv ct,d=W.fnOf x x (defArgs st) (defBody st) (defScope st) .none kV doc pm an cdv ct :=
 zy9 X G q fun _ _ _ _ _ _ us hl=>by
  obtain⟨b,c,d,rfl⟩:=ln3 (hl.trans hn);exact hb ..
include X G q S in
include X G q S in
include X G q S in
end
section
variable {X:Cx}{E:XK}{e:Expr}{es:List Expr}{fa:Ev->Res (List D)}{f g h i j:Ev->Res D}{pos:Pos}{CX:CXT}{k n:Nat}{fn:Addr}{fd:FuncData}{ps:List Str}{m:List D->Res D}{x:Str}{p:Pos}{st:Stmt}
theorem al1 (ρ:Ev)(ds:List D)(h:zae f zaH ρ=.ok ds):ds.length=1:=zlo (fun _ h=>zwZ h) h
theorem al2 (ρ:Ev)(ds:List D)(q:zae f (zae g zaH) ρ=.ok ds):ds.length=2:=zlo (al1 ρ) q
theorem al3 (ρ:Ev)(ds:List D)(q:zae f (zae g (zae h zaH)) ρ=.ok ds):ds.length=3:=zlo (al2 ρ) q
theorem qc (F:zcz X.prog X.w X.K X.mg X.base CX k fn fd ps (spD X.K n m))(hr:zgm k X.A)(t:FT X.K X.mg x st ps fn fd)(hx:zgb CX X E)(ha:DA X E (e::es) fa)(hl:∀ ρ ds,fa ρ=.ok ds->ds.length=(e::es).length)(hn:(e::es).length=n:=by rfl)
  (hg:Gl X x:=by exact rfl)(hdb:(x==("__debug__" : Str))=false:=by decide)(he:starEach (e::es) X.env=(false,eval e X.env)::starEach es X.env:=by exact zaX rfl)(hpl:(backTo pos (starEach es X.env)).any (·.1)=false:=by exact zbC rfl) :
  DE X E (.Call (.Name x p) (e::es) [] pos) (zam fa m):=zzt F hr hg t.g t.F.kp t.b hx ha hn hl hdb he hpl
theorem qf (F:zcz X.prog X.w X.K X.mg X.base CX k fn fd ps (spF X.K n m))(hr:zgm k X.A)(t:FT X.K X.mg x st ps fn fd)(hx:zgb CX X E)(ha:DA X E (e::es) fa)(hl:∀ ρ ds,fa ρ=.ok ds->ds.length=(e::es).length)(hn:(e::es).length=n:=by rfl)
  (hg:Gl X x:=by exact rfl)(hdb:(x==("__debug__" : Str))=false:=by decide)(he:starEach (e::es) X.env=(false,eval e X.env)::starEach es X.env:=by exact zaX rfl)(hpl:(backTo pos (starEach es X.env)).any (·.1)=false:=by exact zbC rfl) :
  DF X E (.Call (.Name x p) (e::es) [] pos) (zam fa m):=zzq F hr hg t.g t.F.kp t.b hx ha hn hl hdb he hpl
end
def era (a:Addr)(H:Hp):Hp:=fun b=>if b=a then none else H b
theorem zff {a b:Addr}{H:Hp}(h:b≠a):era a H b=H b:=if_neg h
theorem zdb {a:Addr}{H:Hp}:era a H a=none:=if_pos rfl
structure MSx (K:W.Frag) (He H0e Ha:Hp) (σ:L2.St) (H:Hp) (ρ:Ev) (a:Addr) (st:List D) (vs:List V):Prop where
 ha:He a=none
 h0:H0e a=none
 hl:H a=some (.lst vs)
 r:Reps K Ha st vs
 s:SRx K (upd He a (.lst vs)) H0e Ha σ H ρ
theorem OX.he {K:W.Frag}{He He' Ha H:Hp}{σ:L2.St}{ρ:Ev}(hn:∀ b,He b=Option.none->He' b=Option.none)(h:OX K He Ha σ H ρ):OX K He' Ha σ H ρ:=⟨fun i j ds e=>by
 obtain⟨a,p,h1,⟨vs,es,us,r1,r2,r3,r⟩,h2⟩:=h.1 i j ds e;exact⟨a,p,h1,⟨vs,es,us,hn _ r1,r2,hn _ r3,r⟩,h2⟩,h.2⟩
section
variable {K:W.Frag}{He H0e Ha H:Hp}{σ:L2.St}{ρ:Ev}{a:Addr}{st st':List D}{vs us:List V}
theorem MSx.n0 (h:MSx K He H0e Ha σ H ρ a st vs):Ha a=none:=by
 cases q:Ha a with
 | none=>rfl
 | some o =>
  have:=h.s.g.nw a (by rw[q];simp) h.h0;rw[zar] at this;cases this
theorem MSx.back (h:MSx K He H0e Ha σ H ρ a st vs){σ':L2.St}{H' Ha':Hp}{ρ':Ev}(z:zaA Ha Ha')(s':SRx K (upd He a (.lst vs)) H0e Ha' σ' H' ρ'):MSx K He H0e Ha' σ' H' ρ' a st vs :=
 ⟨h.ha,h.h0,s'.g.s _ _ zar,h.r.mono z,s'⟩
theorem MSx.change (h:MSx K He H0e Ha σ H ρ a st vs){H' Ha':Hp}(g:zbj (era a H) Ha H' Ha')(n:Ha' a=none)(hl:H' a=some (.lst us))(r:Reps K Ha' st' us):MSx K He H0e Ha' σ H' ρ a st' us:=by
 have hne:∀ b,upd He a (.lst us) b=none->b≠a/\He b=none:=fun b e=>by
  by_cases c:b=a
  .subst c;rw[zar] at e;cases e
  .rw[zal c] at e;exact⟨c,e⟩
 have hnn:∀ b,upd He a (.lst vs) b=none->upd He a (.lst us) b=none:=fun b e=>by
  by_cases c:b=a
  .subst c;rw[zar] at e;cases e
  .rw[zal c] at e ⊢;exact e
 have gone:∀ b o,b≠a->H b=some o->H' b=some o:=fun b o c e=>g.s _ _ (by rw[zff c];exact e);have n':∀ b,Ha b=none->(∃ o,H b=some o/\b≠a)->Ha' b=none:=fun b e ⟨o,e1,c⟩=>by
  cases q:Ha' b with
  | none=>rfl
  | some u =>
   have:=g.nw b (by rw[q];simp) e;rw[zff c,e1] at this;cases this
 refine⟨h.ha,h.h0,hl,r,⟨⟨fun b o e=>?_,h.s.g.z.trans g.z,g.sub,fun b h1 h2=>?_⟩,h.s.rd.mono g.z,fun i d e=>?_,h.s.ap,h.s.ln,(h.s.ex.he hnn).upd (fun j s e=>.inl ⟨e,rfl⟩) g.z (fun b ws hb e=>gone b _ (hne b hb).1 e) fun p ws hp q0 hq _=>⟨gone p _ (hne p hp).1 hq,n' p q0 ⟨_,hq,(hne p hp).1⟩⟩⟩⟩
 .by_cases c:b=a
  .subst c;rw[zar] at e;cases e;exact hl
  .rw[zal c] at e
   exact gone b o c (h.s.g.s _ _ (by rw[zal c];exact e))
 .by_cases c:b=a
  .subst c;exact absurd n h1
  .rw[zal c]
   cases q:Ha b with
   | some u =>
    have:=h.s.g.nw b (by rw[q];simp) h2;rw[zal c] at this;exact this
   | none =>
    have:=g.nw b h1 q;rw[zff c] at this;cases q2:He b with
    | none=>rfl
    | some u=>rw[h.s.g.s b u (by rw[zal c];exact q2)] at this;cases this
 .obtain⟨b,k1,k2,k3,k4⟩:=h.s.ow i d e
  cases d with
  | lst ds =>
   obtain⟨ws,k5,k6⟩:=k4;have c:b≠a:=(hne b (hnn b k2)).1;exact⟨b,k1,hnn b k2,n' b k3 ⟨_,k5,c⟩,ws,gone b _ c k5,k6.mono g.z⟩
  | dic ks ds =>
   obtain⟨ws,k5,kl,k6⟩:=k4;have c:b≠a:=(hne b (hnn b k2)).1;exact⟨b,k1,hnn b k2,n' b k3 ⟨_,k5,c⟩,ws,gone b _ c k5,kl,k6.mono g.z⟩
  | _=>exact k4.elim
end
noncomputable def tM (K:W.Frag) (He H0e:Hp) (a:Addr) (f:Ev->List D->Res (D×List D)):TE:=fun σ H Q=>∃ Ha ρ st vs,MSx K He H0e Ha σ H ρ a st vs/\match f ρ st with
 | .ok (d,st')=>∀ v H' Ha' us,zaA Ha Ha'->MSx K He H0e Ha' σ H' ρ a st' us->Rep K Ha' d v->Q v H'
 | .exn _=>False
 | .stuck=>False
noncomputable def tMA (K:W.Frag) (He H0e:Hp) (a:Addr) (f:Ev->List D->Res (List D×List D)):TA:=fun σ H Q=>∃ Ha ρ st vs,MSx K He H0e Ha σ H ρ a st vs/\match f ρ st with
 | .ok (ds,st')=>∀ xs H' Ha' us,zaA Ha Ha'->MSx K He H0e Ha' σ H' ρ a st' us->Reps K Ha' ds xs->Q xs H'
 | .exn _=>False
 | .stuck=>False
noncomputable def tMT (K:W.Frag) (He H0e:Hp) (a:Addr) (f:Ev->List D->Res (D×List D)):TT:=fun σ H Q=>∃ Ha ρ st vs,MSx K He H0e Ha σ H ρ a st vs/\match f ρ st with
 | .ok (.bl b,st')=>∀ H' Ha' us,zaA Ha Ha'->MSx K He H0e Ha' σ H' ρ a st' us->Q b H'
 | .ok _=>False
 | .exn _=>False
 | .stuck=>False
structure DM (X:Cx) (He H0e:Hp) (a:Addr) (e:Expr) (f:Ev->List D->Res (D×List D)):Prop where
 o:PE X e (tM X.K He H0e a f)
structure DMA (X:Cx) (He H0e:Hp) (a:Addr) (es:List Expr) (f:Ev->List D->Res (List D×List D)):Prop where
 o:PA X es (tMA X.K He H0e a f)
structure DMT (X:Cx) (He H0e:Hp) (a:Addr) (e:Expr) (f:Ev->List D->Res (D×List D)):Prop where
 o:PT X e (tMT X.K He H0e a f)
def mP (f:Ev->Res D):Ev->List D->Res (D×List D):=fun ρ st=>(f ρ).bind fun d=>.ok (d,st)
def zlH (st:List D)(d:D):Res (D×List D):=if zpw d=true then .ok (d,st) else .stuck
def mL (f:Ev->Res D):Ev->List D->Res (D×List D):=fun ρ st=>(f (shr ρ)).bind (zlH st)
def zob (s:Option Sl)(a:Addr):Bool:=match s with
 | some (.pt b)=>b==a
 | _=>false
def vw (i:Nat)(ρ:Ev)(st:List D):Ev:=(shr ρ).set i (.sh (.lst st))
noncomputable def mV (i:Nat) (a:Addr) (f:Ev->Res D):Ev->List D->Res (D×List D):=fun ρ st=>if zob ρ[i]? a=true then(f (vw i ρ st)).bind (zlH st) else .stuck
section
variable {X:Cx}{E:XK}{He H0e:Hp}{a:Addr}{e b:Expr}{es:List Expr}{pos:Pos}{f:Ev->Res D}{fm gm:Ev->List D->Res (D×List D)}{fa:Ev->List D->Res (List D×List D)}
theorem zav (he:DE X E e f):DM X He H0e a e (mP f):=⟨zaK he.o fun σ H Q ⟨Ha,ρ,st,vs,h,q⟩=>⟨Ha,ρ,h.s.g.sub,h.s.rd,by
 unfold mP at q;cases e1:f ρ with
 | stuck=>rw[e1] at q;exact q
 | exn x=>rw[e1] at q;exact q.elim
 | ok d =>
  rw[e1] at q;exact fun v H' Ha' g rp=>q v H' Ha' vs g.z (h.back g.z (h.s.grow g)) rp⟩⟩
theorem MSx.view {K:W.Frag}{Ha H:Hp}{σ:L2.St}{ρ:Ev}{i:Nat}{st:List D}{vs:List V}(h:MSx K He H0e Ha σ H ρ a st vs)(hp:zob ρ[i]? a=true):zaA (upd (frz (upd He a (.lst vs)) Ha H) a (.lst vs)) H/\zaA (frz (upd He a (.lst vs)) Ha H) (upd (frz (upd He a (.lst vs)) Ha H) a (.lst vs))/\Reads K (upd (frz (upd He a (.lst vs)) Ha H) a (.lst vs)) σ (vw i ρ st):=by
 have hz:frz (upd He a (.lst vs)) Ha H a=none:=by unfold frz;rw[zar];exact h.n0
 have z:zaA (frz (upd He a (.lst vs)) Ha H) (upd (frz (upd He a (.lst vs)) Ha H) a (.lst vs)):=fun b o e=>by rw[zal (by intro z;subst z;rw[hz] at e;cases e)];exact e
 refine⟨fun b o e=>?_,z,fun j d e=>?_⟩
 .by_cases c:b=a
  .subst c;rw[zar] at e;cases e;exact h.hl
  .rw[zal c] at e;exact h.s.frz_le _ _ e
 .unfold vw at e
  by_cases c:i=j
  .subst c
   unfold zob at hp;cases q:ρ[i]? with
   | none=>rw[q] at hp;cases hp
   | some s =>
    rw[q] at hp;cases s with
    | pt b =>
     have hb:b=a:=eq_of_beq hp;subst hb;have hil:i < (shr ρ).length:=by unfold shr;rw[List.length_map];exact(List.getElem?_eq_some_iff.mp q).1
     rw[List.getElem?_set_self hil] at e;cases e;exact⟨_,h.s.ex.2 i b q,zan.mpr ⟨b,vs,rfl,SqL.of zar,(h.r.mono h.s.frz_sub).mono z⟩⟩
    | _=>cases hp
  .rw[List.getElem?_set_ne c] at e
   obtain⟨v,h1,h2⟩:=h.s.looks j d e;exact⟨v,h1,h2.mono z⟩
theorem MSx.behind {K:W.Frag}{Ha H H' J:Hp}{σ:L2.St}{ρ:Ev}{st:List D}{vs:List V}(h:MSx K He H0e Ha σ H ρ a st vs)(g:zbj H (upd (frz (upd He a (.lst vs)) Ha H) a (.lst vs)) H' J):zaA Ha J/\zaA Ha (zmu Ha J)/\MSx K He H0e (zmu Ha J) σ H' ρ a st vs:=by
 have hz:frz (upd He a (.lst vs)) Ha H a=none:=by unfold frz;rw[zar];exact h.n0
 have z0:zaA (frz (upd He a (.lst vs)) Ha H) (upd (frz (upd He a (.lst vs)) Ha H) a (.lst vs)):=fun b o e=>by rw[zal (by intro z;subst z;rw[hz] at e;cases e)];exact e
 have hJ:zaA Ha J:=h.s.frz_sub.trans (z0.trans g.z);have z:zaA Ha (zmu Ha J):=fun b o e=>by unfold zmu;rw[e]
 refine⟨hJ,z,h.back z ?_⟩;have ja:J a=some (.lst vs):=g.z _ _ zar;have g':zbj H (frz (upd He a (.lst vs)) Ha H) H' (era a J):=⟨g.s,fun b o e=>by
   have c:b≠a:=by intro c;subst c;rw[hz] at e;cases e
   rw[zff c];exact g.z _ _ (z0 _ _ e),fun b o e=>by
   by_cases c:b=a
   .subst c;rw[zdb] at e;cases e
   .rw[zff c] at e;exact g.sub _ _ e,fun b h1 h2=>by
   by_cases c:b=a
   .subst c;exact absurd zdb h1
   .rw[zff c] at h1;exact g.nw b h1 (by rw[zal c];exact h2)⟩
 have hs:=h.s.behind g';have e:zmu Ha (era a J)=zmu Ha J:=by
  funext b;unfold zmu
  by_cases c:b=a
  .subst c;rw[h.n0,zdb,ja]
  .rw[zff c]
 rw[e] at hs;exact hs
theorem zkR {i:Nat}(he:DE X E e f):DM X He H0e a e (mV i a f):=⟨zaK he.o fun σ H Q ⟨Ha,ρ,st,vs,h,q⟩=>by
 unfold mV at q
 by_cases hp:zob ρ[i]? a=true
 .rw[if_pos hp] at q
  obtain⟨v1,v2,v3⟩:=h.view hp;refine⟨_,vw i ρ st,v1,v3,?_⟩;cases e1:f (vw i ρ st) with
  | stuck=>rw[e1] at q;exact q
  | exn x=>rw[e1] at q;exact q.elim
  | ok d =>
   rw[e1] at q;intro v H' J g rp;obtain⟨hJ,z,hm⟩:=h.behind g;replace q:match zlH st d with
    | .ok (d,st')=>∀ v H' Ha' us,zaA Ha Ha'->MSx X.K He H0e Ha' σ H' ρ a st' us->Rep X.K Ha' d v->Q v H'
    | .exn _=>False
    | .stuck=>False:=q
   unfold zlH at q
   by_cases fl:zpw d=true
   .rw[if_pos fl] at q
    exact q v H' (zmu Ha J) vs z hm (rp.flat_to (zzF hJ) fl)
   .rw[if_neg fl] at q;exact q.elim
 .rw[if_neg hp] at q;exact q.elim⟩
noncomputable def mB (f g:Ev->List D->Res (D×List D)) (op:D->D->Res D):Ev->List D->Res (D×List D):=fun ρ st=>(f ρ st).bind fun p=>(g ρ p.2).bind fun q=>(op p.1 q.1).bind fun d=>.ok (d,q.2)
theorem zgc {r:R2}{op:D->D->Res D}(ho:OpD X.K E r op)(σ:L2.St)(H:Hp)(Q:VK)(h:tM X.K He H0e a (mB fm gm op) σ H Q):tOp r (tM X.K He H0e a fm) (tM X.K He H0e a gm) σ H Q:=by
 obtain⟨Ha,ρ,st,vs,h,q⟩:=h;refine⟨Ha,ρ,st,vs,h,?_⟩;unfold mB at q;cases e1:fm ρ st with
 | stuck=>rw[e1] at q;exact q
 | exn x=>rw[e1] at q;exact q
 | ok p =>
  obtain⟨x,s1⟩:=p;rw[e1] at q;intro v H1 H01 us z1 h1 r1;refine⟨H01,ρ,s1,us,h1,?_⟩;simp only[Res.bind] at q;cases e2:gm ρ s1 with
  | stuck=>rw[e2] at q;exact q
  | exn x=>rw[e2] at q;exact q
  | ok p2 =>
   obtain⟨y,s2⟩:=p2;rw[e2] at q;intro u H2 H02 us2 z2 h2 r2;refine ho x y v u H2 H02 Q h2.s.g.sub (r1.mono z2) r2 ?_;simp only at q;cases e3:op x y with
   | stuck=>rw[e3] at q;exact q
   | exn x=>rw[e3] at q;exact q.elim
   | ok d =>
    rw[e3] at q;exact fun v' H' Ha' g rp=>q v' H' Ha' us2 ((z1.trans z2).trans g.z) (h2.back g.z (h2.s.grow g)) rp
theorem zBH {op:Operator}{r:R2}{o:D->D->Res D}(h:OpR X (binaryOp op) r)(ho:OpD X.K E r o){l:Expr}(ha:DM X He H0e a l fm)(hb:DM X He H0e a b gm):DM X He H0e a (.BinOp l op b pos) (mB fm gm o):=⟨zaK (zAT h ha.o hb.o) (zgc ho)⟩
theorem zBI {op:CmpOp}{r:R2}{o:D->D->Res D}(h:OpR X (compareOp op) r)(ho:OpD X.K E r o){l:Expr}(ha:DM X He H0e a l fm)(hb:DM X He H0e a b gm)(hm:behindInMarks op b=false):DM X He H0e a (.Compare l [op] [b] pos) (mB fm gm o):=⟨zaK (ztg h ha.o hb.o hm) (zgc ho)⟩
theorem zDc {r:R2}{o:D->D->Res D}(h:IxR X r)(ho:OpD X.K E r o){l:Expr}(ha:DM X He H0e a l fm)(hb:DM X He H0e a b gm)(hs:zlt b:=by intro _ _;rfl):DM X He H0e a (.Subscript l b pos) (mB fm gm o):=⟨zaK (zAX h ha.o hb.o hs) (zgc ho)⟩
def zee:Ev->List D->Res (List D×List D):=fun _ st=>.ok ([],st)
noncomputable def zaZ (f:Ev->List D->Res (D×List D)) (fa:Ev->List D->Res (List D×List D)):Ev->List D->Res (List D×List D):=fun ρ st=>(f ρ st).bind fun p=>(fa ρ p.2).bind fun q=>.ok (p.1::q.1,q.2)
theorem zaR:DMA X He H0e a [] zee:=⟨zmX zg7 fun σ H Q ⟨Ha,ρ,st,vs,h,q⟩=>q [] H Ha vs (zaA.refl _) h Reps.nil⟩
theorem zaE (ha:DM X He H0e a e fm)(hr:DMA X He H0e a es fa)(hs:starEach (e::es) X.env=(false,eval e X.env)::starEach es X.env:=by exact zaX rfl):DMA X He H0e a (e::es) (zaZ fm fa):=⟨zmX (zdZ ha.o hr.o hs) fun σ H Q ⟨Ha,ρ,st,vs,h,q⟩=>⟨Ha,ρ,st,vs,h,by
 unfold zaZ at q;cases e1:fm ρ st with
 | stuck=>rw[e1] at q;exact q
 | exn x=>rw[e1] at q;exact q
 | ok p =>
  obtain⟨x,s1⟩:=p;rw[e1] at q;intro v H1 H01 us z1 h1 r1;refine⟨H01,ρ,s1,us,h1,?_⟩;simp only[Res.bind] at q;cases e2:fa ρ s1 with
  | stuck=>rw[e2] at q;exact q
  | exn x=>rw[e2] at q;exact q
  | ok p2 =>
   obtain⟨ys,s2⟩:=p2;rw[e2] at q;exact fun xs H2 H02 us2 z2 h2 r2=>q _ H2 H02 us2 (z1.trans z2) h2 (Reps.cons (r1.mono z2) r2)⟩⟩
noncomputable def mA (fa:Ev->List D->Res (List D×List D)) (m:List D->Res D):Ev->List D->Res (D×List D):=fun ρ st=>(fa ρ st).bind fun p=>(m p.1).bind fun d=>.ok (d,p.2)
end
inductive MFl where
 | nx (ρ:Ev) (st:List D) | rt (d:D) (st:List D) | bk (ρ:Ev) (st:List D) | ct (ρ:Ev) (st:List D)
structure zD4 (K:W.Frag) (He H0e Ha H:Hp) (a:Addr) (st:List D):Prop where
 g:zbj He H0e H Ha
 n:Ha a=none
 l:∃ us,H a=some (.lst us)/\Reps K Ha st us
noncomputable def zfs (K:W.Frag) (He H0e:Hp) (a:Addr) (Ha:Hp) (r:Res MFl) (D:zi0):Prop:=match r with
 | .ok (.nx ρ st)=>∀ σ H Ha' vs,zaA Ha Ha'->MSx K He H0e Ha' σ H ρ a st vs->D.nx σ H
 | .ok (.rt d st)=>∀ v H Ha',zaA Ha Ha'->zD4 K He H0e Ha' H a st->Rep K Ha' d v->D.rt v H
 | .ok (.bk ρ st)=>∀ σ H Ha' vs,zaA Ha Ha'->MSx K He H0e Ha' σ H ρ a st vs->D.bk σ H
 | .ok (.ct ρ st)=>∀ σ H Ha' vs,zaA Ha Ha'->MSx K He H0e Ha' σ H ρ a st vs->D.ct σ H
 | .exn _=>False
 | .stuck=>False
theorem zfs.grow {K:W.Frag}{He H0e Ha Hb:Hp}{a:Addr}{r:Res MFl}{D:zi0}(h:zfs K He H0e a Ha r D)(s:zaA Ha Hb):zfs K He H0e a Hb r D:=by
 cases r with
 | ok f =>
  cases f with
  | nx ρ st=>exact fun σ H Ha' vs s'=>h σ H Ha' vs (s.trans s')
  | rt d st=>exact fun v H Ha' s'=>h v H Ha' (s.trans s')
  | bk ρ st=>exact fun σ H Ha' vs s'=>h σ H Ha' vs (s.trans s')
  | ct ρ st=>exact fun σ H Ha' vs s'=>h σ H Ha' vs (s.trans s')
 | exn x=>exact h
 | stuck=>exact h
noncomputable def tSM (K:W.Frag) (He H0e:Hp) (a:Addr) (g:Ev->List D->Res MFl):TS:=fun D σ H=>∃ Ha ρ st vs,MSx K He H0e Ha σ H ρ a st vs/\zfs K He H0e a Ha (g ρ st) D
structure SM (X:Cx) (He H0e:Hp) (a:Addr) (st:Stmt) (g:Ev->List D->Res MFl):Prop where
 o:PS X st (tSM X.K He H0e a g)
structure SMs (X:Cx) (He H0e:Hp) (a:Addr) (st:List Stmt) (g:Ev->List D->Res MFl):Prop where
 o:PSs X st (tSM X.K He H0e a g)
section
variable {X:Cx}{E:XK}{He H0e:Hp}{a:Addr}{st:Stmt}{rest:List Stmt}{e b:Expr}{es:List Expr}{pos:Pos}{f:Ev->Res D}{fm gm:Ev->List D->Res (D×List D)}{s t:Ev->List D->Res MFl}
def zbe:Ev->List D->Res MFl:=fun ρ st=>.ok (.nx ρ st)
def zrZ (t:Ev->List D->Res MFl)(r:MFl):Res MFl:=match r with
 | .nx ρ st=>t ρ st
 | r=>.ok r
def za8 (s t:Ev->List D->Res MFl):Ev->List D->Res MFl:=fun ρ st=>(s ρ st).bind (zrZ t)
theorem zaO:SMs X He H0e a [] zbe:=⟨zeY zpG fun D σ H ⟨Ha,ρ,st,vs,h,q⟩=>q σ H Ha vs (zaA.refl _) h⟩
theorem zaj (h1:SM X He H0e a st s)(h2:SMs X He H0e a rest t):SMs X He H0e a (st::rest) (za8 s t):=by
 refine⟨?_⟩;refine zeY (zg6 h1.o h2.o) fun D σ H ⟨Ha,ρ,st,vs,h,q⟩=>⟨Ha,ρ,st,vs,h,?_⟩
 unfold za8 at q;cases e1:s ρ st with
 | stuck=>rw[e1] at q;exact q
 | exn x=>rw[e1] at q;exact q
 | ok r =>
  rw[e1] at q;cases r with
  | nx ρ' st'=>exact fun σ' H' Ha' vs' s' h'=>⟨Ha',ρ',st',vs',h',zfs.grow (r:=t ρ' st') q s'⟩
  | rt d st'=>exact q
  | bk ρ' st'=>exact q
  | ct ρ' st'=>exact q
noncomputable def zn1 (st:List D) (r:Fl):Res MFl:=match r with
 | .nx ρ=>.ok (.nx ρ st)
 | .bk ρ=>.ok (.bk ρ st)
 | .ct ρ=>.ok (.ct ρ st)
 | .rt _=>.stuck
def zcT (g:Ev->Res Fl):Ev->List D->Res MFl:=fun ρ st=>(g ρ).bind (zn1 st)
theorem zba {g:Ev->Res Fl}(h:∀ vs,DS X E (upd He a (.lst vs)) H0e st g):SM X He H0e a st (zcT g):=by
 refine⟨?_⟩;rintro pins sh σ H D I ⟨Ha,ρ,st,vs,hm,q⟩;refine(h vs).o pins sh σ H D I ⟨Ha,ρ,hm.s,?_⟩;unfold zcT at q;cases e1:g ρ with
 | stuck=>rw[e1] at q;exact q
 | exn x=>rw[e1] at q;exact q.elim
 | ok r =>
  rw[e1] at q;cases r with
  | nx ρ'=>exact fun σ' H' Ha' z h'=>q σ' H' Ha' vs z (hm.back z h')
  | bk ρ'=>exact fun σ' H' Ha' z h'=>q σ' H' Ha' vs z (hm.back z h')
  | ct ρ'=>exact fun σ' H' Ha' z h'=>q σ' H' Ha' vs z (hm.back z h')
  | rt d=>exact q.elim
def zyV (i:Nat)(ρ:Ev)(p:D×List D):Res MFl:=.ok (.nx (ρ.set i (.sh p.1)) p.2)
noncomputable def zgu (i:Nat) (f:Ev->List D->Res (D×List D)):Ev->List D->Res MFl:=fun ρ st=>(f ρ st).bind (zyV i ρ)
theorem zca {i:Nat}{x:Str}{pos':Pos}(hN:X.N.Nodup)(hi:X.N[i]?=some x)(hx:Loc X.env.scope x)(he:DM X He H0e a e fm)(hs:swapsWith e (some (.Name x pos')) pos.line X.env=pure false:=by rfl)
  (hf:X.fn x=true∨X.env.scope.names.lookup x=some .local := by first | exact .inl rfl | exact .inr rfl | assumption):SM X He H0e a (.Assign [.Name x pos'] e pos) (zgu i fm):=by
 refine⟨?_⟩;refine za3 (zlT hN hi hx he.o hs hf) fun D σ H ⟨Ha,ρ,st,vs,h,q⟩=>⟨Ha,ρ,st,vs,h,?_⟩
 unfold zgu at q;cases e1:fm ρ st with
 | stuck=>rw[e1] at q;exact q
 | exn x=>rw[e1] at q;exact q
 | ok p =>
  obtain⟨d,st'⟩:=p;rw[e1] at q;exact fun v H' Ha' us z h' rp=>q _ H' Ha' us z (h'.back (zaA.refl _) (h'.s.put rp))
def zyW (p:D×List D):Res MFl:=.ok (.rt p.1 p.2)
def zCb (f:Ev->List D->Res (D×List D)):Ev->List D->Res MFl:=fun ρ st=>(f ρ st).bind zyW
theorem MSx.out {K:W.Frag}{Ha H:Hp}{σ:L2.St}{ρ:Ev}{st:List D}{vs:List V}(h:MSx K He H0e Ha σ H ρ a st vs){J:Hp}(z:zaA Ha J)(hs:zaA J H)(hw:∀ b,J b≠none->Ha b=none->upd He a (.lst vs) b=none)(n:J a=none):zD4 K He H0e J H a st :=
 ⟨⟨fun b o e=>h.s.g.s _ _ (by rw[zal (by intro c;subst c;rw[h.ha] at e;cases e)];exact e),h.s.g.z.trans z,hs,fun b h1 h2=>by
  have key:upd He a (.lst vs) b=none:=by
   cases q:Ha b with
   | none=>exact hw b h1 q
   | some o=>exact h.s.g.nw b (by rw[q];simp) h2
  by_cases c:b=a
  .subst c;exact h.ha
  .rw[zal c] at key;exact key⟩,n,vs,h.hl,h.r.mono z⟩
theorem zAi (he:DM X He H0e a e fm):SM X He H0e a (.Return (some e) pos) (zCb fm):=by
 refine⟨?_⟩;refine za3 (zqz he.o) fun D σ H ⟨Ha,ρ,st,vs,h,q⟩=>⟨Ha,ρ,st,vs,h,?_⟩
 unfold zCb at q;cases e1:fm ρ st with
 | stuck=>rw[e1] at q;exact q
 | exn x=>rw[e1] at q;exact q
 | ok p =>
  obtain⟨d,st'⟩:=p;rw[e1] at q;exact fun v H' Ha' us z h' rp=>q v H' Ha' z (h'.out (zaA.refl _) h'.s.g.sub (fun b h1 h2=>absurd h2 h1) h'.n0) rp
def zfO (f:Ev->Res D):Ev->List D->Res MFl:=fun ρ st=>(f (shr ρ)).bind fun d=>.ok (.rt d st)
theorem zdi (he:DE X E e f):SM X He H0e a (.Return (some e) pos) (zfO f):=by
 refine⟨?_⟩;refine za3 (zqz he.o) fun D σ H ⟨Ha,ρ,st,vs,h,q⟩=>⟨frz (upd He a (.lst vs)) Ha H,shr ρ,h.s.frz_le,h.s.looks,?_⟩
 unfold zfO at q;cases e1:f (shr ρ) with
 | stuck=>rw[e1] at q;exact q
 | exn x=>rw[e1] at q;exact q.elim
 | ok d =>
  rw[e1] at q;intro v H' J g rp;have hz:frz (upd He a (.lst vs)) Ha H a=none:=by unfold frz;rw[zar];exact h.n0
  have z:zaA Ha J:=h.s.frz_sub.trans g.z;have n:J a=none:=by
   cases qq:J a with
   | none=>rfl
   | some o=>have:=g.nw a (by rw[qq];simp) hz;rw[h.hl] at this;cases this
  have hg:=h.s.frz_grow.trans g;refine q v H' J z ⟨⟨fun b o e=>hg.s _ _ (by rw[zal (by intro c;subst c;rw[h.ha] at e;cases e)];exact e),hg.z,hg.sub,fun b h1 h2=>?_⟩,n,vs,g.s _ _ h.hl,h.r.mono z⟩ rp;have key:=hg.nw b h1 h2
  by_cases c:b=a
  .subst c;exact h.ha
  .rw[zal c] at key;exact key
noncomputable def zCd (s t:Ev->List D->Res MFl) (ρ:Ev) (p:D×List D):Res MFl:=match p.1 with
 | .bl b=>if b=true then s ρ p.2 else t ρ p.2
 | _=>.stuck
noncomputable def mIf (c:Ev->List D->Res (D×List D)) (s t:Ev->List D->Res MFl):Ev->List D->Res MFl:=fun ρ st=>(c ρ st).bind (zCd s t ρ)
theorem zjs {c:Expr}{sa sb:List Stmt}(hc:DMT X He H0e a c fm)(ha:SMs X He H0e a sa s)(hb:SMs X He H0e a sb t):SM X He H0e a (.If c sa sb pos) (mIf fm s t):=by
 refine⟨?_⟩;refine za3 (zAL hc.o ha.o hb.o) fun D σ H ⟨Ha,ρ,st,vs,h,q⟩=>⟨Ha,ρ,st,vs,h,?_⟩
 unfold mIf at q;cases e1:fm ρ st with
 | stuck=>rw[e1] at q;exact q
 | exn x=>rw[e1] at q;exact q
 | ok p =>
  obtain⟨d,st'⟩:=p;rw[e1] at q;cases d with
  | bl b =>
   intro H' Ha' us z h';replace q:zfs X.K He H0e a Ha (if b=true then s ρ st' else t ρ st') D:=q;cases b with
   | true=>rw[if_pos rfl] at q ⊢;exact⟨Ha',ρ,st',us,h',q.grow z⟩
   | false=>rw[if_neg Bool.false_ne_true] at q ⊢;exact⟨Ha',ρ,st',us,h',q.grow z⟩
  | _=>exact q.elim
end
section
variable {X:Cx}{E:XK}{He H0e:Hp}{a:Addr}{st:Stmt}{e l b:Expr}{rest es:List Expr}{pos:Pos}{f:Ev->Res D}{fm gm:Ev->List D->Res (D×List D)}{s t:Ev->List D->Res MFl}
theorem zu0 (h:PT X e (tB (tM X.K He H0e a fm))):DMT X He H0e a e fm:=by
 refine⟨?_⟩;refine zeX h fun σ H Q ⟨Ha,ρ,st,vs,h,q⟩=>⟨Ha,ρ,st,vs,h,?_⟩
 cases e1:fm ρ st with
 | stuck=>rw[e1] at q;exact q
 | exn x=>rw[e1] at q;exact q
 | ok p =>
  obtain⟨d,st'⟩:=p;rw[e1] at q;intro v H1 H01 us z h1 r1;cases d with
  | bl b=>rw[zaq.mp r1];exact⟨b,rfl,q H1 H01 us z h1⟩
  | _=>exact q.elim
theorem zzk (h:DM X He H0e a e fm)(he:∀ whole,isTrue e X.env whole=(do let v ← whole;standAt e.pos;holding [v] (truthy v)):=by intro _;rfl):DMT X He H0e a e fm:=zu0 (zxc h.o he)
theorem znp {op:CmpOp}{r:R2}{o:D->D->Res D}(h:OpR X (compareOp op) r)(ho:OpD X.K E r o)(ha:DM X He H0e a l fm)(hb:DM X He H0e a b gm)(hm:behindInMarks op b=false):DMT X He H0e a (.Compare l [op] [b] pos) (mB fm gm o):=by
 refine⟨?_⟩;refine zeX (zs7 h ha.o hb.o hm) fun σ H Q h=>?_;have w:tM X.K He H0e a (mB fm gm o) σ H fun x H'=>∃ k,x=.bl k/\Q k H':=by
  obtain⟨Ha,ρ,st,vs,h,q⟩:=h;refine⟨Ha,ρ,st,vs,h,?_⟩;cases e1:mB fm gm o ρ st with
  | stuck=>rw[e1] at q;exact q
  | exn x=>rw[e1] at q;exact q
  | ok p =>
   obtain⟨d,st'⟩:=p;rw[e1] at q;intro v H1 H01 us z h1 r1;cases d with
   | bl b=>rw[zaq.mp r1];exact⟨b,rfl,q H1 H01 us z h1⟩
   | _=>exact q.elim
 exact zgc ho σ H _ w
def mT (f:Ev->Res D):Ev->List D->Res (D×List D):=fun ρ st=>(f (shr ρ)).bind fun d=>.ok (d,st)
theorem zei (h:DT X E e f):DMT X He H0e a e (mT f):=⟨zeX h.o fun σ H Q ⟨Ha,ρ,st,vs,h,q⟩=>⟨frz (upd He a (.lst vs)) Ha H,shr ρ,h.s.frz_le,h.s.looks,by
 unfold mT at q;cases e1:f (shr ρ) with
 | stuck=>rw[e1] at q;exact q
 | exn x=>rw[e1] at q;exact q.elim
 | ok d =>
  rw[e1] at q;cases d with
  | bl b=>exact fun H' J g=>q H' Ha vs (zaA.refl _) (h.back (zaA.refl _) (h.s.same g.s))
  | _=>exact q.elim⟩⟩
noncomputable def mTV (i:Nat) (a:Addr) (f:Ev->Res D):Ev->List D->Res (D×List D):=fun ρ st=>if zob ρ[i]? a=true then(f (vw i ρ st)).bind fun d=>.ok (d,st) else .stuck
theorem zwL {i:Nat}(h:DT X E e f):DMT X He H0e a e (mTV i a f):=⟨zeX h.o fun σ H Q ⟨Ha,ρ,st,vs,h,q⟩=>by
 unfold mTV at q
 by_cases hp:zob ρ[i]? a=true
 .rw[if_pos hp] at q
  obtain⟨v1,v2,v3⟩:=h.view hp;refine⟨_,vw i ρ st,v1,v3,?_⟩;cases e1:f (vw i ρ st) with
  | stuck=>rw[e1] at q;exact q
  | exn x=>rw[e1] at q;exact q.elim
  | ok d =>
   rw[e1] at q;cases d with
   | bl b=>exact fun H' J g=>q H' Ha vs (zaA.refl _) (h.back (zaA.refl _) (h.s.same g.s))
   | _=>exact q.elim
 .rw[if_neg hp] at q;exact q.elim⟩
structure DMW (X:Cx) (He H0e:Hp) (a:Addr) (e:Expr) (f:Ev->List D->Res (D×List D)):Prop where
 o:PW X e (tMT X.K He H0e a f)
noncomputable def zwo (g:Ev->List D->Res (D×List D)) (ρ:Ev) (p:D×List D):Res (D×List D):=match p.1 with
 | .bl b=>if b=true then g ρ p.2 else .ok (.bl false,p.2)
 | _=>.stuck
noncomputable def zBa (f g:Ev->List D->Res (D×List D)):Ev->List D->Res (D×List D):=fun ρ st=>(f ρ st).bind (zwo g ρ)
theorem zzi (ha:DMT X He H0e a l fm):DMW X He H0e a (.BoolOp .And [l] pos) fm:=⟨zs6 ha.o⟩
theorem zzj (ha:DMT X He H0e a l fm)(hb:DMW X He H0e a (.BoolOp .And (b::rest) pos) gm):DMW X He H0e a (.BoolOp .And (l::b::rest) pos) (zBa fm gm):=by
 refine⟨?_⟩;refine zmU (zw9 ha.o hb.o) fun σ H Q ⟨Ha,ρ,st,vs,h,q⟩=>⟨Ha,ρ,st,vs,h,?_⟩
 unfold zBa at q;cases e1:fm ρ st with
 | stuck=>rw[e1] at q;exact q
 | exn x=>rw[e1] at q;exact q
 | ok p =>
  obtain⟨d,st'⟩:=p;rw[e1] at q;cases d with
  | bl c =>
   intro H1 H01 us z h1;cases c with
   | true =>
    rw[if_pos rfl];refine⟨H01,ρ,st',us,h1,?_⟩;replace q:match gm ρ st' with
     | .ok (.bl b,st')=>∀ H' Ha' us,zaA Ha Ha'->MSx X.K He H0e Ha' σ H' ρ a st' us->Q b H'
     | .ok _=>False
     | .exn _=>False
     | .stuck=>False:=q
    cases e2:gm ρ st' with
    | stuck=>rw[e2] at q;exact q
    | exn x=>rw[e2] at q;exact q
    | ok p2 =>
     obtain⟨d2,s2⟩:=p2;rw[e2] at q;cases d2 with
     | bl c2=>exact fun H2 H02 us2 z2 h2=>q H2 H02 us2 (z.trans z2) h2
     | _=>exact q.elim
   | false=>rw[if_neg Bool.false_ne_true];exact q H1 H01 us z h1
  | _=>exact q.elim
noncomputable def forM (tg:Ev->D->Res Ev) (body:Ev->List D->Res MFl):List D->Ev->List D->Res MFl
 | [],ρ,st=>.ok (.nx ρ st)
 | d::r,ρ,st=>(tg ρ d).bind fun ρ1=>(body ρ1 st).bind fun x=>match x with
  | .nx ρ2 s2=>forM tg body r ρ2 s2
  | .ct ρ2 s2=>forM tg body r ρ2 s2
  | .bk ρ2 s2=>.ok (.nx ρ2 s2)
  | .rt d s=>.ok (.rt d s)
noncomputable def tGM (K:W.Frag) (He H0e:Hp) (a:Addr) (tg:Ev->D->Res Ev):TG:=fun v σ H Q=>∃ Ha ρ st vs d,MSx K He H0e Ha σ H ρ a st vs/\Rep K Ha d v/\match tg ρ d with
  | .ok ρ'=>∀ σ' H' Ha',zaA Ha Ha'->MSx K He H0e Ha' σ' H' ρ' a st vs->Q σ' H'
  | _=>False
theorem zDH {tgt:Expr}{tg:Ev->D->Res Ev}(hg:∀ vs,DG X E (upd He a (.lst vs)) H0e tgt tg):PG X tgt (tGM X.K He H0e a tg):=by
 rintro pins sh σ H v u Q I r ⟨Ha,ρ,st,vs,d,h,rp,q⟩;refine(hg vs).o pins sh σ H v u Q I r ⟨Ha,ρ,d,h.s,rp,?_⟩;cases e1:tg ρ d with
 | stuck=>rw[e1] at q;exact q
 | exn x=>rw[e1] at q;exact q
 | ok ρ' =>
  rw[e1] at q;exact fun σ' H' Ha' z h'=>q σ' H' Ha' z (h.back z h')
noncomputable def znD (K:W.Frag) (He H0e:Hp) (a:Addr) (Hb:Hp) (tg:Ev->D->Res Ev) (s:Ev->List D->Res MFl) (ds:List D) (D':zi0) (i:Nat) (σ:L2.St) (H:Hp):Prop :=
 ∃ Ha ρ st vs,zaA Hb Ha/\MSx K He H0e Ha σ H ρ a st vs/\zfs K He H0e a Ha (forM tg s (ds.drop i) ρ st) D'
theorem znD.done {K:W.Frag}{Hb:Hp}{tg:Ev->D->Res Ev}{ds:List D}{D':zi0}{σ:L2.St}{H:Hp}(h:znD K He H0e a Hb tg s ds D' ds.length σ H):D'.nx σ H:=by
 obtain⟨Ha,ρ,st,vs,z,h,q⟩:=h;rw[List.drop_length] at q;unfold forM at q;exact q σ H Ha vs (zaA.refl _) h
end
section
variable {X:Cx}{E:XK}{He H0e:Hp}{a:Addr}{st:Stmt}{e l b:Expr}{rest es:List Expr}{pos:Pos}{f:Ev->Res D}{fm gm:Ev->List D->Res (D×List D)}{fa:Ev->List D->Res (List D×List D)}{s t:Ev->List D->Res MFl}
noncomputable def zr0 (i:Nat) (ρ:Ev) (ds:List D) (p:D×List D):Res MFl:=if ds.length < line then .ok (.nx (ρ.set i (.ow (.lst (ds++[p.1])))) p.2) else .stuck
noncomputable def zB9 (s:Option Sl) (k:List D->Res MFl):Res MFl:=match s with
 | some (.ow (.lst ds))=>k ds
 | _=>.stuck
noncomputable def zA9 (i:Nat) (f:Ev->List D->Res (D×List D)):Ev->List D->Res MFl:=fun ρ st=>zB9 ρ[i]? fun ds=>(f ρ st).bind (zr0 i ρ ds)
theorem zsQ {i:Nat}{x:Str}{p1 p2 p3:Pos}(hN:X.N[i]?=some x)(hv:Vis X.env.scope x)(he:DM X He H0e a e fm)
  (hd:(x==("__debug__" : Str))=false:=by decide)(hcd:(x==("__classdict__" : Str))=false:=by decide)
  (hbase:attributeBase (.Name x p1) "append" X.env (eval (.Name x p1) X.env)=eval (.Name x p1) X.env:=by rfl)
  (hfew:((backTo p3 (starEach [e] X.env)).all (fun x=>!x.1)&&(backToKw p3 (keywordEach [] X.env)).all (fun x=>x.1.isSome)
  &&decide ([e].length+([]:List Keyword).length+(if([]:List Keyword).isEmpty then 0 else 1) < 30))=true:=by exact zm8 rfl)
  (hline:(p2.endLine==p3.line)=true:=by rfl) (hs:starEach [e] X.env=(false,eval e X.env)::starEach [] X.env:=by exact zaX rfl) (hplain:(backTo p3 (starEach [] X.env)).any (·.1)=false:=by exact zbC rfl)
  (hw:swapsWith (.Call (.Attribute (.Name x p1) "append" p2) [e] [] p3) none pos.line X.env=pure false:=by rfl) :
  SM X He H0e a (.Expr (.Call (.Attribute (.Name x p1) "append" p2) [e] [] p3) pos) (zA9 i fm):=by
 refine⟨?_⟩;refine za3 (zpH (zyE PySem.F.plainAttrs_list PySem.F.slot_list_append PySem.F.type_list_append zjQ (zjF hN hv hd hcd) (zdZ he.o zg7 hs) hbase hfew hline hs hplain) hw) fun D σ H ⟨Ha,ρ,st,vs,h,q⟩=>?_;unfold zA9 zB9 at q;cases e0:ρ[i]? with
 | none=>rw[e0] at q;exact q.elim
 | some sl =>
  rw[e0] at q;cases sl with
  | ow d =>
   cases d with
   | lst ds =>
    obtain⟨p,k1,k2,k3,ws,k4,k5⟩:=h.s.ow i _ e0;refine⟨.ref p,k1,.inl ⟨rfl,ws,SqL.of k4⟩,?_⟩;refine⟨Ha,ρ,st,vs,h,?_⟩;replace q:zfs X.K He H0e a Ha ((fm ρ st).bind (zr0 i ρ ds)) D:=q;cases e1:fm ρ st with
    | stuck=>rw[e1] at q;exact q
    | exn x=>rw[e1] at q;exact q
    | ok pr =>
     obtain⟨d,st'⟩:=pr;rw[e1] at q;intro v H' Ha' us z h' rp;obtain⟨p',k1',k2',k3',ws',k4',k5'⟩:=h'.s.ow i _ e0;rw[k1] at k1';cases k1';replace q:zfs X.K He H0e a Ha (zr0 i ρ ds (d,st')) D:=q;unfold zr0 at q
     by_cases hl:ds.length < line
     .rw[if_pos hl] at q
      refine⟨p,ws',v,rfl,rfl,k4',by rw[← k5'.length];exact Nat.lt_of_lt_of_le hl (by decide),?_⟩;have hpa:p≠a:=by intro c;subst c;rw[zar] at k2';cases k2'
      exact q σ _ Ha' us z ⟨h'.ha,h'.h0,by rw[zal (Ne.symm hpa)];exact h'.hl,h'.r,h'.s.write e0 k1 (k5'.app (Reps.cons rp Reps.nil))⟩
     .rw[if_neg hl] at q;exact q.elim
   | _=>exact q.elim
  | _=>exact q.elim
noncomputable def zjD (ρ:Ev) (d:D) (p:D×List D):Res MFl:=match p.1 with
 | .int j=>match ixN p.2.length j with
  | some n=>.ok (.nx ρ (p.2.set n d))
  | none=>.stuck
 | _=>.stuck
noncomputable def zxm (i:Nat) (a:Addr) (f k:Ev->List D->Res (D×List D)):Ev->List D->Res MFl:=fun ρ st=>if zob ρ[i]? a=true then(f ρ st).bind fun p=>(k ρ p.2).bind (zjD ρ p.1) else .stuck
theorem ztN {s:Option Sl}{a:Addr}(h:zob s a=true):s=some (.pt a):=by
 unfold zob at h;split at h
 .rw[eq_of_beq h]
 .cases h
theorem zsP {i:Nat}{x:Str}{p1 p2:Pos}(hN:X.N[i]?=some x)(hv:Vis X.env.scope x)(he:DM X He H0e a e fm)(hk:DM X He H0e a b gm)
  (hd:(x==("__debug__" : Str))=false:=by decide)(hcd:(x==("__classdict__" : Str))=false:=by decide)
  (ha:∀ v,assign (.Subscript (.Name x p1) b p2) X.env v=(do
   let ov ← holding [v] (eval (.Name x p1) X.env)
   let iv ← holding [v,ov] (eval b X.env)
   standAt p2
   holding [v,ov,iv] (setItem ov iv v)
   release [v,ov,iv] []):=by intro _;rfl)
  (hs:swapsWithSole [.Subscript (.Name x p1) b p2] e pos.line X.env=pure false:=by rfl) (hw:swappedStores [.Subscript (.Name x p1) b p2] e X.env=pure none:=by rfl)
  (h1:(assignEach [.Subscript (.Name x p1) b p2] X.env).map (·.2)=[assign (.Subscript (.Name x p1) b p2) X.env]:=by rfl) :
  SM X He H0e a (.Assign [.Subscript (.Name x p1) b p2] e pos) (zxm i a fm gm):=by
 refine⟨?_⟩;refine za3 (zxe he.o (zxf (zjF hN hv hd hcd) hk.o zqs ha) hs hw h1) fun D σ H ⟨Ha,ρ,st,vs,h,q⟩=>⟨Ha,ρ,st,vs,h,?_⟩
 unfold zxm at q
 by_cases hp:zob ρ[i]? a=true
 .rw[if_pos hp] at q
  have hσ:=h.s.ex.2 i a (ztN hp);cases e1:fm ρ st with
  | stuck=>rw[e1] at q;exact q
  | exn x=>rw[e1] at q;exact q
  | ok pr =>
   obtain⟨d,s1⟩:=pr;rw[e1] at q;intro v H1 H01 us1 z1 h1' r1;refine⟨.ref a,hσ,H01,ρ,s1,us1,h1',?_⟩;replace q:zfs X.K He H0e a Ha ((gm ρ s1).bind (zjD ρ d)) D:=q;cases e2:gm ρ s1 with
   | stuck=>rw[e2] at q;exact q
   | exn x=>rw[e2] at q;exact q
   | ok pr2 =>
    obtain⟨j,s2⟩:=pr2;rw[e2] at q;intro u H2 H02 us2 z2 h2 r2;replace q:zfs X.K He H0e a Ha (zjD ρ d (j,s2)) D:=q;unfold zjD at q;cases j with
    | int n =>
     cases en:ixN s2.length n with
     | none=>simp only[en] at q;exact q.elim
     | some m =>
      simp only[en] at q;refine⟨a,us2,n,m,rfl,zah.mp r2,h2.hl,by rw[← h2.r.length];exact en,?_⟩;refine q σ _ H02 (us2.set m v) (z1.trans z2) (h2.change (H':=upd H2 a (.lst (us2.set m v))) ⟨fun b o e=>?_,zaA.refl _,fun b o e=>?_,fun b k1 k2=>absurd k2 k1⟩ h2.n0 zar (h2.r.set (r1.mono z2) m))
      .have c:b≠a:=by intro c;subst c;rw[zdb] at e;cases e
       rw[zal c];rw[zff c] at e;exact e
      .have c:b≠a:=by intro c;subst c;rw[h2.n0] at e;cases e
       rw[zal c];exact h2.s.g.sub _ _ e
    | _=>exact q.elim
 .rw[if_neg hp] at q;exact q.elim
variable {CX:CXT}{k n:Nat}{fn:Addr}{fd:FuncData}{ps:List Str}{x:Str}{p:Pos}
theorem zzm {m:List D->Res D}(F:zcz X.prog X.w X.K X.mg X.base CX k fn fd ps (spD X.K n m))(hr:zgm k X.A)(hg:Gl X x)(hm:X.mg x=some (.ref fn))
  (hk:W.keepIn X.K (.ref fn)=true)(hb:zlK X.K fd ps [])(hx:zgb CX X E)(ha:DMA X He H0e a (e::es) fa)(hn:(e::es).length=n:=by rfl)(hl:∀ ρ st ds,fa ρ st=.ok ds->ds.1.length=(e::es).length)
  (hdb:(x==("__debug__" : Str))=false:=by decide)(he:starEach (e::es) X.env=(false,eval e X.env)::starEach es X.env:=by exact zaX rfl)(hpl:(backTo pos (starEach es X.env)).any (·.1)=false:=by exact zbC rfl) :
  DM X He H0e a (.Call (.Name x p) (e::es) [] pos) (mA fa m):=by
 refine⟨?_⟩;refine zaK (zmW F hr hg hm hk hb .nil hx ha.o hdb he hpl) fun σ H Q ⟨Ha,ρ,st,vs,h,q⟩=>⟨Ha,ρ,st,vs,h,?_⟩
 unfold mA at q;cases e1:fa ρ st with
 | stuck=>rw[e1] at q;exact q
 | exn x=>rw[e1] at q;exact q
 | ok pr =>
  obtain⟨ds,s1⟩:=pr;rw[e1] at q;intro xs H1 H01 us z1 h1 r1;refine⟨?_,H01,ds,h1.s.g.sub,by simpa using r1,?_⟩
  .have:=r1.length
   have:=hl ρ st _ e1;simp only[List.append_nil] at *;omega
  .simp only[Res.bind] at q
   cases e2:m ds with
   | stuck=>rw[e2] at q;exact q
   | exn x=>rw[e2] at q;exact q.elim
   | ok d =>
    rw[e2] at q;exact fun v' H' Ha' g rp=>q v' H' Ha' us (z1.trans g.z) (h1.back g.z (h1.s.grow g)) rp
noncomputable def spM (K:W.Frag) (n:Nat) (m:Addr->List D->List D->Res (D×List D)):Sp:=fun vs H Q E=>vs.length=n+1/\∃ Ha ds a st us0 vs0,vs=.ref a::vs0/\zaA Ha H/\Reps K Ha ds vs0/\Ha a=none/\H a=some (.lst us0)/\Reps K Ha st us0/\match m a st ds with
 | .ok (d,st')=>∀ v H' Ha' us,zbj (era a H) Ha H' Ha'->Ha' a=none->H' a=some (.lst us)->Reps K Ha' st' us->Rep K Ha' d v->Q v H'
 | .exn _=>False
 | .stuck=>False
noncomputable def zvm (a:Addr) (m:Addr->List D->List D->Res (D×List D)) (p:List D×List D):Res (D×List D):=m a p.2 p.1
noncomputable def zbm (i:Nat) (a:Addr) (fa:Ev->List D->Res (List D×List D)) (m:Addr->List D->List D->Res (D×List D)):Ev->List D->Res (D×List D):=fun ρ st=>if zob ρ[i]? a=true then(fa ρ st).bind (zvm a m) else .stuck
theorem zwM {i:Nat}{y:Str}{p1:Pos}{m:Addr->List D->List D->Res (D×List D)}(F:zcz X.prog X.w X.K X.mg X.base CX k fn fd ps (spM X.K n m))(hr:zgm k X.A)(hg:Gl X x)(hm:X.mg x=some (.ref fn))
  (hk:W.keepIn X.K (.ref fn)=true)(hb:zlK X.K fd ps [])(hx:zgb CX X E)(hN:X.N[i]?=some y)(hv:Vis X.env.scope y)(ha:DMA X He H0e a es fa)(hl:∀ ρ st ds,fa ρ st=.ok ds->ds.1.length=n)
  (hd:(y==("__debug__" : Str))=false:=by decide)(hcd:(y==("__classdict__" : Str))=false:=by decide)(hdb:(x==("__debug__" : Str))=false:=by decide)(he:starEach (.Name y p1::es) X.env=(false,eval (.Name y p1) X.env)::starEach es X.env:=by exact zaX rfl)(hpl:(backTo pos (starEach es X.env)).any (·.1)=false:=by exact zbC rfl) :
  DM X He H0e a (.Call (.Name x p) (.Name y p1::es) [] pos) (zbm i a fa m):=by
 refine⟨?_⟩;refine zaK (zmW F hr hg hm hk hb .nil hx (zdZ (zjF hN hv hd hcd) ha.o he) hdb he hpl) fun σ H Q ⟨Ha,ρ,st,vs,h,q⟩=>?_;unfold zbm at q
 by_cases hp:zob ρ[i]? a=true
 .rw[if_pos hp] at q
  have hσ:=h.s.ex.2 i a (ztN hp);refine⟨.ref a,hσ,Ha,ρ,st,vs,h,?_⟩;cases e1:fa ρ st with
  | stuck=>rw[e1] at q;exact q
  | exn x=>rw[e1] at q;exact q
  | ok pr =>
   obtain⟨ds,s1⟩:=pr;rw[e1] at q;intro xs H1 H01 us z1 h1 r1;refine⟨?_,H01,ds,a,s1,us,xs,by simp,h1.s.g.sub,r1,h1.n0,h1.hl,h1.r,?_⟩
   .have:=r1.length
    have:=hl ρ st _ e1;simp only[List.append_nil,List.length_cons] at *;omega
   .replace q:match m a s1 ds with
     | .ok (d,st')=>∀ v H' Ha' us,zaA Ha Ha'->MSx X.K He H0e Ha' σ H' ρ a st' us->Rep X.K Ha' d v->Q v H'
     | .exn _=>False
     | .stuck=>False:=q
    cases e2:m a s1 ds with
    | stuck=>rw[e2] at q;exact q
    | exn x=>rw[e2] at q;exact q
    | ok pr2 =>
     obtain⟨d,s2⟩:=pr2;rw[e2] at q;exact fun v H' Ha' us' g n' hl' r' rp=>q v H' Ha' us' (z1.trans g.z) (h1.change g n' hl' r') rp
 .rw[if_neg hp] at q;exact q.elim
end
noncomputable def zvY (r:MFl):Res (D×List D):=match r with
 | .nx _ st=>.ok (.non,st)
 | .rt d st=>.ok (d,st)
 | _=>.stuck
noncomputable def zvB (n:Nat) (s:Addr->Ev->List D->Res MFl) (a:Addr) (st ds:List D):Res (D×List D):=(s a (.pt a::ds.map Sl.sh++List.replicate (n-(ds.length+1)) .no) st).bind zvY
theorem zdr {P:Program}{w:World}{K:W.Frag}{mg:Str->Option Value}{base:Heap}{x qual:Str}{st:Stmt}{f:Addr}{fd:FuncData}{N ps:List Str}{k n:Nat}{s:Addr->Ev->List D->Res MFl}(F:Fun K x qual st f fd)(S:zaB N ps (defScope st))(hn:ps.length=n+1)
  (hbody:∀ (cdv:Value) (A:Around) (outer:List PySem.Env) (s0:Shared) (H He Ha:Hp) (a:Addr) (E:XK),zgm k (A.deeper (envOfC qual (defScope st) s0.heap.objs.size f cdv)) ->
   SMs (zwS CX0 P w K mg base N qual (defScope st) f cdv A outer s0 H E).nox He Ha a (defBody st) (s a)):zcz P w K mg base CX0 (k+1) f fd ps (spM K n (zvB N.length s)):=by
 have hpl:ps.length<=N.length:=by have:=congrArg List.length S.pre;rw[List.length_take] at this;omega
 refine F.ok S (fun vs H Q E h=>h.1.trans hn.symm) fun cdv A outer s0 H vs Q E hr h=>?_;obtain⟨hlen,Ha,ds,a,sl,us0,vs0,rfl,hs,hv,h0,hl,hst,q⟩:=h;have lv:=hv.length;have hσ:start N (.ref a::vs0)=some (.ref a)::(vs0.map some++List.replicate (N.length-(vs0.length+1)) none):=by
  unfold L2.start;simp
 have hρ0:∀ (i:Nat) (z:Sl),(Sl.pt a::ds.map Sl.sh++List.replicate (N.length-(ds.length+1)) Sl.no)[i]?=some z->z=.no∨(i=0/\z=.pt a)∨∃ j d,i=j+1/\ds[j]?=some d/\z=.sh d:=fun i z e=>by
  cases i with
  | zero=>simp at e;exact .inr (.inl ⟨rfl,e.symm⟩)
  | succ j =>
   rw[List.cons_append,List.getElem?_cons_succ] at e
   by_cases hj:j < ds.length
   .rw[List.getElem?_append_left (by simpa using hj),List.getElem?_map,List.getElem?_eq_getElem hj] at e
    cases e;exact .inr (.inr ⟨j,ds[j],rfl,List.getElem?_eq_getElem hj,rfl⟩)
   .rw[List.getElem?_append_right (by simpa using hj),List.getElem?_replicate] at e
    split at e
    .cases e;exact .inl rfl
    .cases e
 refine⟨_,(hbody cdv A outer s0 H (era a H) Ha a E hr).o,Ha,.pt a::ds.map Sl.sh++List.replicate (N.length-(ds.length+1)) .no,sl,us0,⟨zdb,h0,hl,hst,?_⟩,?_⟩
 .refine⟨⟨fun b o e=>?_,zaA.refl _,hs,fun b h1 h2=>absurd h2 h1⟩,fun i d e=>?_,fun i d e=>?_,fun i j d d' hij e=>?_,?_,⟨fun i j es e=>?_,fun i b e=>?_⟩⟩
  .by_cases c:b=a
   .subst c;rw[zar] at e;cases e;exact hl
   .rw[zal c,zff c] at e;exact e
  .rcases hρ0 i _ e with h | ⟨_,h⟩ | ⟨j,d',rfl,hd,h⟩
   .cases h
   .cases h
   .cases h
    obtain⟨v,h1,h2⟩:=hv.get hd;refine⟨v,?_,h2⟩;rw[hσ,List.getElem?_cons_succ,List.getElem?_append_left (by rw[List.length_map];exact(List.getElem?_eq_some_iff.mp h1).1),List.getElem?_map,h1];rfl
  .rcases hρ0 i _ e with h | ⟨_,h⟩ | ⟨j,d',rfl,hd,h⟩<;>cases h
  .rcases hρ0 i _ e with h | ⟨_,h⟩ | ⟨j,d',rfl,hd,h⟩<;>cases h
  .rw[hσ]
   simp only[List.length_cons,List.length_append,List.length_map,List.length_replicate];omega
  .rcases hρ0 i _ e with h | ⟨_,h⟩ | ⟨j,d',rfl,hd,h⟩<;>cases h
  .rcases hρ0 i _ e with h | ⟨rfl,h⟩ | ⟨j,d',rfl,hd,h⟩
   .cases h
   .cases h;rw[hσ];rfl
   .cases h
 .unfold zvB at q
  cases e1:s a (.pt a::ds.map Sl.sh++List.replicate (N.length-(ds.length+1)) .no) sl with
  | stuck=>rw[e1] at q;exact q
  | exn x=>rw[e1] at q;exact q
  | ok r =>
   rw[e1] at q;cases r with
   | nx ρ' st'=>exact fun σ' H' Ha' us z h'=>q .non H' Ha' us ⟨fun b o e=>h'.s.g.s _ _ (by rw[zal (by intro c;subst c;rw[zdb] at e;cases e)];exact e),h'.s.g.z,h'.s.g.sub,fun b h1 h2=>by
      have:=h'.s.g.nw b h1 h2
      by_cases c:b=a
      .subst c;exact zdb
      .rw[zal c] at this;exact this⟩ h'.n0 h'.hl h'.r (zaD.mpr rfl)
   | rt d st'=>exact fun v H' Ha' z o rp=>let ⟨us,l1,l2⟩:=o.l;q v H' Ha' us o.g o.n l1 l2 rp
   | bk ρ' st'=>exact q.elim
   | ct ρ' st'=>exact q.elim
section
variable {K:W.Frag}{He H0e Ha H:Hp}{σ:L2.St}{ρ:Ev}
theorem SRx.enter (h:SRx K He H0e Ha σ H ρ){i:Nat}{p:Addr}{ds:List D}{vs:List V}(hi:i < ρ.length)(he:He p=none)(h0:Ha p=none)(hl:H p=some (.lst vs))(r:Reps K Ha ds vs)
  (ho:∀ (j:Nat) (d:D) (q:Addr),ρ[j]?=some (.ow d)->σ[j]?=some (some (.ref q))->q≠p)(hx:∀ (j k:Nat) (es:List D),ρ[j]?≠some (.ox k es)):MSx K He H0e Ha (σ.set i (some (.ref p))) H (ρ.set i (.pt p)) p ds vs:=by
 have key:∀ (j:Nat) (s:Sl),(ρ.set i (.pt p))[j]?=some s->(j=i/\s=.pt p)∨(j≠i/\ρ[j]?=some s):=fun j s e=>by
  by_cases hj:i=j
  .subst hj;rw[List.getElem?_set_self hi] at e;cases e;exact .inl ⟨rfl,rfl⟩
  .rw[List.getElem?_set_ne hj] at e;exact .inr ⟨fun z=>hj z.symm,e⟩
 have h0e:H0e p=none:=h.g.z.free h0;refine⟨he,h0e,hl,r,⟨⟨fun b o e=>?_,h.g.z,h.g.sub,fun b h1 h2=>?_⟩,fun j d e=>?_,fun j d e=>?_,fun j k d d' hn e1 e2=>?_,by simp [h.ln],⟨fun j k es e=>?_,fun j b e=>?_⟩⟩⟩
 .by_cases c:b=p
  .subst c;rw[zar] at e;cases e;exact hl
  .rw[zal c] at e;exact h.g.s _ _ e
 .have c:b≠p:=by intro c;subst c;exact h1 h0
  rw[zal c];exact h.g.nw b h1 h2
 .rcases key j _ e with⟨_,e'⟩ | ⟨hj,e'⟩
  .cases e'
  .obtain⟨v,h1,h2⟩:=h.rd j d e'
   exact⟨v,by rw[List.getElem?_set_ne (Ne.symm hj)];exact h1,h2⟩
 .rcases key j _ e with⟨_,e'⟩ | ⟨hj,e'⟩
  .cases e'
  .obtain⟨q,h1,h2,h3,h4⟩:=h.ow j d e'
   exact⟨q,by rw[List.getElem?_set_ne (Ne.symm hj)];exact h1,by rw[zal (ho j d q e' h1)];exact h2,h3,h4⟩
 .rcases key j _ e1 with⟨_,e'⟩ | ⟨hj,e1'⟩
  .cases e'
  rcases key k _ e2 with⟨_,e'⟩ | ⟨hk,e2'⟩
  .cases e'
  rw[List.getElem?_set_ne (Ne.symm hj),List.getElem?_set_ne (Ne.symm hk)];exact h.ap j k d d' hn e1' e2'
 .rcases key j _ e with⟨_,e'⟩ | ⟨hj,e'⟩
  .cases e'
  .exact absurd e' (hx j k es)
 .rcases key j _ e with⟨rfl,e'⟩ | ⟨hj,e'⟩
  .cases e'
   rw[List.getElem?_set_self (by rw[← h.ln];exact hi)]
  .rw[List.getElem?_set_ne (Ne.symm hj)];exact h.ex.2 j b e'
def zwU (i:Nat)(ρ:Ev):Ev:=ρ.take i++List.replicate (ρ.length-i) .no
theorem zwT {i:Nat}{ρ:Ev}:(zwU i ρ).length=ρ.length:=by
 unfold zwU;rw[List.length_append,List.length_take,List.length_replicate];omega
theorem zzz {i:Nat}{ρ:Ev}{j:Nat}{s:Sl}(e:(zwU i ρ)[j]?=some s):s=.no∨ρ[j]?=some s:=by
 unfold zwU at e
 by_cases hj:j < (ρ.take i).length
 .rw[List.getElem?_append_left hj] at e
  rw[List.getElem?_take] at e;split at e
  .exact .inr e
  .cases e
 .rw[List.getElem?_append_right (by omega),List.getElem?_replicate] at e
  split at e
  .cases e;exact .inl rfl
  .cases e
theorem MSx.leave {a:Addr}{st:List D}{vs:List V}(h:MSx K He H0e Ha σ H ρ a st vs)(i:Nat):SRx K He H0e Ha σ H (zwU i ρ):=by
 have hn:∀ b,upd He a (.lst vs) b=none->He b=none:=fun b e=>by
  by_cases c:b=a
  .subst c;exact h.ha
  .rw[zal c] at e;exact e
 have key:∀ (j:Nat) (s:Sl),(zwU i ρ)[j]?=some s->s=.no∨ρ[j]?=some s:=fun j s e=>zzz e;refine⟨⟨fun b o e=>h.s.g.s _ _ (by rw[zal (by intro c;subst c;rw[h.ha] at e;cases e)];exact e),h.s.g.z,h.s.g.sub,fun b h1 h2=>hn b (h.s.g.nw b h1 h2)⟩,fun j d e=>?_,fun j d e=>?_,fun j k d d' hij e1 e2=>?_,by rw[zwT];exact h.s.ln,(h.s.ex.he hn).upd (fun j s e=>?_) (zaA.refl _) (fun _ _ _ e=>e) fun p us _ q0 hq _=>⟨hq,q0⟩⟩
 .rcases key j _ e with h' | h'
  .cases h'
  .exact h.s.rd j d h'
 .rcases key j _ e with h' | h'
  .cases h'
  .obtain⟨q,h1,h2,h3⟩:=h.s.ow j d h'
   exact⟨q,h1,hn q h2,h3⟩
 .rcases key j _ e1 with h' | h'
  .cases h'
  rcases key k _ e2 with h'' | h''
  .cases h''
  exact h.s.ap j k d d' hij h' h''
 .rcases key j _ e with h' | h'
  .exact .inr (.inr (.inl h'))
  .exact .inl ⟨h',rfl⟩
end
open Classical in
noncomputable def zy0 (F:Addr->Res Fl):Res Fl:=if h:∃ r,∀ a,F a=r then h.choose else .stuck
theorem zyZ {F:Addr->Res Fl}{r:Res Fl}(h:∀ a,F a=r):zy0 F=r:=by
 have hx:∃ r,∀ a,F a=r:=⟨r,h⟩
 unfold zy0;rw[dif_pos hx];exact(hx.choose_spec 0).symm.trans (h 0)
theorem zyY {F:Addr->Res Fl}(h:zy0 F≠.stuck)(a:Addr):F a=zy0 F:=by
 unfold zy0 at h ⊢
 by_cases hx:∃ r,∀ a,F a=r
 .rw[dif_pos hx];exact hx.choose_spec a
 .rw[dif_neg hx] at h;exact absurd rfl h
noncomputable def zwB (i:Nat) (r:Res MFl):Res Fl:=match r with
 | .ok (.nx ρ _)=>.ok (.nx (zwU i ρ))
 | .ok (.rt d _)=>.ok (.rt d)
 | .ok (.bk ρ _)=>.ok (.bk (zwU i ρ))
 | .ok (.ct ρ _)=>.ok (.ct (zwU i ρ))
 | _=>.stuck
def zDO (ρ:Ev):Bool:=ρ.all fun s=>match s with
 | .ox _ _=>false
 | _=>true
noncomputable def zra (i:Nat) (s:Addr->Ev->List D->Res MFl) (ρ:Ev) (d:D):Res Fl:=match d with
 | .lst ds=>if zDO ρ=true/\i < ρ.length then zy0 fun a=>zwB i (s a (ρ.set i (.pt a)) ds) else .stuck
 | _=>.stuck
noncomputable def zjB (i:Nat) (f:Ev->Res D) (s:Addr->Ev->List D->Res MFl):Ev->Res Fl:=fun ρ=>(f ρ).bind (zra i s ρ)
section
variable {X:Cx}{E:XK}{He H0e:Hp}{st:Stmt}{rest:List Stmt}{e:Expr}{es:List Expr}{pos:Pos}{f:Ev->Res D}{s:Addr->Ev->List D->Res MFl}
theorem zuU {i:Nat}{x:Str}{pos':Pos}(hN:X.N.Nodup)(hi:X.N[i]?=some x)(hx:Loc X.env.scope x)(he:DF X E e f)(hr:∀ a,SMs X He H0e a rest (s a))(hs:swapsWith e (some (.Name x pos')) pos.line X.env=pure false:=by rfl)
  (hf:X.fn x=true∨X.env.scope.names.lookup x=some .local := by first | exact .inl rfl | exact .inr rfl | assumption):DSs X E He H0e (.Assign [.Name x pos'] e pos::rest) (zjB i f s):=by
 refine⟨?_⟩;have h2:PSs X rest fun G σ H=>∃ p,tSM X.K He H0e p (s p) G σ H:=fun pins sh σ H G I ⟨p,h⟩=>(hr p).o pins sh σ H G I h;refine zeY (zg6 (zlT hN hi hx he.o hs hf) h2) fun G σ H ⟨Ha,ρ,h,q⟩=>⟨Ha,ρ,h.g.sub,h.rd,?_⟩
 unfold zjB at q;cases e1:f ρ with
 | stuck=>rw[e1] at q;exact q
 | exn x=>rw[e1] at q;exact fun C ox H' Ha' g ex=>q C ox H' Ha' (h.g.trans g) ex
 | ok d =>
  rw[e1] at q;replace q:zbM X.K E He H0e Ha (zra i s ρ d) G:=q;unfold zra at q;cases d with
  | lst ds =>
   simp only at q
   by_cases hc:zDO ρ=true/\i < ρ.length
   .rw[if_pos hc] at q
    intro p vs H' Ha' g hp h0 hv rp;have hg:=h.grow g;have hnx:∀ (j k:Nat) (es:List D),ρ[j]?≠some (.ox k es):=fun j k es e=>by
     have:=List.all_eq_true.mp hc.1 _ (List.mem_of_getElem? e);cases this
    have hm:=hg.enter (i:=i) (p:=p) (ds:=ds) (vs:=vs) hc.2 (h.g.s.free hp) h0 hv rp (fun j d q' ej es'=>by
     obtain⟨q2,k1,_,_,k4⟩:=h.ow j d ej;rw[es'] at k1;cases k1;cases d with
     | lst ds'=>obtain⟨ws,k5,_⟩:=k4;intro c;subst c;rw[hp] at k5;cases k5
     | dic ks' ds'=>obtain⟨ws,k5,_⟩:=k4;intro c;subst c;rw[hp] at k5;cases k5
     | _=>exact k4.elim) hnx
    have hns:zy0 (fun a=>zwB i (s a (ρ.set i (.pt a)) ds))≠.stuck:=fun z=>by rw[z] at q;exact q
    have hF:=zyY hns p;rw[← hF] at q;refine⟨p,Ha',_,ds,vs,hm,?_⟩;replace q:=zbM.grow q g.z;unfold zwB at q;cases e2:s p (ρ.set i (.pt p)) ds with
    | stuck=>rw[e2] at q;exact q
    | exn x=>rw[e2] at q;exact q.elim
    | ok r =>
     rw[e2] at q;cases r with
     | nx ρ' st'=>exact fun σ' H2 H02 us z h'=>q σ' H2 H02 z (h'.leave i)
     | rt d st'=>exact fun v H2 H02 z o rp=>q v H2 H02 o.g rp
     | bk ρ' st'=>exact fun σ' H2 H02 us z h'=>q σ' H2 H02 z (h'.leave i)
     | ct ρ' st'=>exact fun σ' H2 H02 us z h'=>q σ' H2 H02 z (h'.leave i)
   .rw[if_neg hc] at q;exact q.elim
  | _=>exact q.elim
end
noncomputable def tMI (K:W.Frag) (He H0e:Hp) (a:Addr) (src:Ev->List D->Res (List D×List D)):TI:=fun σ H R=>∃ Ha ρ st vs,MSx K He H0e Ha σ H ρ a st vs/\match src ρ st with
 | .ok (ds,st')=>∀ J H' Ha' us,zaA Ha Ha'->MSx K He H0e Ha' σ H' ρ a st' us->ItD K ds J Ha'->R J H'
 | .exn _=>False
 | .stuck=>False
structure MI (X:Cx) (He H0e:Hp) (a:Addr) (tg iter:Expr) (src:Ev->List D->Res (List D×List D)):Prop where
 o:PI X tg iter (tMI X.K He H0e a src)
noncomputable def zxl (src:Ev->Res (List D)):Ev->List D->Res (List D×List D):=fun ρ st=>(src ρ).bind fun ds=>.ok (ds,st)
noncomputable def zqN (p:D×List D):Res (List D×List D):=match p.1 with
 | .int j=>if -4611686018427387904<=j/\j < 4611686018427387904 then .ok (intsFrom 0 j.toNat,p.2) else .stuck
 | _=>.stuck
noncomputable def zwn (f:Ev->List D->Res (D×List D)):Ev->List D->Res (List D×List D):=fun ρ st=>(f ρ st).bind zqN
section
variable {X:Cx}{E:XK}{He H0e:Hp}{a:Addr}{st:Stmt}{e l b tgt iter:Expr}{rest es:List Expr}{pos:Pos}{f:Ev->Res D}{fm gm:Ev->List D->Res (D×List D)}{fa:Ev->List D->Res (List D×List D)}{s t:Ev->List D->Res MFl}
theorem zm0 {src:Ev->Res (List D)}(h:DI X E tgt iter src):MI X He H0e a tgt iter (zxl src):=⟨zh7 h.o fun σ H R ⟨Ha,ρ,st,vs,h,q⟩=>⟨Ha,ρ,h.s.g.sub,h.s.rd,by
 unfold zxl at q;cases e1:src ρ with
 | stuck=>rw[e1] at q;exact q
 | exn x=>rw[e1] at q;exact q.elim
 | ok ds =>
  rw[e1] at q;exact fun J H' Ha' g it=>q J H' Ha' vs g.z (h.back g.z (h.s.grow g)) it⟩⟩
theorem ztA {p pos2:Pos}(hgl:Gl X "range")(hm:X.mg "range"=none)(hi:DM X He H0e a iter fm)(hst:starEach [iter] X.env=[(false,eval iter X.env)]:=by exact zeP rfl):MI X He H0e a tgt (.Call (.Name "range" p) [iter] [] pos2) (zwn fm):=by
 refine⟨zh7 (zjE hgl hm (zdZ hi.o zg7 hst) hst) fun σ H R ⟨Ha,ρ,st,vs,h,q⟩=>⟨Ha,ρ,st,vs,h,?_⟩⟩;unfold zwn at q;cases e1:fm ρ st with
 | stuck=>rw[e1] at q;exact q
 | exn x=>rw[e1] at q;exact q
 | ok pr =>
  obtain⟨d,s1⟩:=pr;rw[e1] at q;intro v H1 H01 us z h1 r1;cases d with
  | int j =>
   rw[zah.mp r1];replace q:match (if -4611686018427387904<=j/\j < 4611686018427387904 then Res.ok (intsFrom 0 j.toNat,s1) else .stuck) with
    | .ok (ds,st')=>∀ J H' Ha' us,zaA Ha Ha'->MSx X.K He H0e Ha' σ H' ρ a st' us->ItD X.K ds J Ha'->R J H'
    | .exn _=>False
    | .stuck=>False:=q
   by_cases hj:-4611686018427387904<=j/\j < 4611686018427387904
   .rw[if_pos hj] at q
    exact⟨j,rfl,hj.1,hj.2,q _ H1 H01 us z h1 zn9⟩
   .rw[if_neg hj] at q;exact q.elim
  | _=>exact q.elim
theorem znD.step2 {K:W.Frag}{Hb Ha:Hp}{ρ:Ev}{st:List D}{vs:List V}{tg:Ev->D->Res Ev}{ds:List D}{D':zi0}{i:Nat}{σ:L2.St}{H:Hp}{d:D}{v:V}(z:zaA Hb Ha)(h:MSx K He H0e Ha σ H ρ a st vs)(q:zfs K He H0e a Ha (forM tg s (ds.drop i) ρ st) D')(hd:ds[i]?=some d)(rv:Rep K Ha d v)
  (he:∀ ρ,tg ρ d=.stuck∨∃ ρ',tg ρ d=.ok ρ') :
  tGM K He H0e a tg v σ H fun σ2 H2=>tSM K He H0e a s { D' with nx:=znD K He H0e a Hb tg s ds D' (i+1),ct:=znD K He H0e a Hb tg s ds D' (i+1),bk:=D'.nx } σ2 H2:=by
 have hi:i < ds.length:=(List.getElem?_eq_some_iff.mp hd).1;have hdr:ds.drop i=d::ds.drop (i+1):=by
  rw[List.drop_eq_getElem_cons hi];rw[List.getElem?_eq_getElem hi] at hd;cases hd;rfl
 rw[hdr] at q;refine⟨Ha,ρ,st,vs,d,h,rv,?_⟩;unfold forM at q;rcases he ρ with e1 | ⟨ρ1,e1⟩
 .rw[e1] at q;exact q.elim
 .rw[e1] at q ⊢
  intro σ' H' Ha' z' h';refine⟨Ha',ρ1,st,vs,h',?_⟩;replace q:=zfs.grow (r:=(s ρ1 st).bind fun x=>match x with
   | .nx ρ2 s2=>forM tg s (ds.drop (i+1)) ρ2 s2
   | .ct ρ2 s2=>forM tg s (ds.drop (i+1)) ρ2 s2
   | .bk ρ2 s2=>.ok (.nx ρ2 s2)
   | .rt d s=>.ok (.rt d s)) q z'
  cases e2:s ρ1 st with
  | stuck=>rw[e2] at q;exact q
  | exn x=>rw[e2] at q;exact q
  | ok r =>
   rw[e2] at q;cases r with
   | nx ρ2 s2=>exact fun σ3 H3 H03 vs3 z3 h3=>⟨H03,ρ2,s2,vs3,(z.trans z').trans z3,h3,zfs.grow (r:=forM tg s (ds.drop (i+1)) ρ2 s2) q z3⟩
   | ct ρ2 s2=>exact fun σ3 H3 H03 vs3 z3 h3=>⟨H03,ρ2,s2,vs3,(z.trans z').trans z3,h3,zfs.grow (r:=forM tg s (ds.drop (i+1)) ρ2 s2) q z3⟩
   | bk ρ2 s2=>exact q
   | rt d s2=>exact q
noncomputable def zn2 (src:Ev->List D->Res (List D×List D)) (tg:Ev->D->Res Ev) (s:Ev->List D->Res MFl):Ev->List D->Res MFl:=fun ρ st=>(src ρ st).bind fun p=>forM tg s p.1 ρ p.2
theorem zmM {body:List Stmt}{tg:Ev->D->Res Ev}{src:Ev->List D->Res (List D×List D)}(hp:PassesOwn (model X.prog X.w) X.A X.env X.xe)(hc:X.calm=true)(hi:MI X He H0e a tgt iter src)(hg:∀ vs,DG X E (upd He a (.lst vs)) H0e tgt tg)(ht:zsr tg)(hb:SMs X He H0e a body s)
  (hs:∀ x,foldedSetIterable iter X.env x=pure x:=by intro _;rfl):SM X He H0e a (.For tgt iter body [] pos) (zn2 src tg s):=by
 refine⟨za3 (zqA hp hc hi.o (zDH hg) hb.o hs) fun D' σ H ⟨Ha,ρ,st,vs,h,q⟩=>⟨Ha,ρ,st,vs,h,?_⟩⟩;unfold zn2 at q;cases e1:src ρ st with
 | stuck=>rw[e1] at q;exact q
 | exn x=>rw[e1] at q;exact q
 | ok pr =>
  obtain⟨ds,s1⟩:=pr;rw[e1] at q;intro J H1 H01 us z h1 it;have q1:zfs X.K He H0e a H01 (forM tg s ds ρ s1) D':=zfs.grow (r:=forM tg s ds ρ s1) q z;refine⟨fun i m σ' H'=>m+i=ds.length/\znD X.K He H0e a H01 tg s ds D' i σ' H',⟨ds.length,rfl,H01,ρ,s1,us,zaA.refl _,h1,q1⟩,?_⟩;rintro i m σ' H' ⟨hm,Ha',ρ',st',vs',z',h',hq⟩
  by_cases hlt:i < ds.length
  .refine .inr ⟨it.go i H' Ha' z' h'.s.g.sub hlt,fun σ2 H2=>znD X.K He H0e a H01 tg s ds D' (i+1) σ2 H2,fun σ2 H2 hl=>⟨m-1,by omega,by omega,hl⟩,fun x H2 hy=>?_⟩
   obtain⟨H₀2,g2,rp⟩:=it.yld i H' Ha' x H2 ds[i] z' h'.s.g.sub (List.getElem?_eq_getElem hlt) hy;exact znD.step2 (z'.trans g2.z) (h'.back g2.z (h'.s.grow g2)) (zfs.grow (r:=forM tg s (ds.drop i) ρ' st') hq g2.z) (List.getElem?_eq_getElem hlt) rp fun ρ=>ht ρ _
  .have e:i=ds.length:=by omega
   refine .inl ⟨it.stop i H' Ha' z' h'.s.g.sub (by omega),?_⟩;subst e;exact znD.done ⟨Ha',ρ',st',vs',z',h',hq⟩
end
def slM (s:Option Sl):Sl:=match s with
 | some (.sh d)=>.sh d
 | some (.pt b)=>.pt b
 | _=>.no
def zfx (n:Nat)(fr:List Nat)(ρ:Ev):Ev:=List.replicate n .no++fr.map fun(i:Nat)=>slM ρ[i]?
noncomputable def zir (b:Ev) (tg:Ev->D->Res Ev) (fm:Ev->List D->Res (D×List D)):List D->List D->Res (List D×List D)
 | [],st=>.ok ([],st)
 | d::r,st=>(tg b d).bind fun ρ1=>(fm ρ1 st).bind fun p=>(zir b tg fm r p.2).bind fun q=>.ok (p.1::q.1,q.2)
noncomputable def zpb (b:Ev) (tg:Ev->D->Res Ev) (fm:Ev->List D->Res (D×List D)) (p:List D×List D):Res (D×List D):=if p.1.length<=line then(zir b tg fm p.1 p.2).bind fun q=>.ok (.lst q.1,q.2) else .stuck
noncomputable def zpc (n:Nat) (fr:List Nat) (src:Ev->List D->Res (List D×List D)) (tg:Ev->D->Res Ev) (fm:Ev->List D->Res (D×List D)):Ev->List D->Res (D×List D):=fun ρ st=>(src ρ st).bind (zpb (zfx n fr ρ) tg fm)
theorem zvp {n:Nat}{fr:List Nat}{ρ:Ev}:(zfx n fr ρ).length=n+fr.length:=by unfold zfx;simp
theorem znz {n:Nat}{fr:List Nat}{ρ:Ev}{k:Nat}(h:k < n):(zfx n fr ρ)[k]?=some .no:=by
 unfold zfx;rw[List.getElem?_append_left (by simpa using h),List.getElem?_replicate,if_pos h]
theorem znA {n:Nat}{fr:List Nat}{ρ:Ev}{k:Nat}{s:Sl}(h:¬ k < n)(e:(zfx n fr ρ)[k]?=some s):∃ j,fr[k-n]?=some j/\s=slM ρ[j]?:=by
 unfold zfx at e;rw[List.getElem?_append_right (by simpa using h),List.length_replicate,List.getElem?_map] at e;cases hf:fr[k-n]? with
 | none=>rw[hf] at e;cases e
 | some j=>rw[hf] at e;cases e;exact⟨j,rfl,rfl⟩
theorem zAl {s:Option Sl}{d:D}(h:Sl.sh d=slM s):s=some (.sh d):=by
 unfold slM at h;split at h<;>cases h
 rfl
theorem zAm {s:Option Sl}{b:Addr}(h:Sl.pt b=slM s):s=some (.pt b):=by
 unfold slM at h;split at h<;>cases h
 rfl
theorem zxS {n:Nat}{fr:List Nat}{σ:L2.St}{k j:Nat}{v:V}(h:¬ k < n)(hf:fr[k-n]?=some j)(hs:σ[j]?=some (some v)):(zi8 n fr σ)[k]?=some (some v):=by
 unfold zi8;rw[List.getElem?_append_right (by simpa using h),List.length_replicate,List.getElem?_map,hf];simp [hs]
theorem zpu {K:W.Frag}{He H0e Ha H:Hp}{σ:L2.St}{ρ:Ev}{a:Addr}{st:List D}{vs:List V}(ha:He a=none)(h0:H0e a=none)(hl:H a=some (.lst vs))(r:Reps K Ha st vs)(g:zbj (upd He a (.lst vs)) H0e H Ha)(rd:Reads K Ha σ ρ)
  (no:∀ (j:Nat) (s:Sl),ρ[j]?=some s->s=.no∨(∃ d,s=.sh d)∨∃ b,s=.pt b/\σ[j]?=some (some (.ref b)))(ln:ρ.length=σ.length):MSx K He H0e Ha σ H ρ a st vs:=by
 refine⟨ha,h0,hl,r,⟨g,rd,fun i d e=>?_,fun i j d d' _ e=>?_,ln,OX.none (fun i j ds e=>?_) fun i b e=>?_⟩⟩
 .rcases no i _ e with h | ⟨_,h⟩ | ⟨_,h,_⟩<;>cases h
 .rcases no i _ e with h | ⟨_,h⟩ | ⟨_,h,_⟩<;>cases h
 .rcases no i _ e with h | ⟨_,h⟩ | ⟨_,h,_⟩<;>cases h
 .rcases no i _ e with h | ⟨_,h⟩ | ⟨_,h,h'⟩
  .cases h
  .cases h
  .cases h;exact h'
noncomputable def zy8 (K:W.Frag) (a:Addr) (tg:Ev->D->Res Ev):TG:=fun v σ H Q=>∃ He H0e,tGM K He H0e a tg v σ H Q
noncomputable def zyi (K:W.Frag) (a:Addr) (fm:Ev->List D->Res (D×List D)):TE:=fun σ H Q=>∃ He H0e,tM K He H0e a fm σ H Q
theorem zsl {b:Ev}{tg:Ev->D->Res Ev}{fm:Ev->List D->Res (D×List D)}{d:D}{r st es stF:List D}(h:zir b tg fm (d::r) st=.ok (es,stF)):∃ ρ1 y s1 rest,tg b d=.ok ρ1/\fm ρ1 st=.ok (y,s1)/\zir b tg fm r s1=.ok (rest,stF)/\es=y::rest:=by
 unfold zir at h;cases e1:tg b d with
 | stuck=>rw[e1] at h;cases h
 | exn x=>rw[e1] at h;cases h
 | ok ρ1 =>
  rw[e1] at h;simp only[Res.bind] at h;cases e2:fm ρ1 st with
  | stuck=>rw[e2] at h;cases h
  | exn x=>rw[e2] at h;cases h
  | ok p =>
   obtain⟨y,s1⟩:=p;rw[e2] at h;simp only at h;cases e3:zir b tg fm r s1 with
   | stuck=>rw[e3] at h;cases h
   | exn x=>rw[e3] at h;cases h
   | ok q =>
    obtain⟨rest,sF⟩:=q;rw[e3] at h;cases h;exact⟨ρ1,y,s1,rest,rfl,e2,e3,rfl⟩
theorem zqe {K:W.Frag}{n:Nat}{fr:List Nat}{tg:Ev->D->Res Ev}{fm:Ev->List D->Res (D×List D)}{a:Addr}{σ:L2.St}{ρ:Ev}{He H0e H1 H01:Hp}{st0 ds es stF:List D}{us0:List V}{J:It}{Q:VK}(h1:MSx K He H0e H01 σ H1 ρ a st0 us0)(it:ItD K ds J H01)(hl:ds.length<=line)
  (e2:zir (zfx n fr ρ) tg fm ds st0=.ok (es,stF))(hok:zzI n tg)
  (q:∀ p xs H' Ha' us',zbj (era a H1) H01 H' Ha'->Ha' a=none->H' a=some (.lst us')->Reps K Ha' stF us'->H1 p=none->Ha' p=none->H' p=some (.lst xs)->Reps K Ha' es xs->Q (.ref p) H') :
  znK n fr (zy8 K a tg) zz9 (zyi K a fm) J σ H1 Q:=by
 intro Da hDa;have h0D:H01 Da=none:=h1.s.g.sub.free hDa;have aD:a≠Da:=fun z=>by have:=h1.hl;rw[z,hDa] at this;cases this
 have nob:∀ {σ':L2.St}(_:∀ (k:Nat),¬ k < n->∀ b,(zfx n fr ρ)[k]?=some (.pt b)->σ'[k]?=some (some (.ref b))) (j:Nat) (s:Sl),(zfx n fr ρ)[j]?=some s->s=.no∨(∃ d,s=.sh d)∨∃ b,s=.pt b/\σ'[j]?=some (some (.ref b)):=fun {σ'} hp j s e=>by
  by_cases hj:j < n
  .rw[znz hj] at e;cases e;exact .inl rfl
  .obtain⟨i,_,hs⟩:=znA hj e
   cases s with
   | no=>exact .inl rfl
   | sh d=>exact .inr (.inl ⟨d,rfl⟩)
   | pt b=>exact .inr (.inr ⟨b,rfl,hp j hj b e⟩)
   | _=>unfold slM at hs;split at hs<;>cases hs
 refine⟨fun i m ys σ' H'=>m=ds.length-i/\i<=ds.length/\∃ Ha' st' us' es1 rest,MSx K (upd (era a H1) Da (.lst ys)) H01 Ha' σ' H' (zfx n fr ρ) a st' us'/\Reps K Ha' es1 ys/\es1.length=i/\zir (zfx n fr ρ) tg fm (ds.drop i) st'=.ok (rest,stF)/\es=es1++rest,
  ⟨ds.length,by simp,Nat.zero_le _,H01,st0,us0,[],es,?_,Reps.nil,rfl,by rw[List.drop_zero];exact e2,rfl⟩,?_⟩
 .refine zpu (by rw[zal aD];exact zdb) h1.n0 (by rw[zal aD];exact h1.hl) h1.r ⟨fun b o e=>?_,zaA.refl _,fun b o e=>?_,fun b k1 k2=>absurd k2 k1⟩ (fun k d e=>?_) (nob fun k hk b e=>?_) (by unfold zi8;rw[zvp];simp)
  .by_cases c:b=a
   .subst c;rw[zar] at e;cases e;rw[zal aD];exact h1.hl
   .rw[zal c] at e
    by_cases c2:b=Da
    .subst c2;rw[zar] at e ⊢;exact e
    .rw[zal c2] at e ⊢;rw[zff c] at e;exact e
  .rw[zal (by intro z;subst z;rw[h0D] at e;cases e)];exact h1.s.g.sub _ _ e
  .by_cases hk:k < n
   .rw[znz hk] at e;cases e
   .obtain⟨j,hf,hs⟩:=znA hk e
    obtain⟨v,k1,k2⟩:=h1.s.rd j d (zAl hs);exact⟨v,zxS hk hf k1,k2⟩
  .obtain⟨j,hf,hs⟩:=znA hk e
   exact zxS hk hf (h1.s.ex.2 j b (zAm hs))
 .rintro i m ys σ' H' ⟨rfl,hile,Ha',st',us',es1,rest,h',hys,hle,hco,hes⟩
  have hDl:H' Da=some (.lst ys):=h'.s.g.s _ _ (by rw[zal (Ne.symm aD),zar]);refine⟨hDl,?_⟩
  by_cases hlt:i < ds.length
  .refine .inr ⟨it.go i H' Ha' h'.s.g.z h'.s.g.sub hlt,?_,?_⟩
   .rw[← hys.length,hle]
    have h2:line < sizeLine:=by decide
    omega
   .intro x H2 hy
    obtain⟨H₀2,g2,rp⟩:=it.yld i H' Ha' x H2 ds[i] h'.s.g.z h'.s.g.sub (List.getElem?_eq_getElem hlt) hy;have hm2:=h'.back g2.z (h'.s.grow g2);rw[List.drop_eq_getElem_cons hlt] at hco;obtain⟨ρ1,y,s1,rest',t1,t2,t3,t4⟩:=zsl hco;refine⟨_,_,H₀2,zfx n fr ρ,st',us',ds[i],hm2,rp,?_⟩;rw[t1];intro σ3 H3 H03 z3 h3;unfold zz9;dsimp only;rw[if_pos rfl];refine⟨_,_,H03,ρ1,st',us',h3,?_⟩;rw[t2];intro yv H5 H05 us5 z5 h5 ry;have hD5:H5 Da=some (.lst ys):=h5.s.g.s _ _ (by rw[zal (Ne.symm aD),zar]);have n5:H05 Da=none:=by
     cases qq:H05 Da with
     | none=>rfl
     | some o=>have:=h5.s.g.nw Da (by rw[qq];simp) h0D;rw[zal (Ne.symm aD),zar] at this;cases this
    have hrl:=hok _ _ _ t1;refine⟨hD5,ds.length-(i+1),by omega,rfl,hlt,H05,s1,us5,es1++[y],rest',?_,(hys.mono ((g2.z.trans z3).trans z5)).app (Reps.cons ry Reps.nil),by simp [hle],t3,by rw[hes,t4];simp⟩;refine zpu (by rw[zal aD];exact zdb) h1.n0 (by rw[zal aD];exact h5.hl) h5.r ⟨fun b o e=>?_,h5.s.g.z,fun b o e=>?_,fun b k1 k2=>?_⟩ (fun k d e=>?_) (nob fun k hk b e=>?_) (by rw[← h5.s.ln,hrl.1])
    .by_cases c:b=a
     .subst c;rw[zar] at e;cases e;rw[zal aD];exact h5.hl
     .rw[zal c] at e
      by_cases c2:b=Da
      .subst c2;rw[zar] at e ⊢;exact e
      .rw[zal c2] at e ⊢
       exact h5.s.g.s _ _ (by rw[zal c,zal c2];exact e)
    .rw[zal (by intro z;subst z;rw[n5] at e;cases e)];exact h5.s.g.sub _ _ e
    .have:=h5.s.g.nw b k1 k2
     by_cases c:b=a
     .subst c;rw[zar] at this;cases this
     .rw[zal c] at this ⊢
      by_cases c2:b=Da
      .subst c2;rw[zar] at this;cases this
      .rw[zal c2] at this ⊢;exact this
    .by_cases hk:k < n
     .rw[znz hk] at e;cases e
     .rw[← hrl.2 k (by omega)] at e
      exact h5.s.rd k d e
    .rw[← hrl.2 k (by omega)] at e
     exact h5.s.ex.2 k b e
  .have hi2:i=ds.length:=by omega
   refine .inl ⟨it.stop i H' Ha' h'.s.g.z h'.s.g.sub (by omega),?_⟩;rw[hi2,List.drop_length] at hco;cases hco;rw[List.append_nil] at hes;subst hes;refine q Da ys H' Ha' us' ⟨fun b o e=>?_,h'.s.g.z,h'.s.g.sub,fun b k1 k2=>?_⟩ h'.n0 h'.hl h'.r hDa ?_ hDl hys
   .have c:b≠a:=by intro c;subst c;rw[zdb] at e;cases e
    have c2:b≠Da:=by intro c2;subst c2;rw[zff c,hDa] at e;cases e
    exact h'.s.g.s _ _ (by rw[zal c,zal c2];exact e)
   .have:=h'.s.g.nw b k1 k2
    by_cases c:b=a
    .subst c;exact zdb
    .rw[zal c] at this
     by_cases c2:b=Da
     .subst c2;rw[zar] at this;cases this
     .rw[zal c2] at this;exact this
   .cases qq:Ha' Da with
    | none=>rfl
    | some o=>have:=h'.s.g.nw Da (by rw[qq];simp) h0D;rw[zal (Ne.symm aD),zar] at this;cases this
noncomputable def tMF (K:W.Frag) (He H0e:Hp) (a:Addr) (f:Ev->List D->Res (D×List D)):TE:=fun σ H Q=>∃ Ha ρ st vs,MSx K He H0e Ha σ H ρ a st vs/\match f ρ st with
 | .ok (.lst ds,st')=>∀ p xs H1 H01 st1 us1 H' Ha' us,zaA Ha H01->MSx K He H0e H01 σ H1 ρ a st1 us1->zbj (era a H1) H01 H' Ha'->Ha' a=none->H' a=some (.lst us)->Reps K Ha' st' us->H1 p=none->Ha' p=none->H' p=some (.lst xs)->Reps K Ha' ds xs->Q (.ref p) H'
 | .ok _=>False
 | .exn _=>False
 | .stuck=>False
structure MCo (X:Cx) (He H0e:Hp) (a:Addr) (e:Expr) (f:Ev->List D->Res (D×List D)):Prop where
 ev:PE X e (tMF X.K He H0e a f)
 st:∀ {i:Nat}{x:Str}{pos' spos:Pos},X.N.Nodup->X.N[i]?=some x->X.env.scope.names.lookup x=some .local -> swapsWith e (some (.Name x pos')) spos.line X.env=pure true->PS X (.Assign [.Name x pos'] e spos) (zB7 (tMF X.K He H0e a f) (zwy i))
theorem mco {X:Cx}{E:XK}{He H0e:Hp}{a:Addr}{tgt iter elt:Expr}{scope:Scope}{pos:Pos}(N:List Str)(n:Nat)(fr:List Nat){src:Ev->List D->Res (List D×List D)}{tg:Ev->D->Res Ev}{fm:Ev->List D->Res (D×List D)}(hc:X.calm=true)(hi:MI X He H0e a tgt iter src)(hok:zzI n tg)
  (blk:∀ s H C fp pn,(∀ He H0e,DG (zdf X N scope s H C fp pn) E He H0e tgt tg)/\∀ He H0e,DM (zdf X N scope s H C fp pn) He H0e a elt fm)
  (hfr:zzL X N n fr scope)(hcell:∀ x∈scope.names,x.2≠.cell)(hfree:∀ x∈scope.names,x.2=.free->X.env.scope.names.lookup x.1=some .cell)(hkind:scope.kind=.function)(hnames:∀ x∈scope.names,x.2=.local -> scope.names.lookup x.1=some .local)
  (hs:∀ x,foldedSetIterable iter X.env x=pure x:=by intro _;rfl):MCo X He H0e a (.ListComp elt [⟨tgt,iter,[],0⟩] scope pos) (zpc n fr src tg fm):=by
 have blk':∀ s H C fp pn,PG (zdf X N scope s H C fp pn) tgt (zy8 X.K a tg)/\PIf (zdf X N scope s H C fp pn) [] zz9/\PE (zdf X N scope s H C fp pn) elt (zyi X.K a fm):=fun s H C fp pn =>
  ⟨fun pins s' σ' H' v u Q' I r ⟨He,H0e,q'⟩=>(zDH (X:=zdf X N scope s H C fp pn) fun vs=>(blk s H C fp pn).1 _ _) pins s' σ' H' v u Q' I r q',ztc,fun pins s' σ' H' Q' I ⟨He,H0e,q'⟩=>((blk s H C fp pn).2 He H0e).o pins s' σ' H' Q' I q'⟩
 have first:∀ {pins:List (Addr×Obj)}{s:Shared}{σ:L2.St}{H:Hp}{Q:VK}{RR:Value->Addr->Result->Shared->Prop},L2.Inv X pins σ H s->tMF X.K He H0e a (zpc n fr src tg fm) σ H Q ->
   (∀ (Da C:Addr) (s6:Shared) (H5:Hp) (m:Str->Option Value),L2.Inv X pins σ H5 s6->s6.heap.Ns C m->zrB X pins H5 C->Q (.ref Da) H5->RR (.ref Da) C (.ok .next) s6) ->
   wpAny (model X.prog X.w) X.A (eval iter X.env) (fun x sg=>wpAny (model X.prog X.w) X.A (pyIter x) (fun it sj=>wpAny (model X.prog X.w) X.A (newList []) (fun acc sk =>
    wpAny (model X.prog X.w) X.A (newFunctionEnv scope X.env.globals (zk8 X.env.cells scope.names []) [] X.env.qual none .none (some X.env)) (fun cenv si =>
     codeAny (model X.prog X.w) X.A (.compStart (.ListComp elt [⟨tgt,iter,[],0⟩] scope pos) 0 it acc { cenv with scope:=relabel scope X.env }) (RR acc cenv.locals) si) X.xe sk) X.xe sj) X.xe sg) X.xe s:=by
  intro pins s σ H Q RR I ⟨Ha,ρ,st,vs,h,q⟩ fin;refine thn (hi.o pins s σ H (fun J H1=>znK n fr (zy8 X.K a tg) zz9 (zyi X.K a fm) J σ H1 Q) I ⟨Ha,ρ,st,vs,h,?_⟩) fun v s1 h1=>thn h1 fun itv s2 h2=>zpa (N:=N) hc hfr hcell hfree hkind blk' h2 fin;unfold zpc at q;cases e1:src ρ st with
  | stuck=>rw[e1] at q;exact q
  | exn x=>rw[e1] at q;exact q
  | ok pr =>
   obtain⟨ds,st1⟩:=pr;rw[e1] at q;intro J H1 H01 us z h1 it;replace q:match (if ds.length<=line then(zir (zfx n fr ρ) tg fm ds st1).bind fun q=>Res.ok (D.lst q.1,q.2) else .stuck) with
    | .ok (.lst ds,st')=>∀ p xs H1 H01 st1 us1 H' Ha' us,zaA Ha H01->MSx X.K He H0e H01 σ H1 ρ a st1 us1->zbj (era a H1) H01 H' Ha'->Ha' a=none->H' a=some (.lst us)->Reps X.K Ha' st' us->H1 p=none->Ha' p=none->H' p=some (.lst xs)->Reps X.K Ha' ds xs->Q (.ref p) H'
    | .ok _=>False
    | .exn _=>False
    | .stuck=>False:=q
   by_cases hl:ds.length<=line
   .rw[if_pos hl] at q
    cases e2:zir (zfx n fr ρ) tg fm ds st1 with
    | stuck=>rw[e2] at q;exact q.elim
    | exn x=>rw[e2] at q;exact q.elim
    | ok pr2 =>
     obtain⟨es,stF⟩:=pr2;rw[e2] at q;exact zqe h1 it hl e2 hok fun p xs H' Ha' us' g n' hl' r' hp h0 hv rp=>q p xs H1 H01 st1 us H' Ha' us' z h1 g n' hl' r' hp h0 hv rp
   .rw[if_neg hl] at q;exact q.elim
 have hcl:∀ {pins:List (Addr×Obj)}{s:Shared}{σ:L2.St}{H:Hp},L2.Inv X pins σ H s->closureFor scope X.env=pure (zk8 X.env.cells scope.names []):=fun {pins s σ H} I=>zhD fun y hy hf=>I.ok.has y.1 (.inl (hfree y hy hf));refine⟨fun pins s σ H Q I h=>?_,fun {i x pos' spos} hN hi' hx hsw pins s σ H D' I h=>?_⟩
 .rw[eval_ListComp]
  refine wpAny_comprehension_free (use:=none) rfl hs (hcl I) hkind hnames (first (RR:=fun acc C=>compPost (model X.prog X.w) X.A X.xe none (EP X pins σ Q) acc C) I h fun Da C s6 H5 m I6 ns fC q=>?_);refine⟨m,ns,fun h' sb=>⟨.ref Da,H5,?_,rfl,q⟩⟩;exact I6.turned (t':=s6.toks) (it:=C) (fun b o hb e=>(sb.2 b hb).trans e) fC.1 fC.2.1 fC.2.2.2.1 fC.2.2.2.2.1 fC.2.2.2.2.2
 .rw[exec_Assign_Name_used _ _ _ _ hsw]
  refine wpAny_bind (wpAny_standAt (wpAny_bind ?_));show wpAny _ X.A (do let _ ← comprehension (.ListComp elt [⟨tgt,iter,[],0⟩] scope pos) scope X.env _ (newList []) false (eval iter X.env) (some (assign (.Name x pos') X.env))) _ _ s;refine wpAny_bind (wpAny_mono (wpAny_comprehension_free (use:=some (assign (.Name x pos') X.env)) (Q:=fun _ s'=>SP X pins D' .next s') rfl hs (hcl I) hkind hnames
   (first (RR:=fun acc C=>compPost (model X.prog X.w) X.A X.xe (some (assign (.Name x pos') X.env)) (fun _ s'=>SP X pins D' .next s') acc C) I h fun Da C s6 H5 m I6 ns fC q=>?_)) (fun _ s' hq=>wpAny_pure (wpAny_pure hq)) fun _ _ e=>e)
  show wpAny _ X.A (assign (.Name x pos') X.env (.ref Da)) _ _ _;refine wpAny_assign_Name (zjq (v:=.ref Da) I6 hN hi' (.inl hx) rfl (fun s' I' ⟨a,sb,ha⟩=>?_) (.inr hx));have hCa:C≠a:=by
   rcases ha with rfl | ha
   .exact fC.2.1
   .exact fun z=>fC.2.2.2.2.1 x a ha z.symm
  refine⟨m,ns.sameBut sb hCa,fun h' sb'=>⟨_,H5,?_,q⟩⟩;exact I'.turned (t':=s'.toks) (it:=C) (fun b o hb e=>(sb'.2 b hb).trans e) fC.1 fC.2.1 fC.2.2.2.1 fC.2.2.2.2.1 fC.2.2.2.2.2
theorem zsk {n:Nat}{fr:List Nat}{src:Ev->List D->Res (List D×List D)}{tg:Ev->D->Res Ev}{fm:Ev->List D->Res (D×List D)}:∀ ρ st d s',zpc n fr src tg fm ρ st=.ok (d,s')->∃ ds,d=.lst ds:=fun ρ st d s' h=>by
 unfold zpc at h;cases e1:src ρ st with
 | stuck=>rw[e1] at h;cases h
 | exn x=>rw[e1] at h;cases h
 | ok pr =>
  rw[e1] at h;simp only[Res.bind,zpb] at h
  by_cases hl:pr.1.length<=line
  .rw[if_pos hl] at h
   cases e2:zir (zfx n fr ρ) tg fm pr.1 pr.2 with
   | stuck=>rw[e2] at h;cases h
   | exn x=>rw[e2] at h;cases h
   | ok q=>rw[e2] at h;cases h;exact⟨_,rfl⟩
  .rw[if_neg hl] at h;cases h
theorem MSx.addL {K:W.Frag}{He H0e H1 H01 H' Ha':Hp}{σ:L2.St}{ρ:Ev}{a p:Addr}{st1 st' ds:List D}{us1 us xs:List V}(h1:MSx K He H0e H01 σ H1 ρ a st1 us1)(g:zbj (era a H1) H01 H' Ha')(n:Ha' a=none)(hl:H' a=some (.lst us))(r:Reps K Ha' st' us)(hp:H1 p=none)(h0:Ha' p=none)(hv:H' p=some (.lst xs))(rp:Reps K Ha' ds xs) :
  zaA H01 (upd Ha' p (.lst xs))/\MSx K He H0e (upd Ha' p (.lst xs)) σ H' ρ a st' us/\Rep K (upd Ha' p (.lst xs)) (.lst ds) (.ref p):=by
 have pa:a≠p:=fun z=>by have:=h1.hl;rw[z,hp] at this;cases this
 have z:zaA Ha' (upd Ha' p (.lst xs)):=fun b o e=>by rw[zal (by intro z;subst z;rw[h0] at e;cases e)];exact e
 have g':zbj (era a H1) H01 H' (upd Ha' p (.lst xs)):=⟨g.s,g.z.trans z,fun b o e=>by
  by_cases c:b=p
  .subst c;rw[zar] at e;cases e;exact hv
  .rw[zal c] at e;exact g.sub _ _ e,fun b k1 k2=>by
  by_cases c:b=p
  .subst c;rw[zff (Ne.symm pa)];exact hp
  .rw[zal c] at k1;exact g.nw b k1 k2⟩
 exact⟨g'.z,h1.change g' (by rw[zal pa];exact n) hl (r.mono z),zan.mpr ⟨p,xs,rfl,SqL.of zar,rp.mono z⟩⟩
section
variable {X:Cx}{E:XK}{He H0e:Hp}{a:Addr}{e:Expr}{pos:Pos}{fm:Ev->List D->Res (D×List D)}
theorem zyn {i:Nat}{x:Str}{pos':Pos}(hN:X.N.Nodup)(hi:X.N[i]?=some x)(hx:X.env.scope.names.lookup x=some .local)(h:MCo X He H0e a e fm)(ho:∀ ρ st d s',fm ρ st=.ok (d,s')->∃ ds,d=.lst ds)(hs:swapsWith e (some (.Name x pos')) pos.line X.env=pure true:=by rfl):SM X He H0e a (.Assign [.Name x pos'] e pos) (zgu i fm):=by
 refine⟨za3 (h.st hN hi hx hs) fun D' σ H ⟨Ha,ρ,st,vs,h,q⟩=>⟨Ha,ρ,st,vs,h,?_⟩⟩;unfold zgu at q;cases e1:fm ρ st with
 | stuck=>rw[e1] at q;exact q
 | exn x=>rw[e1] at q;exact q
 | ok pr =>
  obtain⟨d,s1⟩:=pr;obtain⟨ds,rfl⟩:=ho _ _ _ _ e1;rw[e1] at q;intro p xs H1 H01 st1 us1 H' Ha' us z h1 g n hl r hp h0 hv rp;obtain⟨k1,k2,k3⟩:=h1.addL g n hl r hp h0 hv rp;exact q _ H' _ us (z.trans k1) (k2.back (zaA.refl _) (k2.s.put k3))
end
mutual
def zlv:D->Option PyData
 | .non=>some .none
 | .bl b=>some (.bool b)
 | .int i=>some (.int i)
 | .str x=>some (.str x)
 | .tup ds=>(toPys ds).map PyData.tuple
 | .lst ds=>(toPys ds).map PyData.list
 | .dic ks ds=>if ks.isEmpty&&ds.isEmpty then some (.dict []) else none
 | .exc _=>none
 | .ob _ _=>none
def toPys:List D->Option (List PyData)
 | []=>some []
 | d::ds=>match zlv d,toPys ds with
  | some x,some xs=>some (x::xs)
  | _,_=>none
end
section
variable {X:Cx}{E:XK}{pins:List (Addr×Obj)}{σ:L2.St}{H:Hp}{s:Shared}
theorem zy2 (I:L2.Inv X pins σ H s){a:Addr}{vs:List V}(h:SqL X.K H a vs):a≠sysModules:=by
 intro z;subst z;obtain⟨mm,o,es,ep,e,hd,_⟩:=I.ok.mod.sm;have:=(I.bs _ _ e).2;rcases h with h | ⟨o',_,_,h1,h2,_,h3,_⟩
 .rcases h with h | ⟨_,h⟩<;>(rw[this] at h;cases h)
 .have e':=I.ok.mod.kin _ _ h1
  rw[e] at e';cases e';rw[hd] at h3;cases h3
mutual
theorem zqv (I:L2.Inv X pins σ H s):∀ (d:D) (v:V) (u:Value) (p:PyData),Rep X.K H d v->zbw v u->zlv d=some p->∃ as,PySem.Reads s.heap u p as/\sysModules∉as
 | .non,v,u,p,r,rv,e=>by
  rw[zlv] at e;cases e;rw[zaD.mp r] at rv;cases rv;exact⟨_,.none,by simp⟩
 | .bl b,v,u,p,r,rv,e=>by
  rw[zlv] at e;cases e;rw[zaq.mp r] at rv;cases rv;exact⟨_,.bool b,by simp⟩
 | .int i,v,u,p,r,rv,e=>by
  rw[zlv] at e;cases e;rw[zah.mp r] at rv;obtain⟨t,rfl⟩:=rv;exact⟨_,.int i t,by simp⟩
 | .str x,v,u,p,r,rv,e=>by
  rw[zlv] at e;cases e;rw[Rep.str_iff.mp r] at rv;obtain⟨t,rfl⟩:=rv;exact⟨_,.str x t,by simp⟩
 | .tup ds,v,u,p,r,rv,e=>by
  rw[zlv] at e;cases e1:toPys ds with
  | none=>rw[e1] at e;cases e
  | some ps =>
   rw[e1] at e;cases e;obtain⟨a,vs,its,rfl,rfl,h1,h2,h3,⟨o,k1,k2,n,k3⟩,_⟩:=zaJ I r rv;obtain⟨as,h4,h5⟩:=reads_ofs I ds vs its ps h2 h3 e1;exact⟨_,.tuple k1 k2 k3 (by simpa using h4),h5⟩
 | .lst ds,v,u,p,r,rv,e=>by
  rw[zlv] at e;cases e1:toPys ds with
  | none=>rw[e1] at e;cases e
  | some ps =>
   rw[e1] at e;cases e;obtain⟨a,vs,its,rfl,rfl,h1,h2,h3,⟨o,k1,k2,n,k3⟩,_⟩:=zaG I r rv;obtain⟨as,h4,h5⟩:=reads_ofs I ds vs its ps h2 h3 e1;exact⟨_,.list k1 k2 k3 (by simpa using h4),by rw[List.mem_cons,not_or];exact⟨Ne.symm (zy2 I h1),h5⟩⟩
 | .dic ks ds,v,u,p,r,rv,e=>by
  rw[zlv] at e
  by_cases c:(ks.isEmpty&&ds.isEmpty)=true
  .rw[if_pos c] at e;cases e
   have hE:isE (.dic ks ds)=true:=by
    rw[Bool.and_eq_true,List.isEmpty_iff,List.isEmpty_iff] at c;rw[c.1,c.2];rfl
   obtain⟨a,rfl,n1,o,es,ep,k1,k2,k3,_,k5,_⟩:=zs3 I hE r rv;have he:es.toList=[]:=by
    generalize es.toList=l at k5 ⊢;cases k5;rfl
   refine⟨_,.dict (kvs:=[]) k1 k2.1 k3 (by rw[he];exact .nil) (by rw[he];exact .nil),?_⟩;simp only[List.append_nil,List.mem_cons,List.not_mem_nil,or_false];exact fun z=>by rw[z] at n1;simp at n1
  .rw[if_neg c] at e;cases e
 | .exc _,v,u,p,r,rv,e=>by rw[zlv] at e;cases e
 | .ob _ _,v,u,p,r,rv,e=>by rw[zlv] at e;cases e
theorem reads_ofs (I:L2.Inv X pins σ H s):∀ (ds:List D) (vs:List V) (us:List Value) (ps:List PyData),Reps X.K H ds vs->zbO vs us->toPys ds=some ps->∃ as,PySem.ReadsAll s.heap us ps as/\sysModules∉as
 | [],vs,us,ps,r,rv,e=>by
  rw[toPys] at e;cases e;rw[Reps.nil_iff.mp r] at rv;cases rv;exact⟨_,.nil,by simp⟩
 | d::ds,vs,us,ps,r,rv,e=>by
  obtain⟨v,vr,rfl,h1,h2⟩:=zap.mp r;cases rv with
  | cons ra rb =>
   rw[toPys] at e;cases e1:zlv d with
   | none=>rw[e1] at e;cases e
   | some p =>
    cases e2:toPys ds with
    | none=>rw[e1,e2] at e;cases e
    | some qs =>
     rw[e1,e2] at e;cases e;obtain⟨as,k1,m1⟩:=zqv I d v _ p h1 ra e1;obtain⟨bs,k2,m2⟩:=reads_ofs I ds vr _ qs h2 rb e2;exact⟨_,.cons k1 k2,by rw[List.mem_append,not_or];exact⟨m1,m2⟩⟩
end
def zAp (d:D):Bool:=match d with
 | .tup _=>true
 | .lst _=>true
 | _=>false
def znP (p:PyData):Bool:=p.showable&&decide (p.depth<=100)&&decide (p.shown.length<=sizeLine)
noncomputable def zk2 (d:D):Res D:=match zlv d with
 | some p=>if zAp d=true/\znP p=true then .ok (.str p.shown) else .stuck
 | none=>.stuck
theorem zpg {k:Nat}(hr:zgm k X.A):zhU X (.builtin "repr") (fun xs H Q=>∃ v d p,xs=[v]/\Rep X.K H d v/\zlv d=some p/\zAp d=true/\znP p=true/\Q (.str p.shown) H):=by
 intro pins s σ H xs us Q I r h;obtain⟨v,d,p,rfl,rd,e,hq,hw,q⟩:=h;obtain⟨u,rfl,rx⟩:=znJ r;obtain⟨as,hR,hm⟩:=zqv I d v u p rd rx e;have hu:∃ a,u=.ref a:=by
  cases d with
  | tup ds=>obtain⟨a,_,_,_,h,_⟩:=zaJ I rd rx;exact⟨a,h⟩
  | lst ds=>obtain⟨a,_,_,_,h,_⟩:=zaG I rd rx;exact⟨a,h⟩
  | _=>cases hq
 obtain⟨a,rfl⟩:=hu;unfold znP at hw;simp only[Bool.and_eq_true,decide_eq_true_eq] at hw;obtain⟨⟨w1,w3⟩,w4⟩:=hw;refine repr_of_reads' hR w1 (fun _=>hm) hr.gd (by have:=hr.un;omega) (fun b o e=>e) (fun h' u' tk hk=>⟨.str p.shown,H,I.kept hk,⟨u',rfl⟩,q⟩) w4
theorem zvg:zhV X E (fun xs H Q=>∃ v d p,xs=[v]/\Rep X.K H d v/\zlv d=some p/\zAp d=true/\znP p=true/\Q (.str p.shown) H) (m1 zk2):=zpi fun x v H Ha Q hs r q=>by
 unfold zk2 at q;cases e:zlv x with
 | none=>rw[e] at q;exact q.elim
 | some p =>
  rw[e] at q;replace q:post X.K E H Ha (if zAp x=true/\znP p=true then .ok (.str p.shown) else .stuck) Q:=q
  by_cases hc:zAp x=true/\znP p=true
  .rw[if_pos hc] at q
   exact⟨v,x,p,rfl,r.mono hs,e,hc.1,hc.2,zaM hs q (Rep.str_iff.mpr rfl)⟩
  .rw[if_neg hc] at q;exact q.elim
end
section
variable {X:Cx}{E:XK}{He H0e:Hp}{a:Addr}{e:Expr}{es:List Expr}{pos:Pos}{f g:Ev->Res D}{fm gm hm im jm:Ev->List D->Res (D×List D)}{fa:Ev->List D->Res (List D×List D)}{s:Ev->List D->Res MFl}{st:Stmt}
def zsZ (f:Ev->Res D):Ev->Res Fl:=fun ρ=>(f ρ).bind fun d=>.ok (.rt d)
theorem zuV (h:DF X E e f):zCj X E He H0e [.Return (some e) pos] (zsZ f):=by
 refine⟨zeY (zg6 (zqz h.o) zpG) fun D' σ H ⟨Ha,ρ,h,q⟩=>⟨Ha,ρ,h.g.sub,h.rd,?_⟩⟩;unfold zsZ at q;cases e1:f ρ with
 | stuck=>rw[e1] at q;exact q
 | exn x=>rw[e1] at q;exact fun C ox H' Ha' g r=>q C ox H' Ha' (h.g.trans g) r
 | ok d =>
  rw[e1] at q;cases d with
  | lst ds=>exact fun p vs H' Ha' g hp h0 hv rp=>q p vs H' Ha' (h.g.trans g) (h.g.s.free hp) h0 hv rp
  | _=>exact q.elim
theorem DMW.dt (h:DMW X He H0e a e fm):DMT X He H0e a e fm:=⟨PW.pt h.o⟩
def zEt (i:Nat)(s:Ev->List D->Res MFl):Ev->List D->Res MFl:=fun ρ st=>s (unown i ρ) st
theorem zn3 {n:Nat}(hr:∀ ρ st ds,fa ρ st=.ok ds->ds.1.length=n)(ρ:Ev)(st:List D)(ds:List D×List D)(h:zaZ fm fa ρ st=.ok ds):ds.1.length=n+1:=by
 unfold zaZ at h;cases e1:fm ρ st with
 | stuck=>rw[e1] at h;cases h
 | exn x=>rw[e1] at h;cases h
 | ok p =>
  rw[e1] at h;simp only[Res.bind] at h;cases e2:fa ρ p.2 with
  | stuck=>rw[e2] at h;cases h
  | exn x=>rw[e2] at h;cases h
  | ok q=>rw[e2] at h;cases h;simp [hr _ _ _ e2]
theorem am0 (ρ:Ev)(st:List D)(ds:List D×List D)(h:zee ρ st=.ok ds):ds.1.length=0:=by cases h;rfl
theorem am1 (ρ:Ev)(st:List D)(ds:List D×List D)(h:zaZ fm zee ρ st=.ok ds):ds.1.length=1:=zn3 am0 ρ st ds h
theorem am2 (ρ:Ev)(st:List D)(ds:List D×List D)(h:zaZ fm (zaZ gm zee) ρ st=.ok ds):ds.1.length=2:=zn3 am1 ρ st ds h
variable {CX:CXT}{k n:Nat}{fn:Addr}{fd:FuncData}{ps:List Str}{x:Str}{p:Pos}{ft:Stmt}
theorem qmc {m:List D->Res D}(F:zcz X.prog X.w X.K X.mg X.base CX k fn fd ps (spD X.K n m))(hr:zgm k X.A)(t:FT X.K X.mg x ft ps fn fd)(hx:zgb CX X E)(ha:DMA X He H0e a (e::es) fa)(hl:∀ ρ st ds,fa ρ st=.ok ds->ds.1.length=(e::es).length)(hn:(e::es).length=n:=by rfl)
  (hg:Gl X x:=by exact rfl)(hdb:(x==("__debug__" : Str))=false:=by decide)(he:starEach (e::es) X.env=(false,eval e X.env)::starEach es X.env:=by exact zaX rfl)(hpl:(backTo pos (starEach es X.env)).any (·.1)=false:=by exact zbC rfl) :
  DM X He H0e a (.Call (.Name x p) (e::es) [] pos) (mA fa m):=zzm F hr hg t.g t.F.kp t.b hx ha hn hl hdb he hpl
theorem qm (i:Nat){y:Str}{p1:Pos}{m:Addr->List D->List D->Res (D×List D)}(F:zcz X.prog X.w X.K X.mg X.base CX k fn fd ps (spM X.K n m))(hr:zgm k X.A)(t:FT X.K X.mg x ft ps fn fd)(hx:zgb CX X E)(ha:DMA X He H0e a es fa)(hl:∀ ρ st ds,fa ρ st=.ok ds->ds.1.length=n)
  (hN:X.N[i]?=some y:=by rfl)(hv:Vis X.env.scope y:=by first | exact Or.inl rfl | exact Or.inr (Or.inl rfl) | exact Or.inr (Or.inr rfl))(hg:Gl X x:=by exact rfl)
  (hd:(y==("__debug__" : Str))=false:=by decide)(hcd:(y==("__classdict__" : Str))=false:=by decide)(hdb:(x==("__debug__" : Str))=false:=by decide)(he:starEach (.Name y p1::es) X.env=(false,eval (.Name y p1) X.env)::starEach es X.env:=by exact zaX rfl)(hpl:(backTo pos (starEach es X.env)).any (·.1)=false:=by exact zbC rfl) :
  DM X He H0e a (.Call (.Name x p) (.Name y p1::es) [] pos) (zbm i a fa m):=zwM (E:=E) F hr hg t.g t.F.kp t.b hx hN hv ha hl hd hcd hdb he hpl
theorem zmb {l b:Expr}(ha:DM X He H0e a l fm)(hb:DM X He H0e a b gm):DM X He H0e a (.BinOp l .Add b pos) (mB fm gm zcP):=zBH (E:=E0) (OpR.or zxi (OpR.or zlV (OpR.or ztp zto))) (by
 intro x y v u H Ha Q hs r1 r2 q;unfold zcP at q;cases x with
 | int i =>
  cases y with
  | int j=>exact .inl ⟨i,j,zah.mp r1,zah.mp r2,zaM hs q (ri _)⟩
  | _=>exact q.elim
 | str i =>
  cases y with
  | str j =>
   by_cases h:i.length+j.length<=line
   .simp only[if_pos h] at q
    exact .inr (.inl ⟨i,j,Rep.str_iff.mp r1,Rep.str_iff.mp r2,zcU h,zaM hs q (Rep.str_iff.mpr rfl)⟩)
   .simp only[if_neg h] at q;exact q.elim
  | _=>exact q.elim
 | lst ds =>
  cases y with
  | lst es =>
   by_cases h:ds.length+es.length<=line
   .simp only[if_pos h] at q
    obtain⟨l,vs,rfl,h1,h2⟩:=zan.mp r1;obtain⟨m,us,rfl,k1,k2⟩:=zan.mp r2;refine .inr (.inr (.inl ⟨l,m,vs,us,rfl,rfl,zaA.sqL hs h1,zaA.sqL hs k1,by rw[← h2.length,← k2.length];exact zcU h,fun p hp=>?_⟩));exact q _ _ _ (zaI hs hp) (zan.mpr ⟨p,_,rfl,SqL.of zar,(h2.app k2).mono (zaI hs hp).z⟩)
   .simp only[if_neg h] at q;exact q.elim
  | _=>exact q.elim
 | tup ds =>
  cases y with
  | tup es =>
   by_cases h:ds.isEmpty=false/\ds.length+es.length<=line
   .simp only[if_pos h] at q
    obtain⟨l,vs,rfl,h1,h2⟩:=zau.mp r1;obtain⟨m,us,rfl,k1,k2⟩:=zau.mp r2;refine .inr (.inr (.inr ⟨l,m,vs,us,rfl,rfl,zaA.sqT hs h1,zaA.sqT hs k1,fun z=>?_,by rw[← h2.length,← k2.length];exact zcU h.2,fun z=>?_,fun z p hp=>?_⟩))
    .have:=h2.length
     rw[z] at this;have e:ds=[]:=List.length_eq_zero_iff.mp this;rw[e] at h;exact absurd h.1 (by decide)
    .have:=k2.length
     rw[z] at this;have e:es=[]:=List.length_eq_zero_iff.mp this;rw[e,List.append_nil] at q;exact zaM hs q r1
    .exact q _ _ _ (zaI hs hp) (zau.mpr ⟨p,_,rfl,SqT.of zar,(h2.app k2).mono (zaI hs hp).z⟩)
   .simp only[if_neg h] at q;exact q.elim
  | _=>exact q.elim
 | _=>exact q.elim) ha hb
theorem zxI {l b:Expr}(ha:DM X He H0e a l fm)(hb:DM X He H0e a b gm):DM X He H0e a (.BinOp l .Mod b pos) (mB fm gm zfw):=zBH (E:=E0) ztl (zqH (fun _ _ h=>of_decide_eq_true h) fun _ _ _ _=>ri _) ha hb
theorem zkS {l b:Expr}(ha:DM X He H0e a l fm)(hb:DM X He H0e a b gm)(hs:zlt b:=by intro _ _;rfl):DM X He H0e a (.Subscript l b pos) (mB fm gm dIx):=zDc (E:=E0) zxn zA5 ha hb hs
theorem zEr {tgt iter elt:Expr}{scope:Scope}(N:List Str)(n:Nat)(fr:List Nat){src:Ev->List D->Res (List D×List D)}{tg:Ev->D->Res Ev}(hc:X.calm=true)(hi:MI X He H0e a tgt iter src)(hok:zzI n tg)
  (blk:∀ s H C fp pn,(∀ He H0e,DG (zdf X N scope s H C fp pn) E He H0e tgt tg)/\∀ He H0e,DM (zdf X N scope s H C fp pn) He H0e a elt fm)
  (hfr:zzL X N n fr scope)(hcell:(scope.names.all fun x=>!(x.2==.cell))=true)(hfree:(scope.names.all fun x=>!(x.2==.free)||(X.env.scope.names.lookup x.1==some .cell))=true)(hkind:scope.kind=.function)
  (hnames:(scope.names.all fun x=>!(x.2==.local)||(scope.names.lookup x.1==some .local))=true)
  (hs:∀ x,foldedSetIterable iter X.env x=pure x:=by intro _;rfl):MCo X He H0e a (.ListComp elt [⟨tgt,iter,[],0⟩] scope pos) (zpc n fr src tg fm):=by
 refine mco (E:=E) N n fr hc hi hok blk hfr (fun x hx z=>?_) (fun x hx z=>?_) hkind (fun x hx z=>?_) hs
 .have:=List.all_eq_true.mp hcell x hx
  rw[z] at this;simp at this
 .have:=List.all_eq_true.mp hfree x hx
  rw[z] at this;simpa using this
 .have:=List.all_eq_true.mp hnames x hx
  rw[z] at this;simpa using this
end
end DL
namespace Com
open PySem L2 DL
def mpK (st:List D)(d:D):Res (D×List D):=.ok (d,st)
def mrF (st:List D)(d:D):Res MFl:=.ok (.rt d st)
def ztq {α:Type}(b:Bool)(x:Res α):Res α:=if b=true then x else .stuck
noncomputable def mbK (g:Ev->List D->Res (D×List D)) (op:D->D->Res D) (ρ:Ev) (p:D×List D):Res (D×List D):=(g ρ p.2).bind fun q=>(op p.1 q.1).bind fun d=>.ok (d,q.2)
def zDR (op:D->D->Res D)(x:D)(q:D×List D):Res (D×List D):=(op x q.1).bind (mpK q.2)
noncomputable def mcK (fa:Ev->List D->Res (List D×List D)) (ρ:Ev) (p:D×List D):Res (List D×List D):=(fa ρ p.2).bind fun q=>.ok (p.1::q.1,q.2)
def zDQ (x:D)(q:List D×List D):Res (List D×List D):=.ok (x::q.1,q.2)
def maK (m:List D->Res D)(p:List D×List D):Res (D×List D):=(m p.1).bind fun d=>.ok (d,p.2)
def msK (st ds:List D):Res (List D×List D):=.ok (ds,st)
noncomputable def mfK (tg:Ev->D->Res Ev) (s:Ev->List D->Res MFl) (ρ:Ev) (p:List D×List D):Res MFl:=forM tg s p.1 ρ p.2
def muK (k:Ev->List D->Res (D×List D))(ρ:Ev)(p:D×List D):Res MFl:=(k ρ p.2).bind (zjD ρ p.1)
section
variable {s t:Ev->List D->Res MFl}{S:Ev->Res Fl}{f g h:Ev->List D->Res (D×List D)}{F:Ev->Res D}{fa:Ev->List D->Res (List D×List D)}{src:Ev->Res (List D)}{srm:Ev->List D->Res (List D×List D)}{tg:Ev->D->Res Ev}{ρ r:Ev}{i j n:Nat}{d x y:D}{st ds xs:List D}{op:D->D->Res D}{a:Addr}
theorem zxv:za8 s t ρ st=(s ρ st).bind (zrZ t):=zat rfl
theorem zuy:zrZ t (.nx ρ st)=t ρ st:=zat rfl
theorem zux:zrZ t (.rt d st)=.ok (.rt d st):=zat rfl
theorem zuw:zrZ t (.bk ρ st)=.ok (.bk ρ st):=zat rfl
theorem zuv:zrZ t (.ct ρ st)=.ok (.ct ρ st):=zat rfl
theorem zuI:zbe ρ st=.ok (.nx ρ st):=zat rfl
theorem zuF:zcT S ρ st=(S ρ).bind (zn1 st):=zat rfl
theorem zre:zn1 st (.nx ρ)=.ok (.nx ρ st):=zat rfl
theorem zrd:zn1 st (.bk ρ)=.ok (.bk ρ st):=zat rfl
theorem zrc:zn1 st (.ct ρ)=.ok (.ct ρ st):=zat rfl
theorem zxu:zgu i f ρ st=(f ρ st).bind (zyV i ρ):=zat rfl
theorem zuu:zyV i ρ (d,st)=.ok (.nx (ρ.set i (.sh d)) st):=zat rfl
theorem zxx:zCb f ρ st=(f ρ st).bind zyW:=zat rfl
theorem zuC:zyW (d,st)=.ok (.rt d st):=zat rfl
theorem zuB:zfO F ρ st=(F (shr ρ)).bind (mrF st):=zat rfl
theorem zrb:mrF st d=.ok (.rt d st):=zat rfl
theorem zBu:mIf f s t ρ st=(f ρ st).bind (zCd s t ρ):=zat rfl
theorem zxB:zCd s t ρ (.bl true,st)=s ρ st:=zat rfl
theorem zxA:zCd s t ρ (.bl false,st)=t ρ st:=zat rfl
theorem zDY:mP F ρ st=(F ρ).bind (mpK st):=zat rfl
theorem zBA:mpK st d=.ok (d,st):=zat rfl
theorem zDZ:mL F ρ st=(F (shr ρ)).bind (zlH st):=zat rfl
theorem zBx {k:Int}:zlH st (.int k)=.ok (.int k,st):=zat rfl
theorem zBy {b:Bool}:zlH st (.bl b)=.ok (.bl b,st):=zat rfl
theorem zBv {z:Str}:zlH st (.str z)=.ok (.str z,st):=zat rfl
theorem zBw:zlH st .non=.ok (.non,st):=zat rfl
theorem zDW:mV i a F ρ st=ztq (zob ρ[i]? a) ((F (vw i ρ st)).bind (zlH st)):=zat rfl
theorem zDX:mT F ρ st=(F (shr ρ)).bind (mpK st):=zat rfl
theorem zBz:mTV i a F ρ st=ztq (zob ρ[i]? a) ((F (vw i ρ st)).bind (mpK st)):=zat rfl
theorem zBt:zob (some (.pt a)) a=true:=beq_self_eq_true a
theorem zuH {α:Type}{z:Res α}:ztq true z=z:=if_pos rfl
theorem zBs:vw i ρ st=(shr ρ).set i (.sh (.lst st)):=zat rfl
theorem zxt:zzP (.pt a)=.pt a:=zat rfl
theorem zD0:mB f g op ρ st=(f ρ st).bind (mbK g op ρ):=zat rfl
theorem zBC:mbK g op ρ (x,st)=(g ρ st).bind (zDR op x):=zat rfl
theorem zBB:zDR op x (y,st)=(op x y).bind (mpK st):=zat rfl
theorem zxz:zee ρ st=.ok ([],st):=zat rfl
theorem zuK:zaZ f fa ρ st=(f ρ st).bind (mcK fa ρ):=zat rfl
theorem zrg:mcK fa ρ (x,st)=(fa ρ st).bind (zDQ x):=zat rfl
theorem zrf:zDQ x (xs,st)=.ok (x::xs,st):=zat rfl
theorem zD1 {m:List D->Res D}:mA fa m ρ st=(fa ρ st).bind (maK m):=zat rfl
theorem zBD {m:List D->Res D}:maK m (ds,st)=(m ds).bind (mpK st):=zat rfl
theorem zuM {m:Addr->List D->List D->Res (D×List D)}:zbm i a fa m ρ st=ztq (zob ρ[i]? a) ((fa ρ st).bind (zvm a m)):=zat rfl
theorem zrh {m:Addr->List D->List D->Res (D×List D)}:zvm a m (ds,st)=m a st ds:=zat rfl
theorem zxy:zxm i a f h ρ st=ztq (zob ρ[i]? a) ((f ρ st).bind (muK h ρ)):=zat rfl
theorem zuE:muK h ρ (d,st)=(h ρ st).bind (zjD ρ d):=zat rfl
theorem zuD {k m:Nat}(e:ixN st.length k=some m):zjD ρ d (.int k,st)=.ok (.nx ρ (st.set m d)):=by unfold zjD;simp only[e]
theorem zxE:zA9 i f ρ st=zB9 ρ[i]? fun ds=>(f ρ st).bind (zr0 i ρ ds):=zat rfl
theorem zuG {k:List D->Res MFl}:zB9 (some (.ow (.lst ds))) k=k ds:=zat rfl
theorem zp5 (e:decide (ds.length<=999)=true):zr0 i ρ ds (d,st)=.ok (.nx (ρ.set i (.ow (.lst (ds++[d])))) st):=if_pos (Nat.lt_of_le_of_lt (of_decide_eq_true e) (by decide))
theorem zxC:zEt i s ρ st=s (unown i ρ) st:=zat rfl
theorem zxF:zBa f g ρ st=(f ρ st).bind (zwo g ρ):=zat rfl
theorem zuO:zwo g ρ (.bl true,st)=g ρ st:=zat rfl
theorem zuN:zwo g ρ (.bl false,st)=.ok (.bl false,st):=zat rfl
theorem zxs:zxl src ρ st=(src ρ).bind (msK st):=zat rfl
theorem zut:msK st ds=.ok (ds,st):=zat rfl
theorem zus:zwn f ρ st=(f ρ st).bind zqN:=zat rfl
theorem znn {k:Int}(e:-4611686018427387904<=k/\k < 4611686018427387904):zqN (.int k,st)=.ok (intsFrom 0 k.toNat,st):=if_pos e
theorem zxD:zn2 srm tg s ρ st=(srm ρ st).bind (mfK tg s ρ):=zat rfl
theorem zuJ:mfK tg s ρ (ds,st)=forM tg s ds ρ st:=zat rfl
theorem zuL {fr:List Nat}:zpc n fr srm tg f ρ st=(srm ρ st).bind (zpb (zfx n fr ρ) tg f):=zat rfl
theorem zxw {b:Addr->Ev->List D->Res MFl}:zvB n b a st ds=(b a (.pt a::ds.map Sl.sh++List.replicate (n-(ds.length+1)) .no) st).bind zvY:=zat rfl
theorem zuA:zvY (.rt d st)=.ok (d,st):=zat rfl
theorem zuz:zvY (.nx ρ st)=.ok (.non,st):=zat rfl
end
theorem zjg {tg:Ev->D->Res Ev}{body:Ev->List D->Res MFl}(I:Nat->Ev->List D->Prop)(ds:List D)(step:∀ (j:Nat) (d:D) (ρ:Ev) (st:List D),ds[j]?=some d->I j ρ st->∃ ρ1 ρ2 st2,tg ρ d=.ok ρ1/\(body ρ1 st=.ok (.nx ρ2 st2)∨body ρ1 st=.ok (.ct ρ2 st2))/\I (j+1) ρ2 st2) :
  ∀ (j:Nat) (ρ:Ev) (st:List D),j<=ds.length->I j ρ st->∃ ρ2 st2,forM tg body (ds.drop j) ρ st=.ok (.nx ρ2 st2)/\I ds.length ρ2 st2:=by
 intro j ρ st hj h;generalize hk:ds.length-j=k
 induction k generalizing j ρ st with
 | zero =>
  have:j=ds.length:=by omega
  subst this;exact⟨ρ,st,by rw[List.drop_length];rfl,h⟩
 | succ k ih =>
  have hlt:j < ds.length:=by omega
  obtain⟨ρ1,ρ2,st2,h1,h2,h3⟩:=step j ds[j] ρ st (List.getElem?_eq_getElem hlt) h;obtain⟨ρ3,st3,h4,h5⟩:=ih (j+1) ρ2 st2 (by omega) h3 (by omega);refine⟨ρ3,st3,?_,h5⟩;rw[List.drop_eq_getElem_cons hlt];unfold DL.forM;rw[h1];rcases h2 with h2 | h2
  .simp only[Res.bind,h2];exact h4
  .simp only[Res.bind,h2];exact h4
theorem zpe {b:Ev}{tg:Ev->D->Res Ev}{fm:Ev->List D->Res (D×List D)}(I:List D->Prop)(P:D->Prop):∀ (ds st:List D),I st->(∀ d st,d∈ds->I st->∃ ρ1 y st2,tg b d=.ok ρ1/\fm ρ1 st=.ok (y,st2)/\P y/\I st2)->∃ es st2,zir b tg fm ds st=.ok (es,st2)/\es.length=ds.length/\(∀ e∈es,P e)/\I st2
 | [],st,h,_=>⟨[],st,rfl,rfl,fun e he=>by simp at he,h⟩
 | d::ds,st,h,step=>by
  obtain⟨ρ1,y,st1,h1,h2,h3,h4⟩:=step d st (by simp) h;obtain⟨es,st2,k1,k2,k3,k4⟩:=zpe I P ds st1 h4 fun d' st' hd=>step d' st' (List.mem_cons_of_mem _ hd);refine⟨y::es,st2,?_,by simp [k2],fun e he=>?_,k4⟩
  .unfold zir
   rw[h1];simp only[Res.bind,h2,k1]
  .rcases List.mem_cons.mp he with rfl | he
   .exact h3
   .exact k3 e he
end Com
namespace Bor
open PySem L2 DL
abbrev za6:List D->Res D:=Cod.za6
noncomputable def zf8:Ev->Res Fl :=
 (zrI (zb6 2 (dC (.int 0)))
 (zrI (sIf (zaa (zad 1) (zam (zae (zad 0) zaH) (m1 zgl)) dLt)
 (zaw (zb6 2 (zaa (zad 0) (zad 1) dIx))
 zao)
 zao)
 (zsZ (zam (zae (zad 2) (zae (zaa (zaa (zaa (zaa (zad 2) (dC (.int 2147483587)) zfw) (zaa (zaa (dC (.int 104729)) (zad 1) zbN) (zad 1) zbN) zcP) (dC (.int 7)) zcP) (dC (.int 2147483587)) zfw) (zae (zaa (zad 2) (zaa (dC (.int 10)) (dC (.int 18)) zsw) dGe) zaH))) zi5))))
def za7:List D->Res D:=zAw 3 zf8
noncomputable def zg0:Addr->Ev->List D->Res MFl:=fun a =>
 (za8 (mIf (mTV 0 a (zaa (zad 0) (dC (.int 2)) dIx))
 (za8 (zgu 2 (mV 0 a (zaa (zaa (zad 0) (dC (.int 0)) dIx) (zad 1) zfw)))
 (za8 (zxm 0 a (mV 0 a (zaa (zaa (zad 0) (dC (.int 0)) dIx) (zad 1) zpy)) (mP (dC (.int 0))))
 (za8 (zxm 0 a (mV 0 a (zaa (zaa (zad 0) (dC (.int 0)) dIx) (dC (.int 0)) dGt)) (mP (dC (.int 2))))
 (za8 (zfO (zad 2))
 zbe))))
 zbe)
 (za8 (zcT (zb6 3 (dC (.int 0))))
 (za8 (zn2 (zxl (zgI (zaa (dC (.int 1)) (zaa (dC (.int 2)) (zam (zae (zaa (zad 1) (zaa (dC (.int 10)) (dC (.int 6)) zsw) dGt) zaH) (m1 zk3)) zbN) zcP))) (zdN 4)
 (za8 (zxm 0 a (mV 0 a (zaa (zaa (zaa (zaa (zad 0) (dC (.int 1)) dIx) (dC (.int 39373)) zbN) (dC (.int 17)) zcP) (dC (.int 2147483647)) zfw)) (mP (dC (.int 1))))
 (za8 (zgu 3 (mV 0 a (zaa (zaa (zad 3) (dC (.int 2147483587)) zbN) (zaa (zaa (zaa (zad 0) (dC (.int 1)) dIx) (zaa (zad 0) (dC (.int 1)) dIx) zbN) (dC (.int 2147483587)) zfw) zcP)))
 zbe)))
 (za8 (zfO (zaa (zaa (zad 3) (dC (.int 64)) zpy) (zad 1) zfw))
 zbe))))
def zas:Addr->List D->List D->Res (D×List D):=zvB 5 zg0
noncomputable def ziU:Addr->Ev->List D->Res MFl:=fun a =>
 (za8 (zgu 2 (zpc 1 [0] (zxl (zgI (dC (.int 8)))) (zdN 0) (zbm 1 a (zaZ (mP (dC (.int 26))) zee) zas)))
 (za8 (zgu 3 (mB (mP (dC (.int 1))) (zbm 0 a (zaZ (mP (dC (.int 8))) zee) zas) zcP))
 (za8 (zgu 4 (zbm 0 a (zaZ (mP (zad 3)) zee) zas))
 (za8 (zgu 5 (zbm 0 a (zaZ (mP (dC (.int 26))) zee) zas))
 (za8 (zgu 6 (mB (mP (zam (zae (dC (.int 1)) (zae (dC (.int 3)) (zae (dC (.int 5)) (zae (dC (.int 7)) (zae (dC (.int 9)) (zae (dC (.int 11)) zaH)))))) zi5)) (zbm 0 a (zaZ (mP (dC (.int 6))) zee) zas) dIx))
 (za8 (zgu 7 (mB (zbm 0 a (zaZ (mP (dC (.int 3))) zee) zas) (mP (dC (.int 0))) dEq))
 (za8 (zcT (zrK 8 (zam zaH zi5)))
 (za8 (zcT (zvW (zad 1) (zdN 9)
 (zaw (zrK 10 (zsv (zad 2) zft (ze0 (zad 3))))
 (zaw (zAq 10 (zaa (zaa (zad 5) (zaa (zad 6) (zad 9) zbN) zcP) (dC (.int 26)) zfw) (zad 4))
 (zaw (sIf (zad 7)
 (zaw (zrK 10 (zsv (zad 2) zft (ze0 (zaa (dC (.int 1)) (zaa (zaa (zad 5) (zad 9) zcP) (dC (.int 8)) zfw) zcP))))
 zao)
 zao)
 (zaw (zAs 10 (zeW 8 (zsi (dC (.str "")) (zae (zeN 1 [] (zvz (zad 10)) (zdN 0) mYes (zaa (dC (.str "abcdefghijklmnopqrstuvwxyz")) (zad 0) dIx)) zaH))))
 zao))))))
 (za8 (zfO (zad 8))
 zbe)))))))))
def zcI:Addr->List D->List D->Res (D×List D):=zvB 11 ziU
noncomputable def zhL:Addr->Ev->List D->Res MFl:=fun a =>
 (za8 (zgu 2 (zbm 0 a (zaZ (mP (dC (.int 6))) zee) zas))
 (za8 (zgu 3 (mB (mP (zad 1)) (zbm 0 a (zaZ (mP (zaa (zam (zae (dC (.int 3)) (zae (dC (.int 6)) (zae (dC (.int 20)) (zae (dC (.int 12)) (zae (dC (.int 90)) (zae (zaa (dC (.int 10)) (dC (.int 12)) zsw) zaH)))))) zi5) (zad 2) dIx)) zee) zas) zcP))
 (za8 (zcT (zb6 4 (zaa (zam (zae (dC (.int 1)) (zae (dC (.int 1)) (zae (dC (.int 1)) (zae (dC (.int 4)) (zae (dC (.int 12)) (zae (dC (.int 12)) zaH)))))) zi5) (zad 2) dIx)))
 (za8 (zcT (zb6 5 (zam (zae (dC (.int 1)) (zae (dC (.int 2)) (zae (dC (.int 3)) (zae (dC (.int 4)) (zae (dC (.int 5)) (zae (dC (.int 6)) (zae (dC (.int 10)) (zae (dC (.int 12)) (zae (dC (.int 15)) (zae (dC (.int 20)) (zae (dC (.int 30)) (zae (dC (.int 60)) zaH)))))))))))) zi5)))
 (za8 (zCb (mA (zaZ (mP (zad 3)) (zaZ (mB (mP (zad 5)) (zbm 0 a (zaZ (mP (zad 4)) zee) zas) dIx) zee)) za6))
 zbe)))))
def zbh:Addr->List D->List D->Res (D×List D):=zvB 6 zhL
noncomputable def zeO:Addr->Ev->List D->Res MFl:=fun a =>
 (za8 (zcT (zb6 3 (zam (zae (zad 1) zaH) (m1 zgl))))
 (za8 (zgu 4 (zbm 0 a (zaZ (mP (zad 3)) zee) zas))
 (za8 (zgu 5 (mB (mB (mP (zaa (zad 4) (dC (.int 1)) zcP)) (zbm 0 a (zaZ (mP (zaa (zad 3) (dC (.int 1)) zu8)) zee) zas) zcP) (mP (zad 3)) zfw))
 (za8 (mIf (mB (zbm 0 a (zaZ (mP (dC (.int 2))) zee) zas) (mP (dC (.int 0))) dEq)
 (za8 (zcT (zb6 4 (zaa (zad 2) (zad 3) zfw)))
 (za8 (zcT (zb6 5 (zaa (zaa (zad 2) (dC (.int 1)) zcP) (zad 3) zfw)))
 zbe))
 zbe)
 (za8 (zgu 6 (mB (mP (zam (zae (dC (.str "one")) (zae (dC (.str "both")) zaH)) zi5)) (zbm 0 a (zaZ (mP (dC (.int 2))) zee) zas) dIx))
 (za8 (zgu 7 (zbm 0 a (zaZ (mP (dC (.int 0))) zee) zbh))
 (za8 (zgu 8 (zbm 0 a (zaZ (mP (dC (.int 1))) zee) zbh))
 (za8 (mIf (mB (zbm 0 a (zaZ (mP (dC (.int 4))) zee) zas) (mP (dC (.int 0))) dEq)
 (za8 (zcT (zb6 8 (dC (.non))))
 zbe)
 zbe)
 (za8 (zfO (zam (zae (zaa (zad 1) (zad 4) dIx) (zae (zaa (zad 1) (zad 5) dIx) (zae (zad 6) (zae (zad 7) (zae (zad 8) zaH))))) zjR))
 zbe)))))))))
def zbL:Addr->List D->List D->Res (D×List D):=zvB 9 zeO
noncomputable def ziv:Addr->Ev->List D->Res MFl:=fun a =>
 (za8 (zgu 3 (zbm 0 a (zaZ (mB (mP (dC (.int 2))) (zbm 0 a (zaZ (mP (zaa (zad 1) (dC (.int 1)) zu8)) zee) zas) zcP) zee) zcI))
 (za8 (zcT (zb6 4 (zam (zae (zad 3) zaH) (m1 zgl))))
 (za8 (zcT (zrK 5 (zam zaH zi5)))
 (za8 (zn2 (zwn (zbm 0 a (zaZ (mP (zaa (zad 2) (dC (.int 1)) zcP)) zee) zas)) (zdN 6)
 (za8 (zA9 5 (zbm 0 a (zaZ (mP (zad 3)) (zaZ (mP (zad 6)) zee)) zbL))
 zbe))
 (za8 (zcT (zb6 7 (dC (.int 0))))
 (za8 (zcT (zb6 8 (zaa (zad 4) (dC (.int 1)) zu8)))
 (za8 (mIf (mB (zbm 0 a (zaZ (mP (dC (.int 2))) zee) zas) (mP (dC (.int 0))) dEq)
 (za8 (zgu 7 (zbm 0 a (zaZ (mP (zad 4)) zee) zas))
 (za8 (zgu 8 (mB (mB (mP (zaa (zad 7) (dC (.int 1)) zcP)) (zbm 0 a (zaZ (mP (zaa (zad 4) (dC (.int 1)) zu8)) zee) zas) zcP) (mP (zad 4)) zfw))
 zbe))
 zbe)
 (za8 (zfO (zam (zae (zad 3) (zae (zad 5) (zae (zaa (zad 3) (zad 7) dIx) (zae (zaa (zad 3) (zad 8) dIx) zaH)))) zjR))
 zbe))))))))
def zb9:Addr->List D->List D->Res (D×List D):=zvB 9 ziv
noncomputable def zhK:Addr->Ev->List D->Res MFl:=fun a =>
 (za8 (zcT (zrK 3 (zam zaH zi5)))
 (za8 (zn2 (zxl (zgI (zam (zae (zaa (zad 1) (dC (.int 1)) dIx) zaH) (m1 zgl)))) (zdN 4)
 (za8 (mIf (zBa (mB (zbm 0 a (zaZ (mP (zad 2)) zee) zas) (mP (dC (.int 0))) dEq) (mT (zaa (zaa (zaa (zaa (zad 1) (dC (.int 1)) dIx) (zad 4) dIx) (dC (.int 4)) dIx) (dC (.non)) zdF)))
 (za8 (zcT (zeW 3 (zad 4)))
 zbe)
 zbe)
 zbe))
 (za8 (zfO (zad 3))
 zbe)))
def zbz:Addr->List D->List D->Res (D×List D):=zvB 5 zhK
end Bor
namespace DL
open PySem PySem.Spec PyProof.Rows L2
section
variable {X:Cx}{E:XK}{He H0e:Hp}{a:Addr}{st:Stmt}{e l b:Expr}{rest es:List Expr}{pos:Pos}{f:Ev->Res D}{fm gm:Ev->List D->Res (D×List D)}
noncomputable def zCc (g:Ev->List D->Res (D×List D)) (ρ:Ev) (p:D×List D):Res (D×List D):=match p.1 with
 | .bl b=>if b=true then .ok (.bl true,p.2) else g ρ p.2
 | _=>.stuck
noncomputable def mOr (f g:Ev->List D->Res (D×List D)):Ev->List D->Res (D×List D):=fun ρ st=>(f ρ st).bind (zCc g ρ)
theorem zwK (ha:DMT X He H0e a l fm):DMW X He H0e a (.BoolOp .Or [l] pos) fm:=⟨zw8 ha.o⟩
theorem zxH (ha:DMT X He H0e a l fm)(hb:DMW X He H0e a (.BoolOp .Or (b::rest) pos) gm):DMW X He H0e a (.BoolOp .Or (l::b::rest) pos) (mOr fm gm):=by
 refine⟨?_⟩;refine zmU (zAG ha.o hb.o) fun σ H Q ⟨Ha,ρ,st,vs,h,q⟩=>⟨Ha,ρ,st,vs,h,?_⟩
 unfold mOr at q;cases e1:fm ρ st with
 | stuck=>rw[e1] at q;exact q
 | exn x=>rw[e1] at q;exact q
 | ok p =>
  obtain⟨d,st'⟩:=p;rw[e1] at q;cases d with
  | bl c =>
   intro H1 H01 us z h1;cases c with
   | false =>
    rw[if_neg Bool.false_ne_true];refine⟨H01,ρ,st',us,h1,?_⟩;replace q:match gm ρ st' with
     | .ok (.bl b,st')=>∀ H' Ha' us,zaA Ha Ha'->MSx X.K He H0e Ha' σ H' ρ a st' us->Q b H'
     | .ok _=>False
     | .exn _=>False
     | .stuck=>False:=q
    cases e2:gm ρ st' with
    | stuck=>rw[e2] at q;exact q
    | exn x=>rw[e2] at q;exact q
    | ok p2 =>
     obtain⟨d2,s2⟩:=p2;rw[e2] at q;cases d2 with
     | bl c2=>exact fun H2 H02 us2 z2 h2=>q H2 H02 us2 (z.trans z2) h2
     | _=>exact q.elim
   | true=>rw[if_pos rfl];exact q H1 H01 us z h1
  | _=>exact q.elim
def zyX (p:D×List D):Res (D×List D):=match p.1 with
 | .bl b=>.ok (.bl (!b),p.2)
 | _=>.stuck
def zA8 (f:Ev->List D->Res (D×List D)):Ev->List D->Res (D×List D):=fun ρ st=>(f ρ st).bind zyX
theorem zzl (ha:DMT X He H0e a l fm):DMT X He H0e a (.UnaryOp .Not l pos) (zA8 fm):=by
 refine⟨?_⟩;refine zeX (zxd ha.o) fun σ H Q ⟨Ha,ρ,st,vs,h,q⟩=>⟨Ha,ρ,st,vs,h,?_⟩
 unfold zA8 at q;cases e1:fm ρ st with
 | stuck=>rw[e1] at q;exact q
 | exn x=>rw[e1] at q;exact q
 | ok p =>
  obtain⟨d,st'⟩:=p;rw[e1] at q;cases d with
  | bl c=>exact fun H1 H01 us z h1=>q H1 H01 us z h1
  | _=>exact q.elim
end
section
variable {X:Cx}{e:Expr}{es:List Expr}{fa:Ev->Res (List D)}{pos:Pos}{k n:Nat}{fn:Addr}{fd:FuncData}{ps:List Str}{m:List D->Res D}{x:Str}{p:Pos}{st:Stmt}
end
def zEM (x y:D):Res D:=match x,y with
 | .bl a,.bl b=>.ok (.bl (a==b))
 | _,_=>.stuck
def zwP (x y:D):Res D:=match x,y with
 | .bl a,.bl b=>.ok (.bl (!(a==b)))
 | _,_=>.stuck
section
variable {X:Cx}{E:XK}
theorem zyH:OpR X (compareOp .IsNot) (fun x y H Q=>∃ a b,x=.bl a/\y=.bl b/\Q (.bl (!(a==b))) H):=by
 intro pins s σ H x y v u Q I rx ry h;obtain⟨a,b,rfl,rfl,q⟩:=h;cases rx;cases ry;have e:compareOp .IsNot (.bool a) (.bool b)=pure (.bool (!(a==b))):=by cases a<;>cases b<;>rfl
 rw[e];exact wpAny_pure (zqZ I q rfl)
theorem zyO:OpD X.K E (fun x y H Q=>∃ a b,x=.bl a/\y=.bl b/\Q (.bl (!(a==b))) H) zwP:=by
 intro x y v u H Ha Q hs r1 r2 q;unfold zwP at q;cases x with
 | bl a =>
  cases y with
  | bl b=>exact⟨a,b,zaq.mp r1,zaq.mp r2,zaM hs q (rb _)⟩
  | _=>exact q.elim
 | _=>exact q.elim
end
def zwQ (x:D):Res D:=match x with
 | .dic ks _=>.ok (.int ks.length)
 | x=>zgl x
section
variable {X:Cx}{E:XK}
abbrev zAE (K:W.Frag):List V->Hp->VK->Prop:=fun xs H Q=>(∃ x n,xs=[x]/\zDq K x H n/\Q (.int n) H)∨∃ a kvs,xs=[V.ref a]/\Rd H a (.dK kvs)/\Q (.int kvs.length) H
theorem zvk:zhU X (.builtin "len") (zAE X.K):=by
 intro pins s σ H xs us Q I r h;rcases h with h | ⟨a,kvs,rfl,hd,q⟩
 .exact zbi pins s σ H xs us Q I r h
 .obtain⟨u,rfl,rx⟩:=znJ r
  cases rx;exact zDg I hd fun t s' I'=>⟨.int kvs.length,H,I',⟨t,rfl⟩,q⟩
theorem zzC:zhV X E (zAE X.K) (m1 zwQ):=zpi fun x v H Ha Q hs r q=>by
 cases x with
 | dic ks ds =>
  rw[Rep] at r;obtain⟨a,kvs,vs,rfl,h1,rfl,h3,h4⟩:=r;refine .inr ⟨a,(ks.map Sum.inr).zip vs,rfl,zaA.rd hs h1,?_⟩;rw[List.length_zip,List.length_map,← h3,Nat.min_self];exact zaM hs q (ri _)
 | lst ds =>
  obtain⟨p,vs,rfl,h1,h2⟩:=zan.mp r;refine .inl ⟨_,vs.length,rfl,.inl ⟨vs,zaA.sqL hs h1,rfl⟩,?_⟩;rw[← h2.length];exact zaM hs q (ri _)
 | tup ds =>
  obtain⟨p,vs,rfl,h1,h2⟩:=zau.mp r;refine .inl ⟨_,vs.length,rfl,.inr ⟨vs,zaA.sqT hs h1,rfl⟩,?_⟩;rw[← h2.length];exact zaM hs q (ri _)
 | str z =>
  unfold zwQ zgl at q
  by_cases hz:z.length<=line
  .simp only[if_pos hz] at q
   rw[Rep.str_iff.mp r];exact .inl ⟨_,z.length,rfl,⟨zcU hz,rfl⟩,zaM hs q (ri _)⟩
  .simp only[if_neg hz] at q;exact q.elim
 | _=>exact q.elim
end
noncomputable def atD:List Str->List D->Str->Option D
 | k::ks,d::ds,x=>if k=x then some d else atD ks ds x
 | _,_,_=>none
noncomputable def zea (x y:D):Res D:=match x,y with
 | .dic ks ds,.str k=>match atD ks ds k with
  | some d=>.ok d
  | none=>.stuck
 | _,_=>.stuck
noncomputable def zvb (x y:D):Res D:=match x,y with
 | .str k,.dic ks ds=>.ok (.bl (atD ks ds k).isSome)
 | _,_=>.stuck
noncomputable def zgX (x y:D):Res D:=match x,y with
 | .str k,.dic ks ds=>.ok (.bl (!(atD ks ds k).isSome))
 | _,_=>.stuck
theorem zrx {K:W.Frag}{H:Hp}{k:Str}:∀ {ks:List Str}{ds:List D}{vs:List V},ks.length=vs.length->Reps K H ds vs ->
  (∀ d,atD ks ds k=some d->∃ v,zst ((ks.map Sum.inr).zip vs) (Sum.inr k:Key)=some v/\Rep K H d v)/\(atD ks ds k=none->zst ((ks.map Sum.inr).zip vs) (Sum.inr k:Key)=none)
 | [],ds,vs,hl,r=>by
  exact⟨fun d e=>(nomatch e),fun _=>rfl⟩
 | x::ks,ds,vs,hl,r=>by
  cases vs with
  | nil=>cases hl
  | cons v vs =>
   cases ds with
   | nil=>have:=Reps.nil_iff.mp r;cases this
   | cons d ds =>
    obtain⟨v',vr,e0,h1,h2⟩:=zap.mp r;cases e0;obtain⟨i1,i2⟩:=zrx (k:=k) (ks:=ks) (ds:=ds) (vs:=vs) (by simpa using hl) h2;rw[List.map_cons,List.zip_cons_cons]
    by_cases hx:x=k
    .subst hx
     refine⟨fun d' e=>?_,fun e=>?_⟩
     .rw[atD,if_pos rfl] at e;cases e
      exact⟨v,zi9 rfl,h1⟩
     .rw[atD,if_pos rfl] at e;cases e
    .have hne:¬ (Sum.inr x:Key)=Sum.inr k:=fun z=>hx (Sum.inr.inj z)
     refine⟨fun d' e=>?_,fun e=>?_⟩
     .rw[atD,if_neg hx] at e
      rw[zg3 hne];exact i1 d' e
     .rw[atD,if_neg hx] at e
      rw[zg3 hne];exact i2 e
section
variable {X:Cx}{E:XK}{a b:Expr}{f g:Ev->Res D}{pos:Pos}
abbrev zCH:R2:=fun x y H Q=>∃ p v,x=.ref p/\zw0 H p y (some v)/\Q v H
abbrev zDE:R2:=fun y x H Q=>∃ p o,x=.ref p/\zw0 H p y o/\Q (.bl o.isSome) H
abbrev zs4:R2:=fun y x H Q=>∃ p o,x=.ref p/\zw0 H p y o/\Q (.bl (!o.isSome)) H
theorem zyQ:OpD X.K E zCH zea:=by
 intro x y v u H Ha Q hs r1 r2 q;unfold zea at q;cases x with
 | dic ks ds =>
  cases y with
  | str k =>
   rw[Rep] at r1;obtain⟨p,kvs,vs,rfl,h1,rfl,hl,h4⟩:=r1;rw[Rep.str_iff.mp r2];cases e:atD ks ds k with
   | none=>simp only[e] at q;exact q.elim
   | some d =>
    simp only[e] at q;obtain⟨v,hv,rv⟩:=(zrx hl h4).1 d e;exact⟨p,v,rfl,.inl ⟨_,.inr k,zaA.rd hs h1,rfl,hv.symm⟩,zaM hs q rv⟩
  | _=>exact q.elim
 | _=>exact q.elim
theorem ztU {k:Str}{ks:List Str}{ds:List D}{v u:V}{H Ha:Hp}{K:W.Frag}(hs:zaA Ha H)(r1:Rep K Ha (.str k) v)(r2:Rep K Ha (.dic ks ds) u):∃ p o,u=.ref p/\zw0 H p v o/\o.isSome=(atD ks ds k).isSome:=by
 rw[Rep] at r2;obtain⟨p,kvs,vs,rfl,h1,rfl,hl,h4⟩:=r2;rw[Rep.str_iff.mp r1];refine⟨p,_,rfl,.inl ⟨_,.inr k,zaA.rd hs h1,rfl,rfl⟩,?_⟩;cases e:atD ks ds k with
 | none=>rw[(zrx hl h4).2 e];rfl
 | some d=>obtain⟨v,hv,_⟩:=(zrx hl h4).1 d e;rw[hv];rfl
theorem ztu:OpD X.K E zDE zvb:=by
 intro x y v u H Ha Q hs r1 r2 q;unfold zvb at q;cases x with
 | str k =>
  cases y with
  | dic ks ds =>
   obtain⟨p,o,e1,e2,e3⟩:=ztU hs r1 r2;exact⟨p,o,e1,e2,by rw[e3];exact zaM hs q (rb _)⟩
  | _=>exact q.elim
 | _=>exact q.elim
theorem znZ:OpD X.K E zs4 zgX:=by
 intro x y v u H Ha Q hs r1 r2 q;unfold zgX at q;cases x with
 | str k =>
  cases y with
  | dic ks ds =>
   obtain⟨p,o,e1,e2,e3⟩:=ztU hs r1 r2;exact⟨p,o,e1,e2,by rw[e3];exact zaM hs q (rb _)⟩
  | _=>exact q.elim
 | _=>exact q.elim
theorem ztn (hu:X.A.units+1 < cLine):OpR X (compareOp .In) zDE:=by
 intro pins s σ H x y v u Q I rx ry h;obtain⟨p,o,rfl,g,q⟩:=h;cases ry;exact zEC hu I g rx fun s' I'=>⟨.bl o.isSome,H,I',rfl,q⟩
theorem znX (hu:X.A.units+1 < cLine):OpR X (compareOp .NotIn) zs4:=by
 intro pins s σ H x y v u Q I rx ry h;obtain⟨p,o,rfl,g,q⟩:=h;cases ry;exact zzv hu I g rx fun s' I'=>⟨.bl (!o.isSome),H,I',rfl,q⟩
theorem ze9 (hu:X.A.units+1 < cLine)(ha:DE X E a f)(hb:DE X E b g)(hs:zDo b:=by intro _ _;rfl):DE X E (.Subscript a b pos) (zaa f g zea) :=
 ⟨zaK (zyD hu ha.o hb.o hs) (zfz zyQ)⟩
end
section
variable {K:W.Frag}{E:XK}{He H0e Ha H H1:Hp}{σ:L2.St}{ρ:Ev}
theorem SRx.putOwnG (h:SRx K He H0e Ha σ H ρ){i:Nat}{dn:D}{p:Addr}(hp:∀ (j:Nat) (a:Addr),σ[j]?=some (some (V.ref a))->a=p->∀ d:D,ρ[j]?≠some (Sl.ow d))(he:He p=none)(h0:Ha p=none)(ho:zCh K Ha H p dn)(hx:∀ (i j:Nat) (ds:List D) (a q:Addr),ρ[i]?=some (.ox j ds)->σ[i]?=some (some (.ref a))->OXr K He Ha H a j ds q->p≠q) :
  SRx K He H0e Ha (σ.set i (some (.ref p))) H (ρ.set i (.ow dn)):=by
 have key:∀ (j:Nat) (s:Sl),(ρ.set i (.ow dn))[j]?=some s->(j=i/\s=.ow dn/\i < σ.length)∨(j≠i/\ρ[j]?=some s):=fun j s e=>by
  by_cases hj:i=j
  .subst hj
   rw[List.getElem?_set_self'] at e;cases q:ρ[i]? with
   | none=>rw[q] at e;cases e
   | some s' =>
    rw[q] at e;cases e;refine .inl ⟨rfl,rfl,?_⟩;rw[← h.ln];exact(List.getElem?_eq_some_iff.mp q).1
  .rw[List.getElem?_set_ne hj] at e
   exact .inr ⟨fun z=>hj z.symm,e⟩
 have other:∀ (k:Nat) (d2:D),k≠i->ρ[k]?=some (.ow d2)->some (some (V.ref p))≠σ[k]?:=fun k d2 hk e2 z=>by
  obtain⟨a,h1,_⟩:=h.ow k d2 e2;rw[h1] at z;cases z;exact hp k p h1 rfl d2 e2
 refine⟨h.g,fun j d' e=>?_,fun j d' e=>?_,fun j k d1 d2 hn e1 e2=>?_,by simp [h.ln],h.ex.upd (fun j s e=>?_) (zaA.refl _) (fun a vs _ e=>e) fun p us _ h0 hp _=>⟨hp,h0⟩⟩
 rotate_left 3
 .rcases key j _ e with⟨rfl,e',hl⟩ | ⟨hj,e'⟩
  .exact .inr (.inr (.inr ⟨dn,p,e',by rw[List.getElem?_set_self hl],hx⟩))
  .exact .inl ⟨e',by rw[List.getElem?_set_ne (Ne.symm hj)]⟩
 .rcases key j _ e with⟨rfl,e',hl⟩ | ⟨hj,e'⟩
  .cases e'
  .obtain⟨v',h1,h2⟩:=h.rd j d' e'
   exact⟨v',by rw[List.getElem?_set_ne (Ne.symm hj)];exact h1,h2⟩
 .rcases key j _ e with⟨rfl,e',hl⟩ | ⟨hj,e'⟩
  .cases e'
   exact⟨p,by rw[List.getElem?_set_self hl],he,h0,ho⟩
  .obtain⟨a,h1,h2⟩:=h.ow j d' e'
   exact⟨a,by rw[List.getElem?_set_ne (Ne.symm hj)];exact h1,h2⟩
 .rcases key j _ e1 with⟨rfl,_,hl⟩ | ⟨hj,e1'⟩
  .rcases key k _ e2 with⟨rfl,_,_⟩ | ⟨hk,e2'⟩
   .exact absurd rfl hn
   .rw[List.getElem?_set_self hl,List.getElem?_set_ne (Ne.symm hk)]
    exact other k d2 hk e2'
  .rcases key k _ e2 with⟨rfl,_,hl⟩ | ⟨hk,e2'⟩
   .rw[List.getElem?_set_self hl,List.getElem?_set_ne (Ne.symm hj)]
    exact fun z=>other j d1 hj e1' z.symm
   .rw[List.getElem?_set_ne (Ne.symm hj),List.getElem?_set_ne (Ne.symm hk)]
    exact h.ap j k d1 d2 hn e1' e2'
theorem SRx.writeG (h:SRx K He H0e Ha σ H ρ){i:Nat}{d:D}{p:Addr}{dn:D}{o:HO}(e:ρ[i]?=some (.ow d))(es:σ[i]?=some (some (.ref p)))(ho:zCh K Ha (upd H p o) p dn) :
  SRx K He H0e Ha σ (upd H p o) (ρ.set i (.ow dn)):=by
 obtain⟨a,h1,h2,h3,h4⟩:=h.ow i d e;rw[h1] at es;cases es;have hil:i < ρ.length:=(List.getElem?_eq_some_iff.mp e).1;have key:∀ (j:Nat) (s:Sl),(ρ.set i (.ow dn))[j]?=some s->(j=i/\s=.ow dn)∨(j≠i/\ρ[j]?=some s):=fun j s e=>by
  by_cases hj:i=j
  .subst hj
   rw[List.getElem?_set_self hil] at e;cases e;exact .inl ⟨rfl,rfl⟩
  .rw[List.getElem?_set_ne hj] at e
   exact .inr ⟨fun z=>hj z.symm,e⟩
 refine⟨⟨fun b o' eb=>?_,h.g.z,fun b o' eb=>?_,h.g.nw⟩,fun j d' e'=>?_,fun j d' e'=>?_,fun j k d1 d2 hn e1 e2=>?_,by simp [h.ln],h.ex.upd (fun j s e'=>?_) (zaA.refl _) (fun b us _ eb=>?_) fun q us _ q0 hq hd=>?_⟩
 rotate_left 5
 .rcases key j _ e' with⟨rfl,e''⟩ | ⟨hj,e''⟩
  .exact .inr (.inr (.inr ⟨dn,p,e'',h1,fun i' j' ds' a' p' x1 x2 x3=>by
    obtain⟨a2,p2,y1,y2,y3,_⟩:=h.ex.1 i' j' ds' x1;rw[x2] at y1;cases y1;have:p2=p':=by
     obtain⟨vs1,_,_,_,z1,_,_,_,z2,_⟩:=x3;obtain⟨vs2,_,_,_,z3,_,_,_,z4,_⟩:=y2;rw[z1] at z3;cases z3;rw[z2] at z4;cases z4;rfl
    subst this;intro zz;subst zz;exact y3 j d e h1⟩))
  .exact .inl ⟨e'',rfl⟩
 .rw[zal (by
   intro z;subst z;cases d with
   | lst ds'=>obtain⟨vs',h5,_⟩:=h4;rw[h5] at eb;cases eb
   | dic ks ds'=>obtain⟨vs',h5,_⟩:=h4;rw[h5] at eb;cases eb
   | _=>exact h4)];exact eb
 .have hq':q≠p:=by
   intro z;subst z;exact hd i d e h1
  exact⟨by rw[zal hq'];exact hq,q0⟩
 .rw[zal (by intro z;subst z;rw[h2] at eb;cases eb)];exact h.g.s _ _ eb
 .rw[zal (by intro z;subst z;rw[h3] at eb;cases eb)];exact h.g.sub _ _ eb
 .rcases key j _ e' with⟨rfl,e''⟩ | ⟨hj,e''⟩
  .cases e''
  .exact h.rd j d' e''
 .rcases key j _ e' with⟨rfl,e''⟩ | ⟨hj,e''⟩
  .cases e''
   exact⟨p,h1,h2,h3,ho⟩
  .obtain⟨b,k1,k2,k3,k4⟩:=h.ow j d' e''
   refine⟨b,k1,k2,k3,?_⟩;have hb:b≠p:=by
    intro z;subst z;exact h.ap j i d' d hj e'' e (by rw[k1,h1])
   cases d' with
   | lst ds' =>
    obtain⟨vs',h5,h6⟩:=k4;exact⟨vs',by rw[zal hb];exact h5,h6⟩
   | dic ks ds' =>
    obtain⟨vs',h5,hl,h6⟩:=k4;exact⟨vs',by rw[zal hb];exact h5,hl,h6⟩
   | _=>exact k4.elim
 .rcases key j _ e1 with⟨rfl,e1'⟩ | ⟨hj,e1'⟩
  .rcases key k _ e2 with⟨rfl,_⟩ | ⟨hk,e2'⟩
   .exact absurd rfl hn
   .exact h.ap j k d d2 hn e e2'
  .rcases key k _ e2 with⟨rfl,_⟩ | ⟨hk,e2'⟩
   .exact h.ap j k d1 d hn e1' e
   .exact h.ap j k d1 d2 hn e1' e2'
end
noncomputable def zAA:List Str->List D->Str->D->List D
 | k::ks,e::ds,x,d=>(if k=x then d else e)::zAA ks ds x d
 | _,ds,_,_=>ds
noncomputable def zxb (ks:List Str) (ds:List D) (k:Str) (d:D):D:=if k∈ks then .dic ks (zAA ks ds k d) else .dic (ks++[k]) (ds++[d])
theorem zvq {k:Str}:∀ {ks:List Str}{vs:List V},ks.length=vs.length->(((ks.map Sum.inr).zip vs).any fun kv=>decide (kv.1=(Sum.inr k:Key)))=decide (k∈ks)
 | [],_,_=>rfl
 | x::ks,[],h=>nomatch h
 | x::ks,v::vs,h=>by
  rw[List.map_cons,List.zip_cons_cons,List.any_cons,zvq (by simpa using h)]
  by_cases hx:x=k
  .subst hx;simp
  .have:¬ k=x:=fun z=>hx z.symm
   simp [hx,this]
theorem zs2 {K:W.Frag}{H:Hp}{k:Str}{d:D}{v:V}(r:Rep K H d v):∀ {ks:List Str}{ds:List D}{vs:List V},ks.length=vs.length->Reps K H ds vs ->
  ∃ vs',(((ks.map Sum.inr).zip vs).map fun kv=>if kv.1=(Sum.inr k:Key) then(kv.1,v) else kv)=(ks.map Sum.inr).zip vs'/\ks.length=vs'.length/\Reps K H (zAA ks ds k d) vs'
 | [],ds,vs,hl,h=>⟨vs,rfl,hl,by cases ds<;>exact h⟩
 | x::ks,ds,[],hl,h=>nomatch hl
 | x::ks,[],v'::vs,hl,h=>by have:=Reps.nil_iff.mp h;cases this
 | x::ks,e::ds,v'::vs,hl,h=>by
  obtain⟨v2,vr,e0,h1,h2⟩:=zap.mp h;cases e0;obtain⟨vs',i1,i2,i3⟩:=zs2 r (ks:=ks) (ds:=ds) (vs:=vs) (by simpa using hl) h2;rw[List.map_cons,List.zip_cons_cons,List.map_cons,i1]
  by_cases hx:x=k
  .subst hx
   refine⟨v::vs',by rw[if_pos rfl];rfl,by simp [i2],?_⟩;rw[zAA,if_pos rfl];exact Reps.cons r i3
  .have hne:¬ (Sum.inr x:Key)=Sum.inr k:=fun z=>hx (Sum.inr.inj z)
   refine⟨v'::vs',by rw[if_neg hne];rfl,by simp [i2],?_⟩;rw[zAA,if_neg hx];exact Reps.cons h1 i3
theorem Reps.snoc {K:W.Frag}{H:Hp}{d:D}{v:V}(r:Rep K H d v):∀ {ds:List D}{vs:List V},Reps K H ds vs->Reps K H (ds++[d]) (vs++[v])
 | [],vs,h=>by rw[Reps.nil_iff.mp h];exact Reps.cons r Reps.nil
 | e::ds,vs,h=>by
  obtain⟨v2,vr,rfl,h1,h2⟩:=zap.mp h;exact Reps.cons h1 (Reps.snoc r h2)
theorem zyr {K:W.Frag}{Ha H:Hp}{k:Str}{d:D}{v:V}{ks:List Str}{ds:List D}{vs:List V}{p:Addr}(hl:ks.length=vs.length)(h:Reps K Ha ds vs)(r:Rep K Ha d v):zCh K Ha (upd H p (.dK (zlS ((ks.map Sum.inr).zip vs) (Sum.inr k) v))) p (zxb ks ds k d):=by
 unfold zxb;rw[show ∀ (kvs:List (Key×V)) (u:V),zlS kvs (Sum.inr k:Key) u=if(kvs.any fun kv=>decide (kv.1=(Sum.inr k:Key)))=true then kvs.map (fun kv=>if kv.1=(Sum.inr k:Key) then(kv.1,u) else kv) else kvs++[((Sum.inr k:Key),u)] from fun _ _=>rfl];rw[zvq hl]
 by_cases hk:k∈ks
 .rw[if_pos hk,if_pos (decide_eq_true hk)]
  obtain⟨vs',i1,i2,i3⟩:=zs2 (k:=k) r hl h;exact⟨vs',by rw[zar,i1],i2,i3⟩
 .rw[if_neg hk,if_neg (by rw[decide_eq_false hk];decide)]
  refine⟨vs++[v],by rw[zar,List.map_append,List.zip_append (by rw[List.length_map];exact hl)];rfl,by simp [hl],Reps.snoc r h⟩
noncomputable def tFd (K:W.Frag) (E:XK) (f:Ev->Res D):TE:=fun σ H Q=>∃ Ha ρ,zaA Ha H/\Reads K Ha σ ρ/\match f ρ with
 | .ok (.dic ks ds)=>∀ p vs H' Ha',zbj H Ha H' Ha'->H p=none->Ha' p=none->H' p=some (.dK ((ks.map Sum.inr).zip vs))->ks.length=vs.length->Reps K Ha' ds vs->Q (.ref p) H'
 | .ok _=>False
 | .exn x=>∀ C ox H' Ha',zbj H Ha H' Ha'->ExR K Ha' x C ox->E C ox H'
 | .stuck=>False
structure DFd (X:Cx) (E:XK) (e:Expr) (f:Ev->Res D):Prop where
 o:PE X e (tFd X.K E f)
noncomputable def zyG (i:Nat) (ρ:Ev) (d:D):Res Fl:=match d with
 | .dic ks ds=>.ok (.nx (ρ.set i (.ow (.dic ks ds))))
 | _=>.stuck
def zs0 (i:Nat)(f:Ev->Res D):Ev->Res Fl:=fun ρ=>(f ρ).bind (zyG i ρ)
section
variable {X:Cx}{E:XK}{He H0e:Hp}{e b:Expr}{pos:Pos}{f k:Ev->Res D}
theorem zuY {i:Nat}{x:Str}{pos':Pos}(hN:X.N.Nodup)(hi:X.N[i]?=some x)(hx:Loc X.env.scope x)(he:DFd X E e f)(hs:swapsWith e (some (.Name x pos')) pos.line X.env=pure false:=by rfl)
  (hf:X.fn x=true∨X.env.scope.names.lookup x=some .local := by first | exact .inl rfl | exact .inr rfl | assumption):DS X E He H0e (.Assign [.Name x pos'] e pos) (zs0 i f):=by
 refine⟨?_⟩;refine za3 (zlT hN hi hx he.o hs hf) fun D σ H ⟨Ha,ρ,h,q⟩=>⟨Ha,ρ,h.g.sub,h.rd,?_⟩
 unfold zs0 at q;cases e1:f ρ with
 | stuck=>rw[e1] at q;exact q
 | exn x=>rw[e1] at q;exact fun C ox H' Ha' g ex=>q C ox H' Ha' (h.g.trans g) ex
 | ok d =>
  rw[e1] at q;cases d with
  | dic ks ds =>
   intro p vs H' Ha' g hp h0 hv hl rp;refine q _ H' Ha' g.z ((h.grow g).putOwnG (dn:=.dic ks ds) (fun j a ej ea d ed=>?_) (h.g.s.free hp) h0 ⟨vs,hv,hl,rp⟩ (h.fresh_x g.s hp));subst ea;obtain⟨a',k1,_,_,k4⟩:=h.ow j d ed;rw[ej] at k1;cases k1;cases d with
   | lst ds'=>obtain⟨vs',h5,_⟩:=k4;rw[hp] at h5;cases h5
   | dic ks ds'=>obtain⟨vs',h5,_⟩:=k4;rw[hp] at h5;cases h5
   | _=>exact k4.elim
  | _=>exact q.elim
theorem zzp:DFd X E (.Dict [] [] pos) (dC (.dic [] [])):=by
 refine⟨zaK zwf fun σ H Q ⟨Ha,ρ,hs,hr,q⟩=>fun p hp=>?_⟩;have q:∀ p vs H' Ha',zbj H Ha H' Ha'->H p=none->Ha' p=none->H' p=some (.dK ((([]:List Str).map Sum.inr).zip vs))->([]:List Str).length=vs.length->Reps X.K Ha' [] vs->Q (.ref p) H':=q;have h0:Ha p=none:=hs.free hp;refine q p [] _ Ha ⟨fun b o q=>by rw[zal (zaQ q hp)];exact q,zaA.refl _,fun b o q=>?_,fun a h1 h2=>absurd h2 h1⟩ hp h0 zar rfl Reps.nil;rw[zal (by intro z;subst z;rw[h0] at q;cases q)];exact hs _ _ q
end
def zzo (k d:D):Res D:=match k with
 | .str x=>.ok (.dic [x] [d])
 | _=>.stuck
def zwR (kf vf:Ev->Res D):Ev->Res D:=zaa kf vf zzo
noncomputable def ztj (ρ:Ev) (i:Nat) (k:List Str->List D->Res Fl):Res Fl:=match ρ[i]? with
 | some (.ow (.dic ks ds))=>k ks ds
 | _=>.stuck
noncomputable def zmV (i:Nat) (ρ:Ev) (ks:List Str) (ds:List D) (d j:D):Res Fl:=match j with
 | .str x=>if ks.length < line then .ok (.nx (ρ.set i (.ow (zxb ks ds x d)))) else .stuck
 | _=>.stuck
noncomputable def zrJ (i:Nat) (f k:Ev->Res D):Ev->Res Fl:=fun ρ=>ztj ρ i fun ks ds=>(f ρ).bind fun d=>(k ρ).bind (zmV i ρ ks ds d)
section
variable {X:Cx}{E:XK}{He H0e:Hp}{e b:Expr}{pos:Pos}{f k:Ev->Res D}
theorem zu2 (hk:DE X E b k)(hv:DE X E e f):DFd X E (.Dict [some b] [e] pos) (zwR k f):=by
 refine⟨?_⟩;refine zaK (zyC (zwb hk.o hv.o zyu) rfl rfl (by simp) (by simp)) fun σ H Q ⟨Ha,ρ,hs,hr,q⟩ p hpn=>?_;have h0:Ha p=none:=hs.free hpn;have hs2:zaA Ha (upd H p (.dK [])):=fun b o e=>by rw[zal (by intro z;subst z;rw[h0] at e;cases e)];exact hs _ _ e
 have back:∀ {H' Ha':Hp},zbj (upd H p (.dK [])) Ha H' Ha'->zbj H Ha H' Ha':=fun g=>⟨fun b o e=>g.s _ _ (by rw[zal (zaQ e hpn)];exact e),g.z,g.sub,fun a k1 k2=>by
   have:=g.nw a k1 k2
   by_cases ha:a=p
   .subst ha;exact hpn
   .rw[zal ha] at this;exact this⟩
 refine⟨Ha,ρ,hs2,hr,?_⟩;unfold zwR zaa at q;cases e1:k ρ with
 | stuck=>rw[e1] at q;exact q
 | exn z=>rw[e1] at q;exact fun C ox H' Ha' g ex=>q C ox H' Ha' (back g) ex
 | ok kd =>
  rw[e1] at q;intro xk H1 H01 g1 r1;refine⟨H01,ρ,g1.sub,hr.mono g1.z,?_⟩;cases e2:f ρ with
  | stuck=>rw[e2] at q;exact q
  | exn z=>rw[e2] at q;exact fun C ox H' Ha' g ex=>q C ox H' Ha' (back (g1.trans g)) ex
  | ok d =>
   rw[e2] at q;intro v H2 H02 g2 r2;cases kd with
   | str x =>
    have G:=g1.trans g2;have hp2:H2 p=some (.dK []):=G.s _ _ zar;have n02:H02 p=none:=by
     cases qq:H02 p with
     | none=>rfl
     | some o=>have:=G.nw p (by rw[qq];simp) h0;rw[zar] at this;cases this
    rw[Rep.str_iff.mp r1];refine⟨hp2,[(Sum.inr x,v)],rfl,by simp,?_⟩;have q:∀ p vs H' Ha',zbj H Ha H' Ha'->H p=none->Ha' p=none->H' p=some (.dK (([x].map Sum.inr).zip vs))->[x].length=vs.length->Reps X.K Ha' [d] vs->Q (.ref p) H':=q;refine q p [v] _ H02 ⟨fun b o e=>?_,G.z,fun b o e=>?_,(back G).nw⟩ hpn n02 zar rfl (Reps.cons r2 Reps.nil)
    .rw[zal (zaQ e hpn)];exact(back G).s _ _ e
    .rw[zal (by intro z;subst z;rw[n02] at e;cases e)];exact G.sub _ _ e
   | _=>exact q.elim
theorem zti {K:W.Frag}{Ha H:Hp}{σ:L2.St}{ρ:Ev}{i:Nat}{k:List Str->List D->Res Fl}{D':zi0}(h:SRx K He H0e Ha σ H ρ)(q:zbM K E He H0e Ha (ztj ρ i k) D') :
  ∃ ks ds p vs,ρ[i]?=some (.ow (.dic ks ds))/\σ[i]?=some (some (.ref p))/\H p=some (.dK ((ks.map Sum.inr).zip vs))/\ks.length=vs.length/\Reps K Ha ds vs/\zbM K E He H0e Ha (k ks ds) D':=by
 unfold ztj at q;cases e:ρ[i]? with
 | none=>rw[e] at q;exact q.elim
 | some s =>
  rw[e] at q;cases s with
  | no=>exact q.elim
  | sh d=>exact q.elim
  | ox j ds=>exact q.elim
  | pt a=>exact q.elim
  | ow d =>
   cases d with
   | dic ks ds =>
    obtain⟨p,h1,h2,h3,vs,h4,h5,h6⟩:=h.ow i _ e;exact⟨ks,ds,p,vs,rfl,h1,h4,h5,h6,q⟩
   | _=>exact q.elim
theorem zv5 {K:W.Frag}{Ha H:Hp}{σ:L2.St}{ρ:Ev}{i:Nat}{D':zi0}{ks:List Str}{ds:List D}{d j:D}{p:Addr}{vs:List V}{v u:V}(h:SRx K He H0e Ha σ H ρ)(e1:ρ[i]?=some (.ow (.dic ks ds)))(e2:σ[i]?=some (some (.ref p)))(e5:H p=some (.dK ((ks.map Sum.inr).zip vs)))(el:ks.length=vs.length)(e6:Reps K Ha ds vs)
  (rp:Rep K Ha d v)(rj:Rep K Ha j u)(q:zbM K E He H0e Ha (zmV i ρ ks ds d j) D'):∃ a H4,V.ref p=.ref a/\zzU H a u v H4/\D'.nx σ H4:=by
 unfold zmV at q;cases j with
 | str x =>
  by_cases hl:ks.length < line
  .simp only[if_pos hl] at q
   rw[Rep.str_iff.mp rj];refine⟨p,_,rfl,zzU.k (k:=.inr x) e5 ?_,?_⟩
   .rw[List.length_zip,List.length_map,← el,Nat.min_self]
    have:line<=sizeLine:=zcU (Nat.le_refl _);omega
   .exact q σ _ Ha (zaA.refl _) (h.writeG e1 e2 (zyr el e6 rp))
  .simp only[if_neg hl] at q;exact q.elim
 | _=>exact q.elim
theorem zuX {i:Nat}{x:Str}{p1 p2:Pos}(hu:X.A.units+1 < cLine)(hN:X.N[i]?=some x)(hv:Vis X.env.scope x)(he:DE X E e f)(hk:DE X E b k)
  (hd:(x==("__debug__" : Str))=false:=by decide)(hcd:(x==("__classdict__" : Str))=false:=by decide)
  (hs:swapsWith e (some (.Subscript (.Name x p1) b p2)) pos.line X.env=pure false:=by rfl):DS X E He H0e (.Assign [.Subscript (.Name x p1) b p2] e pos) (zrJ i f k):=by
 refine⟨?_⟩;refine za3 (zyt hu (zjF hN hv hd hcd) hk.o he.o hs) fun D σ H ⟨Ha,ρ,h,q⟩=>⟨Ha,ρ,h.g.sub,h.rd,?_⟩
 obtain⟨ks,ds,p,vs,e1,e2,e5,el,e6,q⟩:=zti h q;refine plain (k:=fun d=>(k ρ).bind (zmV i ρ ks ds d)) h q fun d v H1 H01 _ g1 r1 q1=>⟨.ref p,e2,?_⟩
 have h1':=h.grow g1;refine⟨H01,ρ,h1'.g.sub,h1'.rd,plain (k:=zmV i ρ ks ds d) h1' q1 fun j u H2 H02 _ g2 r2 q2=>?_⟩;exact zv5 (h1'.grow g2) e1 e2 (g2.s _ _ (g1.s _ _ e5)) el ((e6.mono g1.z).mono g2.z) (r1.mono g2.z) r2 q2
end
mutual
def nd:D->Bool
 | .lst ds=>nds ds
 | .tup ds=>nds ds
 | .dic _ _=>false
 | .exc _=>false
 | .ob _ _=>false
 | _=>true
def nds:List D->Bool
 | []=>true
 | d::ds=>nd d&&nds ds
end
mutual
theorem Rep.nd_to {K:W.Frag}{H H':Hp}(et:∀ a vs,Rd H a (.tup vs)->Rd H' a (.tup vs))(el:∀ a vs,Rd H a (.lst vs)->Rd H' a (.lst vs)):∀ {d:D}{v:V},nd d=true->Rep K H d v->Rep K H' d v
 | .non,_,_,h=>by unfold Rep at h ⊢;exact h
 | .bl _,_,_,h=>by unfold Rep at h ⊢;exact h
 | .int _,_,_,h=>by unfold Rep at h ⊢;exact h
 | .str _,_,_,h=>by unfold Rep at h ⊢;exact h
 | .tup ds,_,f,h=>by
  unfold nd at f;obtain⟨a,vs,e1,e2,e3⟩:=zau.mp h;refine zau.mpr ⟨a,vs,e1,?_,Reps.nd_to et el f e3⟩;rcases e2 with e2 | e2
  .exact .inl (et _ _ e2)
  .exact .inr e2
 | .lst ds,_,f,h=>by
  unfold nd at f;obtain⟨a,vs,e1,e2,e3⟩:=zan.mp h;refine zan.mpr ⟨a,vs,e1,?_,Reps.nd_to et el f e3⟩;rcases e2 with e2 | e2
  .exact .inl (el _ _ e2)
  .exact .inr e2
 | .dic ks ds,_,f,h=>by unfold nd at f;cases f
 | .exc x,_,f,h=>by unfold nd at f;cases f
 | .ob k ds,_,f,h=>by unfold nd at f;cases f
theorem Reps.nd_to {K:W.Frag}{H H':Hp}(et:∀ a vs,Rd H a (.tup vs)->Rd H' a (.tup vs))(el:∀ a vs,Rd H a (.lst vs)->Rd H' a (.lst vs)):∀ {ds:List D}{vs:List V},nds ds=true->Reps K H ds vs->Reps K H' ds vs
 | [],_,_,h=>by unfold Reps at h ⊢;exact h
 | d::ds,_,f,h=>by
  unfold nds at f;rw[Bool.and_eq_true] at f;obtain⟨v,r,e1,e2,e3⟩:=zap.mp h;exact zap.mpr ⟨v,r,e1,Rep.nd_to et el f.1 e2,Reps.nd_to et el f.2 e3⟩
end
noncomputable def zsx (Ha J:Hp):Hp:=fun a=>match Ha a with
 | some o=>some o
 | none=>match J a with
  | some (.dK _)=>none
  | o=>o
noncomputable def zrS (ρ:Ev):Bool:=ρ.all fun s=>match s with
 | .ow (.lst _)=>false
 | .ox _ _=>false
 | .pt _=>false
 | _=>true
section
variable {K:W.Frag}{E:XK}{He H0e Ha H H1 J:Hp}{σ:L2.St}{ρ:Ev}
theorem zzH (h:zaA Ha J):∀ a o,zsx Ha J a=some o->J a=some o:=fun a o e=>by
 unfold zsx at e;cases q:Ha a with
 | some u=>rw[q] at e;cases e;exact h _ _ q
 | none =>
  rw[q] at e;cases q2:J a with
  | none=>rw[q2] at e;cases e
  | some u=>rw[q2] at e;cases u<;>first | (cases e;rfl) | cases e
theorem zvv (h:zaA Ha J){a:Addr}{o:HO}(e:J a=some o)(hn:∀ kvs,o≠.dK kvs):zsx Ha J a=some o:=by
 unfold zsx;cases q:Ha a with
 | some u=>have:=h _ _ q;rw[e] at this;cases this;rfl
 | none=>rw[e];cases o<;>first | rfl | exact absurd rfl (hn _)
theorem zvu (h:zaA Ha J){u:HO}(hu:∀ kvs,u≠.dK kvs)(a:Addr)(e:Rd J a u):Rd (zsx Ha J) a u:=by
 rcases e with e | ⟨o,e⟩
 .exact .inl (zvv h e hu)
 .exact .inr ⟨o,zvv h e fun _ z=>nomatch z⟩
theorem SRx.behindS (h:SRx K He H0e Ha σ H ρ)(ho:zrS ρ=true)(g:zbj H (frz He Ha H) H1 J):SRx K He H0e (zsx Ha J) σ H1 ρ:=by
 have hJ:zaA Ha J:=h.frz_sub.trans g.z;have le:=zzH (Ha:=Ha) (J:=J) hJ;have z:zaA Ha (zsx Ha J):=fun b o e=>by unfold zsx;rw[e]
 have ok:∀ (i:Nat) (s:Sl),ρ[i]?=some s->(match s with | .ow (.lst _)=>false | .ox _ _=>false | .pt _=>false | _=>true)=true:=fun i s e=>List.all_eq_true.mp ho s (List.mem_of_getElem? e);refine⟨⟨h.g.s.trans g.s,h.g.z.trans z,fun b o e=>g.sub _ _ (le b o e),fun a h1 h2=>?_⟩,h.rd.mono z,fun i d e=>?_,h.ap,h.ln,OX.none (fun i j ds e=>by have:=ok i _ e;cases this) (fun i a e=>by have:=ok i _ e;cases this)⟩
 .cases q:zsx Ha J a with
  | none=>exact absurd q h1
  | some o =>
   have hj:=le a o q;exact(h.frz_grow.trans g).nw a (by rw[hj];simp) h2
 .obtain⟨a,k1,k2,k3,k4⟩:=h.ow i d e
  cases d with
  | lst ds=>have:=ok i _ e;cases this
  | dic ks ds =>
   obtain⟨vs,h5,hl,h6⟩:=k4;refine⟨a,k1,k2,?_,vs,g.s _ _ h5,hl,h6.mono z⟩;have:frz He Ha H a=some (.dK ((ks.map Sum.inr).zip vs)):=by unfold frz;rw[k2];exact h5
   have:=g.z _ _ this;unfold zsx;rw[k3,this]
  | _=>exact k4.elim
end
noncomputable def zvS (i:Nat) (ρ:Ev) (d:D):Res Fl:=if nd d=true/\zrS ρ=true then .ok (.nx (ρ.set i (.sh d))) else .stuck
def zsY (i:Nat)(f:Ev->Res D):Ev->Res Fl:=fun ρ=>(f (shr ρ)).bind (zvS i ρ)
section
variable {X:Cx}{E:XK}{He H0e:Hp}{e b o:Expr}{pos apos cpos:Pos}{f k g:Ev->Res D}
theorem zuW {i:Nat}{x:Str}{pos':Pos}(hN:X.N.Nodup)(hi:X.N[i]?=some x)(hx:Loc X.env.scope x)(he:DE X E e f)(hs:swapsWith e (some (.Name x pos')) pos.line X.env=pure false:=by rfl)
  (hf:X.fn x=true∨X.env.scope.names.lookup x=some .local := by first | exact .inl rfl | exact .inr rfl | assumption):DS X E He H0e (.Assign [.Name x pos'] e pos) (zsY i f):=by
 refine⟨?_⟩;refine za3 (zlT hN hi hx he.o hs hf) fun D σ H ⟨Ha,ρ,h,q⟩=>⟨frz He Ha H,shr ρ,h.frz_le,h.looks,?_⟩
 refine look h q fun d v H' J _ g rp q'=>?_;unfold zvS at q'
 by_cases fl:nd d=true/\zrS ρ=true
 .rw[if_pos fl] at q'
  have hJ:zaA Ha J:=h.frz_sub.trans g.z;refine q' _ H' (zsx Ha J) (fun b o e=>by unfold zsx;rw[e]) ((h.behindS fl.2 g).put (rp.nd_to (fun a vs e=>zvu hJ (fun _ z=>by cases z) a e) (fun a vs e=>zvu hJ (fun _ z=>by cases z) a e) fl.1))
 .rw[if_neg fl] at q';exact q'.elim
theorem un1 {n:Nat}(h:n+64 < cLine):n+1 < cLine:=Nat.lt_of_le_of_lt (by omega) h
end
end DL
namespace K11
open PySem L2 DL
noncomputable def zfb:Ev->Res Fl :=
 (zaw (zb6 1 (zam (zae (zaa (zad 0) (dC (.int 0)) dIx) (zae (zaa (zad 0) (dC (.int 1)) dIx) zaH)) zjR))
 (zaw (sIf (zaa (zaa (zad 0) (dC (.int 2)) dIx) (dC (.str "one")) dEq)
 (zaw (zde (zam (zae (zad 1) zaH) zi5))
 zao)
 zao)
 (zaw (zde (zam (zae (zad 1) (zae (zam (zae (zaa (zad 0) (dC (.int 1)) dIx) (zae (zaa (zad 0) (dC (.int 0)) dIx) zaH)) zjR) zaH)) zi5))
 zao)))
def za1:List D->Res D:=zdY 2 zfb
end K11
namespace K12
open PySem L2 DL
abbrev za6:List D->Res D:=Cod.za6
abbrev zcb:List D->Res D:=Com.zcb
abbrev zeg:List D->Res D:=Com.zeg
abbrev m_sum_of:List D->Res D:=Com.m_sum_of
noncomputable def zlf:Ev->Res Fl :=
 (zaw (zde (zam (zae (zaa (zaa (zaa (zad 0) (dC (.int 0)) dIx) (zaa (zad 1) (dC (.int 1)) dIx) zbN) (zaa (zaa (zad 1) (dC (.int 0)) dIx) (zaa (zad 0) (dC (.int 1)) dIx) zbN) zcP) (zae (zaa (zaa (zad 0) (dC (.int 1)) dIx) (zaa (zad 1) (dC (.int 1)) dIx) zbN) zaH)) za6))
 zao)
def zbd:List D->Res D:=zdY 2 zlf
end K12
namespace K51
open PySem L2 DL
abbrev za6:List D->Res D:=Cod.za6
abbrev zbd:List D->Res D:=K12.zbd
noncomputable def zlg:Ev->Res Fl :=
 (zaw (zde (zaa (zaa (zaa (zad 0) (dC (.int 0)) dIx) (zaa (zad 1) (dC (.int 1)) dIx) zbN) (zaa (zaa (zad 1) (dC (.int 0)) dIx) (zaa (zad 0) (dC (.int 1)) dIx) zbN) dLt))
 zao)
def zbA:List D->Res D:=zdY 2 zlg
abbrev zby:List D->Res D:=Com.zby
abbrev zcf:List D->Res D:=Com.zcf
abbrev zcb:List D->Res D:=Com.zcb
abbrev zeg:List D->Res D:=Com.zeg
abbrev m_sum_of:List D->Res D:=Com.m_sum_of
noncomputable def zmq:Ev->Res Fl :=
 (zaw (zde (dOr (zaa (zad 0) (dC (.non)) zio) (zam (zae (zad 0) zaH) zby)))
 zao)
def zcH:List D->Res D:=zdY 1 zmq
noncomputable def znC:Ev->Res Fl :=
 (zaw (sIf (zaa (zad 0) (dC (.non)) zio)
 (zaw (zde (dC (.bl true)))
 zao)
 zao)
 (zaw (zde (zlw (zaa (zad 2) (dC (.non)) zdF) (zet (zam (zae (zam (zae (zad 0) (zae (zad 1) zaH)) zeg) (zae (zad 2) zaH)) zcf))))
 zao))
def zdL:List D->Res D:=zdY 3 znC
abbrev za1:List D->Res D:=K11.za1
noncomputable def ziT:Ev->Res Fl :=
 (zaw (zrK 2 (zam zaH zi5))
 (zaw (znT (zzN (zaa (zad 0) (dC (.int 1)) dIx)) (zm7 [3,4])
 (zaw (sIf (zaa (zad 3) (zad 1) zdd)
 (zaw (zpF (zam (zae (zad 4) zaH) za1) (zm7 [5,6])
 (zaw (zeW 2 (zam (zae (zad 3) (zae (zad 5) (zae (zad 6) zaH))) zjR))
 zao))
 zao)
 zao)
 zao))
 (zaw (zde (zad 2))
 zao)))
def zbu:List D->Res D:=zdY 7 ziT
end K51
namespace K17
open PySem L2 DL
abbrev za7:List D->Res D:=Bor.za7
abbrev zas:Addr->List D->List D->Res (D×List D):=Bor.zas
abbrev zcI:Addr->List D->List D->Res (D×List D):=Bor.zcI
abbrev za6:List D->Res D:=Cod.za6
abbrev zbh:Addr->List D->List D->Res (D×List D):=Bor.zbh
abbrev zbL:Addr->List D->List D->Res (D×List D):=Bor.zbL
abbrev zb9:Addr->List D->List D->Res (D×List D):=Bor.zb9
abbrev zbz:Addr->List D->List D->Res (D×List D):=Bor.zbz
abbrev zce:List D->Res D:=Com.zce
abbrev zbg:List D->Res D:=Com.zbg
abbrev zbs:List D->Res D:=Com.zbs
abbrev zaU:List D->Res D:=Com.zaU
abbrev zdm:List D->Res D:=Com.zdm
abbrev zby:List D->Res D:=Com.zby
abbrev zdR:List D->Res D:=Com.zdR
abbrev ze2:List D->Res D:=Com.ze2
abbrev zbK:List D->Res D:=Com.zbK
abbrev zdn:List D->Res D:=Com.zdn
abbrev zb8:List D->Res D:=Com.zb8
abbrev zbc:List D->Res D:=Com.zbc
abbrev zaT:List D->Res D:=Com.zaT
abbrev zbr:List D->Res D:=Com.zbr
abbrev zdo:List D->Res D:=Com.zdo
abbrev zbJ:List D->Res D:=Com.zbJ
noncomputable def zfl:Ev->Res Fl :=
 (zaw (zde (zam (zae (zeN 1 [] (zvz (zaa (zad 0) (dC (.int 1)) dIx)) (zdN 0) mYes (zaa (zad 0) (dC (.int 3)) dIx)) zaH) zbJ))
 zao)
def zcA:List D->Res D:=zdY 1 zfl
abbrev za1:List D->Res D:=K11.za1
abbrev zbu:List D->Res D:=K51.zbu
noncomputable def zgD:Ev->Res Fl :=
 (zaw (zb6 3 (dC (.non)))
 (zaw (zpF (zad 0) (zm7 [4,5,6])
 (zaw (sIf (zlw (zaa (zad 5) (zad 2) zvb) (zaa (zad 6) (zad 2) zgX))
 (zaw (zb6 7 (zaa (zaa (zaa (zad 2) (zad 5) zea) (dC (.int 0)) dIx) (zaa (zad 1) (zad 4) dIx) zcP))
 (zaw (sIf (dOr (zaa (zad 3) (dC (.non)) zio) (zaa (zad 7) (zaa (zad 3) (dC (.int 1)) dIx) dLt))
 (zaw (zb6 3 (zam (zae (zad 6) (zae (zad 7) (zae (zaa (zaa (zaa (zad 2) (zad 5) zea) (dC (.int 1)) dIx) (zam (zae (zad 4) zaH) zi5) zcP) zaH))) zjR))
 zao)
 zao)
 zao))
 zao)
 zao))
 (zaw (zde (zad 3))
 zao)))
def zbl:List D->Res D:=zdY 8 zgD
noncomputable def zhJ:Ev->Res Fl :=
 (zaw (zb6 3 (zam (zae (zad 0) (zae (zad 1) zaH)) zbu))
 (zaw (zs0 4 (zwR (zaa (zad 0) (dC (.int 2)) dIx) (zam (zae (dC (.int 0)) (zae (zam zaH zi5) zaH)) zjR)))
 (zaw (zsY 5 (zam (zae (zad 3) (zae (zad 2) (zae (zad 4) zaH))) zbl))
 (zaw (zg5 (fun _=>8) (zaa (zad 5) (dC (.non)) zdF)
 (zaw (zrJ 4 (zam (zae (zaa (zad 5) (dC (.int 1)) dIx) (zae (zaa (zad 5) (dC (.int 2)) dIx) zaH)) zjR) (zaa (zad 5) (dC (.int 0)) dIx))
 (zaw (zsY 5 (zam (zae (zad 3) (zae (zad 2) (zae (zad 4) zaH))) zbl))
 zao)))
 (zaw (zde (zad 4))
 zao)))))
def zdM:List D->Res D:=zdY 6 zhJ
abbrev zcb:List D->Res D:=Com.zcb
noncomputable def zit:Ev->Res Fl :=
 (zaw (zb6 2 (zam (zae (zad 0) zaH) zcA))
 (zaw (zb6 3 (zam (zae (zad 0) (zae (zad 1) (zae (zaa (zad 2) (dC (.int 0)) dIx) zaH))) zdM))
 (zaw (zs0 4 (dC (.dic [] [])))
 (zaw (zpF (zaa (zad 0) (dC (.int 0)) dIx) (zdN 5)
 (zaw (zrJ 4 (dIf (zaa (zad 5) (zad 3) zvb) (zam (zae (zaa (zaa (zad 3) (zad 5) zea) (dC (.int 0)) dIx) (zae (zaa (zad 2) (dC (.int 1)) dIx) zaH)) zcb) (dC (.non))) (zad 5))
 zao))
 (zaw (sIf (zaa (zaa (zad 0) (dC (.int 3)) dIx) (zad 3) zgX)
 (zaw (zde (zam (zae (dC (.non)) (zae (dC (.non)) (zae (zad 4) zaH))) zjR))
 zao)
 zao)
 (zaw (zde (zam (zae (zaa (zaa (zad 3) (zaa (zad 0) (dC (.int 3)) dIx) zea) (dC (.int 1)) dIx) (zae (zaa (zad 4) (zaa (zad 0) (dC (.int 3)) dIx) zea) (zae (zad 4) zaH))) zjR))
 zao))))))
def zeC:List D->Res D:=zdY 6 zit
noncomputable def zld:Ev->Res Fl :=
 (zaw (zmR (zam (zae (zad 0) (zae (zad 1) zaH)) zaT))
 (zaw (zde (zam (zae (zad 0) (zae (zad 1) zaH)) zeC))
 zao))
def zdl:List D->Res D:=zdY 2 zld
abbrev zbA:List D->Res D:=K51.zbA
noncomputable def zg1:Ev->Res Fl :=
 (zaw (sIf (zaa (zad 1) (dC (.non)) zio)
 (zaw (zde (dC (.bl true)))
 zao)
 zao)
 (zaw (zde (zlw (zaa (zad 0) (dC (.non)) zdF) (zet (zam (zae (zad 1) (zae (zad 0) zaH)) zbA))))
 zao))
def zdp:List D->Res D:=zdY 2 zg1
abbrev zcH:List D->Res D:=K51.zcH
noncomputable def zcM:Ev->Res Fl :=
 (zaw (sIf (dOr (zet (zdG (zad 1) (zdt "dict"))) (zaa (zam (zae (zad 1) zaH) (m1 zwQ)) (zam (zae (zad 0) zaH) (m1 zgl)) dNe))
 (zaw (zde (dC (.bl false)))
 zao)
 zao)
 (zaw (zde (zam (zae (zeN 1 [1] (zvz (zad 0)) (zdN 0) mYes (zlw (zaa (zad 0) (zad 1) zvb) (zam (zae (zaa (zad 1) (zad 0) zea) zaH) zcH))) zaH) (m1 zzx)))
 zao))
def za5:List D->Res D:=zdY 2 zcM
abbrev zcf:List D->Res D:=Com.zcf
abbrev zeg:List D->Res D:=Com.zeg
abbrev zdL:List D->Res D:=K51.zdL
noncomputable def zhI:Ev->Res Fl :=
 (zaw (zmR (zam (zae (zad 0) (zae (zad 1) zaH)) zaT))
 (zaw (sIf (dOr (zet (zam (zae (zaa (zad 0) (dC (.int 0)) dIx) (zae (zad 2) zaH)) za5)) (zaa (zaa (zad 2) (zaa (zad 0) (dC (.int 2)) dIx) zea) (dC (.tup [(.int 0),(.int 1)])) dNe))
 (zaw (zde (dC (.bl false)))
 zao)
 zao)
 (zaw (zpF (zam (zae (zad 0) (zae (zad 1) zaH)) zbu) (zm7 [3,4,5])
 (zaw (sIf (zet (zam (zae (zaa (zad 2) (zad 4) zea) (zae (zaa (zaa (zaa (zad 0) (dC (.int 1)) dIx) (zad 3) dIx) (dC (.int 3)) dIx) (zae (zaa (zad 2) (zad 5) zea) zaH))) zdL))
 (zaw (zde (dC (.bl false)))
 zao)
 zao)
 zao))
 (zaw (zde (dC (.bl true)))
 zao))))
def zdK:List D->Res D:=zdY 6 zhI
abbrev zbd:List D->Res D:=K12.zbd
noncomputable def zdz:Addr->Ev->List D->Res MFl:=fun a =>
 (za8 (zcT (zb6 3 (zam (zae (zad 1) (zae (zad 2) zaH)) zdl)))
 (za8 (zcT (zb6 4 (zeN 1 [2,1] (zgI (zam (zae (zaa (zad 1) (dC (.int 1)) dIx) zaH) (m1 zgl))) (zdN 0) (zlw (zaa (zaa (zaa (zaa (zad 2) (dC (.int 1)) dIx) (zad 0) dIx) (dC (.int 4)) dIx) (dC (.non)) zdF) (zaa (zad 0) (zad 1) zdd)) (zad 0))))
 (za8 (mIf (mT (zaa (zad 4) (zam zaH zi5) dEq))
 (za8 (zfO (dC (.bl true)))
 zbe)
 zbe)
 (za8 (zgu 5 (mB (mP (zad 4)) (zbm 0 a (zaZ (mP (zam (zae (zad 4) zaH) (m1 zgl))) zee) zas) dIx))
 (za8 (zcT (zb6 6 (zam (zae (zad 1) (zae (zam (zae (zaa (zad 2) (zam (zae (zad 5) zaH) zi5) zcP) zaH) (m1 zu9)) zaH)) zdl)))
 (za8 (mIf (mT (zet (zam (zae (zaa (zad 3) (dC (.int 1)) dIx) (zae (zaa (zad 6) (dC (.int 1)) dIx) zaH)) zdp)))
 (za8 (zfO (dC (.bl false)))
 zbe)
 zbe)
 (za8 (mIf (mT (zaa (zam (zae (zad 1) (zae (zam (zae (zaa (zad 2) (zam (zae (zad 5) zaH) zi5) zcP) zaH) (m1 zu9)) (zae (zaa (zad 3) (dC (.int 2)) dIx) zaH))) zdK) (dC (.bl true)) zwP))
 (za8 (zfO (dC (.bl false)))
 zbe)
 zbe)
 (za8 (mIf (mT (zaa (zaa (zad 3) (dC (.int 0)) dIx) (dC (.non)) zio))
 (za8 (zfO (dC (.bl true)))
 zbe)
 zbe)
 (za8 (mIf (mT (zlw (zaa (zad 5) (zaa (zad 3) (dC (.int 0)) dIx) zdd) (zaa (zaa (zad 6) (dC (.int 1)) dIx) (zaa (zad 3) (dC (.int 1)) dIx) dNe)))
 (za8 (zfO (dC (.bl false)))
 zbe)
 zbe)
 (za8 (zgu 7 (mB (mP (zaa (zad 3) (dC (.int 0)) dIx)) (zbm 0 a (zaZ (mP (zam (zae (zaa (zad 3) (dC (.int 0)) dIx) zaH) (m1 zgl))) zee) zas) dIx))
 (za8 (zcT (zb6 8 (zaa (zaa (zad 1) (dC (.int 1)) dIx) (zad 7) dIx)))
 (za8 (zgu 9 (zbm 0 a (zaZ (mP (dC (.int 1))) zee) zbh))
 (za8 (zcT (zb6 10 (zaa (zaa (zxM (zaa (zad 1) (dC (.int 1)) dIx) zft (ze0 (zad 7))) (zam (zae (zaa (zaa (zxM (zad 8) zft (ze0 (dC (.int 3)))) (zam (zae (zam (zae (zaa (zad 8) (dC (.int 3)) dIx) (zae (zad 9) zaH)) zbd) zaH) zjR) zcP) (zxM (zad 8) (ze0 (dC (.int 4))) zft) zcP) zaH) zi5) zcP) (zxM (zaa (zad 1) (dC (.int 1)) dIx) (ze0 (zaa (zad 7) (dC (.int 1)) zcP)) zft) zcP)))
 (za8 (zcT (zb6 11 (zaa (zam (zae (zam (zae (zaa (zad 1) (dC (.int 0)) dIx) (zae (zad 10) (zae (zaa (zad 1) (dC (.int 2)) dIx) (zae (zaa (zad 1) (dC (.int 3)) dIx) zaH)))) zjR) (zae (zad 2) zaH)) zdl) (dC (.int 1)) dIx)))
 (za8 (zfO (zlw (zet (zam (zae (zad 11) (zae (zaa (zad 3) (dC (.int 1)) dIx) zaH)) zbA)) (zet (zam (zae (zam (zae (zaa (zad 3) (dC (.int 1)) dIx) (zae (zad 9) zaH)) zbd) (zae (zad 11) zaH)) zbA))))
 zbe)))))))))))))))
def zbv:Addr->List D->List D->Res (D×List D):=zvB 12 zdz
noncomputable def zBV:Ev->Res Fl :=
 (zaw (zvW (zam (zae (dC (.int 1)) (zae (zam (zae (zam (zae (zad 0) zaH) (m1 zgl)) (zae (dC (.int 10)) zaH)) (m2 zCe)) zaH)) (m2 zDh)) (zdN 1)
 (zjB 2 (zam (zae (zad 0) (zae (zad 1) zaH)) za7) fun a=>(za8 (zgu 3 (zbm 2 a (zaZ (mP (dC (.int 7))) (zaZ (mP (dC (.int 14))) zee)) zb9))
 (za8 (zcT (zb6 4 (zam (zae (zad 3) zaH) (m1 zk2))))
 (za8 (zn2 (zxl (zgI (dC (.int 4)))) (zdN 5)
 (za8 (zgu 6 (zbm 2 a (zaZ (mP (zad 3)) (zaZ (mB (mP (dC (.int 2))) (zbm 2 a (zaZ (mP (dC (.int 6))) zee) zas) zcP) zee)) zbz))
 (za8 (zcT (zb6 7 (zam (zae (zad 6) zaH) (m1 zsh))))
 (za8 (mIf (mOr (zA8 (zbm 2 a (zaZ (mP (zad 3)) (zaZ (mP (zad 6)) zee)) zbv)) (mOr (mT (zaa (zad 6) (zad 7) dNe)) (mT (zaa (zam (zae (zad 3) zaH) (m1 zk2)) (zad 4) dNe))))
 (za8 (zfO (dC (.bl false)))
 zbe)
 zbe)
 zbe))))
 zbe)))))
 (zaw (zde (dC (.bl true)))
 zao))
noncomputable def ztC:List D->Res D:=zdY 8 zBV
noncomputable def top (i:Nat):Stmt:=PySem.Challenge.pw_farthestcut_k17_whole_more_taken_is_no_s.main.body.getD i (.Pass ⟨0,0,0,0⟩)
abbrev zfH:Stmt:=top 61
abbrev zgN:Stmt:=top 62
abbrev zfG:Stmt:=top 65
abbrev zh6:Stmt:=top 63
abbrev zeV:Stmt:=top 64
abbrev zh5:Stmt:=top 66
abbrev zh4:Stmt:=top 67
abbrev zeU:Stmt:=top 68
abbrev zjz:Stmt:=top 12
abbrev zdC:Stmt:=top 37
abbrev zhZ:Stmt:=top 10
abbrev zdD:Stmt:=top 1
abbrev zh0:Stmt:=top 11
abbrev zgM:Stmt:=top 33
abbrev zhY:Stmt:=top 34
abbrev zmP:Stmt:=top 32
abbrev zen:Stmt:=top 38
abbrev zh2:Stmt:=top 39
abbrev zeR:Stmt:=top 36
abbrev zdX:Stmt:=top 35
abbrev zdB:Stmt:=top 53
abbrev zdW:Stmt:=top 45
abbrev zh3:Stmt:=top 46
abbrev zel:Stmt:=top 44
abbrev zdA:Stmt:=top 49
abbrev zeQ:Stmt:=top 41
abbrev zfE:Stmt:=top 42
abbrev zem:Stmt:=top 51
abbrev zeT:Stmt:=top 50
abbrev zpE:Stmt:=top 15
abbrev zhX:Stmt:=top 48
abbrev zgL:Stmt:=top 59
abbrev zgQ:Stmt:=top 70
abbrev zgP:Stmt:=top 71
abbrev zh1:Stmt:=top 57
abbrev zbq:Stmt:=top 56
abbrev zjA:Stmt:=top 17
abbrev zsX:Stmt:=top 16
abbrev zmQ:Stmt:=top 58
abbrev zeS:Stmt:=top 55
abbrev zgO:Stmt:=top 69
abbrev zfF:Stmt:=top 72
abbrev zmO:Stmt:=top 73
theorem zdJ:zaB ["_law_script","_law_k","_law_cell"] ["_law_script","_law_k"] (defScope zfH):=⟨rfl,rfl,rfl,by decide +kernel,rfl,by decide +kernel,by decide +kernel⟩
theorem zcG:zaB ["_law_state","_law_many","_law_digit","_law_made","_law_turn"] ["_law_state","_law_many"] (defScope zgN):=⟨rfl,rfl,rfl,by decide +kernel,rfl,by decide +kernel,by decide +kernel⟩
theorem zaS:zaB ["_law_state","_law_many","_law_letters","_law_long","_law_at","_law_turn","_law_step","_law_nested","_law_found","_law_k","_law_one"] ["_law_state","_law_many"] (defScope zfG):=⟨rfl,rfl,rfl,by decide +kernel,rfl,by decide +kernel,by decide +kernel⟩
theorem zdV:zaB ["_law_top","_law_bottom","_law_one","_law_other"] ["_law_top","_law_bottom"] (defScope zh6):=⟨rfl,rfl,rfl,by decide +kernel,rfl,by decide +kernel,by decide +kernel⟩
theorem zbI:zaB ["_law_state","_law_least","_law_way","_law_top","_law_many","_law_bottoms"] ["_law_state","_law_least"] (defScope zeV):=⟨rfl,rfl,rfl,by decide +kernel,rfl,by decide +kernel,by decide +kernel⟩
theorem zbb:zaB ["_law_state","_law_names_here","_law_k","_law_many","_law_one","_law_other","_law_word","_law_length","_law_worth"] ["_law_state","_law_names_here","_law_k"] (defScope zh5):=⟨rfl,rfl,rfl,by decide +kernel,rfl,by decide +kernel,by decide +kernel⟩
theorem zbk:zaB ["_law_state","_law_most","_law_more_here","_law_names_here","_law_many","_law_ties","_law_k","_law_first","_law_last"] ["_law_state","_law_most","_law_more_here"] (defScope zh4):=⟨rfl,rfl,rfl,by decide +kernel,rfl,by decide +kernel,by decide +kernel⟩
theorem zdu:zaB ["_law_state","_law_web_here","_law_rare","_law_found","_law_k"] ["_law_state","_law_web_here","_law_rare"] (defScope zeU):=⟨rfl,rfl,rfl,by decide +kernel,rfl,by decide +kernel,by decide +kernel⟩
theorem zlP:zaB ["thing"] ["thing"] (defScope zjz):=⟨rfl,rfl,rfl,by decide +kernel,rfl,by decide +kernel,by decide +kernel⟩
theorem zb7:zaB ["places","number","place"] ["places"] (defScope zdC):=⟨rfl,rfl,rfl,by decide +kernel,rfl,by decide +kernel,by decide +kernel⟩
theorem zju:zaB ["thing"] ["thing"] (defScope zhZ):=⟨rfl,rfl,rfl,by decide +kernel,rfl,by decide +kernel,by decide +kernel⟩
theorem za0:zaB ["one","other","larger","smaller","rest"] ["one","other"] (defScope zdD):=⟨rfl,rfl,rfl,by decide +kernel,rfl,by decide +kernel,by decide +kernel⟩
theorem zjv:zaB ["thing"] ["thing"] (defScope zh0):=⟨rfl,rfl,rfl,by decide +kernel,rfl,by decide +kernel,by decide +kernel⟩
theorem ziz:zaB ["thing"] ["thing"] (defScope zgM):=⟨rfl,rfl,rfl,by decide +kernel,rfl,by decide +kernel,by decide +kernel⟩
theorem zjt:zaB ["thing"] ["thing"] (defScope zhY):=⟨rfl,rfl,rfl,by decide +kernel,rfl,by decide +kernel,by decide +kernel⟩
theorem znR:zaB ["thing"] ["thing"] (defScope zmP):=⟨rfl,rfl,rfl,by decide +kernel,rfl,by decide +kernel,by decide +kernel⟩
theorem zcR:zaB ["ties","places","number","tie"] ["ties","places"] (defScope zen):=⟨rfl,rfl,rfl,by decide +kernel,rfl,by decide +kernel,by decide +kernel⟩
theorem zjx:zaB ["thing","places"] ["thing","places"] (defScope zh2):=⟨rfl,rfl,rfl,by decide +kernel,rfl,by decide +kernel,by decide +kernel⟩
theorem zgr:zaB ["thing"] ["thing"] (defScope zeR):=⟨rfl,rfl,rfl,by decide +kernel,rfl,by decide +kernel,by decide +kernel⟩
theorem zfc:zaB ["web","thing"] ["web","thing"] (defScope zdX):=⟨rfl,rfl,rfl,by decide +kernel,rfl,by decide +kernel,by decide +kernel⟩
theorem zbp:zaB ["web","thing","ahead","number"] ["web","thing"] (defScope zdB):=⟨rfl,rfl,rfl,by decide +kernel,rfl,by decide +kernel,by decide +kernel⟩
theorem zbE:zaB ["some","bottom","one"] ["some"] (defScope zdW):=⟨rfl,rfl,rfl,by decide +kernel,rfl,by decide +kernel,by decide +kernel⟩
theorem zjy:zaB ["one","bottom"] ["one","bottom"] (defScope zh3):=⟨rfl,rfl,rfl,by decide +kernel,rfl,by decide +kernel,by decide +kernel⟩
theorem zdU:zaB ["some","bottom"] ["some"] (defScope zel):=⟨rfl,rfl,rfl,by decide +kernel,rfl,by decide +kernel,by decide +kernel⟩
theorem zew:zaB ["web"] ["web"] (defScope zdA):=⟨rfl,rfl,rfl,by decide +kernel,rfl,by decide +kernel,by decide +kernel⟩
theorem zek:zaB ["tie","there"] ["tie"] (defScope zeQ):=⟨rfl,rfl,rfl,by decide +kernel,rfl,by decide +kernel,by decide +kernel⟩
theorem zbx:zaB ["web","taken","steps","number","tie","here","there"] ["web","taken"] (defScope zfE):=⟨rfl,rfl,rfl,by decide +kernel,rfl,by decide +kernel,by decide +kernel⟩
theorem za2:zaB ["steps","sizes","found","nearest","number","here","there","size"] ["steps","sizes","found"] (defScope zem):=⟨rfl,rfl,rfl,by decide +kernel,rfl,by decide +kernel,by decide +kernel⟩
theorem zbH:zaB ["web","taken","sizes","steps","found","nearest"] ["web","taken","sizes"] (defScope zeT):=⟨rfl,rfl,rfl,by decide +kernel,rfl,by decide +kernel,by decide +kernel⟩
theorem zjb:zaB ["top","bottom","divisor"] ["top","bottom"] (defScope zpE):=⟨rfl,rfl,rfl,by decide +kernel,rfl,by decide +kernel,by decide +kernel⟩
theorem zdj:zaB ["web","taken","scaled","found","prices","place"] ["web","taken"] (defScope zhX):=⟨rfl,rfl,rfl,by decide +kernel,rfl,by decide +kernel,by decide +kernel⟩
theorem ziy:zaB ["web","taking"] ["web","taking"] (defScope zgL):=⟨rfl,rfl,rfl,by decide +kernel,rfl,by decide +kernel,by decide +kernel⟩
theorem ziC:zaB ["_law_one","_law_other"] ["_law_one","_law_other"] (defScope zgQ):=⟨rfl,rfl,rfl,by decide +kernel,rfl,by decide +kernel,by decide +kernel⟩
theorem ziB:zaB ["_law_one","_law_other"] ["_law_one","_law_other"] (defScope zgP):=⟨rfl,rfl,rfl,by decide +kernel,rfl,by decide +kernel,by decide +kernel⟩
theorem zjw:zaB ["thing"] ["thing"] (defScope zh1):=⟨rfl,rfl,rfl,by decide +kernel,rfl,by decide +kernel,by decide +kernel⟩
theorem zcc:zaB ["places","thing"] ["places","thing"] (defScope zbq):=⟨rfl,rfl,rfl,by decide +kernel,rfl,by decide +kernel,by decide +kernel⟩
theorem zlQ:zaB ["one","other"] ["one","other"] (defScope zjA):=⟨rfl,rfl,rfl,by decide +kernel,rfl,by decide +kernel,by decide +kernel⟩
theorem zsW:zaB ["one","other"] ["one","other"] (defScope zsX):=⟨rfl,rfl,rfl,by decide +kernel,rfl,by decide +kernel,by decide +kernel⟩
theorem znS:zaB ["here","length","there"] ["here","length","there"] (defScope zmQ):=⟨rfl,rfl,rfl,by decide +kernel,rfl,by decide +kernel,by decide +kernel⟩
theorem zcd:zaB ["web","taking","thing","number","here","there"] ["web","taking","thing"] (defScope zeS):=⟨rfl,rfl,rfl,by decide +kernel,rfl,by decide +kernel,by decide +kernel⟩
theorem ziA:zaB ["_law_one","_law_other"] ["_law_one","_law_other"] (defScope zgO):=⟨rfl,rfl,rfl,by decide +kernel,rfl,by decide +kernel,by decide +kernel⟩
theorem zaY:zaB ["_law_state","_law_web_here","_law_gone","_law_least","_law_some","_law_one","_law_more_here","_law_number","_law_tie_here","_law_by","_law_ties","_law_longer"] ["_law_state","_law_web_here","_law_gone"] (defScope zfF):=⟨rfl,rfl,rfl,by decide +kernel,rfl,by decide +kernel,by decide +kernel⟩
theorem zg4:zaB ["_law_script","_law_k","_law_state","_law_web_here","_law_kept","_law_turn","_law_gone","_law_held"] ["_law_script"] (defScope zmO):=⟨rfl,rfl,rfl,by decide +kernel,rfl,by decide +kernel,by decide +kernel⟩
set_option genInjectivity false in
set_option genSizeOfSpec false in
structure Adr where
 ziY:Addr
 ziR:FuncData
 zlk:Addr
 zkY:FuncData
 ziX:Addr
 ziQ:FuncData
 zmE:Addr
 zmm:FuncData
 zhT:Addr
 zhB:FuncData
 zmD:Addr
 zml:FuncData
 zmC:Addr
 zmk:FuncData
 zhS:Addr
 zhA:FuncData
 zps:Addr
 zo7:FuncData
 zfq:Addr
 zfj:FuncData
 zmx:Addr
 zmf:FuncData
 zfr:Addr
 zfk:FuncData
 zmy:Addr
 zmg:FuncData
 zlj:Addr
 zkX:FuncData
 zmw:Addr
 zme:FuncData
 zrz:Addr
 zrq:FuncData
 zgH:Addr
 zgA:FuncData
 zmA:Addr
 zmi:FuncData
 zhP:Addr
 zhx:FuncData
 zga:Addr
 zf3:FuncData
 zfp:Addr
 zfi:FuncData
 zf9:Addr
 zf2:FuncData
 zmB:Addr
 zmj:FuncData
 zgF:Addr
 zgy:FuncData
 zfo:Addr
 zfh:FuncData
 zhO:Addr
 zhw:FuncData
 ziV:Addr
 ziO:FuncData
 zgG:Addr
 zgz:FuncData
 zhR:Addr
 zhz:FuncData
 zvw:Addr
 zu5:FuncData
 zmv:Addr
 zmd:FuncData
 zli:Addr
 zkW:FuncData
 zln:Addr
 zk1:FuncData
 zlm:Addr
 zk0:FuncData
 zmz:Addr
 zmh:FuncData
 zcO:Addr
 zcL:FuncData
 zpt:Addr
 zo8:FuncData
 zxT:Addr
 zxL:FuncData
 zrA:Addr
 zrr:FuncData
 zhQ:Addr
 zhy:FuncData
 zll:Addr
 zkZ:FuncData
 ziW:Addr
 ziP:FuncData
 zsp:Addr
 zu6:FuncData
set_option genInjectivity false in
set_option genSizeOfSpec false in
structure Txt (K:W.Frag) (mg:Str->Option Value) (t:Adr):Prop where
 ziL:FT K mg "_law_begun" zfH ["_law_script","_law_k"] t.ziY t.ziR
 zaC:FT K mg "_law_take" zgN ["_law_state","_law_many"] t.zlk t.zkY
 ziK:FT K mg "_law_names" zfG ["_law_state","_law_many"] t.ziX t.ziQ
 zih:FT K mg "_law_low" zh6 ["_law_top","_law_bottom"] t.zmE t.zmm
 zdO:FT K mg "_law_amount" zeV ["_law_state","_law_least"] t.zhT t.zhB
 zl5:FT K mg "_law_tie" zh5 ["_law_state","_law_names_here","_law_k"] t.zmD t.zml
 zl4:FT K mg "_law_web" zh4 ["_law_state","_law_most","_law_more_here"] t.zmC t.zmk
 zhh:FT K mg "_law_taking" zeU ["_law_state","_law_web_here","_law_rare"] t.zhS t.zhA
 zfV:FT K mg "is_name" zjz ["thing"] t.zps t.zo7
 zfe:FT K mg "look_at_places" zdC ["places"] t.zfq t.zfj
 zdS:FT K mg "is_whole" zhZ ["thing"] t.zmx t.zmf
 zcB:FT K mg "common_divisor" zdD ["one","other"] t.zfr t.zfk
 zif:FT K mg "is_ratio" zh0 ["thing"] t.zmy t.zmg
 zgT:FT K mg "is_length" zgM ["thing"] t.zlj t.zkX
 zl1:FT K mg "is_worth" zhY ["thing"] t.zmw t.zme
 zq0:FT K mg "is_tie" zmP ["thing"] t.zrz t.zrq
 zgx:FT K mg "look_at_ties" zen ["ties","places"] t.zgH t.zgA
 zig:FT K mg "is_place" zh2 ["thing","places"] t.zmA t.zmi
 zhe:FT K mg "look_at_web" zeR ["thing"] t.zhP t.zhx
 zfU:FT K mg "is_tie_number" zdX ["web","thing"] t.zga t.zf3
 zdE:FT K mg "look_at_taking" zdB ["web","thing"] t.zfp t.zfi
 zfT:FT K mg "shared_bottom" zdW ["some"] t.zf9 t.zf2
 zl3:FT K mg "as_whole" zh3 ["one","bottom"] t.zmB t.zmj
 zgw:FT K mg "on_one_scale" zel ["some"] t.zgF t.zgy
 zfd:FT K mg "scaled_lengths" zdA ["web"] t.zfo t.zfh
 zhd:FT K mg "steps_along" zeQ ["tie"] t.zhO t.zhw
 zfS:FT K mg "steps_left" zfE ["web","taken"] t.ziV t.ziO
 zes:FT K mg "nearest_step" zem ["steps","sizes","found"] t.zgG t.zgz
 zhg:FT K mg "all_reached" zeT ["web","taken","sizes"] t.zhR t.zhz
 zp3:FT K mg "ratio" zpE ["top","bottom"] t.zvw t.zu5
 zl0:FT K mg "shortest" zhX ["web","taken"] t.zmv t.zmd
 ze3:FT K mg "least_way" zgL ["web","taking"] t.zli t.zkW
 ze4:FT K mg "_law_less" zgQ ["_law_one","_law_other"] t.zln t.zk1
 zj0:FT K mg "_law_more" zgP ["_law_one","_law_other"] t.zlm t.zk0
 zl2:FT K mg "is_price" zh1 ["thing"] t.zmz t.zmh
 zcJ:FT K mg "prices_just_the_places" zbq ["places","thing"] t.zcO t.zcL
 zoe:FT K mg "is_less" zjA ["one","other"] t.zpt t.zo8
 zxq:FT K mg "plus" zsX ["one","other"] t.zxT t.zxL
 zq1:FT K mg "is_let" zmQ ["here","length","there"] t.zrA t.zrr
 zhf:FT K mg "lets_prices" zeS ["web","taking","thing"] t.zhQ t.zhy
 zgU:FT K mg "_law_plus" zgO ["_law_one","_law_other"] t.zll t.zkZ
 ziJ:FT K mg "_law_right" zfF ["_law_state","_law_web_here","_law_gone"] t.ziW t.ziP
 zBo:FT K mg "law" zmO ["_law_script"] t.zsp t.zu6
 n_abs:mg "abs"=none
 n_all:mg "all"=none
 n_bool:mg "bool"=none
 n_dict:mg "dict"=none
 n_enumerate:mg "enumerate"=none
 n_int:mg "int"=none
 n_isinstance:mg "isinstance"=none
 n_len:mg "len"=none
 n_list:mg "list"=none
 n_max:mg "max"=none
 n_min:mg "min"=none
 n_range:mg "range"=none
 n_repr:mg "repr"=none
 n_sorted:mg "sorted"=none
 n_str:mg "str"=none
 n_tuple:mg "tuple"=none
 zeb:Kon K mg "FEWEST_PLACES" (.int 2)
 zis:Kon K mg "FIRST" (.int 2)
 zlb:Kon K mg "LAST" (.int 3)
 zhE:Kon K mg "LENGTH" (.int 3)
 zla:Kon K mg "LETTERS" (.str "abcdefghijklmnopqrstuvwxyz")
 zeu:Kon K mg "LONGEST_NAME" (.int 8)
 zfa:Kon K mg "MOST_PLACES" (.int 7)
 zgZ:Kon K mg "MOST_TIES" (.int 14)
 zny:Kon K mg "NOUGHT" (.tup [(.int 0),(.int 1)])
 zqh:Kon K mg "ONE" (.int 0)
 zgY:Kon K mg "OTHER" (.int 1)
 zej:Kon K mg "PLACES" (.int 0)
 ziS:Kon K mg "TIES" (.int 1)
 zpj:Kon K mg "WORD" (.int 2)
 zqg:Kon K mg "WORDS" (.tup [(.str "one"),(.str "both")])
 znx:Kon K mg "WORTH" (.int 4)
section
variable {P:Program}{w:World}{K:W.Frag}{mg:Str->Option Value}{base:Heap}{t:Adr}
theorem zlE (T:Txt K mg t):zcz P w K mg base CX0 1 t.ziY t.ziR ["_law_script","_law_k"] (spF K 2 za7) :=
 zr9 T.ziL.F zdJ fun cdv A outer s0 H Ha E hr=>(
 (zo2 (zaW (i:=2) zdJ.nd rfl (Or.inl rfl) zaf)
 (zo2 (zcF (zaV zrQ (zcS fun _ _ _ _=>rb _) (dv 1) (zaL zbi zdI rfl T.n_len PyProof.Rows.Boot.«len» (zab (dv 0) zak)) nm)
 (zac (zaW (i:=2) zdJ.nd rfl (Or.inl rfl) (zag (dv 0) (dv 1)))
 zai)
 zai)
 (zuV (zo4 (zab (dv 2) (zab (zfg (zb5 (zb5 (zfg (dv 2) zaf) (zdc (zdc zaf (dv 1)) (dv 1))) zaf) zaf) (zab (zdH zyK (zcS fun _ _ _ _=>rb _) (dv 2) (zu3 zaf zaf) nm) zak))))))))
theorem zax (T:Txt K mg t):zcz P w K mg base CX0 1 t.zlk t.zkY ["_law_state","_law_many"] (spM K 1 zas) :=
 zdr T.zaC.F zcG rfl fun cdv A outer s0 H He Ha a E hr=>(
 (zaj (zjs (zwL (i:=0) (E:=E0) (zbF (zag (dv 0) zaf)))
 (zaj (zca (i:=2) zcG.nd rfl (Or.inl rfl) (zkR (i:=0) (E:=E0) (zfg (zag (dv 0) zaf) (dv 1))))
 (zaj (zsP (i:=0) rfl (Or.inl rfl) (zkR (i:=0) (E:=E0) (ziN (zag (dv 0) zaf) (dv 1))) (zav (E:=E0) zaf))
 (zaj (zsP (i:=0) rfl (Or.inl rfl) (zkR (i:=0) (E:=E0) (zdH zwh (zcS fun _ _ _ _=>rb _) (zag (dv 0) zaf) zaf nm)) (zav (E:=E0) zaf))
 (zaj (zdi (E:=E0) (dv 2))
 zaO))))
 zaO)
 (zaj (zba (E:=E0) fun vs=>(zaW (i:=3) zcG.nd rfl (Or.inl rfl) zaf))
 (zaj (zmM (E:=E0) PassesOwn.never rfl (zm0 (E:=E0) (zfZ rfl T.n_range (zb5 zaf (zdc zaf (zrp zvl zBT rfl T.n_int PyProof.Rows.Boot.«int» (zab (zdH zwh (zcS fun _ _ _ _=>rb _) (dv 1) (zu3 zaf zaf) nm) zak)))))) (fun vs=>(zb3 (i:=4) zcG.nd rfl (Or.inl rfl))) zcQ
 (zaj (zsP (i:=0) rfl (Or.inl rfl) (zkR (i:=0) (E:=E0) (zfg (zb5 (zdc (zag (dv 0) zaf) zaf) zaf) zaf)) (zav (E:=E0) zaf))
 (zaj (zca (i:=3) zcG.nd rfl (Or.inl rfl) (zkR (i:=0) (E:=E0) (zb5 (zdc (dv 3) zaf) (zfg (zdc (zag (dv 0) zaf) (zag (dv 0) zaf)) zaf))))
 zaO)))
 (zaj (zdi (E:=E0) (zfg (ziN (dv 3) zaf) (dv 1)))
 zaO)))))
theorem zmZ (T:Txt K mg t):zcz P w K mg base CX0 2 t.ziX t.ziQ ["_law_state","_law_many"] (spM K 1 zcI) :=
 zdr T.ziK.F zaS rfl fun cdv A outer s0 H He Ha a E hr=>(
 (zaj (zyn (i:=2) zaS.nd rfl rfl (zEr (E:=E0) ["_law_k","_law_state"] 1 [0] rfl (zm0 (E:=E0) (zfZ rfl T.n_range zaf)) (zef (by decide)) (fun s H C fp pn=>⟨fun He H0e=>(zb3 (i:=0) (show List.Nodup (["_law_k","_law_state"]:List Str) from by decide) rfl (Or.inl rfl)),fun He H0e=>(qm 1 (E:=E0) ((zax T).mono (by decide:1<=1)) hr T.zaC zaF (zaE (zav (E:=E0) zaf) zaR) am1)⟩) ⟨rfl,rfl⟩ rfl rfl rfl rfl) zsk)
 (zaj (zca (i:=3) zaS.nd rfl (Or.inl rfl) (zmb (zav (E:=E0) zaf) (qm 0 (E:=E0) ((zax T).mono (by decide:1<=1)) hr T.zaC zaF (zaE (zav (E:=E0) zaf) zaR) am1)))
 (zaj (zca (i:=4) zaS.nd rfl (Or.inl rfl) (qm 0 (E:=E0) ((zax T).mono (by decide:1<=1)) hr T.zaC zaF (zaE (zav (E:=E0) (dv 3)) zaR) am1))
 (zaj (zca (i:=5) zaS.nd rfl (Or.inl rfl) (qm 0 (E:=E0) ((zax T).mono (by decide:1<=1)) hr T.zaC zaF (zaE (zav (E:=E0) zaf) zaR) am1))
 (zaj (zca (i:=6) zaS.nd rfl (Or.inl rfl) (zkS (zav (E:=E0) (zeL (zab zaf (zab zaf (zab zaf (zab zaf (zab zaf (zab zaf zak)))))))) (qm 0 (E:=E0) ((zax T).mono (by decide:1<=1)) hr T.zaC zaF (zaE (zav (E:=E0) zaf) zaR) am1)))
 (zaj (zca (i:=7) zaS.nd rfl (Or.inl rfl) (zBI (E:=E0) (zfI hr.units) zjL (qm 0 (E:=E0) ((zax T).mono (by decide:1<=1)) hr T.zaC zaF (zaE (zav (E:=E0) zaf) zaR) am1) (zav (E:=E0) zaf) nm))
 (zaj (zba (E:=E0) fun vs=>(zl9 (i:=8) zaS.nd rfl (Or.inl rfl) (zo4 zak)))
 (zaj (zba (E:=E0) fun vs=>(zuZ PassesOwn.never rfl rfl T.n_range (dv 1) (zb3 (i:=9) zaS.nd rfl (Or.inl rfl)) zcQ
 (zac (zl9 (i:=10) zaS.nd rfl (Or.inl rfl) (zrm (dv 2) zgW (zgV (dv 3))))
 (zac (zBE (i:=10) rfl (Or.inl rfl) (zfg (zb5 (dv 5) (zdc (dv 6) (dv 9))) zaf) (dv 4))
 (zac (zcF (zbF (dv 7))
 (zac (zl9 (i:=10) zaS.nd rfl (Or.inl rfl) (zrm (dv 2) zgW (zgV (zb5 zaf (zfg (zb5 (dv 5) (dv 9)) zaf)))))
 zai)
 zai)
 (zac (zBG 10 (zkQ (i:=8) rfl (Or.inl rfl) (zzr zo5 (zab (zsg (zzu ["_law_letter"] 1 [] rfl (zkV (dv 10)) (zef (by decide)) (fun s H C fp pn=>⟨fun He H0e=>(zb3 (i:=0) (show List.Nodup (["_law_letter"]:List Str) from by decide) rfl (Or.inl rfl)),zkU,(zag zo5 (dv 0))⟩) ⟨rfl,rfl⟩ rfl rfl rfl rfl)) zak))))
 zai))))))
 (zaj (zdi (E:=E0) (dv 8))
 zaO))))))))))
theorem zjK (T:Txt K mg t):zcz P w K mg base CX0 1 t.zmE t.zmm ["_law_top","_law_bottom"] (spD K 2 za6) :=
 zay T.zih.F zdV fun cdv A outer s0 H Ha E hr=>(
 (zac (zaW (i:=2) zdV.nd rfl (Or.inl rfl) (zaL znw zvh rfl T.n_abs PyProof.Rows.Boot.«abs» (zab (dv 0) zak)))
 (zac (zaW (i:=3) zdV.nd rfl (Or.inl rfl) (dv 1))
 (zac (zno _ PassesOwn.never (zaV (zgs hr.units) zlF (dv 3) zaf nm)
 (zac (zBF (i:=2) (j:=3) rfl zdV.nd rfl rfl (by decide) rfl rfl (zab (dv 3) (zab (zfg (dv 2) (dv 3)) zak)) rfl)
 zai))
 (zac (zaP (zd9 (zab (ziN (dv 0) (dv 2)) (zab (ziN (dv 1) (dv 2)) zak))))
 zai)))))
theorem zep (T:Txt K mg t):zcz P w K mg base CX0 2 t.zhT t.zhB ["_law_state","_law_least"] (spM K 1 zbh) :=
 zdr T.zdO.F zbI rfl fun cdv A outer s0 H He Ha a E hr=>(
 (zaj (zca (i:=2) zbI.nd rfl (Or.inl rfl) (qm 0 (E:=E0) ((zax T).mono (by decide:1<=1)) hr T.zaC zaF (zaE (zav (E:=E0) zaf) zaR) am1))
 (zaj (zca (i:=3) zbI.nd rfl (Or.inl rfl) (zmb (zav (E:=E0) (dv 1)) (qm 0 (E:=E0) ((zax T).mono (by decide:1<=1)) hr T.zaC zaF (zaE (zav (E:=E0) (zag (zeL (zab zaf (zab zaf (zab zaf (zab zaf (zab zaf (zab (zu3 zaf zaf) zak))))))) (dv 2))) zaR) am1)))
 (zaj (zba (E:=E0) fun vs=>(zaW (i:=4) zbI.nd rfl (Or.inl rfl) (zag (zeL (zab zaf (zab zaf (zab zaf (zab zaf (zab zaf (zab zaf zak))))))) (dv 2))))
 (zaj (zba (E:=E0) fun vs=>(zaW (i:=5) zbI.nd rfl (Or.inl rfl) (zeL (zab zaf (zab zaf (zab zaf (zab zaf (zab zaf (zab zaf (zab zaf (zab zaf (zab zaf (zab zaf (zab zaf (zab zaf zak)))))))))))))))
 (zaj (zAi (qmc (E:=E0) ((zjK T).mono (by decide:1<=1)) hr T.zih zaF (zaE (zav (E:=E0) (dv 3)) (zaE (zkS (zav (E:=E0) (dv 5)) (qm 0 (E:=E0) ((zax T).mono (by decide:1<=1)) hr T.zaC zaF (zaE (zav (E:=E0) (dv 4)) zaR) am1)) zaR)) am2))
 zaO))))))
theorem zpS (T:Txt K mg t):zcz P w K mg base CX0 3 t.zmD t.zml ["_law_state","_law_names_here","_law_k"] (spM K 2 zbL) :=
 zdr T.zl5.F zbb rfl fun cdv A outer s0 H He Ha a E hr=>(
 (zaj (zba (E:=E0) fun vs=>(zaW (i:=3) zbb.nd rfl (Or.inl rfl) (zaL zbi zdI rfl T.n_len PyProof.Rows.Boot.«len» (zab (dv 1) zak))))
 (zaj (zca (i:=4) zbb.nd rfl (Or.inl rfl) (qm 0 (E:=E0) ((zax T).mono (by decide:1<=2)) hr T.zaC zaF (zaE (zav (E:=E0) (dv 3)) zaR) am1))
 (zaj (zca (i:=5) zbb.nd rfl (Or.inl rfl) (zxI (zmb (zav (E:=E0) (zb5 (dv 4) zaf)) (qm 0 (E:=E0) ((zax T).mono (by decide:1<=2)) hr T.zaC zaF (zaE (zav (E:=E0) (zrn (dv 3) zaf)) zaR) am1)) (zav (E:=E0) (dv 3))))
 (zaj (zjs (znp (E:=E0) (zfI hr.units) zjL (qm 0 (E:=E0) ((zax T).mono (by decide:1<=2)) hr T.zaC zaF (zaE (zav (E:=E0) zaf) zaR) am1) (zav (E:=E0) zaf) nm)
 (zaj (zba (E:=E0) fun vs=>(zaW (i:=4) zbb.nd rfl (Or.inl rfl) (zfg (dv 2) (dv 3))))
 (zaj (zba (E:=E0) fun vs=>(zaW (i:=5) zbb.nd rfl (Or.inl rfl) (zfg (zb5 (dv 2) zaf) (dv 3))))
 zaO))
 zaO)
 (zaj (zca (i:=6) zbb.nd rfl (Or.inl rfl) (zkS (zav (E:=E0) (zeL (zab zo5 (zab zo5 zak)))) (qm 0 (E:=E0) ((zax T).mono (by decide:1<=2)) hr T.zaC zaF (zaE (zav (E:=E0) zaf) zaR) am1)))
 (zaj (zca (i:=7) zbb.nd rfl (Or.inl rfl) (qm 0 (E:=E0) ((zep T).mono (by decide:2<=2)) hr T.zdO zaF (zaE (zav (E:=E0) zaf) zaR) am1))
 (zaj (zca (i:=8) zbb.nd rfl (Or.inl rfl) (qm 0 (E:=E0) ((zep T).mono (by decide:2<=2)) hr T.zdO zaF (zaE (zav (E:=E0) zaf) zaR) am1))
 (zaj (zjs (znp (E:=E0) (zfI hr.units) zjL (qm 0 (E:=E0) ((zax T).mono (by decide:1<=2)) hr T.zaC zaF (zaE (zav (E:=E0) zaf) zaR) am1) (zav (E:=E0) zaf) nm)
 (zaj (zba (E:=E0) fun vs=>(zaW (i:=8) zbb.nd rfl (Or.inl rfl) zcK))
 zaO)
 zaO)
 (zaj (zdi (E:=E0) (zd9 (zab (zag (dv 1) (dv 4)) (zab (zag (dv 1) (dv 5)) (zab (dv 6) (zab (dv 7) (zab (dv 8) zak)))))))
 zaO))))))))))
theorem zpR (T:Txt K mg t):zcz P w K mg base CX0 4 t.zmC t.zmk ["_law_state","_law_most","_law_more_here"] (spM K 2 zb9) :=
 zdr T.zl4.F zbk rfl fun cdv A outer s0 H He Ha a E hr=>(
 (zaj (zca (i:=3) zbk.nd rfl (Or.inl rfl) (qm 0 (E:=E0) ((zmZ T).mono (by decide:2<=3)) hr T.ziK zaF (zaE (zmb (zav (E:=E0) zaf) (qm 0 (E:=E0) ((zax T).mono (by decide:1<=3)) hr T.zaC zaF (zaE (zav (E:=E0) (zrn (dv 1) zaf)) zaR) am1)) zaR) am1))
 (zaj (zba (E:=E0) fun vs=>(zaW (i:=4) zbk.nd rfl (Or.inl rfl) (zaL zbi zdI rfl T.n_len PyProof.Rows.Boot.«len» (zab (dv 3) zak))))
 (zaj (zba (E:=E0) fun vs=>(zl9 (i:=5) zbk.nd rfl (Or.inl rfl) (zo4 zak)))
 (zaj (zmM (E:=E0) PassesOwn.never rfl (ztA rfl T.n_range (qm 0 (E:=E0) ((zax T).mono (by decide:1<=3)) hr T.zaC zaF (zaE (zav (E:=E0) (zb5 (dv 2) zaf)) zaR) am1)) (fun vs=>(zb3 (i:=6) zbk.nd rfl (Or.inl rfl))) zcQ
 (zaj (zsQ (i:=5) rfl (Or.inl rfl) (qm 0 (E:=E0) ((zpS T).mono (by decide:3<=3)) hr T.zl5 zaF (zaE (zav (E:=E0) (dv 3)) (zaE (zav (E:=E0) (dv 6)) zaR)) am2))
 zaO))
 (zaj (zba (E:=E0) fun vs=>(zaW (i:=7) zbk.nd rfl (Or.inl rfl) zaf))
 (zaj (zba (E:=E0) fun vs=>(zaW (i:=8) zbk.nd rfl (Or.inl rfl) (zrn (dv 4) zaf)))
 (zaj (zjs (znp (E:=E0) (zfI hr.units) zjL (qm 0 (E:=E0) ((zax T).mono (by decide:1<=3)) hr T.zaC zaF (zaE (zav (E:=E0) zaf) zaR) am1) (zav (E:=E0) zaf) nm)
 (zaj (zca (i:=7) zbk.nd rfl (Or.inl rfl) (qm 0 (E:=E0) ((zax T).mono (by decide:1<=3)) hr T.zaC zaF (zaE (zav (E:=E0) (dv 4)) zaR) am1))
 (zaj (zca (i:=8) zbk.nd rfl (Or.inl rfl) (zxI (zmb (zav (E:=E0) (zb5 (dv 7) zaf)) (qm 0 (E:=E0) ((zax T).mono (by decide:1<=3)) hr T.zaC zaF (zaE (zav (E:=E0) (zrn (dv 4) zaf)) zaR) am1)) (zav (E:=E0) (dv 4))))
 zaO))
 zaO)
 (zaj (zdi (E:=E0) (zd9 (zab (dv 3) (zab (dv 5) (zab (zag (dv 3) (dv 7)) (zab (zag (dv 3) (dv 8)) zak))))))
 zaO)))))))))
theorem zlD (T:Txt K mg t):zcz P w K mg base CX0 2 t.zhS t.zhA ["_law_state","_law_web_here","_law_rare"] (spM K 2 zbz) :=
 zdr T.zhh.F zdu rfl fun cdv A outer s0 H He Ha a E hr=>(
 (zaj (zba (E:=E0) fun vs=>(zl9 (i:=3) zdu.nd rfl (Or.inl rfl) (zo4 zak)))
 (zaj (zmM (E:=E0) PassesOwn.never rfl (zm0 (E:=E0) (zfZ rfl T.n_range (zaL zbi zdI rfl T.n_len PyProof.Rows.Boot.«len» (zab (zag (dv 1) zaf) zak)))) (fun vs=>(zb3 (i:=4) zdu.nd rfl (Or.inl rfl))) zcQ
 (zaj (zjs (DMW.dt (zzj (znp (E:=E0) (zfI hr.units) zjL (qm 0 (E:=E0) ((zax T).mono (by decide:1<=1)) hr T.zaC zaF (zaE (zav (E:=E0) (dv 2)) zaR) am1) (zav (E:=E0) zaf) nm) (zzi (zei (E:=E0) (zaV zh8 zib (zag (zag (zag (dv 1) zaf) (dv 4)) zaf) zcK nm)))))
 (zaj (zba (E:=E0) fun vs=>(zkQ (i:=3) rfl (Or.inl rfl) (dv 4)))
 zaO)
 zaO)
 zaO))
 (zaj (zdi (E:=E0) (dv 3))
 zaO))))
theorem zge (T:Txt K mg t):zcz P w K mg base CX0 1 t.zps t.zo7 ["thing"] (spD K 1 zce) :=
 zay T.zfV.F zlP fun cdv A outer s0 H Ha E hr=>(
 (zac (zcF (DW.dt (ze8 (zbG (zbF (zb4 zlY rfl T.n_isinstance rfl T.n_str PyProof.Rows.Boot.«str» (dv 0)))) (za4 (zbG (zri zrR zrR (zex fun _ _ _ _=>rb _) (zex fun _ _ _ _=>rb _) zez zez zaf (zaL zbi zdI rfl T.n_len PyProof.Rows.Boot.«len» (zab (dv 0) zak)) (zaN T.zeu rfl))))))
 (zac (zaP zeM)
 zai)
 zai)
 (zac (zaP (zaL (zrt rfl) zxQ rfl T.n_all PyProof.Rows.Boot.«all» (zab (zsg (zzu ["sign"] 1 [] rfl (zBK (dv 0)) (zef (by decide)) (fun s H C fp pn=>⟨fun He H0e=>(zb3 (i:=0) (show List.Nodup (["sign"]:List Str) from by decide) rfl (Or.inl rfl)),zkU,(zdH (zyJ hr.units) zyP (dv 0) (zaN T.zla rfl) rfl)⟩) ⟨rfl,rfl⟩ rfl rfl rfl rfl)) zak)))
 zai)))
theorem zia (T:Txt K mg t):zcz P w K mg base CX0 2 t.zfq t.zfj ["places"] (spD K 1 zbg) :=
 zay T.zfe.F zb7 fun cdv A outer s0 H Ha E hr=>(
 (zac (zcF (DW.dt (ze8 (zbG (zbF (zb4 zgS rfl T.n_isinstance rfl T.n_list PyProof.Rows.Boot.«list» (dv 0)))) (za4 (zbG (zri zrR zrR (zex fun _ _ _ _=>rb _) (zex fun _ _ _ _=>rb _) zez zez (zaN T.zeb rfl) (zaL zbi zdI rfl T.n_len PyProof.Rows.Boot.«len» (zab (dv 0) zak)) (zaN T.zfa rfl))))))
 (zac zcC
 zai)
 zai)
 (zac (zqa PassesOwn.never rfl (zqc rfl T.n_enumerate (dv 0)) (zmc rfl (zbQ (i:=1) zb7.nd rfl (Or.inl rfl) (zbQ (i:=2) zb7.nd rfl (Or.inl rfl) zin))) zev
 (zac (zcF (DW.dt (ze8 (zbG (zbF (qc ((zge T).mono (by decide:1<=1)) hr T.zfV zaF (zab (dv 2) zak) al1))) (za4 (zaV (zyJ hr.units) zyP (dv 2) (zf0 (dv 0) zgW (zgV (dv 1))) rfl))))
 (zac zcC
 zai)
 zai)
 zai))
 zai)))
theorem zd0 (T:Txt K mg t):zcz P w K mg base CX0 1 t.zmx t.zmf ["thing"] (spD K 1 zbs) :=
 zay T.zdS.F zju fun cdv A outer s0 H Ha E hr=>(
 (zac (zaP (zf1 (zb4 zr2 rfl T.n_isinstance rfl T.n_int PyProof.Rows.Boot.«int» (dv 0)) (zeK (zo6 (zb4 zpZ rfl T.n_isinstance rfl T.n_bool PyProof.Rows.Boot.«bool» (dv 0))))))
 zai))
theorem zdk (T:Txt K mg t):zcz P w K mg base CX0 1 t.zfr t.zfk ["one","other"] (spD K 2 zaU) :=
 zay T.zcB.F za0 fun cdv A outer s0 H Ha E hr=>(
 (zac (zaW (i:=2) za0.nd rfl (Or.inl rfl) (zaL znw zvh rfl T.n_abs PyProof.Rows.Boot.«abs» (zab (dv 0) zak)))
 (zac (zaW (i:=3) za0.nd rfl (Or.inl rfl) (zaL znw zvh rfl T.n_abs PyProof.Rows.Boot.«abs» (zab (dv 1) zak)))
 (zac (zno _ PassesOwn.never (zaV (zgs hr.units) zlF (dv 3) zaf nm)
 (zac (zaW (i:=4) za0.nd rfl (Or.inl rfl) (zfg (dv 2) (dv 3)))
 (zac (zaW (i:=2) za0.nd rfl (Or.inl rfl) (dv 3))
 (zac (zaW (i:=3) za0.nd rfl (Or.inl rfl) (dv 4))
 zai))))
 (zac (zaP (dv 2))
 zai)))))
theorem zjI (T:Txt K mg t):zcz P w K mg base CX0 2 t.zmy t.zmg ["thing"] (spD K 1 zdm) :=
 zay T.zif.F zjv fun cdv A outer s0 H Ha E hr=>(
 (zac (zcF (DW.dt (ze8 (zbG (zbF (zb4 zfP rfl T.n_isinstance rfl T.n_tuple PyProof.Rows.Boot.«tuple» (dv 0)))) (za4 (zaV (zgs hr.units) zlF (zaL zbi zdI rfl T.n_len PyProof.Rows.Boot.«len» (zab (dv 0) zak)) zaf nm))))
 (zac (zaP zeM)
 zai)
 zai)
 (zac (zcF (DW.dt (ze8 (zbG (zbF (qc ((zd0 T).mono (by decide:1<=1)) hr T.zdS zaF (zab (zag (dv 0) zaf) zak) al1))) (za4 (zbG (zbF (qc ((zd0 T).mono (by decide:1<=1)) hr T.zdS zaF (zab (zag (dv 0) zaf) zak) al1))))))
 (zac (zaP zeM)
 zai)
 zai)
 (zac (zaP (zf1 (zdH zyK (zcS fun _ _ _ _=>rb _) (zag (dv 0) zaf) zaf nm) (zeK (zdH (zfI hr.units) zjL (qc ((zdk T).mono (by decide:1<=1)) hr T.zcB zaF (zab (zag (dv 0) zaf) (zab (zag (dv 0) zaf) zak)) al2) zaf nm))))
 zai))))
theorem ziE (T:Txt K mg t):zcz P w K mg base CX0 3 t.zlj t.zkX ["thing"] (spD K 1 zby) :=
 zay T.zgT.F ziz fun cdv A outer s0 H Ha E hr=>(
 (zac (zaP (zf1 (qc ((zjI T).mono (by decide:2<=2)) hr T.zif zaF (zab (dv 0) zak) al1) (zeK (zdH zyK (zcS fun _ _ _ _=>rb _) (zag (dv 0) zaf) zaf nm))))
 zai))
theorem zpO (T:Txt K mg t):zcz P w K mg base CX0 3 t.zmw t.zme ["thing"] (spD K 1 zdR) :=
 zay T.zl1.F zjt fun cdv A outer s0 H Ha E hr=>(
 (zac (zaP (zBM (zdH ziD ziG (dv 0) zcK nm) (zeK (zf1 (qc ((zjI T).mono (by decide:2<=2)) hr T.zif zaF (zab (dv 0) zak) al1) (zeK (zdH zwh (zcS fun _ _ _ _=>rb _) (zag (dv 0) zaf) zaf nm))))))
 zai))
theorem ztr (T:Txt K mg t):zcz P w K mg base CX0 4 t.zrz t.zrq ["thing"] (spD K 1 ze2) :=
 zay T.zq0.F znR fun cdv A outer s0 H Ha E hr=>(
 (zac (zcF (DW.dt (ze8 (zbG (zbF (zb4 zfP rfl T.n_isinstance rfl T.n_tuple PyProof.Rows.Boot.«tuple» (dv 0)))) (za4 (zaV (zgs hr.units) zlF (zaL zbi zdI rfl T.n_len PyProof.Rows.Boot.«len» (zab (dv 0) zak)) zaf nm))))
 (zac (zaP zeM)
 zai)
 zai)
 (zac (zcF (DW.dt (ze8 (zbG (zbF (qc ((zge T).mono (by decide:1<=3)) hr T.zfV zaF (zab (zag (dv 0) (zaN T.zqh rfl)) zak) al1))) (ze8 (zbG (zbF (qc ((zge T).mono (by decide:1<=3)) hr T.zfV zaF (zab (zag (dv 0) (zaN T.zgY rfl)) zak) al1))) (za4 (zaV (zfI hr.units) zjL (zag (dv 0) (zaN T.zqh rfl)) (zag (dv 0) (zaN T.zgY rfl)) nm)))))
 (zac (zaP zeM)
 zai)
 zai)
 (zac (zcF (DW.dt (ze8 (zbG (zbF (zb4 zlY rfl T.n_isinstance rfl T.n_str PyProof.Rows.Boot.«str» (zag (dv 0) (zaN T.zpj rfl))))) (za4 (zaV (zgd hr.units) zgf (zag (dv 0) (zaN T.zpj rfl)) (zaN T.zqg rfl) rfl))))
 (zac (zaP zeM)
 zai)
 zai)
 (zac (zaP (zf1 (qc ((ziE T).mono (by decide:3<=3)) hr T.zgT zaF (zab (zag (dv 0) (zaN T.zhE rfl)) zak) al1) (zeK (qc ((zpO T).mono (by decide:3<=3)) hr T.zl1 zaF (zab (zag (dv 0) (zaN T.znx rfl)) zak) al1))))
 zai)))))
theorem zjH (T:Txt K mg t):zcz P w K mg base CX0 5 t.zgH t.zgA ["ties","places"] (spD K 2 zbK) :=
 zay T.zgx.F zcR fun cdv A outer s0 H Ha E hr=>(
 (zac (zcF (DW.dt (ze8 (zbG (zbF (zb4 zgS rfl T.n_isinstance rfl T.n_list PyProof.Rows.Boot.«list» (dv 0)))) (za4 (zaV zwh (zcS fun _ _ _ _=>rb _) (zaL zbi zdI rfl T.n_len PyProof.Rows.Boot.«len» (zab (dv 0) zak)) (zaN T.zgZ rfl) nm))))
 (zac zcC
 zai)
 zai)
 (zac (zqa PassesOwn.never rfl (zqc rfl T.n_enumerate (dv 0)) (zmc rfl (zbQ (i:=2) zcR.nd rfl (Or.inl rfl) (zbQ (i:=3) zcR.nd rfl (Or.inl rfl) zin))) zev
 (zac (zcF (DW.dt (ze8 (zbG (zbF (qc ((ztr T).mono (by decide:4<=4)) hr T.zq0 zaF (zab (dv 3) zak) al1))) (ze8 (zaV (zgd hr.units) zgf (zag (dv 3) (zaN T.zqh rfl)) (dv 1) rfl) (za4 (zaV (zgd hr.units) zgf (zag (dv 3) (zaN T.zgY rfl)) (dv 1) rfl)))))
 (zac zcC
 zai)
 zai)
 zai))
 zai)))
theorem zjJ (T:Txt K mg t):zcz P w K mg base CX0 2 t.zmA t.zmi ["thing","places"] (spD K 2 zdn) :=
 zay T.zig.F zjx fun cdv A outer s0 H Ha E hr=>(
 (zac (zaP (zf1 (qc ((zge T).mono (by decide:1<=1)) hr T.zfV zaF (zab (dv 0) zak) al1) (zeK (zdH (zyJ hr.units) zyP (dv 0) (dv 1) rfl))))
 zai))
theorem zlA (T:Txt K mg t):zcz P w K mg base CX0 6 t.zhP t.zhx ["thing"] (spD K 1 zb8) :=
 zay T.zhe.F zgr fun cdv A outer s0 H Ha E hr=>(
 (zac (zcF (DW.dt (ze8 (zbG (zbF (zb4 zfP rfl T.n_isinstance rfl T.n_tuple PyProof.Rows.Boot.«tuple» (dv 0)))) (za4 (zaV (zgs hr.units) zlF (zaL zbi zdI rfl T.n_len PyProof.Rows.Boot.«len» (zab (dv 0) zak)) zaf nm))))
 (zac zcC
 zai)
 zai)
 (zac (zkP (qc ((zia T).mono (by decide:2<=5)) hr T.zfe zaF (zab (zag (dv 0) (zaN T.zej rfl)) zak) al1))
 (zac (zkP (qc ((zjH T).mono (by decide:5<=5)) hr T.zgx zaF (zab (zag (dv 0) (zaN T.ziS rfl)) (zab (zag (dv 0) (zaN T.zej rfl)) zak)) al2))
 (zac (zcF (zbG (zbF (qc ((zjJ T).mono (by decide:2<=5)) hr T.zig zaF (zab (zag (dv 0) (zaN T.zis rfl)) (zab (zag (dv 0) (zaN T.zej rfl)) zak)) al2)))
 (zac zcC
 zai)
 zai)
 (zac (zcF (DW.dt (ze8 (zbG (zbF (qc ((zjJ T).mono (by decide:2<=5)) hr T.zig zaF (zab (zag (dv 0) (zaN T.zlb rfl)) (zab (zag (dv 0) (zaN T.zej rfl)) zak)) al2))) (za4 (zaV (zfI hr.units) zjL (zag (dv 0) (zaN T.zlb rfl)) (zag (dv 0) (zaN T.zis rfl)) nm))))
 (zac zcC
 zai)
 zai)
 zai))))))
theorem zi4 (T:Txt K mg t):zcz P w K mg base CX0 2 t.zga t.zf3 ["web","thing"] (spD K 2 zbc) :=
 zay T.zfU.F zfc fun cdv A outer s0 H Ha E hr=>(
 (zac (zaP (zf1 (qc ((zd0 T).mono (by decide:1<=1)) hr T.zdS zaF (zab (dv 1) zak) al1) (zeK (zwO zrR zrQ (zex fun _ _ _ _=>rb _) (zex fun _ _ _ _=>rb _) zez zez zaf (dv 1) (zaL zbi zdI rfl T.n_len PyProof.Rows.Boot.«len» (zab (zag (dv 0) (zaN T.ziS rfl)) zak))))))
 zai))
theorem zey (T:Txt K mg t):zcz P w K mg base CX0 7 t.zfp t.zfi ["web","thing"] (spD K 2 zaT) :=
 zay T.zdE.F zbp fun cdv A outer s0 H Ha E hr=>(
 (zac (zkP (qc ((zlA T).mono (by decide:6<=6)) hr T.zhe zaF (zab (dv 0) zak) al1))
 (zac (zcF (zbG (zbF (zb4 zgS rfl T.n_isinstance rfl T.n_list PyProof.Rows.Boot.«list» (dv 1))))
 (zac zcC
 zai)
 zai)
 (zac (zaW (i:=2) zbp.nd rfl (Or.inl rfl) (zxK zaf))
 (zac (zma PassesOwn.never rfl (dv 1) (zb3 (i:=3) zbp.nd rfl (Or.inl rfl)) zcQ
 (zac (zcF (DW.dt (ze8 (zbG (zbF (qc ((zi4 T).mono (by decide:2<=6)) hr T.zfU zaF (zab (dv 0) (zab (dv 3) zak)) al2))) (za4 (zaV zrR (zcS fun _ _ _ _=>rb _) (dv 3) (dv 2) nm))))
 (zac zcC
 zai)
 zai)
 (zac (zcF (zaV ziD ziG (zag (zag (zag (dv 0) (zaN T.ziS rfl)) (dv 3)) (zaN T.znx rfl)) zcK nm)
 (zac zcC
 zai)
 zai)
 (zac (zaW (i:=2) zbp.nd rfl (Or.inl rfl) (dv 3))
 zai))))
 zai)))))
theorem zi3 (T:Txt K mg t):zcz P w K mg base CX0 2 t.zf9 t.zf2 ["some"] (spD K 1 zbr) :=
 zay T.zfT.F zbE fun cdv A outer s0 H Ha E hr=>(
 (zac (zaW (i:=1) zbE.nd rfl (Or.inl rfl) zaf)
 (zac (zma PassesOwn.never rfl (dv 0) (zb3 (i:=2) zbE.nd rfl (Or.inl rfl)) zcQ
 (zac (zaW (i:=1) zbE.nd rfl (Or.inl rfl) (zdc (ziN (dv 1) (qc ((zdk T).mono (by decide:1<=1)) hr T.zcB zaF (zab (dv 1) (zab (zag (dv 2) zaf) zak)) al2)) (zag (dv 2) zaf)))
 zai))
 (zac (zaP (dv 1))
 zai))))
theorem zpQ (T:Txt K mg t):zcz P w K mg base CX0 1 t.zmB t.zmj ["one","bottom"] (spD K 2 zdo) :=
 zay T.zl3.F zjy fun cdv A outer s0 H Ha E hr=>(
 (zac (zaP (zdc (zag (dv 0) zaf) (ziN (dv 1) (zag (dv 0) zaf))))
 zai))
theorem zjG (T:Txt K mg t):zcz P w K mg base CX0 3 t.zgF t.zgy ["some"] (spD K 1 zbJ) :=
 zay T.zgw.F zdU fun cdv A outer s0 H Ha E hr=>(
 (zac (zaW (i:=1) zdU.nd rfl (Or.inr rfl) (qc ((zi3 T).mono (by decide:2<=2)) hr T.zfT zaF (zab (zsg (zzu ["one"] 1 [] rfl (zkV (dv 0)) (zef (by decide)) (fun s H C fp pn=>⟨fun He H0e=>(zb3 (i:=0) (show List.Nodup (["one"]:List Str) from by decide) rfl (Or.inl rfl)),(zu1 (zaV zh8 zib (dv 0) zcK nm)),(dv 0)⟩) ⟨rfl,rfl⟩ rfl rfl rfl rfl)) zak) al1))
 (zac (zaP (zd9 (zab (zsg (zzu ["one","bottom"] 1 [1] rfl (zkV (dv 0)) (zef (by decide)) (fun s H C fp pn=>⟨fun He H0e=>(zb3 (i:=0) (show List.Nodup (["one","bottom"]:List Str) from by decide) rfl (Or.inl rfl)),zkU,(zro (zaV ziD ziG (dv 0) zcK nm) zcK (qc ((zpQ T).mono (by decide:1<=2)) hr T.zl3 zaF (zab (dv 0) (zab (dv 1) zak)) al2))⟩) ⟨rfl,rfl⟩ rfl rfl rfl rfl)) (zab (dv 1) zak))))
 zai)))
theorem zh9 (T:Txt K mg t):zcz P w K mg base CX0 4 t.zfo t.zfh ["web"] (spD K 1 zcA) :=
 zay T.zfd.F zew fun cdv A outer s0 H Ha E hr=>(
 (zac (zaP (qc ((zjG T).mono (by decide:3<=3)) hr T.zgw zaF (zab (zsg (zzu ["tie"] 1 [] rfl (zkV (zag (dv 0) (zaN T.ziS rfl))) (zef (by decide)) (fun s H C fp pn=>⟨fun He H0e=>(zb3 (i:=0) (show List.Nodup (["tie"]:List Str) from by decide) rfl (Or.inl rfl)),zkU,(zag (dv 0) (zaN T.zhE rfl))⟩) ⟨rfl,rfl⟩ rfl rfl rfl rfl)) zak) al1))
 zai))
theorem zlz (T:Txt K mg t):zcz P w K mg base CX0 1 t.zhO t.zhw ["tie"] (spD K 1 za1) :=
 zay T.zhd.F zek fun cdv A outer s0 H Ha E hr=>(
 (zac (zaW (i:=1) zek.nd rfl (Or.inl rfl) (zd9 (zab (zag (dv 0) (zaN T.zqh rfl)) (zab (zag (dv 0) (zaN T.zgY rfl)) zak))))
 (zac (zcF (zaV (zfI hr.units) zjL (zag (dv 0) (zaN T.zpj rfl)) zo5 nm)
 (zac (zaP (zeL (zab (dv 1) zak)))
 zai)
 zai)
 (zac (zaP (zeL (zab (dv 1) (zab (zd9 (zab (zag (dv 0) (zaN T.zgY rfl)) (zab (zag (dv 0) (zaN T.zqh rfl)) zak))) zak))))
 zai))))
theorem zg8 (T:Txt K mg t):zcz P w K mg base CX0 2 t.ziV t.ziO ["web","taken"] (spD K 2 zbu) :=
 zay T.zfS.F zbx fun cdv A outer s0 H Ha E hr=>(
 (zac (zl9 (i:=2) zbx.nd rfl (Or.inl rfl) (zo4 zak))
 (zac (zqa PassesOwn.never rfl (zqc rfl T.n_enumerate (zag (dv 0) (zaN T.ziS rfl))) (zmc rfl (zbQ (i:=3) zbx.nd rfl (Or.inl rfl) (zbQ (i:=4) zbx.nd rfl (Or.inl rfl) zin))) zev
 (zac (zcF (zaV (zgd hr.units) zgf (dv 3) (dv 1) rfl)
 (zac (zma PassesOwn.never rfl (qc ((zlz T).mono (by decide:1<=1)) hr T.zhd zaF (zab (dv 4) zak) al1) (zmc rfl (zbQ (i:=5) zbx.nd rfl (Or.inl rfl) (zbQ (i:=6) zbx.nd rfl (Or.inl rfl) zin))) zev
 (zac (zkQ (i:=2) rfl (Or.inl rfl) (zd9 (zab (dv 3) (zab (dv 5) (zab (dv 6) zak)))))
 zai))
 zai)
 zai)
 zai))
 (zac (zaP (dv 2))
 zai))))
theorem zfJ (T:Txt K mg t):zcz P w K mg base CX0 1 t.zgG t.zgz ["steps","sizes","found"] (spD K 3 zbl) :=
 zay T.zes.F za2 fun cdv A outer s0 H Ha E hr=>(
 (zac (zaW (i:=3) za2.nd rfl (Or.inl rfl) zcK)
 (zac (zma PassesOwn.never rfl (dv 0) (zmc rfl (zbQ (i:=4) za2.nd rfl (Or.inl rfl) (zbQ (i:=5) za2.nd rfl (Or.inl rfl) (zbQ (i:=6) za2.nd rfl (Or.inl rfl) zin)))) zev
 (zac (zcF (DW.dt (zuS (zaV (ztn (un1 hr.units)) ztu (dv 5) (dv 2) rfl) (zim (zaV (znX (un1 hr.units)) znZ (dv 6) (dv 2) rfl))))
 (zac (zaW (i:=7) za2.nd rfl (Or.inl rfl) (zb5 (zag (ze9 (un1 hr.units) (dv 2) (dv 5)) zaf) (zag (dv 1) (dv 4))))
 (zac (zcF (DW.dt (ze8 (zaV ziD ziG (dv 3) zcK nm) (za4 (zaV zrQ (zcS fun _ _ _ _=>rb _) (dv 7) (zag (dv 3) zaf) nm))))
 (zac (zaW (i:=3) za2.nd rfl (Or.inl rfl) (zd9 (zab (dv 6) (zab (dv 7) (zab (zb5 (zag (ze9 (un1 hr.units) (dv 2) (dv 5)) zaf) (zeL (zab (dv 4) zak))) zak)))))
 zai)
 zai)
 zai))
 zai)
 zai))
 (zac (zaP (dv 3))
 zai))))
theorem zlC (T:Txt K mg t):zcz P w K mg base CX0 3 t.zhR t.zhz ["web","taken","sizes"] (spD K 3 zdM) :=
 zay T.zhg.F zbH fun cdv A outer s0 H Ha E hr=>(
 (zac (zaW (i:=3) zbH.nd rfl (Or.inl rfl) (qc ((zg8 T).mono (by decide:2<=2)) hr T.zfS zaF (zab (dv 0) (zab (dv 1) zak)) al2))
 (zac (zuY (i:=4) zbH.nd rfl (Or.inl rfl) (zu2 (zag (dv 0) (zaN T.zis rfl)) (zd9 (zab zaf (zab (zeL zak) zak)))))
 (zac (zuW (i:=5) zbH.nd rfl (Or.inl rfl) (qc ((zfJ T).mono (by decide:1<=2)) hr T.zes zaF (zab (dv 3) (zab (dv 2) (zab (dv 4) zak))) al3))
 (zac (zno _ PassesOwn.never (zaV zh8 zib (dv 5) zcK nm)
 (zac (zuX (i:=4) (un1 hr.units) rfl (Or.inl rfl) (zd9 (zab (zag (dv 5) zaf) (zab (zag (dv 5) zaf) zak))) (zag (dv 5) zaf))
 (zac (zuW (i:=5) zbH.nd rfl (Or.inl rfl) (qc ((zfJ T).mono (by decide:1<=2)) hr T.zes zaF (zab (dv 3) (zab (dv 2) (zab (dv 4) zak))) al3))
 zai)))
 (zac (zaP (dv 4))
 zai))))))
theorem zqG (T:Txt K mg t):zcz P w K mg base CX0 2 t.zvw t.zu5 ["top","bottom"] (spD K 2 zcb) :=
 zay T.zp3.F zjb fun cdv A outer s0 H Ha E hr=>(
 (zac (zcF (DW.dt (ze8 (zbG (zbF (qc ((zd0 T).mono (by decide:1<=1)) hr T.zdS zaF (zab (dv 0) zak) al1))) (za4 (zbG (zbF (qc ((zd0 T).mono (by decide:1<=1)) hr T.zdS zaF (zab (dv 1) zak) al1))))))
 (zac zcC
 zai)
 zai)
 (zac (zcF (zaV (zfI hr.units) zjL (dv 1) zaf nm)
 (zac zcC
 zai)
 zai)
 (zac (zaW (i:=2) zjb.nd rfl (Or.inl rfl) (qc ((zdk T).mono (by decide:1<=1)) hr T.zcB zaF (zab (dv 0) (zab (dv 1) zak)) al2))
 (zac (zcF (zaV zrQ (zcS fun _ _ _ _=>rb _) (dv 1) zaf nm)
 (zac (zaW (i:=2) zjb.nd rfl (Or.inl rfl) (zxK (dv 2)))
 zai)
 zai)
 (zac (zaP (zd9 (zab (ziN (dv 0) (dv 2)) (zab (ziN (dv 1) (dv 2)) zak))))
 zai))))))
theorem zpN (T:Txt K mg t):zcz P w K mg base CX0 5 t.zmv t.zmd ["web","taken"] (spD K 2 zeC) :=
 zay T.zl0.F zdj fun cdv A outer s0 H Ha E hr=>(
 (zac (zaW (i:=2) zdj.nd rfl (Or.inl rfl) (qc ((zh9 T).mono (by decide:4<=4)) hr T.zfd zaF (zab (dv 0) zak) al1))
 (zac (zaW (i:=3) zdj.nd rfl (Or.inl rfl) (qc ((zlC T).mono (by decide:3<=4)) hr T.zhg zaF (zab (dv 0) (zab (dv 1) (zab (zag (dv 2) zaf) zak))) al3))
 (zac (zuY (i:=4) zdj.nd rfl (Or.inl rfl) zzp)
 (zac (zma PassesOwn.never rfl (zag (dv 0) (zaN T.zej rfl)) (zb3 (i:=5) zdj.nd rfl (Or.inl rfl)) zcQ
 (zac (zuX (i:=4) (un1 hr.units) rfl (Or.inl rfl) (zro (zaV (ztn (un1 hr.units)) ztu (dv 5) (dv 3) rfl) (qc ((zqG T).mono (by decide:2<=4)) hr T.zp3 zaF (zab (zag (ze9 (un1 hr.units) (dv 3) (dv 5)) zaf) (zab (zag (dv 2) zaf) zak)) al2) zcK) (dv 5))
 zai))
 (zac (zcF (zaV (znX (un1 hr.units)) znZ (zag (dv 0) (zaN T.zlb rfl)) (dv 3) rfl)
 (zac (zaP (zd9 (zab zcK (zab zcK (zab (dv 4) zak)))))
 zai)
 zai)
 (zac (zaP (zd9 (zab (zag (ze9 (un1 hr.units) (dv 3) (zag (dv 0) (zaN T.zlb rfl))) zaf) (zab (ze9 (un1 hr.units) (dv 4) (zag (dv 0) (zaN T.zlb rfl))) (zab (dv 4) zak)))))
 zai)))))))
theorem zfK (T:Txt K mg t):zcz P w K mg base CX0 8 t.zli t.zkW ["web","taking"] (spD K 2 zdl) :=
 zay T.ze3.F ziy fun cdv A outer s0 H Ha E hr=>(
 (zac (zkP (qc ((zey T).mono (by decide:7<=7)) hr T.zdE zaF (zab (dv 0) (zab (dv 1) zak)) al2))
 (zac (zaP (qc ((zpN T).mono (by decide:5<=7)) hr T.zl0 zaF (zab (dv 0) (zab (dv 1) zak)) al2))
 zai)))
theorem zfL (T:Txt K mg t):zcz P w K mg base CX0 1 t.zln t.zk1 ["_law_one","_law_other"] (spD K 2 zbA) :=
 zay T.ze4.F ziC fun cdv A outer s0 H Ha E hr=>(
 (zac (zaP (zdH zrQ (zcS fun _ _ _ _=>rb _) (zdc (zag (dv 0) zaf) (zag (dv 1) zaf)) (zdc (zag (dv 1) zaf) (zag (dv 0) zaf)) nm))
 zai))
theorem znY (T:Txt K mg t):zcz P w K mg base CX0 2 t.zlm t.zk0 ["_law_one","_law_other"] (spD K 2 zdp) :=
 zay T.zj0.F ziB fun cdv A outer s0 H Ha E hr=>(
 (zac (zcF (zaV ziD ziG (dv 1) zcK nm)
 (zac (zaP zeM)
 zai)
 zai)
 (zac (zaP (zf1 (zdH zh8 zib (dv 0) zcK nm) (zeK (zo6 (qc ((zfL T).mono (by decide:1<=1)) hr T.ze4 zaF (zab (dv 1) (zab (dv 0) zak)) al2)))))
 zai)))
theorem zpP (T:Txt K mg t):zcz P w K mg base CX0 4 t.zmz t.zmh ["thing"] (spD K 1 zcH) :=
 zay T.zl2.F zjw fun cdv A outer s0 H Ha E hr=>(
 (zac (zaP (zBM (zdH ziD ziG (dv 0) zcK nm) (zeK (qc ((ziE T).mono (by decide:3<=3)) hr T.zgT zaF (zab (dv 0) zak) al1))))
 zai))
theorem zeo (T:Txt K mg t):zcz P w K mg base CX0 5 t.zcO t.zcL ["places","thing"] (spD K 2 za5) :=
 zay T.zcJ.F zcc fun cdv A outer s0 H Ha E hr=>(
 (zac (zcF (DW.dt (ze8 (zbG (zbF (zb4 zpY rfl T.n_isinstance rfl T.n_dict PyProof.Rows.Boot.«dict» (dv 1)))) (za4 (zaV (zgs hr.units) zlF (zaL zvk zzC rfl T.n_len PyProof.Rows.Boot.«len» (zab (dv 1) zak)) (zaL zbi zdI rfl T.n_len PyProof.Rows.Boot.«len» (zab (dv 0) zak)) nm))))
 (zac (zaP zeM)
 zai)
 zai)
 (zac (zaP (zaL (zrt rfl) zxQ rfl T.n_all PyProof.Rows.Boot.«all» (zab (zsg (zzu ["place","thing"] 1 [1] rfl (zkV (dv 0)) (zef (by decide)) (fun s H C fp pn=>⟨fun He H0e=>(zb3 (i:=0) (show List.Nodup (["place","thing"]:List Str) from by decide) rfl (Or.inl rfl)),zkU,(zf1 (zdH (ztn (un1 hr.units)) ztu (dv 0) (dv 1) rfl) (zeK (qc ((zpP T).mono (by decide:4<=4)) hr T.zl2 zaF (zab (ze9 (un1 hr.units) (dv 1) (dv 0)) zak) al1)))⟩) ⟨rfl,rfl⟩ rfl rfl rfl rfl)) zak)))
 zai)))
theorem zrT (T:Txt K mg t):zcz P w K mg base CX0 1 t.zpt t.zo8 ["one","other"] (spD K 2 zcf) :=
 zay T.zoe.F zlQ fun cdv A outer s0 H Ha E hr=>(
 (zac (zaP (zdH zrQ (zcS fun _ _ _ _=>rb _) (zdc (zag (dv 0) zaf) (zag (dv 1) zaf)) (zdc (zag (dv 1) zaf) (zag (dv 0) zaf)) nm))
 zai))
theorem zyM (T:Txt K mg t):zcz P w K mg base CX0 3 t.zxT t.zxL ["one","other"] (spD K 2 zeg) :=
 zay T.zxq.F zsW fun cdv A outer s0 H Ha E hr=>(
 (zac (zaP (qc ((zqG T).mono (by decide:2<=2)) hr T.zp3 zaF (zab (zb5 (zdc (zag (dv 0) zaf) (zag (dv 1) zaf)) (zdc (zag (dv 1) zaf) (zag (dv 0) zaf))) (zab (zdc (zag (dv 0) zaf) (zag (dv 1) zaf)) zak)) al2))
 zai))
theorem zts (T:Txt K mg t):zcz P w K mg base CX0 4 t.zrA t.zrr ["here","length","there"] (spD K 3 zdL) :=
 zay T.zq1.F znS fun cdv A outer s0 H Ha E hr=>(
 (zac (zcF (zaV ziD ziG (dv 0) zcK nm)
 (zac (zaP zeM)
 zai)
 zai)
 (zac (zaP (zf1 (zdH zh8 zib (dv 2) zcK nm) (zeK (zo6 (qc ((zrT T).mono (by decide:1<=3)) hr T.zoe zaF (zab (qc ((zyM T).mono (by decide:3<=3)) hr T.zxq zaF (zab (dv 0) (zab (dv 1) zak)) al2) (zab (dv 2) zak)) al2)))))
 zai)))
theorem zlB (T:Txt K mg t):zcz P w K mg base CX0 8 t.zhQ t.zhy ["web","taking","thing"] (spD K 3 zdK) :=
 zay T.zhf.F zcd fun cdv A outer s0 H Ha E hr=>(
 (zac (zkP (qc ((zey T).mono (by decide:7<=7)) hr T.zdE zaF (zab (dv 0) (zab (dv 1) zak)) al2))
 (zac (zcF (DW.dt (ze8 (zbG (zbF (qc ((zeo T).mono (by decide:5<=7)) hr T.zcJ zaF (zab (zag (dv 0) (zaN T.zej rfl)) (zab (dv 2) zak)) al2))) (za4 (zaV (zgs hr.units) zlF (ze9 (un1 hr.units) (dv 2) (zag (dv 0) (zaN T.zis rfl))) (zaN T.zny rfl) nm))))
 (zac (zaP zeM)
 zai)
 zai)
 (zac (zma PassesOwn.never rfl (qc ((zg8 T).mono (by decide:2<=7)) hr T.zfS zaF (zab (dv 0) (zab (dv 1) zak)) al2) (zmc rfl (zbQ (i:=3) zcd.nd rfl (Or.inl rfl) (zbQ (i:=4) zcd.nd rfl (Or.inl rfl) (zbQ (i:=5) zcd.nd rfl (Or.inl rfl) zin)))) zev
 (zac (zcF (zbG (zbF (qc ((zts T).mono (by decide:4<=7)) hr T.zq1 zaF (zab (ze9 (un1 hr.units) (dv 2) (dv 4)) (zab (zag (zag (zag (dv 0) (zaN T.ziS rfl)) (dv 3)) (zaN T.zhE rfl)) (zab (ze9 (un1 hr.units) (dv 2) (dv 5)) zak))) al3)))
 (zac (zaP zeM)
 zai)
 zai)
 zai))
 (zac (zaP zeM)
 zai)))))
theorem ziF (T:Txt K mg t):zcz P w K mg base CX0 2 t.zll t.zkZ ["_law_one","_law_other"] (spD K 2 zbd) :=
 zay T.zgU.F ziA fun cdv A outer s0 H Ha E hr=>(
 (zac (zaP (qc ((zjK T).mono (by decide:1<=1)) hr T.zih zaF (zab (zb5 (zdc (zag (dv 0) zaf) (zag (dv 1) zaf)) (zdc (zag (dv 1) zaf) (zag (dv 0) zaf))) (zab (zdc (zag (dv 0) zaf) (zag (dv 1) zaf)) zak)) al2))
 zai))
theorem zmY (T:Txt K mg t):zcz P w K mg base CX0 9 t.ziW t.ziP ["_law_state","_law_web_here","_law_gone"] (spM K 2 zbv) :=
 zdr T.ziJ.F zaY rfl fun cdv A outer s0 H He Ha a E hr=>(
 (zaj (zba (E:=E0) fun vs=>(zaW (i:=3) zaY.nd rfl (Or.inl rfl) (qc ((zfK T).mono (by decide:8<=8)) hr T.ze3 zaF (zab (dv 1) (zab (dv 2) zak)) al2)))
 (zaj (zba (E:=E0) fun vs=>(zzg (i:=4) zaY.nd rfl rfl zo9 (zzu ["_law_k","_law_gone","_law_web_here"] 1 [2,1] rfl (zfZ rfl T.n_range (zaL zbi zdI rfl T.n_len PyProof.Rows.Boot.«len» (zab (zag (dv 1) zaf) zak))) (zef (by decide)) (fun s H C fp pn=>⟨fun He H0e=>(zb3 (i:=0) (show List.Nodup (["_law_k","_law_gone","_law_web_here"]:List Str) from by decide) rfl (Or.inl rfl)),(zu1 (DW.dt (zuS (zaV zh8 zib (zag (zag (zag (dv 2) zaf) (dv 0)) zaf) zcK nm) (zim (zaV (zgd hr.units) zgf (dv 0) (dv 1) rfl))))),(dv 0)⟩) ⟨rfl,rfl⟩ rfl rfl rfl rfl)))
 (zaj (zjs (zei (E:=E0) (zaV (zfI hr.units) zjL (dv 4) (zeL zak) nm))
 (zaj (zdi (E:=E0) zeM)
 zaO)
 zaO)
 (zaj (zca (i:=5) zaY.nd rfl (Or.inl rfl) (zkS (zav (E:=E0) (dv 4)) (qm 0 (E:=E0) ((zax T).mono (by decide:1<=8)) hr T.zaC zaF (zaE (zav (E:=E0) (zaL zbi zdI rfl T.n_len PyProof.Rows.Boot.«len» (zab (dv 4) zak))) zaR) am1)))
 (zaj (zba (E:=E0) fun vs=>(zaW (i:=6) zaY.nd rfl (Or.inl rfl) (qc ((zfK T).mono (by decide:8<=8)) hr T.ze3 zaF (zab (dv 1) (zab (zaL zmo zvf rfl T.n_sorted PyProof.Rows.Boot.«sorted» (zab (zb5 (dv 2) (zeL (zab (dv 5) zak))) zak)) zak)) al2)))
 (zaj (zjs (zei (E:=E0) (zbG (zbF (qc ((znY T).mono (by decide:2<=8)) hr T.zj0 zaF (zab (zag (dv 3) zaf) (zab (zag (dv 6) zaf) zak)) al2))))
 (zaj (zdi (E:=E0) zeM)
 zaO)
 zaO)
 (zaj (zjs (zei (E:=E0) (zaV zyH zyO (qc ((zlB T).mono (by decide:8<=8)) hr T.zhf zaF (zab (dv 1) (zab (zaL zmo zvf rfl T.n_sorted PyProof.Rows.Boot.«sorted» (zab (zb5 (dv 2) (zeL (zab (dv 5) zak))) zak)) (zab (zag (dv 3) zaf) zak))) al3) zeM nm))
 (zaj (zdi (E:=E0) zeM)
 zaO)
 zaO)
 (zaj (zjs (zei (E:=E0) (zaV ziD ziG (zag (dv 3) zaf) zcK nm))
 (zaj (zdi (E:=E0) zeM)
 zaO)
 zaO)
 (zaj (zjs (zei (E:=E0) (DW.dt (zuS (zaV (zgd hr.units) zgf (dv 5) (zag (dv 3) zaf) rfl) (zim (zaV (zgs hr.units) zlF (zag (dv 6) zaf) (zag (dv 3) zaf) nm)))))
 (zaj (zdi (E:=E0) zeM)
 zaO)
 zaO)
 (zaj (zca (i:=7) zaY.nd rfl (Or.inl rfl) (zkS (zav (E:=E0) (zag (dv 3) zaf)) (qm 0 (E:=E0) ((zax T).mono (by decide:1<=8)) hr T.zaC zaF (zaE (zav (E:=E0) (zaL zbi zdI rfl T.n_len PyProof.Rows.Boot.«len» (zab (zag (dv 3) zaf) zak))) zaR) am1)))
 (zaj (zba (E:=E0) fun vs=>(zaW (i:=8) zaY.nd rfl (Or.inl rfl) (zag (zag (dv 1) zaf) (dv 7))))
 (zaj (zca (i:=9) zaY.nd rfl (Or.inl rfl) (qm 0 (E:=E0) ((zep T).mono (by decide:2<=8)) hr T.zdO zaF (zaE (zav (E:=E0) zaf) zaR) am1))
 (zaj (zba (E:=E0) fun vs=>(zaW (i:=10) zaY.nd rfl (Or.inl rfl) (zb5 (zb5 (zf0 (zag (dv 1) zaf) zgW (zgV (dv 7))) (zeL (zab (zb5 (zb5 (zf0 (dv 8) zgW (zgV zaf)) (zd9 (zab (qc ((ziF T).mono (by decide:2<=8)) hr T.zgU zaF (zab (zag (dv 8) zaf) (zab (dv 9) zak)) al2) zak))) (zf0 (dv 8) (zgV zaf) zgW)) zak))) (zf0 (zag (dv 1) zaf) (zgV (zb5 (dv 7) zaf)) zgW))))
 (zaj (zba (E:=E0) fun vs=>(zaW (i:=11) zaY.nd rfl (Or.inl rfl) (zag (qc ((zfK T).mono (by decide:8<=8)) hr T.ze3 zaF (zab (zd9 (zab (zag (dv 1) zaf) (zab (dv 10) (zab (zag (dv 1) zaf) (zab (zag (dv 1) zaf) zak))))) (zab (dv 2) zak)) al2) zaf)))
 (zaj (zdi (E:=E0) (zf1 (zo6 (qc ((zfL T).mono (by decide:1<=8)) hr T.ze4 zaF (zab (dv 11) (zab (zag (dv 3) zaf) zak)) al2)) (zeK (zo6 (qc ((zfL T).mono (by decide:1<=8)) hr T.ze4 zaF (zab (qc ((ziF T).mono (by decide:2<=8)) hr T.zgU zaF (zab (zag (dv 3) zaf) (zab (dv 9) zak)) al2) (zab (dv 11) zak)) al2)))))
 zaO))))))))))))))))
theorem zA4 (T:Txt K mg t):zcz P w K mg base CX0 10 t.zsp t.zu6 ["_law_script"] (spD K 1 ztC) :=
 zay T.zBo.F zg4 fun cdv A outer s0 H Ha E hr=>(
 (zac (zuZ PassesOwn.never rfl rfl T.n_range (zaL (zvj rfl) zBS rfl T.n_max PyProof.Rows.Boot.«max» (zab zaf (zab (zaL (zvi rfl) zBR rfl T.n_min PyProof.Rows.Boot.«min» (zab (zaL zbi zdI rfl T.n_len PyProof.Rows.Boot.«len» (zab (dv 0) zak)) (zab zaf zak))) zak))) (zb3 (i:=1) zg4.nd rfl (Or.inl rfl)) zcQ
 (zuU (i:=2) zg4.nd rfl (Or.inl rfl) (qf ((zlE T).mono (by decide:1<=9)) hr T.ziL zaF (zab (dv 0) (zab (dv 1) zak)) al2) fun a=>(zaj (zca (i:=3) zg4.nd rfl (Or.inl rfl) (qm 2 (E:=E0) ((zpR T).mono (by decide:4<=9)) hr T.zl4 zaF (zaE (zav (E:=E0) zaf) (zaE (zav (E:=E0) zaf) zaR)) am2))
 (zaj (zba (E:=E0) fun vs=>(zaW (i:=4) zg4.nd rfl (Or.inl rfl) (zaL (zpg hr) zvg rfl T.n_repr PyProof.Rows.Boot.«repr» (zab (dv 3) zak))))
 (zaj (zmM (E:=E0) PassesOwn.never rfl (zm0 (E:=E0) (zfZ rfl T.n_range zaf)) (fun vs=>(zb3 (i:=5) zg4.nd rfl (Or.inl rfl))) zcQ
 (zaj (zca (i:=6) zg4.nd rfl (Or.inl rfl) (qm 2 (E:=E0) ((zlD T).mono (by decide:2<=9)) hr T.zhh zaF (zaE (zav (E:=E0) (dv 3)) (zaE (zmb (zav (E:=E0) zaf) (qm 2 (E:=E0) ((zax T).mono (by decide:1<=9)) hr T.zaC zaF (zaE (zav (E:=E0) zaf) zaR) am1)) zaR)) am2))
 (zaj (zba (E:=E0) fun vs=>(zaW (i:=7) zg4.nd rfl (Or.inl rfl) (zrp zph zzB rfl T.n_list PyProof.Rows.Boot.«list» (zab (dv 6) zak))))
 (zaj (zjs (DMW.dt (zxH (zzl (zzk (qm 2 (E:=E0) ((zmY T).mono (by decide:9<=9)) hr T.ziJ zaF (zaE (zav (E:=E0) (dv 3)) (zaE (zav (E:=E0) (dv 6)) zaR)) am2))) (zxH (zei (E:=E0) (zaV (zgs hr.units) zlF (dv 6) (dv 7) nm)) (zwK (zei (E:=E0) (zaV (zgs hr.units) zlF (zaL (zpg hr) zvg rfl T.n_repr PyProof.Rows.Boot.«repr» (zab (dv 3) zak)) (dv 4) nm))))))
 (zaj (zdi (E:=E0) zeM)
 zaO)
 zaO)
 zaO))))
 zaO)))))
 (zac (zaP zeM)
 zai)))
end
theorem txt_mk {K:W.Frag}{h:Heap}{mg:Str->Option Value}(X:K.In h)(G:h.Ns mainGlobals mg){a_0:Addr}{a_1:Addr}{a_2:Addr}{a_3:Addr}{a_4:Addr}{a_5:Addr}{a_6:Addr}{a_7:Addr}{a_8:Addr}{a_9:Addr}{a_10:Addr}{a_11:Addr}{a_12:Addr}{a_13:Addr}{a_14:Addr}{a_15:Addr}{a_16:Addr}{a_17:Addr}{a_18:Addr}{a_19:Addr}{a_20:Addr}{a_21:Addr}{a_22:Addr}{a_23:Addr}{a_24:Addr}{a_25:Addr}{a_26:Addr}{a_27:Addr}{a_28:Addr}{a_29:Addr}{a_30:Addr}{a_31:Addr}{a_32:Addr}{a_33:Addr}{a_34:Addr}{a_35:Addr}{a_36:Addr}{a_37:Addr}{a_38:Addr}{a_39:Addr}{a_40:Addr}{a_41:Addr}{a_42:Addr}(q_0:QA K "_law_begun" zfH a_0)(q_1:QA K "_law_take" zgN a_1)(q_2:QA K "_law_names" zfG a_2)(q_3:QA K "_law_low" zh6 a_3)(q_4:QA K "_law_amount" zeV a_4)(q_5:QA K "_law_tie" zh5 a_5)(q_6:QA K "_law_web" zh4 a_6)(q_7:QA K "_law_taking" zeU a_7)(q_8:QA K "is_name" zjz a_8)(q_9:QA K "look_at_places" zdC a_9)(q_10:QA K "is_whole" zhZ a_10)(q_11:QA K "common_divisor" zdD a_11)(q_12:QA K "is_ratio" zh0 a_12)(q_13:QA K "is_length" zgM a_13)(q_14:QA K "is_worth" zhY a_14)(q_15:QA K "is_tie" zmP a_15)(q_16:QA K "look_at_ties" zen a_16)(q_17:QA K "is_place" zh2 a_17)(q_18:QA K "look_at_web" zeR a_18)(q_19:QA K "is_tie_number" zdX a_19)(q_20:QA K "look_at_taking" zdB a_20)(q_21:QA K "shared_bottom" zdW a_21)(q_22:QA K "as_whole" zh3 a_22)(q_23:QA K "on_one_scale" zel a_23)(q_24:QA K "scaled_lengths" zdA a_24)(q_25:QA K "steps_along" zeQ a_25)(q_26:QA K "steps_left" zfE a_26)(q_27:QA K "nearest_step" zem a_27)(q_28:QA K "all_reached" zeT a_28)(q_29:QA K "ratio" zpE a_29)(q_30:QA K "shortest" zhX a_30)(q_31:QA K "least_way" zgL a_31)(q_32:QA K "_law_less" zgQ a_32)(q_33:QA K "_law_more" zgP a_33)(q_34:QA K "is_price" zh1 a_34)(q_35:QA K "prices_just_the_places" zbq a_35)(q_36:QA K "is_less" zjA a_36)(q_37:QA K "plus" zsX a_37)(q_38:QA K "is_let" zmQ a_38)(q_39:QA K "lets_prices" zeS a_39)(q_40:QA K "_law_plus" zgO a_40)(q_41:QA K "_law_right" zfF a_41)(q_42:QA K "law" zmO a_42)
  (z_abs:W.nsIn K mainGlobals "abs"=some none)
  (z_all:W.nsIn K mainGlobals "all"=some none)
  (z_bool:W.nsIn K mainGlobals "bool"=some none)
  (z_dict:W.nsIn K mainGlobals "dict"=some none)
  (z_enumerate:W.nsIn K mainGlobals "enumerate"=some none)
  (z_int:W.nsIn K mainGlobals "int"=some none)
  (z_isinstance:W.nsIn K mainGlobals "isinstance"=some none)
  (z_len:W.nsIn K mainGlobals "len"=some none)
  (z_list:W.nsIn K mainGlobals "list"=some none)
  (z_max:W.nsIn K mainGlobals "max"=some none)
  (z_min:W.nsIn K mainGlobals "min"=some none)
  (z_range:W.nsIn K mainGlobals "range"=some none)
  (z_repr:W.nsIn K mainGlobals "repr"=some none)
  (z_sorted:W.nsIn K mainGlobals "sorted"=some none)
  (z_str:W.nsIn K mainGlobals "str"=some none)
  (z_tuple:W.nsIn K mainGlobals "tuple"=some none)
  {zjp:Tok}(zjo:W.nsIn K mainGlobals "FEWEST_PLACES"=some (some (.int 2 zjp)))
  {zyg:Tok}(zx0:W.nsIn K mainGlobals "FIRST"=some (some (.int 2 zyg)))
  {zz8:Tok}(zzX:W.nsIn K mainGlobals "LAST"=some (some (.int 3 zz8)))
  {zvR:Tok}(zvG:W.nsIn K mainGlobals "LENGTH"=some (some (.int 3 zvR)))
  {zsK:Tok}(zsA:W.nsIn K mainGlobals "LETTERS"=some (some (.str "abcdefghijklmnopqrstuvwxyz" zsK)))
  {zly:Tok}(zlx:W.nsIn K mainGlobals "LONGEST_NAME"=some (some (.int 8 zly)))
  {zmL:Tok}(zmJ:W.nsIn K mainGlobals "MOST_PLACES"=some (some (.int 7 zmL)))
  {zpB:Tok}(zpA:W.nsIn K mainGlobals "MOST_TIES"=some (some (.int 14 zpB)))
  {zqy:Addr}{zqJ:Obj}(zvF:W.nsIn K mainGlobals "NOUGHT"=some (some (.ref zqy))) (zvJ:K.lookup zqy=some zqJ) (zvL:∃ od its n sl vs,zqJ=⟨.type "tuple",od,.seq its n,sl⟩/\zbO vs its.toList/\its.size<=sizeLine/\∀ H,Reps K H [.int 0,.int 1] vs)
  {zCn:Tok}(zCk:W.nsIn K mainGlobals "ONE"=some (some (.int 0 zCn)))
  {zyf:Tok}(zxZ:W.nsIn K mainGlobals "OTHER"=some (some (.int 1 zyf)))
  {zvQ:Tok}(zvE:W.nsIn K mainGlobals "PLACES"=some (some (.int 0 zvQ)))
  {zz7:Tok}(zzW:W.nsIn K mainGlobals "TIES"=some (some (.int 1 zz7)))
  {zz6:Tok}(zzV:W.nsIn K mainGlobals "WORD"=some (some (.int 2 zz6)))
  {zs5:Addr}{ztv:Obj}(zxY:W.nsIn K mainGlobals "WORDS"=some (some (.ref zs5))) (zx3:K.lookup zs5=some ztv) (zx8:∃ od its n sl vs,ztv=⟨.type "tuple",od,.seq its n,sl⟩/\zbO vs its.toList/\its.size<=sizeLine/\∀ H,Reps K H [.str "one",.str "both"] vs)
  {zye:Tok}(zxX:W.nsIn K mainGlobals "WORTH"=some (some (.int 4 zye))) :
  ∃ t:Adr,Txt K mg t/\t.zsp=a_42/\∃ kV doc pm an cdv ct,t.zu6=W.fnOf "law" "law" (defArgs zmO) (defBody zmO) (defScope zmO) .none kV doc pm an cdv ct:=by
 obtain⟨d_0,T_0,_⟩:=ft2 X G q_0 zdJ;obtain⟨d_1,T_1,_⟩:=ft2 X G q_1 zcG;obtain⟨d_2,T_2,_⟩:=ft2 X G q_2 zaS;obtain⟨d_3,T_3,_⟩:=ft2 X G q_3 zdV;obtain⟨d_4,T_4,_⟩:=ft2 X G q_4 zbI;obtain⟨d_5,T_5,_⟩:=ft3 X G q_5 zbb;obtain⟨d_6,T_6,_⟩:=ft3 X G q_6 zbk;obtain⟨d_7,T_7,_⟩:=ft3 X G q_7 zdu;obtain⟨d_8,T_8,_⟩:=ft1 X G q_8 zlP;obtain⟨d_9,T_9,_⟩:=ft1 X G q_9 zb7;obtain⟨d_10,T_10,_⟩:=ft1 X G q_10 zju;obtain⟨d_11,T_11,_⟩:=ft2 X G q_11 za0;obtain⟨d_12,T_12,_⟩:=ft1 X G q_12 zjv;obtain⟨d_13,T_13,_⟩:=ft1 X G q_13 ziz;obtain⟨d_14,T_14,_⟩:=ft1 X G q_14 zjt;obtain⟨d_15,T_15,_⟩:=ft1 X G q_15 znR;obtain⟨d_16,T_16,_⟩:=ft2 X G q_16 zcR;obtain⟨d_17,T_17,_⟩:=ft2 X G q_17 zjx;obtain⟨d_18,T_18,_⟩:=ft1 X G q_18 zgr;obtain⟨d_19,T_19,_⟩:=ft2 X G q_19 zfc;obtain⟨d_20,T_20,_⟩:=ft2 X G q_20 zbp;obtain⟨d_21,T_21,_⟩:=ft1 X G q_21 zbE;obtain⟨d_22,T_22,_⟩:=ft2 X G q_22 zjy;obtain⟨d_23,T_23,_⟩:=ft1 X G q_23 zdU;obtain⟨d_24,T_24,_⟩:=ft1 X G q_24 zew;obtain⟨d_25,T_25,_⟩:=ft1 X G q_25 zek;obtain⟨d_26,T_26,_⟩:=ft2 X G q_26 zbx;obtain⟨d_27,T_27,_⟩:=ft3 X G q_27 za2;obtain⟨d_28,T_28,_⟩:=ft3 X G q_28 zbH;obtain⟨d_29,T_29,_⟩:=ft2 X G q_29 zjb;obtain⟨d_30,T_30,_⟩:=ft2 X G q_30 zdj;obtain⟨d_31,T_31,_⟩:=ft2 X G q_31 ziy;obtain⟨d_32,T_32,_⟩:=ft2 X G q_32 ziC;obtain⟨d_33,T_33,_⟩:=ft2 X G q_33 ziB;obtain⟨d_34,T_34,_⟩:=ft1 X G q_34 zjw;obtain⟨d_35,T_35,_⟩:=ft2 X G q_35 zcc;obtain⟨d_36,T_36,_⟩:=ft2 X G q_36 zlQ;obtain⟨d_37,T_37,_⟩:=ft2 X G q_37 zsW;obtain⟨d_38,T_38,_⟩:=ft3 X G q_38 znS;obtain⟨d_39,T_39,_⟩:=ft3 X G q_39 zcd;obtain⟨d_40,T_40,_⟩:=ft2 X G q_40 ziA;obtain⟨d_41,T_41,_⟩:=ft3 X G q_41 zaY;obtain⟨d_42,T_42,zDs⟩:=ft1 X G q_42 zg4;refine⟨⟨a_0,d_0,a_1,d_1,a_2,d_2,a_3,d_3,a_4,d_4,a_5,d_5,a_6,d_6,a_7,d_7,a_8,d_8,a_9,d_9,a_10,d_10,a_11,d_11,a_12,d_12,a_13,d_13,a_14,d_14,a_15,d_15,a_16,d_16,a_17,d_17,a_18,d_18,a_19,d_19,a_20,d_20,a_21,d_21,a_22,d_22,a_23,d_23,a_24,d_24,a_25,d_25,a_26,d_26,a_27,d_27,a_28,d_28,a_29,d_29,a_30,d_30,a_31,d_31,a_32,d_32,a_33,d_33,a_34,d_34,a_35,d_35,a_36,d_36,a_37,d_37,a_38,d_38,a_39,d_39,a_40,d_40,a_41,d_41,a_42,d_42⟩,⟨T_0,T_1,T_2,T_3,T_4,T_5,T_6,T_7,T_8,T_9,T_10,T_11,T_12,T_13,T_14,T_15,T_16,T_17,T_18,T_19,T_20,T_21,T_22,T_23,T_24,T_25,T_26,T_27,T_28,T_29,T_30,T_31,T_32,T_33,T_34,T_35,T_36,T_37,T_38,T_39,T_40,T_41,T_42,W.mg_none_of X G z_abs,W.mg_none_of X G z_all,W.mg_none_of X G z_bool,W.mg_none_of X G z_dict,W.mg_none_of X G z_enumerate,W.mg_none_of X G z_int,W.mg_none_of X G z_isinstance,W.mg_none_of X G z_len,W.mg_none_of X G z_list,W.mg_none_of X G z_max,W.mg_none_of X G z_min,W.mg_none_of X G z_range,W.mg_none_of X G z_repr,W.mg_none_of X G z_sorted,W.mg_none_of X G z_str,W.mg_none_of X G z_tuple,?zeb,?zis,?zlb,?zhE,?zla,?zeu,?zfa,?zgZ,?zny,?zqh,?zgY,?zej,?ziS,?zpj,?zqg,?znx⟩,rfl,zDs⟩
 case zeb=>exact zdq (W.mg_of X G zjo)
 case zis=>exact zdq (W.mg_of X G zx0)
 case zlb=>exact zdq (W.mg_of X G zzX)
 case zhE=>exact zdq (W.mg_of X G zvG)
 case zla=>exact zy5 (W.mg_of X G zsA)
 case zeu=>exact zdq (W.mg_of X G zlx)
 case zfa=>exact zdq (W.mg_of X G zmJ)
 case zgZ=>exact zdq (W.mg_of X G zpA)
 case zny =>
  obtain⟨od,its,n,sl,vs,rfl,h1,h2,h3⟩:=zvL;exact ztI (W.mg_of X G zvF) zvJ h1 h2 h3
 case zqh=>exact zdq (W.mg_of X G zCk)
 case zgY=>exact zdq (W.mg_of X G zxZ)
 case zej=>exact zdq (W.mg_of X G zvE)
 case ziS=>exact zdq (W.mg_of X G zzW)
 case zpj=>exact zdq (W.mg_of X G zzV)
 case zqg =>
  obtain⟨od,its,n,sl,vs,rfl,h1,h2,h3⟩:=zx8;exact ztI (W.mg_of X G zxY) zx3 h1 h2 h3
 case znx=>exact zdq (W.mg_of X G zxX)
theorem txt_wr {K:W.Frag}{mg:Str->Option Value}{a:Addr}{R:Adr->Prop}(h:∃ t:Adr,Txt K mg t/\t.zsp=a/\R t):∃ t:Adr,Txt K mg t/\mg "law"=some (.ref t.zsp)/\R t:=h.elim fun t ⟨T,_,r⟩=>⟨t,T,T.zBo.g,r⟩
end K17
local macro_rules | `(tactic| open_line with[$xs,*])=>`(tactic| simp only[zsa,zoq,zkc,zkb,zka,zj9,zkp,zop,zj8,zot,zkg,zkf,zkK,zho,zua,zoP,zoO,zoD,zkn,zoY,zkm,zkM,zov,zkk,zkj,zhi,zoQ,zog,zoB,zkl,zuo,zun,zoX,zum,zoI,zkL,zhq,zhp,zoZ,zkO,zkN,zt6,zoG,zoF,zoH,zko,zoN,zkH,zkG,zof,zj1,zBq,zj7,zoo,zj6,zj5,zj4,znc,zq8,zq7,zq6,znd,zjl,zhr,zos,zke,zkd,zt5,zoE,zt7,zt3,zon,zom,zol,zoR,zkJ,zhs,zub,zoU,zoT,zoS,zoM,zo0,zoJ,zt9,zt8,zds,zkq,zoC,zl8,zjP,List.map_cons,List.map_nil,List.length_cons,List.length_nil,List.replicate_succ,List.replicate_zero,List.nil_append,List.cons_append,List.getElem?_cons_zero,List.getElem?_cons_succ,List.set_cons_zero,List.set_cons_succ,Nat.sub_zero,Nat.reduceSub,Nat.reduceAdd,Nat.add_zero,Nat.zero_add,Bool.not_true,Bool.not_false,zok,zoL,zfX,ze6,zht,zoK,zj3,zj2,zt4,zor,zt2,zoj,zoi,zoh,zij,zii,zkF,zkE,zkD,zkC,zkB,zkA,zkz,zky,zhn,zhm,zhl,zhk,zkx,zkw,zkv,zku,zkt,zks,decide_true,decide_false,Nat.reduceLeDiff,Nat.reduceBEq,Int.reduceBEq,beq_self_eq_true,DL.dOne,DL.mYes,zcv,zda,zcx,zcu,zct,zcw,zcy,zc5,zdx,zc7,zc4,zc3,zc6,zc8,zcY,zdw,zc0,zcX,zcW,zcZ,zc1,zbZ,zcg,zb1,zbY,zbX,zb0,zb2,zcj,zc2,zcl,zci,zch,zck,zcm,zcp,zc9,zcr,zco,zcn,zcq,zcs,zeG,zd5,zfW,zeD,zeI,zd7,zeF,zd4,zeE,zd3,zeH,zd6,zeJ,zd8,zul,zuk,zuj,zui,zuh,zug,zuf,zue,zud,zuc,zoW,zoV,Int.reduceLT,Int.reduceLE,Int.reduceSub,Int.reduceAdd,Int.reduceMul,Int.reduceNeg,zkr,zhj,zoA,zoz,zoy,zox,zow,zou,zki,zkh,Int.reduceToNat,Bool.and_self,znf,zjk,znb,zjj,zna,zji,zm9,zjh,znj,zq9,zni,znh,zng,zwF,zq4,zsb,zkI,zq2,zik,znk,zne,zwD,zwG,zq5,zwE,zq3,zwH,zl6,zwC,zxv,zuy,zux,zuw,zuv,zuI,zuF,zre,zrd,zrc,zxu,zuu,zxx,zuC,zuB,zrb,zBu,zxB,zxA,zDY,zBA,zDZ,zBx,zBy,zBv,zBw,zDW,zDX,zBz,zBt,zuH,zBs,zxt,zD0,zBC,zBB,zxz,zuK,zrg,zrf,zD1,zBD,zuM,zrh,zxy,zuE,zuD,zxE,zuG,zp5,zxC,zxF,zuO,zuN,zxs,zut,zus,znn,zxD,zuJ,zuL,zxw,zuA,zuz,$[$xs:term],*])
local macro_rules | `(tactic| open_line with[$xs,*] seeing $h)=>`(tactic| simp only[zsa,zoq,zkc,zkb,zka,zj9,zkp,zop,zj8,zot,zkg,zkf,zkK,zho,zua,zoP,zoO,zoD,zkn,zoY,zkm,zkM,zov,zkk,zkj,zhi,zoQ,zog,zoB,zkl,zuo,zun,zoX,zum,zoI,zkL,zhq,zhp,zoZ,zkO,zkN,zt6,zoG,zoF,zoH,zko,zoN,zkH,zkG,zof,zj1,zBq,zj7,zoo,zj6,zj5,zj4,znc,zq8,zq7,zq6,znd,zjl,zhr,zos,zke,zkd,zt5,zoE,zt7,zt3,zon,zom,zol,zoR,zkJ,zhs,zub,zoU,zoT,zoS,zoM,zo0,zoJ,zt9,zt8,zds,zkq,zoC,zl8,zjP,List.map_cons,List.map_nil,List.length_cons,List.length_nil,List.replicate_succ,List.replicate_zero,List.nil_append,List.cons_append,List.getElem?_cons_zero,List.getElem?_cons_succ,List.set_cons_zero,List.set_cons_succ,Nat.sub_zero,Nat.reduceSub,Nat.reduceAdd,Nat.add_zero,Nat.zero_add,Bool.not_true,Bool.not_false,zok,zoL,zfX,ze6,zht,zoK,zj3,zj2,zt4,zor,zt2,zoj,zoi,zoh,zij,zii,zkF,zkE,zkD,zkC,zkB,zkA,zkz,zky,zhn,zhm,zhl,zhk,zkx,zkw,zkv,zku,zkt,zks,decide_true,decide_false,Nat.reduceLeDiff,Nat.reduceBEq,Int.reduceBEq,beq_self_eq_true,DL.dOne,DL.mYes,zcv,zda,zcx,zcu,zct,zcw,zcy,zc5,zdx,zc7,zc4,zc3,zc6,zc8,zcY,zdw,zc0,zcX,zcW,zcZ,zc1,zbZ,zcg,zb1,zbY,zbX,zb0,zb2,zcj,zc2,zcl,zci,zch,zck,zcm,zcp,zc9,zcr,zco,zcn,zcq,zcs,zeG,zd5,zfW,zeD,zeI,zd7,zeF,zd4,zeE,zd3,zeH,zd6,zeJ,zd8,zul,zuk,zuj,zui,zuh,zug,zuf,zue,zud,zuc,zoW,zoV,Int.reduceLT,Int.reduceLE,Int.reduceSub,Int.reduceAdd,Int.reduceMul,Int.reduceNeg,zkr,zhj,zoA,zoz,zoy,zox,zow,zou,zki,zkh,Int.reduceToNat,Bool.and_self,znf,zjk,znb,zjj,zna,zji,zm9,zjh,znj,zq9,zni,znh,zng,zwF,zq4,zsb,zkI,zq2,zik,znk,zne,zwD,zwG,zq5,zwE,zq3,zwH,zl6,zwC,zxv,zuy,zux,zuw,zuv,zuI,zuF,zre,zrd,zrc,zxu,zuu,zxx,zuC,zuB,zrb,zBu,zxB,zxA,zDY,zBA,zDZ,zBx,zBy,zBv,zBw,zDW,zDX,zBz,zBt,zuH,zBs,zxt,zD0,zBC,zBB,zxz,zuK,zrg,zrf,zD1,zBD,zuM,zrh,zxy,zuE,zuD,zxE,zuG,zp5,zxC,zxF,zuO,zuN,zxs,zut,zus,znn,zxD,zuJ,zuL,zxw,zuA,zuz,$[$xs:term],*] at $(⟨h⟩):ident)
namespace Bor
open PySem L2 DL Com
def St (st:List D):Prop:=∃ (c s:Int) (b:Bool),st=[.int c,.int s,.bl b]/\0<=s/\s < 2147483647
theorem p6:zsw (.int 10) (.int 6)=.ok (.int 1000000):=zat rfl
def next (s:Int):Int:=(s*39373+17).fmod 2147483647
theorem ztx (s:Int):0<=next s/\next s < 2147483647:=zfu (by decide)
def mix (m s:Int):Int:=m*2147483587+(s*s).fmod 2147483587
theorem zya {a:Addr}{n c s m:Int}{b:Bool}{k:Int}(h0:0<=s)(h1:s < 2147483647)(hm:0<=m/\m < 1000000000000000000000000000) :
  (za8 (zxm 0 a (mV 0 a (zaa (zaa (zaa (zaa (zad 0) (dC (.int 1)) dIx) (dC (.int 39373)) zbN) (dC (.int 17)) zcP) (dC (.int 2147483647)) zfw)) (mP (dC (.int 1))))
 (za8 (zgu 3 (mV 0 a (zaa (zaa (zad 3) (dC (.int 2147483587)) zbN) (zaa (zaa (zaa (zad 0) (dC (.int 1)) dIx) (zaa (zad 0) (dC (.int 1)) dIx) zbN) (dC (.int 2147483587)) zfw) zcP)))
 zbe)) [.pt a,.sh (.int n),.no,.sh (.int m),.sh (.int k)] [.int c,.int s,.bl b]=.ok (.nx [.pt a,.sh (.int n),.no,.sh (.int (mix m (next s))),.sh (.int k)] [.int c,.int (next s),.bl b]):=by
 have o1:zer s 39373=true:=ze1 (by omega) (by decide);have g:=ztx s;have o2:zer (next s) (next s)=true:=ze1 (by omega) (by omega);have o3:zer m 2147483587=true:=zeA (Nat.lt_trans (show m.natAbs < 1000000000000000000000000000 by omega) (by rw[zmG];decide +kernel)) (Nat.lt_trans (show(2147483587:Int).natAbs < 2147483588 by decide) (by rw[zmG];decide +kernel));have e:(s*39373+17).fmod 2147483647=next s:=rfl;have hp:∀ (ρ:Ev) (d:D),zjD ρ d (.int 1,[.int c,.int s,.bl b])=.ok (.nx ρ [.int c,d,.bl b]):=fun _ _=>rfl;open_line with[zbW o1,e,zbW o2,zbW o3,hp,mix]
theorem za9 (a:Addr){n:Int}(n0:0 < n)(n1:n<=1000000000000000000){st:List D}(h:St st):∃ (d:Int) (st':List D),zas a st [.int n]=.ok (.int d,st')/\0<=d/\d < n/\St st':=by
 obtain⟨c,s,b,rfl,s0,s1⟩:=h;have hn0:(n==0)=false:=beq_eq_false_iff_ne.mpr (by omega);have hd:zfv c n=true:=zzn (by omega) (Nat.lt_of_le_of_lt (show n.natAbs<=1000000000000000000 by omega) (by rw[zw1];decide +kernel));cases b with
 | true =>
  have f:=zfu (a:=c) (b:=n) n0;have p0:∀ (ρ:Ev) (d:D),zjD ρ d (.int 0,[.int c,.int s,.bl true])=.ok (.nx ρ [d,.int s,.bl true]):=fun _ _=>rfl;have p2:∀ (ρ:Ev) (d:D),zjD ρ d (.int 2,[.int (c.fdiv n),.int s,.bl true])=.ok (.nx ρ [.int (c.fdiv n),.int s,d]):=fun _ _=>rfl;refine⟨c.fmod n,[.int (c.fdiv n),.int s,.bl (decide (c.fdiv n > 0))],?_,f.1,f.2,_,_,_,rfl,s0,s1⟩;open_line with[zas,zg0,hn0,zl7 hd,p0,p2]
 | false =>
  have key:∃ t:Nat,t<=3/\∀ x2 x3 x4:Sl,(zgI (zaa (dC (.int 1)) (zaa (dC (.int 2)) (zam (zae (zaa (zad 1) (zaa (dC (.int 10)) (dC (.int 6)) zsw) dGt) zaH) (m1 zk3)) zbN) zcP)) [.pt a,.sh (.int n),x2,x3,x4]=.ok (intsFrom 0 t):=by
   by_cases hb:n > 1000000
   .refine⟨3,by decide,fun x2 x3 x4=>?_⟩
    have o:zer 2 1=true:=ze1 (by decide) (by decide);have:(zaa (dC (.int 1)) (zaa (dC (.int 2)) (zam (zae (zaa (zad 1) (zaa (dC (.int 10)) (dC (.int 6)) zsw) dGt) zaH) (m1 zk3)) zbN) zcP) [.pt a,.sh (.int n),x2,x3,x4]=.ok (.int 3):=by
     open_line with[p6,decide_eq_true hb,zbW o]
    unfold zgI;rw[this];rfl
   .refine⟨1,by decide,fun x2 x3 x4=>?_⟩
    have o:zer 2 0=true:=ze1 (by decide) (by decide);have:(zaa (dC (.int 1)) (zaa (dC (.int 2)) (zam (zae (zaa (zad 1) (zaa (dC (.int 10)) (dC (.int 6)) zsw) dGt) zaH) (m1 zk3)) zbN) zcP) [.pt a,.sh (.int n),x2,x3,x4]=.ok (.int 1):=by
     open_line with[p6,decide_eq_false hb,zbW o]
    unfold zgI;rw[this];rfl
  obtain⟨t,ht,hsrc⟩:=key;have hlen:(intsFrom 0 t).length=t:=by unfold DL.intsFrom;simp
  obtain⟨ρ2,st2,hl,m,s',x4,rfl,rfl,k0,k1,m0,_⟩:=zjg (tg:=zdN 4) (body:=(za8 (zxm 0 a (mV 0 a (zaa (zaa (zaa (zaa (zad 0) (dC (.int 1)) dIx) (dC (.int 39373)) zbN) (dC (.int 17)) zcP) (dC (.int 2147483647)) zfw)) (mP (dC (.int 1))))
 (za8 (zgu 3 (mV 0 a (zaa (zaa (zad 3) (dC (.int 2147483587)) zbN) (zaa (zaa (zaa (zad 0) (dC (.int 1)) dIx) (zaa (zad 0) (dC (.int 1)) dIx) zbN) (dC (.int 2147483587)) zfw) zcP)))
 zbe)))
   (fun j ρ st=>∃ (m s:Int) (x4:Sl),ρ=[.pt a,.sh (.int n),.no,.sh (.int m),x4]/\st=[.int c,.int s,.bl false]/\0<=s/\s < 2147483647/\0<=m/\m < (2147483587:Int) ^ j)
   (intsFrom 0 t) (by
    rintro j d ρ st hj ⟨m,s,x4,rfl,rfl,s0,s1,m0,m1⟩;have hjt:j < t:=by have:=(List.getElem?_eq_some_iff.mp hj).1;omega
    have hd:d=.int (j:Int):=by
     unfold DL.intsFrom at hj;rw[List.getElem?_map,List.getElem?_range hjt] at hj;simp at hj;exact hj.symm
    subst hd;have hm:m < 1000000000000000000000000000:=by
     have hj3:j=0∨j=1∨j=2:=by omega
     rcases hj3 with rfl | rfl | rfl<;>omega
    have g:=ztx s;have r:=zfu (a:=next s*next s) (b:=2147483587) (by decide);refine⟨_,_,_,rfl,.inl (zya (k:=(j:Int)) s0 s1 ⟨m0,hm⟩),mix m (next s),next s,_,rfl,rfl,g.1,g.2,?_,?_⟩
    .unfold mix
     have:0<=m*2147483587:=Int.mul_nonneg m0 (by decide);omega
    .unfold mix
     rw[Int.pow_succ];omega) 0 [.pt a,.sh (.int n),.no,.sh (.int 0),.no] [.int c,.int s,.bl false] (Nat.zero_le _) ⟨0,s,_,rfl,rfl,s0,s1,by decide,by decide⟩
  rw[List.drop_zero] at hl;have f:=zfu (a:=m.fdiv 64) (b:=n) n0;have hd64:zfv m 64=true:=zzn (by decide) (by rw[zw1];decide +kernel);refine⟨(m.fdiv 64).fmod n,[.int c,.int s',.bl false],?_,f.1,f.2,c,s',false,rfl,k0,k1⟩;open_line with[zas,zg0,hsrc,hl,zl7 hd64,hn0]
theorem zwW (ns:List Int)(k:Nat)(hk:k<=1000)(hl:ns.length<=63):∃ st,za7 [.lst (ns.map D.int),.int k]=.ok (.lst st)/\St st:=by
 have hlen:zgl (.lst (ns.map D.int))=.ok (.int ns.length):=by
  rw[zds,List.length_map]
 have o1:zer 104729 (k:Int)=true:=ze1 (by decide) (by omega);have o2:zer (104729*(k:Int)) (k:Int)=true:=ze1 (by omega) (by omega)
 by_cases h:k < ns.length
 .have hix:dIx (.lst (ns.map D.int)) (.int (k:Int))=.ok (.int ns[k]):=zjW (by rw[List.getElem?_map,List.getElem?_eq_getElem h];rfl)
  have f:=zfu (a:=(ns[k].fmod 2147483587+104729*(k:Int)*(k:Int)+7)) (b:=2147483587) (by decide);refine⟨[.int ns[k],.int ((ns[k].fmod 2147483587+104729*(k:Int)*(k:Int)+7).fmod 2147483587),.bl (decide (ns[k]≥1000000000000000000))],?_,_,_,_,rfl,f.1,by omega⟩;unfold za7 zAw zf8;open_line with[hlen,hix,zl6,zbW o1,zbW o2,decide_eq_true (show(k:Int) < (ns.length:Int) by omega),zrI,zCy,zsZ,zCQ]
 .have f:=zfu (a:=((0:Int).fmod 2147483587+104729*(k:Int)*(k:Int)+7)) (b:=2147483587) (by decide)
  refine⟨[.int 0,.int (((0:Int).fmod 2147483587+104729*(k:Int)*(k:Int)+7).fmod 2147483587),.bl false],?_,_,_,_,rfl,f.1,by omega⟩;unfold za7 zAw zf8;open_line with[hlen,zl6,zbW o1,zbW o2,decide_eq_false (show ¬ (k:Int) < (ns.length:Int) by omega),zrI,zCy,zsZ,zCQ]
theorem p12:zsw (.int 10) (.int 12)=.ok (.int 1000000000000):=zat rfl
structure Amt (x:Fra):Prop where
 lo:Low x
 p0:0<=x.1
 p1:x.1<=1000000000000
 q1:x.2<=60
theorem zzE {c q:Int}(h0:0<=c)(h1:c<=1000000000000)(hq:0 < q)(hq2:q<=60):Amt (low c q):=by
 have a1:=zpX (a:=c) (b:=q);have a2:=zpW (a:=c) (b:=q);have hl:=zic (a:=c) hq;have:=hl.q1;exact⟨hl,zgh h0 hq,by omega,by omega⟩
theorem ziw (a:Addr){l:Int}(hl:l=0∨l=1){st:List D}(h:St st):∃ (x:Fra) (st':List D),zbh a st [.int l]=.ok (fr x,st')/\zgo x/\0<=x.1/\(l=1->0 < x.1)/\Amt x/\St st':=by
 have hN:(1000000000000000000000:Int) < (N60:Int):=by decide
 obtain⟨w,st1,t1,w0,w1,S1⟩:=za9 a (n:=6) (by decide) (by decide) h;obtain⟨t,m,ht,hm,i1,i2⟩:∃ t m:Int,(0 < t/\t<=1000000000000)/\(0 < m/\m<=12)/\dIx (.lst [.int 3,.int 6,.int 20,.int 12,.int 90,.int 1000000000000]) (.int w)=.ok (.int t)/\dIx (.lst [.int 1,.int 1,.int 1,.int 4,.int 12,.int 12]) (.int w)=.ok (.int m):=by
  have:w=0∨w=1∨w=2∨w=3∨w=4∨w=5:=by omega
  rcases this with rfl | rfl | rfl | rfl | rfl | rfl
  .exact⟨3,1,by decide,by decide,rfl,rfl⟩
  .exact⟨6,1,by decide,by decide,rfl,rfl⟩
  .exact⟨20,1,by decide,by decide,rfl,rfl⟩
  .exact⟨12,4,by decide,by decide,rfl,rfl⟩
  .exact⟨90,12,by decide,by decide,rfl,rfl⟩
  .exact⟨1000000000000,12,by decide,by decide,rfl,rfl⟩
 obtain⟨u,st2,t2,u0,u1,S2⟩:=za9 a (n:=t) ht.1 (by omega) S1;obtain⟨v,st3,t3,v0,v1,S3⟩:=za9 a (n:=m) hm.1 (by omega) S2;obtain⟨q,hq,i3⟩:∃ q:Int,(0 < q/\q<=60)/\dIx (.lst [.int 1,.int 2,.int 3,.int 4,.int 5,.int 6,.int 10,.int 12,.int 15,.int 20,.int 30,.int 60]) (.int v)=.ok (.int q):=by
  have:v=0∨v=1∨v=2∨v=3∨v=4∨v=5∨v=6∨v=7∨v=8∨v=9∨v=10∨v=11:=by omega
  rcases this with rfl | rfl | rfl | rfl | rfl | rfl | rfl | rfl | rfl | rfl | rfl | rfl
  .exact⟨1,by decide,rfl⟩
  .exact⟨2,by decide,rfl⟩
  .exact⟨3,by decide,rfl⟩
  .exact⟨4,by decide,rfl⟩
  .exact⟨5,by decide,rfl⟩
  .exact⟨6,by decide,rfl⟩
  .exact⟨10,by decide,rfl⟩
  .exact⟨12,by decide,rfl⟩
  .exact⟨15,by decide,rfl⟩
  .exact⟨20,by decide,rfl⟩
  .exact⟨30,by decide,rfl⟩
  .exact⟨60,by decide,rfl⟩
 have hlo:=Cod.low_ok (a:=l+u) (b:=q) (by omega) (zDT (by omega) (by omega)) (zDT (by omega) (by omega));refine⟨low (l+u) q,st3,?_,zCZ (by omega) (by omega) (by omega),zgh (by omega) (by omega),fun e=>zy4 (by omega) (by omega),zzE (by omega) (by omega) (by omega) (by omega),S3⟩;open_line with[zbh,zhL,t1,t2,t3,i1,i2,i3,p12,hlo]
theorem zrW {k n:Int}(hn:2<=n):k.fmod n≠(k+1).fmod n:=by
 rw[Int.fmod_eq_emod_of_nonneg _ (by omega),Int.fmod_eq_emod_of_nonneg _ (by omega)];intro e;have:=Int.emod_eq_emod_iff_emod_sub_eq_zero.mp e.symm;rw[show k+1-k=1 by omega,Int.emod_eq_of_lt (by decide) (by omega)] at this;cases this
def zlp (t:Tie):Prop:=Amt t.l/\∀ x,t.o=some x->Amt x
theorem zyd (a:Addr){zs:List Str}{k:Nat}(h2:2<=zs.length)(h8:zs.length<=8)(nd:zs.Nodup){st:List D}(h:St st):∃ (t:Tie) (st':List D),zbL a st [.lst (zs.map D.str),.int k]=.ok (zbS t,st')/\zqk zs t/\zlp t/\St st':=by
 have hlen:zgl (.lst (zs.map D.str))=.ok (.int zs.length):=by rw[zds,List.length_map]
 have hn0:((zs.length:Int)==0)=false:=beq_eq_false_iff_ne.mpr (by omega);obtain⟨d,st1,t1,d0,d1,S1⟩:=za9 a (n:=(zs.length:Int)) (by omega) (by omega) h;obtain⟨e,st2,t2,e0,e1,S2⟩:=za9 a (n:=(zs.length:Int)-1) (by omega) (by omega) S1;obtain⟨f,st3,t3,f0,f1,S3⟩:=za9 a (n:=2) (by decide) (by decide) S2;obtain⟨g,st4,t4,g0,g1,S4⟩:=za9 a (n:=2) (by decide) (by decide) S3;obtain⟨x,st5,t5,fx,lx,_,ax,S5⟩:=ziw a (l:=0) (.inl rfl) S4;obtain⟨y,st6,t6,fy,_,ly,ay,S6⟩:=ziw a (l:=1) (.inr rfl) S5;obtain⟨v,st7,t7,v0,v1,S7⟩:=za9 a (n:=4) (by decide) (by decide) S6;obtain⟨wd,hw,jw⟩:=zx4 g0 g1;obtain⟨p,q,hp,hq,hpq,hplace⟩:∃ p q:Int,(0<=p/\p < (zs.length:Int))/\(0<=q/\q < (zs.length:Int))/\p≠q/\(((f==0)=true/\p=(k:Int).fmod (zs.length:Int)/\q=((k:Int)+1).fmod (zs.length:Int))∨((f==0)=false/\p=d/\q=(d+1+e).fmod (zs.length:Int))):=by
  cases h10:(f==0) with
  | true=>exact⟨_,_,zfu (by omega),zfu (by omega),zrW (by omega),.inl ⟨rfl,rfl,rfl⟩⟩
  | false =>
   obtain⟨hr,hne⟩:=zpq (n:=(zs.length:Int)) (d:=d) (e:=e) (by omega) d0 d1 e0 e1;exact⟨_,_,⟨d0,d1⟩,hr,Ne.symm hne,.inr ⟨rfl,rfl,rfl⟩⟩
 obtain⟨z1,k1,j1⟩:=zlL (zs:=zs) hp.1 hp.2;obtain⟨z2,k2,j2⟩:=zlL (zs:=zs) hq.1 hq.2;have hz12:z1≠z2:=zjc nd k1 k2 (by omega);cases h4:(v==0) with
 | true =>
  refine⟨⟨z1,z2,wd,x,none⟩,st7,?_,⟨List.mem_of_getElem? k1,List.mem_of_getElem? k2,hz12,hw,fx,lx,fun _ hv=>nomatch hv⟩,⟨ax,fun _ hv=>nomatch hv⟩,S7⟩;rw[show zbS ⟨z1,z2,wd,x,none⟩=.tup [.str z1,.str z2,.str wd,fr x,.non] from rfl];rcases hplace with⟨h10,e1,e2⟩ | ⟨h10,e1,e2⟩
  .rw[e2] at j2;rw[e1] at j1
   open_line with[zbL,zeO,hlen,t1,t2,t3,t4,t5,t6,t7,zu8,hn0,h10,h4,jw,j1,j2]
  .rw[e2] at j2;rw[e1] at j1
   open_line with[zbL,zeO,hlen,t1,t2,t3,t4,t5,t6,t7,zu8,hn0,h10,h4,jw,j1,j2]
 | false =>
  refine⟨⟨z1,z2,wd,x,some y⟩,st7,?_,⟨List.mem_of_getElem? k1,List.mem_of_getElem? k2,hz12,hw,fx,lx,fun _ hv=>by cases hv;exact⟨fy,ly rfl⟩⟩,⟨ax,fun _ hv=>by cases hv;exact ay⟩,S7⟩;rw[show zbS ⟨z1,z2,wd,x,some y⟩=.tup [.str z1,.str z2,.str wd,fr x,fr y] from rfl];rcases hplace with⟨h10,e1,e2⟩ | ⟨h10,e1,e2⟩
  .rw[e2] at j2;rw[e1] at j1
   open_line with[zbL,zeO,hlen,t1,t2,t3,t4,t5,t6,t7,zu8,hn0,h10,h4,jw,j1,j2]
  .rw[e2] at j2;rw[e1] at j1
   open_line with[zbL,zeO,hlen,t1,t2,t3,t4,t5,t6,t7,zu8,hn0,h10,h4,jw,j1,j2]
theorem ztP:∀ {es:List D}{P:Int->Prop},(∀ e∈es,∃ l,e=D.int l/\P l)->∃ ls:List Int,es=ls.map D.int/\∀ l∈ls,P l
 | [],P,_=>⟨[],rfl,fun l h=>by simp at h⟩
 | e::es,P,h=>by
  obtain⟨l,rfl,hl⟩:=h e (by simp);obtain⟨ls,rfl,hs⟩:=ztP (es:=es) (P:=P) fun e he=>h e (List.mem_cons_of_mem _ he);exact⟨l::ls,rfl,fun x hx=>by
   rcases List.mem_cons.mp hx with rfl | hx
   .exact hl
   .exact hs x hx⟩
theorem zr1 (a:Addr){st:List D}(h:St st):∃ (ls:List Int) (st':List D),zpb [.no,.pt a] (zdN 0) (zbm 1 a (zaZ (mP (dC (.int 26))) zee) zas) (DL.intsFrom 0 8,st)=.ok (.lst (ls.map D.int),st')/\ls.length=8/\(∀ l∈ls,0<=l/\l < 26)/\St st':=by
 obtain⟨es,st',h1,h2,h3,h4⟩:=zpe (b:=[.no,.pt a]) (tg:=zdN 0) (fm:=zbm 1 a (zaZ (mP (dC (.int 26))) zee) zas) St (fun e=>∃ l,e=D.int l/\0<=l/\l < 26) (DL.intsFrom 0 8) st h (by
  intro d st _ h;obtain⟨x,st',t1,x0,x1,S1⟩:=za9 a (n:=26) (by decide) (by decide) h;refine⟨_,.int x,st',rfl,?_,⟨x,rfl,x0,x1⟩,S1⟩;open_line with[t1])
 obtain⟨ls,rfl,hls⟩:=ztP h3;refine⟨ls,st',?_,by simpa [DL.intsFrom] using h2,hls,h4⟩;unfold zpb;rw[if_pos (show(DL.intsFrom 0 8).length<=line by decide),h1];rfl
def zxP (l:Int):Nat:=97+l.toNat
theorem zw3 {f g:Ev->Res D}{ρ:Ev}{ls:List Int}{m:Nat}(hf:f ρ=.ok (.lst (ls.map D.int)))(hg:g ρ=.ok (.int (m:Int)))(hm:m<=ls.length)(hl:ls.length<=1000):zsv f zft (ze0 g) ρ=.ok (.lst ((ls.take m).map D.int)):=by
 unfold zsv;rw[hf];simp only[Res.bind,zft,ze0,hg];exact congrArg (fun z=>Res.ok (D.lst z)) (zxN hm)
theorem zyl {ρ:Ev}{ls:List Int}(hl:ls.length<=100)(hb:∀ l∈ls,0<=l/\l < 26):ziq 1 [] (zdN 0) mYes (zaa (dC (.str "abcdefghijklmnopqrstuvwxyz")) (zad 0) dIx) ρ (ls.map D.int)=.ok (.lst ((ls.map zxP).map fun c=>D.str ⟨#[c]⟩)):=by
 rw[znq (F:=fun d=>match d with | .int l=>.str ⟨#[zxP l]⟩ | d=>d) (by rw[List.length_map];omega)]
 .congr 2
  rw[List.map_map,List.map_map];rfl
 .intro d hd
  obtain⟨l,hl',rfl⟩:=List.mem_map.mp hd;obtain⟨b0,b1⟩:=hb l hl';refine⟨[.sh (.int l)],rfl,rfl,?_⟩;open_line with[zB0 b0 b1]
  rfl
theorem zyk {ls:List Int}(hl:ls.length<=100):zm4 "" [.lst ((ls.map zxP).map fun c=>D.str ⟨#[c]⟩)]=.ok (.str (Cod.S (ls.map zxP))):=zr5 (cs:=ls.map zxP) (by rw[List.length_map];omega)
noncomputable def zsu (ls:List Int) (lg at_:Nat) (tu sp:Int) (ne:Bool) (k:Nat):List Int:=if ne=true then ls.take (1+((tu+(k:Int)).fmod 8).toNat) else(ls.take lg).set at_ ((tu+sp*(k:Int)).fmod 26)
noncomputable def nm (ls:List Int) (lg at_:Nat) (tu sp:Int) (ne:Bool) (k:Nat):List Nat:=(zsu ls lg at_ tu sp ne k).map zxP
section
variable {ls:List Int}{lg at_:Nat}{tu sp:Int}{ne:Bool}(h8:ls.length=8) (hb:∀ l∈ls,0<=l/\l < 26) (g1:1<=lg) (g8:lg<=8) (ha:at_ < lg)
include hb in
theorem ztG {k:Nat}:∀ l∈zsu ls lg at_ tu sp ne k,0<=l/\l < 26:=by
 intro l hl;unfold zsu at hl;cases ne with
 | true=>rw[if_pos rfl] at hl;exact hb l (List.mem_of_mem_take hl)
 | false =>
  rw[if_neg (by decide)] at hl;rcases List.mem_or_eq_of_mem_set hl with hl | rfl
  .exact hb l (List.mem_of_mem_take hl)
  .exact zfu (by decide)
include h8 g8 in
theorem zje {k:Nat}:(zsu ls lg at_ tu sp ne k).length=if ne=true then 1+((tu+(k:Int)).fmod 8).toNat else lg:=by
 unfold zsu;have:=zfu (a:=tu+(k:Int)) (b:=8) (by decide);cases ne with
 | true=>rw[if_pos rfl,if_pos rfl,List.length_take,h8];omega
 | false=>rw[if_neg (by decide),if_neg (by decide),List.length_set,List.length_take,h8];omega
include h8 hb g1 g8 in
theorem zCT {k:Nat}:Cod.IsNm (nm ls lg at_ tu sp ne k):=by
 have hl:=zje (tu:=tu) (sp:=sp) (ne:=ne) (at_:=at_) h8 g8 (k:=k);have:=zfu (a:=tu+(k:Int)) (b:=8) (by decide);refine⟨?_,?_,fun x hx=>?_⟩
 .unfold nm;rw[List.length_map,hl];split<;>omega
 .unfold nm;rw[List.length_map,hl];split<;>omega
 .unfold nm at hx
  obtain⟨l,hl,rfl⟩:=List.mem_map.mp hx;have:=ztG hb l hl;exact zB1 _ (by omega)
include h8 g8 ha in
theorem zwk {i j:Nat}(hij:i < j)(hj:j < 7)(hs:sp=1∨sp=3∨sp=5∨sp=7∨sp=9∨sp=11):nm ls lg at_ tu sp ne i≠nm ls lg at_ tu sp ne j:=by
 intro e;cases ne with
 | true =>
  have hl:=congrArg List.length e;unfold nm at hl;rw[List.length_map,List.length_map,zje h8 g8,zje h8 g8,if_pos rfl,if_pos rfl] at hl;have f1:=zfu (a:=tu+(i:Int)) (b:=8) (by decide);have f2:=zfu (a:=tu+(j:Int)) (b:=8) (by decide);have he:(tu+(i:Int)).fmod 8=(tu+(j:Int)).fmod 8:=by omega
  rw[Int.fmod_eq_emod_of_nonneg _ (by decide),Int.fmod_eq_emod_of_nonneg _ (by decide)] at he;omega
 | false =>
  have h1:(nm ls lg at_ tu sp false i)[at_]?=(nm ls lg at_ tu sp false j)[at_]?:=by rw[e]
  unfold nm zsu at h1;rw[if_neg (by decide),if_neg (by decide),List.getElem?_map,List.getElem?_map,List.getElem?_set_self (by rw[List.length_take,h8];omega),List.getElem?_set_self (by rw[List.length_take,h8];omega)] at h1;simp only[Option.map_some,Option.some.injEq,zxP] at h1;have f1:=zfu (a:=tu+sp*(i:Int)) (b:=26) (by decide);have f2:=zfu (a:=tu+sp*(j:Int)) (b:=26) (by decide);have he:(tu+sp*(i:Int)).fmod 26=(tu+sp*(j:Int)).fmod 26:=by omega
  rw[Int.fmod_eq_emod_of_nonneg _ (by decide),Int.fmod_eq_emod_of_nonneg _ (by decide)] at he;rcases hs with rfl | rfl | rfl | rfl | rfl | rfl<;>omega
include h8 g8 ha in
theorem ztw (hs:sp=1∨sp=3∨sp=5∨sp=7∨sp=9∨sp=11):∀ n:Nat,n<=7->((List.range n).map (nm ls lg at_ tu sp ne)).Nodup:=by
 intro n hn;rw[List.nodup_iff_pairwise_ne,List.pairwise_map];have:(List.range n).Pairwise (· < ·):=List.pairwise_lt_range;refine List.Pairwise.imp_of_mem (fun {i j} hi hj hij=>?_) this;rw[List.mem_range] at hj;exact zwk h8 g8 ha hij (by omega) hs
end
noncomputable def zjN (ls:List Int) (lg at_:Nat) (tu sp:Int) (ne:Bool) (k:Nat):List (List Nat):=(List.range k).map (nm ls lg at_ tu sp ne)
theorem zrV {ls:List Int}{lg at_:Nat}{tu sp:Int}{ne:Bool}{k:Nat}:Cod.nmsD (zjN ls lg at_ tu sp ne (k+1))=Cod.nmsD (zjN ls lg at_ tu sp ne k)++[.str (Cod.S (nm ls lg at_ tu sp ne k))]:=by
 unfold zjN Cod.nmsD;rw[List.range_succ,List.map_append,List.map_append];rfl
theorem zwj {a:Addr}{ls:List Int}{lg at_ n:Nat}{tu sp:Int}{ne:Bool}(h8:ls.length=8)(hb:∀ l∈ls,0<=l/\l < 26)(g1:1<=lg)(g8:lg<=8)(ha:at_ < lg)(t0:0<=tu/\tu < 26)(s0:0<=sp/\sp<=11)(hn:n<=7) :
  ∃ x9 x10,zd2 (zdN 9) (zaw (zrK 10 (zsv (zad 2) zft (ze0 (zad 3))))
 (zaw (zAq 10 (zaa (zaa (zad 5) (zaa (zad 6) (zad 9) zbN) zcP) (dC (.int 26)) zfw) (zad 4))
 (zaw (sIf (zad 7)
 (zaw (zrK 10 (zsv (zad 2) zft (ze0 (zaa (dC (.int 1)) (zaa (zaa (zad 5) (zad 9) zcP) (dC (.int 8)) zfw) zcP))))
 zao)
 zao)
 (zaw (zAs 10 (zeW 8 (zsi (dC (.str "")) (zae (zeN 1 [] (zvz (zad 10)) (zdN 0) mYes (zaa (dC (.str "abcdefghijklmnopqrstuvwxyz")) (zad 0) dIx)) zaH))))
 zao)))) (DL.intsFrom 0 n) [.pt a,.sh (.int (n:Int)),.sh (.lst (ls.map D.int)),.sh (.int (lg:Int)),.sh (.int (at_:Int)),.sh (.int tu),.sh (.int sp),.sh (.bl ne),.ow (.lst []),.no,.no] =
   .ok (.nx [.pt a,.sh (.int (n:Int)),.sh (.lst (ls.map D.int)),.sh (.int (lg:Int)),.sh (.int (at_:Int)),.sh (.int tu),.sh (.int sp),.sh (.bl ne),.ow (.lst (Cod.nmsD (zjN ls lg at_ tu sp ne n))),x9,x10]):=by
 obtain⟨ρ',hl,x9,x10,rfl⟩:=ztX (i:=9) (n:=n)
  (ρ:=[.pt a,.sh (.int (n:Int)),.sh (.lst (ls.map D.int)),.sh (.int (lg:Int)),.sh (.int (at_:Int)),.sh (.int tu),.sh (.int sp),.sh (.bl ne),.ow (.lst []),.no,.no])
  (body:=(zaw (zrK 10 (zsv (zad 2) zft (ze0 (zad 3))))
 (zaw (zAq 10 (zaa (zaa (zad 5) (zaa (zad 6) (zad 9) zbN) zcP) (dC (.int 26)) zfw) (zad 4))
 (zaw (sIf (zad 7)
 (zaw (zrK 10 (zsv (zad 2) zft (ze0 (zaa (dC (.int 1)) (zaa (zaa (zad 5) (zad 9) zcP) (dC (.int 8)) zfw) zcP))))
 zao)
 zao)
 (zaw (zAs 10 (zeW 8 (zsi (dC (.str "")) (zae (zeN 1 [] (zvz (zad 10)) (zdN 0) mYes (zaa (dC (.str "abcdefghijklmnopqrstuvwxyz")) (zad 0) dIx)) zaH))))
 zao)))))
  (fun k ρ=>∃ x9 x10,ρ=[.pt a,.sh (.int (n:Int)),.sh (.lst (ls.map D.int)),.sh (.int (lg:Int)),.sh (.int (at_:Int)),.sh (.int tu),.sh (.int sp),.sh (.bl ne),.ow (.lst (Cod.nmsD (zjN ls lg at_ tu sp ne k))),x9,x10]) (by
   rintro k hk ρ ⟨x9,x10,rfl⟩;have hlen:=zje (tu:=tu) (sp:=sp) (ne:=ne) (at_:=at_) h8 g8 (k:=k);have f8:=zfu (a:=tu+(k:Int)) (b:=8) (by decide);have om:zer sp (k:Int)=true:=ze1 (by omega) (by omega);have hap:decide ((Cod.nmsD (zjN ls lg at_ tu sp ne k)).length<=999)=true:=decide_eq_true (by unfold Cod.nmsD zjN;simp;omega);have hs1:∀ x8 x10,zsv (zad 2) zft (ze0 (zad 3)) [.pt a,.sh (.int (n:Int)),.sh (.lst (ls.map D.int)),.sh (.int (lg:Int)),.sh (.int (at_:Int)),.sh (.int tu),.sh (.int sp),.sh (.bl ne),x8,.sh (.int (k:Int)),x10]=.ok (.lst ((ls.take lg).map D.int)):=fun _ _=>zw3 rfl rfl (by omega) (by omega);have hix:ixN ((ls.take lg).map D.int).length (at_:Int)=some at_:=by
    rw[List.length_map,List.length_take,h8];unfold ixN;rw[if_pos (by omega),if_pos (by omega)];simp
   have hset:((ls.take lg).map D.int).set at_ (.int ((tu+sp*(k:Int)).fmod 26))=((ls.take lg).set at_ ((tu+sp*(k:Int)).fmod 26)).map D.int:=(List.map_set ..).symm;have hll:(zsu ls lg at_ tu sp ne k).length<=100:=by rw[hlen];split<;>omega
   have hc:=fun ρ=>zyl (ρ:=ρ) hll (ztG hb);have hj:zm4 "" [.lst (((zsu ls lg at_ tu sp ne k).map zxP).map fun c=>D.str ⟨#[c]⟩)]=.ok (.str (Cod.S (nm ls lg at_ tu sp ne k))):=zyk hll;refine⟨[.pt a,.sh (.int (n:Int)),.sh (.lst (ls.map D.int)),.sh (.int (lg:Int)),.sh (.int (at_:Int)),.sh (.int tu),.sh (.int sp),.sh (.bl ne),.ow (.lst (Cod.nmsD (zjN ls lg at_ tu sp ne (k+1)))),.sh (.int (k:Int)),.sh (.lst ((zsu ls lg at_ tu sp ne k).map D.int))],?_,_,_,rfl⟩;rw[zrV];cases ne with
   | true =>
    have e1:zsu ls lg at_ tu sp true k=ls.take (1+((tu+(k:Int)).fmod 8).toNat):=if_pos rfl;have hs2:∀ x8 x10,zsv (zad 2) zft (ze0 (zaa (dC (.int 1)) (zaa (zaa (zad 5) (zad 9) zcP) (dC (.int 8)) zfw) zcP)) [.pt a,.sh (.int (n:Int)),.sh (.lst (ls.map D.int)),.sh (.int (lg:Int)),.sh (.int (at_:Int)),.sh (.int tu),.sh (.int sp),.sh (.bl true),x8,.sh (.int (k:Int)),x10]=.ok (.lst ((zsu ls lg at_ tu sp true k).map D.int)):=fun x8 x10=>by
     rw[e1];refine zw3 rfl ?_ (by omega) (by omega);open_line with[]
     congr 2
     omega
    open_line with[hs1,zbW om,ze5 hix,hset,hs2,hc,hj,ze6 hap]
   | false =>
    have e1:(ls.take lg).set at_ ((tu+sp*(k:Int)).fmod 26)=zsu ls lg at_ tu sp false k:=(if_neg (by decide)).symm;rw[e1] at hset;open_line with[hs1,zbW om,ze5 hix,hset,hc,hj,ze6 hap]) ⟨_,_,rfl⟩
 exact⟨x9,x10,hl⟩
theorem zwl (a:Addr){n:Nat}(hn:n<=7){st:List D}(h:St st):∃ (css:List (List Nat)) (st':List D),zcI a st [.int (n:Int)]=.ok (.lst (Cod.nmsD css),st')/\css.length=n/\css.Nodup/\(∀ cs∈css,Cod.IsNm cs)/\St st':=by
 obtain⟨ls,st1,t1,h8,hb,S1⟩:=zr1 a h;obtain⟨d,st2,t2,d0,d1,S2⟩:=za9 a (n:=8) (by decide) (by decide) S1;obtain⟨at_,st3,t3,a0,a1,S3⟩:=za9 a (n:=1+d) (by omega) (by omega) S2;obtain⟨tu,st4,t4,u0,u1,S4⟩:=za9 a (n:=26) (by decide) (by decide) S3;obtain⟨e,st5,t5,e0,e1,S5⟩:=za9 a (n:=6) (by decide) (by decide) S4;obtain⟨f,st6,t6,f0,f1,S6⟩:=za9 a (n:=3) (by decide) (by decide) S5;obtain⟨sp,hs,i1⟩:∃ sp:Int,(sp=1∨sp=3∨sp=5∨sp=7∨sp=9∨sp=11)/\dIx (.lst [.int 1,.int 3,.int 5,.int 7,.int 9,.int 11]) (.int e)=.ok (.int sp):=by
  have:e=0∨e=1∨e=2∨e=3∨e=4∨e=5:=by omega
  rcases this with rfl | rfl | rfl | rfl | rfl | rfl
  .exact⟨1,by decide,rfl⟩
  .exact⟨3,by decide,rfl⟩
  .exact⟨5,by decide,rfl⟩
  .exact⟨7,by decide,rfl⟩
  .exact⟨9,by decide,rfl⟩
  .exact⟨11,by decide,rfl⟩
 obtain⟨lg,hlg⟩:=Int.eq_ofNat_of_zero_le (show 0<=1+d by omega);obtain⟨at',rfl⟩:=Int.eq_ofNat_of_zero_le a0;rw[hlg] at t3;obtain⟨x9,x10,hl⟩:=zwj (a:=a) (ls:=ls) (lg:=lg) (at_:=at') (n:=n) (tu:=tu) (sp:=sp) (ne:=(f==0)) h8 hb (by omega) (by omega) (by omega) ⟨u0,u1⟩ (by omega) hn;refine⟨zjN ls lg at' tu sp (f==0) n,st6,?_,by unfold zjN;simp,ztw h8 (by omega) (by omega) hs n hn,fun cs hc=>?_,S6⟩
 .have hsrc:∀ ρ,zgI (dC (.int 8)) ρ=.ok (DL.intsFrom 0 8):=fun _=>rfl
  have hbm:∀ x1 x2 x3 x4 x5 x6 x7 x8 x9 x10,zfx 1 [0] [.pt a,x1,x2,x3,x4,x5,x6,x7,x8,x9,x10]=[.no,.pt a]:=fun _ _ _ _ _ _ _ _ _ _=>rfl;open_line with[zcI,ziU,hsrc,hbm,t1,t2,hlg,t3,t4,t5,i1,t6,zkI,zqX (show n<=1000000 by omega),hl]
 .unfold zjN at hc
  obtain⟨k,_,rfl⟩:=List.mem_map.mp hc;exact zCT h8 hb (by omega) (by omega)
theorem zx5 (a:Addr){p q:Nat}(hp:2<=p/\p<=7)(hq:q<=14){st:List D}(h:St st):∃ (w:Web) (st':List D),zb9 a st [.int (p:Int),.int (q:Int)]=.ok (zbR w,st')/\zed w/\(∀ t∈w.ts,zlp t)/\St st':=by
 obtain⟨m,st1,t1,m0,m1,S1⟩:=za9 a (n:=(p:Int)-1) (by omega) (by omega) h;obtain⟨m,rfl⟩:=Int.eq_ofNat_of_zero_le m0;obtain⟨css,st2,t2,hcl,hnd,hall,S2⟩:=zwl a (n:=2+m) (by omega) S1;have hnm:Cod.nmsD css=(css.map Cod.S).map D.str:=by unfold Cod.nmsD;rw[List.map_map];rfl
 have hzl:(css.map Cod.S).length=2+m:=by rw[List.length_map,hcl]
 have nd:(css.map Cod.S).Nodup:=by
  rw[List.nodup_iff_pairwise_ne,List.pairwise_map];exact List.Pairwise.imp (fun h z=>h (Cod.S_inj z)) (List.nodup_iff_pairwise_ne.mp hnd)
 have nm:zlu (css.map Cod.S):=⟨nd,fun z hz=>by
  obtain⟨cs,hc,rfl⟩:=List.mem_map.mp hz;exact(hall cs hc).nameB⟩
 rw[hnm] at t2;generalize css.map Cod.S=zs at *;have hlen:zgl (.lst (zs.map D.str))=.ok (.int zs.length):=by rw[zds,List.length_map]
 have hn0:((zs.length:Int)==0)=false:=beq_eq_false_iff_ne.mpr (by omega);obtain⟨c,st3,t3,c0,c1,S3⟩:=za9 a (n:=(q:Int)+1) (by omega) (by omega) S2;obtain⟨c,rfl⟩:=Int.eq_ofNat_of_zero_le c0;have hlenI:(DL.intsFrom 0 c).length=c:=by unfold DL.intsFrom;simp
 obtain⟨ρ2,st4,hl,ts,x6,rfl,htl,hts,S4⟩:=zjg (tg:=zdN 6) (body:=(za8 (zA9 5 (zbm 0 a (zaZ (mP (zad 3)) (zaZ (mP (zad 6)) zee)) zbL))
 zbe))
  (fun j ρ st=>∃ (ts:List Tie) (x6:Sl),ρ=[.pt a,.sh (.int (p:Int)),.sh (.int (q:Int)),.sh (.lst (zs.map D.str)),.sh (.int (zs.length:Int)),.ow (.lst (ts.map zbS)),x6,.no,.no]/\ts.length=j/\(∀ t∈ts,zqk zs t/\zlp t)/\St st) (DL.intsFrom 0 c) (by
   rintro j d ρ st hj ⟨ts,x6,rfl,rfl,hts,S⟩;have hjt:ts.length < c:=by have:=(List.getElem?_eq_some_iff.mp hj).1;omega
   have hd:d=.int (ts.length:Int):=by
    unfold DL.intsFrom at hj;rw[List.getElem?_map,List.getElem?_range hjt] at hj;simp at hj;exact hj.symm
   subst hd;obtain⟨t,st',tt,tk,ta,S'⟩:=zyd a (zs:=zs) (k:=ts.length) (by omega) (by omega) nd S;have hap:decide ((ts.map zbS).length<=999)=true:=decide_eq_true (by rw[List.length_map];omega);refine⟨_,[.pt a,.sh (.int (p:Int)),.sh (.int (q:Int)),.sh (.lst (zs.map D.str)),.sh (.int (zs.length:Int)),.ow (.lst ((ts++[t]).map zbS)),.sh (.int (ts.length:Int)),.no,.no],st',rfl,.inl ?_,ts++[t],_,rfl,by simp,fun u hu=>?_,S'⟩
   .open_line with[tt,zp5 hap,List.map_append]
   .rw[List.mem_append] at hu
    rcases hu with hu | hu
    .exact hts u hu
    .have:u=t:=by simpa using hu
     subst this;exact⟨tk,ta⟩) 0 [.pt a,.sh (.int (p:Int)),.sh (.int (q:Int)),.sh (.lst (zs.map D.str)),.sh (.int (zs.length:Int)),.ow (.lst []),.no,.no,.no] st3 (Nat.zero_le _) ⟨[],_,rfl,rfl,fun t ht=>by simp at ht,S3⟩
 rw[List.drop_zero] at hl;rw[hlenI] at htl;have hsr:zqN (.int (c:Int),st3)=.ok (DL.intsFrom 0 c,st3):=znn (by omega);have h2m:(2:Int)+(m:Int)=((2+m:Nat):Int):=by omega
 rw[← h2m] at t2;obtain⟨g,st5,t5,g0,g1,S5⟩:=za9 a (n:=2) (by decide) (by decide) S4;cases hg:(g==0) with
 | true =>
  obtain⟨d,st6,t6,d0,d1,S6⟩:=za9 a (n:=(zs.length:Int)) (by omega) (by omega) S5;obtain⟨e,st7,t7,e0,e1,S7⟩:=za9 a (n:=(zs.length:Int)-1) (by omega) (by omega) S6;obtain⟨hr,hne⟩:=zpq (n:=(zs.length:Int)) (d:=d) (e:=e) (by omega) d0 d1 e0 e1;obtain⟨z1,k1,j1⟩:=zlL (zs:=zs) d0 d1;obtain⟨z2,k2,j2⟩:=zlL (zs:=zs) hr.1 hr.2;have hz12:z1≠z2:=zjc nd k1 k2 (by omega);refine⟨⟨zs,ts,z1,z2⟩,st7,?_,⟨by show 2<=zs.length;omega,by show zs.length<=7;omega,nm,by show ts.length<=14;omega,fun t ht=>(hts t ht).1,List.mem_of_getElem? k1,List.mem_of_getElem? k2,hz12⟩,fun t ht=>(hts t ht).2,S7⟩;open_line with[zb9,ziv,zu8,t1,t2,hlen,t3,hsr,hl,t5,hg,t6,t7,hn0,j1,j2,zbR]
 | false =>
  obtain⟨z1,k1,j1⟩:=zlL (zs:=zs) (k:=0) (by decide) (by omega);obtain⟨z2,k2,j2⟩:=zlL (zs:=zs) (k:=(zs.length:Int)-1) (by omega) (by omega);have hz12:z1≠z2:=zjc nd k1 k2 (by omega);refine⟨⟨zs,ts,z1,z2⟩,st5,?_,⟨by show 2<=zs.length;omega,by show zs.length<=7;omega,nm,by show ts.length<=14;omega,fun t ht=>(hts t ht).1,List.mem_of_getElem? k1,List.mem_of_getElem? k2,hz12⟩,fun t ht=>(hts t ht).2,S5⟩;open_line with[zb9,ziv,zu8,t1,t2,hlen,t3,hsr,hl,t5,hg,j1,j2,zbR]
theorem taking_ok (a:Addr){w:Web}(W:zed w){r:Int}(hr:0 < r/\r<=1000){st:List D}(h:St st):∃ (ks:List Nat) (st':List D),zbz a st [zbR w,.int r]=.ok (zbn ks,st')/\zlq w ks/\St st':=by
 obtain⟨ps,ts,fi,la⟩:=w;have t14:ts.length<=14:=W.t14;have i1:dIx (zbR ⟨ps,ts,fi,la⟩) (.int 1)=.ok (.lst (ts.map zbS)):=rfl;have hlen:zgl (.lst (ts.map zbS))=.ok (.int ts.length):=by rw[zds,List.length_map]
 have hlenI:(DL.intsFrom 0 ts.length).length=ts.length:=by unfold DL.intsFrom;simp
 have hsrc:∀ x3 x4,zgI (zam (zae (zaa (zad 1) (dC (.int 1)) dIx) zaH) (m1 zgl)) [.pt a,.sh (zbR ⟨ps,ts,fi,la⟩),.sh (.int r),x3,x4]=.ok (DL.intsFrom 0 ts.length):=fun x3 x4=>by
  rw[Cod.ev_srcR1];open_line with[i1,hlen]
  exact Cod.srcR1_nat (by omega)
 obtain⟨ρ2,st4,hl,ks,x4,rfl,hlt,hup,hwo,S4⟩:=zjg (tg:=zdN 4) (body:=(za8 (mIf (zBa (mB (zbm 0 a (zaZ (mP (zad 2)) zee) zas) (mP (dC (.int 0))) dEq) (mT (zaa (zaa (zaa (zaa (zad 1) (dC (.int 1)) dIx) (zad 4) dIx) (dC (.int 4)) dIx) (dC (.non)) zdF)))
 (za8 (zcT (zeW 3 (zad 4)))
 zbe)
 zbe)
 zbe))
  (fun j ρ st=>∃ (ks:List Nat) (x4:Sl),ρ=[.pt a,.sh (zbR ⟨ps,ts,fi,la⟩),.sh (.int r),.ow (.lst (ks.map fun(k:Nat)=>D.int (k:Int))),x4]/\(∀ k∈ks,k < j)/\ks.Pairwise (· < ·)/\(∀ k∈ks,∃ t x,ts[k]?=some t/\t.o=some x)/\ks.length<=j/\St st) (DL.intsFrom 0 ts.length) (by
   rintro j d ρ st hj ⟨ks,x4,rfl,hlt,hup,hwo,hkl,S⟩;have hjt:j < ts.length:=by have:=(List.getElem?_eq_some_iff.mp hj).1;omega
   have hd:d=.int (j:Int):=by
    unfold DL.intsFrom at hj;rw[List.getElem?_map,List.getElem?_range hjt] at hj;simp at hj;exact hj.symm
   subst hd;obtain⟨v,st',t1,v0,v1,S'⟩:=za9 a (n:=r) hr.1 (by omega) S;have hix:dIx (.lst (ts.map zbS)) (.int (j:Int))=.ok (zbS ts[j]):=zjW (by rw[List.getElem?_map,List.getElem?_eq_getElem hjt];rfl);have i4:dIx (zbS ts[j]) (.int 4)=.ok (zaz ts[j].o):=rfl;have hap:decide ((ks.map fun(k:Nat)=>D.int (k:Int)).length<=999)=true:=decide_eq_true (by rw[List.length_map];omega);cases hv:(v==0) with
   | false =>
    refine⟨_,[.pt a,.sh (zbR ⟨ps,ts,fi,la⟩),.sh (.int r),.ow (.lst (ks.map fun(k:Nat)=>D.int (k:Int))),.sh (.int (j:Int))],st',rfl,.inl ?_,ks,_,rfl,fun k hk=>by have:=hlt k hk;omega,hup,hwo,by omega,S'⟩;open_line with[t1,hv]
   | true =>
    cases ho:ts[j].o with
    | none =>
     rw[ho] at i4;have i5:zdF (zaz none) .non=.ok (.bl false):=rfl;refine⟨_,[.pt a,.sh (zbR ⟨ps,ts,fi,la⟩),.sh (.int r),.ow (.lst (ks.map fun(k:Nat)=>D.int (k:Int))),.sh (.int (j:Int))],st',rfl,.inl ?_,ks,_,rfl,fun k hk=>by have:=hlt k hk;omega,hup,hwo,by omega,S'⟩;open_line with[t1,hv,i1,hix,i4,i5]
    | some x =>
     rw[ho] at i4;have i5:zdF (zaz (some x)) .non=.ok (.bl true):=rfl;refine⟨_,[.pt a,.sh (zbR ⟨ps,ts,fi,la⟩),.sh (.int r),.ow (.lst ((ks++[j]).map fun(k:Nat)=>D.int (k:Int))),.sh (.int (j:Int))],st',rfl,.inl ?_,ks++[j],_,rfl,fun k hk=>?_,?_,fun k hk=>?_,by simp;omega,S'⟩
     .open_line with[t1,hv,i1,hix,i4,i5,ze6 hap,List.map_append]
     .rw[List.mem_append] at hk
      rcases hk with hk | hk
      .have:=hlt k hk;omega
      .have:k=j:=by simpa using hk
       omega
     .rw[List.pairwise_append]
      refine⟨hup,by simp,fun x hx y hy=>?_⟩;have:y=j:=by simpa using hy
      have:=hlt x hx;omega
     .rw[List.mem_append] at hk
      rcases hk with hk | hk
      .exact hwo k hk
      .have:k=j:=by simpa using hk
       subst this;exact⟨ts[k],x,List.getElem?_eq_getElem hjt,ho⟩) 0 [.pt a,.sh (zbR ⟨ps,ts,fi,la⟩),.sh (.int r),.ow (.lst []),.no] st (Nat.zero_le _) ⟨[],_,rfl,fun k hk=>by simp at hk,by simp,fun k hk=>by simp at hk,by simp,h⟩
 rw[List.drop_zero] at hl;refine⟨ks,st4,?_,⟨hup,hwo⟩,S4.2⟩;open_line with[zbz,zhK,hsrc,hl]
 rfl
end Bor
namespace DL
open PySem L2
section
variable {α β:Type}
def Rf (a b:Res α):Prop:=a=.stuck∨a=b
theorem zcE {a b:Res α}{f g:α->Res β}(h:Rf a b)(k:∀ x,Rf (f x) (g x)):Rf (a.bind f) (b.bind g):=by
 rcases h with rfl | rfl
 .exact .inl rfl
 .cases a with
  | ok x=>exact k x
  | exn x=>exact .inr rfl
  | stuck=>exact .inl rfl
structure RfF (f g:Ev->Res α):Prop where
 o:∀ ρ,Rf (f ρ) (g ρ)
end
structure RfM (f g:List D->Res D):Prop where
 o:∀ ds,Rf (f ds) (g ds)
theorem RfM.ok {f g:List D->Res D}(h:RfM f g){ds:List D}{d:D}(e:f ds=.ok d):g ds=.ok d:=by
 rcases h.o ds with q | q
 .rw[q] at e;cases e
 .rw[← q];exact e
theorem rfm_refl {f:List D->Res D}:RfM f f:=⟨fun _=>.inr rfl⟩
theorem rf_refl {α:Type}{f:Ev->Res α}:RfF f f:=⟨fun _=>.inr rfl⟩
section
variable {s s' t t':Ev->Res Fl}{c c' f f':Ev->Res D}{fa fa':Ev->Res (List D)}{m m':List D->Res D}
theorem rf_stuck:RfF zdh s:=⟨fun _=>.inl rfl⟩
theorem rf_seq (h1:RfF s s')(h2:RfF t t'):RfF (zaw s t) (zaw s' t'):=⟨fun ρ=>zcE (h1.o ρ) fun r=>by
 cases r with
 | nx ρ'=>exact h2.o ρ'
 | _=>exact .inr rfl⟩
theorem rf_if (hc:RfF c c')(h1:RfF s s')(h2:RfF t t'):RfF (sIf c s t) (sIf c' s' t'):=⟨fun ρ=>zcE (hc.o _) fun r=>by
 cases r with
 | bl b=>cases b with
  | true=>exact h1.o ρ
  | false=>exact h2.o ρ
 | _=>exact .inr rfl⟩
theorem zmS {tg:Ev->D->Res Ev}(h:RfF s s'):∀ (ds:List D) (ρ:Ev),Rf (zd2 tg s ds ρ) (zd2 tg s' ds ρ)
 | [],ρ=>.inr rfl
 | d::r,ρ=>by
  unfold zd2;refine zcE (.inr rfl) fun ρ1=>zcE (h.o ρ1) fun x=>?_;cases x with
  | nx ρ2=>exact zmS h r ρ2
  | ct ρ2=>exact zmS h r ρ2
  | bk ρ2=>exact .inr rfl
  | rt d=>exact .inr rfl
theorem rf_for {tg:Ev->D->Res Ev}(hf:RfF f f')(h:RfF s s'):RfF (zpF f tg s) (zpF f' tg s'):=⟨fun ρ=>zcE (hf.o ρ) fun d=>by
 cases d with
 | lst ds=>exact zmS h ds ρ
 | _=>exact .inr rfl⟩
theorem rf_forI {tg:Ev->D->Res Ev}{src:Ev->Res (List D)}(h:RfF s s'):RfF (znT src tg s) (znT src tg s'):=⟨fun ρ=>zcE (.inr rfl) fun ds=>zmS h ds ρ⟩
theorem rf_drop (h:RfF f f'):RfF (zmR f) (zmR f'):=⟨fun ρ=>zcE (h.o _) fun _=>.inr rfl⟩
theorem rf_ret (h:RfF f f'):RfF (zde f) (zde f'):=⟨fun ρ=>zcE (h.o _) fun _=>.inr rfl⟩
theorem rf_set {i:Nat}(h:RfF f f'):RfF (zb6 i f) (zb6 i f'):=⟨fun ρ=>zcE (h.o _) fun _=>.inr rfl⟩
theorem rf_b1 {op:D->Res D}(h:RfF f f'):RfF (zdG f op) (zdG f' op):=⟨fun ρ=>zcE (h.o _) fun _=>.inr rfl⟩
theorem rf_not (h:RfF f f'):RfF (zet f) (zet f'):=rf_b1 h
theorem rf_b2 {op:D->D->Res D}(h:RfF f f')(h2:RfF c c'):RfF (zaa f c op) (zaa f' c' op):=⟨fun ρ=>zcE (h.o _) fun _=>zcE (h2.o _) fun _=>.inr rfl⟩
theorem rf_bA (h:RfF fa fa')(hm:RfM m m'):RfF (zam fa m) (zam fa' m'):=⟨fun ρ=>zcE (h.o _) fun ds=>hm.o ds⟩
theorem rf_cons (h:RfF f f')(h2:RfF fa fa'):RfF (zae f fa) (zae f' fa'):=⟨fun ρ=>zcE (h.o _) fun _=>zcE (h2.o _) fun _=>.inr rfl⟩
end
end DL
local macro_rules | `(tactic| open_line with[rf_go])=>`(tactic| repeat (first | with_reducible exact DL.rf_refl | with_reducible exact DL.rf_stuck | with_reducible assumption | with_reducible exact DL.rfm_refl | with_reducible refine DL.rf_seq ?_ ?_ | with_reducible refine DL.rf_if ?_ ?_ ?_ | with_reducible refine DL.rf_for ?_ ?_ | with_reducible refine DL.rf_forI ?_ | with_reducible refine DL.rf_drop ?_ | with_reducible refine DL.rf_ret ?_ | with_reducible refine DL.rf_set ?_ | with_reducible refine DL.rf_not ?_ | with_reducible refine DL.rf_bA ?_ ?_ | with_reducible refine DL.rf_cons ?_ ?_ | with_reducible refine DL.rf_b1 ?_ | with_reducible refine DL.rf_b2 ?_ ?_))
namespace Wex
open PySem L2 DL Com
noncomputable def ziu:Ev->Res Fl :=
 (zaw (sIf (dOr (zet (zam (zae (zad 0) zaH) zbs)) (zet (zam (zae (zad 1) zaH) zbs)))
 (zaw (zw4 "NoNumber" (zae (dC (.str "a fraction is made of two whole numbers")) zaH))
 zao)
 zao)
 (zaw (sIf (zaa (zad 1) (dC (.int 0)) dEq)
 (zaw (zw4 "NoNumber" (zae (dC (.str "a fraction's second number is not 0")) zaH))
 zao)
 zao)
 (zaw (zb6 2 (zam (zae (zad 0) (zae (zad 1) zaH)) zaU))
 (zaw (sIf (zaa (zad 1) (dC (.int 0)) dLt)
 (zaw (zb6 2 (zdG (zad 2) zBO))
 zao)
 zao)
 (zaw (zde (zam (zae (zaa (zad 0) (zad 2) zpy) (zae (zaa (zad 1) (zad 2) zpy) zaH)) zjR))
 zao)))))
def zcb:List D->Res D:=zdY 3 ziu
noncomputable def zrv:Ev->Res Fl :=
 (zaw (zde (zam (zae (zaa (zaa (zaa (zad 0) (dC (.int 0)) dIx) (zaa (zad 1) (dC (.int 1)) dIx) zbN) (zaa (zaa (zad 1) (dC (.int 0)) dIx) (zaa (zad 0) (dC (.int 1)) dIx) zbN) zcP) (zae (zaa (zaa (zad 0) (dC (.int 1)) dIx) (zaa (zad 1) (dC (.int 1)) dIx) zbN) zaH)) zcb))
 zao)
def zeg:List D->Res D:=zdY 2 zrv
noncomputable def znB:Ev->Res Fl :=
 (zaw (zb6 1 (dC (.tup [(.int 0),(.int 1)])))
 (zaw (zpF (zad 0) (zdN 2)
 (zaw (zb6 1 (zam (zae (zad 1) (zae (zad 2) zaH)) zeg))
 zao))
 (zaw (zde (zad 1))
 zao)))
def m_sum_of:List D->Res D:=zdY 3 znB
section
variable {d t p:D}{x:Exn}
end
end Wex
namespace K11
open PySem L2 DL Com
theorem zhu {x y:Str}:dEq (.str x) (.str y)=.ok (.bl (decide (x=y))):=by
 have h:dEq (.str x) (.str y)=.ok (.bl (x==y)):=rfl;rw[h]
 by_cases e:x=y
 .rw[decide_eq_true e,e,beq_self_eq_true]
 .rw[decide_eq_false e,beq_eq_false_iff_ne.mpr e]
def ways (t:Tie):List (Str×Str):=if t.w="one" then[(t.a,t.b)] else[(t.a,t.b),(t.b,t.a)]
def pr (p:Str×Str):D:=.tup [.str p.1,.str p.2]
theorem steps_ok {t:Tie}:za1 [zbS t]=.ok (.lst ((ways t).map pr)):=by
 obtain⟨a,b,w,l,o⟩:=t;rw[show zbS ⟨a,b,w,l,o⟩=.tup [.str a,.str b,.str w,fr l,zaz o] from rfl];unfold ways
 by_cases h:w="one"
 .rw[if_pos h]
  open_line with[za1,zfb,zhu,decide_eq_true h,pr]
 .rw[if_neg h]
  open_line with[za1,zfb,zhu,decide_eq_false h,pr]
theorem shal_nums {m:Nat}{ks:List Nat}:(ks.map fun(k:Nat)=>D.int (k:Int)).all (zbo m)=true:=List.all_eq_true.mpr fun d hd=>by
 obtain⟨z,_,rfl⟩:=List.mem_map.mp hd;cases m<;>rfl
theorem zvs {n:Nat}:∀ {ks:List Nat},((ks.map fun(k:Nat)=>D.int (k:Int)).any fun d=>eqD d (.int (n:Int)))=decide (n∈ks)
 | []=>rfl
 | k::ks=>by
  rw[List.map_cons,List.any_cons,zvs];have e:eqD (.int (k:Int)) (.int (n:Int))=((k:Int)==(n:Int)):=by rw[eqD]
  rw[e]
  by_cases h:n=k
  .subst h;simp
  .have h1:((k:Int)==(n:Int))=false:=beq_eq_false_iff_ne.mpr (by omega)
   rw[h1,Bool.false_or];have:n∈k::ks↔n∈ks:=by simp [h]
   exact decide_eq_decide.mpr this.symm
theorem notIn_nums {ks:List Nat}{n:Nat}:zdd (.int (n:Int)) (.lst (ks.map fun(k:Nat)=>D.int (k:Int)))=.ok (.bl (!(decide (n∈ks)))):=by
 have e:inD (.int (n:Int)) (.lst (ks.map fun(k:Nat)=>D.int (k:Int)))=some (decide (n∈ks)):=(if_pos ⟨rfl,shal_nums⟩).trans (congrArg some zvs);unfold zdd;rw[e]
theorem ne_str {x y:Str}:dNe (.str x) (.str y)=.ok (.bl (!(decide (x=y)))):=by
 have h:dNe (.str x) (.str y)=.ok (.bl (!(x==y))):=rfl;rw[h]
 by_cases e:x=y
 .rw[decide_eq_true e,e,beq_self_eq_true]
 .rw[decide_eq_false e,beq_eq_false_iff_ne.mpr e]
end K11
namespace K11
open PySem L2 DL Com Bor
theorem cut_len {ws:List D}{lo hi:Option Int}:(zlI ws lo hi).length<=ws.length:=by
 unfold zlI;rw[List.length_take,List.length_drop];omega
theorem add_any {xs ys:List D}(h:xs.length+ys.length<=1000):zcP (.lst xs) (.lst ys)=.ok (.lst (xs++ys)):=zfX (decide_eq_true h)
abbrev zeq (ks:List Nat):List D:=ks.map fun(k:Nat)=>D.int (k:Int)
theorem ne_nil {x:D}{xs:List D}(h:zbo 39 x=true)(hs:xs.all (zbo 39)=true):dEq (.lst (x::xs)) (.lst [])=.ok (.bl false):=by
 unfold dEq;rw[if_pos ⟨by rw[zbo,List.all_cons,h,hs];rfl,rfl⟩];simp [eqD,eqDs]
section
variable {c:Ev->List D->Res (D×List D)}{s:Ev->List D->Res MFl}{f:Nat}{ρ ρ2:Ev}{st st1 st2:List D}{d:D}
end
end K11
namespace DL
open PySem PySem.Spec PyProof.Rows L2
def Rp (d:D)(n k:Nat):Prop:=∃ p,zlv d=some p/\p.showable=true/\p.depth<=k/\p.shown.length<=n
noncomputable def Rps (ds:List D) (n k:Nat):Prop:=∃ ps,toPys ds=some ps/\ps.length=ds.length/\PyData.showableAll ps=true/\PyData.depthAll ps<=k/\((PyData.shownAll ps).map (fun x=>x.length)).sum<=n
theorem zfD:∀ (ps:List PyData),(PyData.shownAll ps).length=ps.length
 | []=>by rw[PyData.shownAll];rfl
 | p::ps=>by rw[PyData.shownAll,List.length_cons,zfD ps,List.length_cons]
theorem Rp.up {d:D}{n k n' k':Nat}(h:Rp d n k)(hn:n<=n')(hk:k<=k'):Rp d n' k':=by
 obtain⟨p,h1,h2,h3,h4⟩:=h;exact⟨p,h1,h2,Nat.le_trans h3 hk,Nat.le_trans h4 hn⟩
theorem Rps.nil {k:Nat}:Rps [] 0 k:=⟨[],rfl,rfl,rfl,by rw[PyData.depthAll];omega,by rw[PyData.shownAll];exact Nat.le_refl _⟩
theorem Rps.cons {d:D}{ds:List D}{a n k:Nat}(h:Rp d a k)(t:Rps ds n k):Rps (d::ds) (a+n) k:=by
 obtain⟨p,h1,h2,h3,h4⟩:=h;obtain⟨ps,t1,t2,t3,t4,t5⟩:=t;refine⟨p::ps,by rw[toPys,h1,t1],by rw[List.length_cons,t2,List.length_cons],by rw[PyData.showableAll,h2,t3];rfl,?_,?_⟩
 .rw[PyData.depthAll];omega
 .rw[PyData.shownAll,List.map_cons,List.sum_cons];omega
theorem Rps.all {a k:Nat}:∀ {ds:List D},(∀ d∈ds,Rp d a k)->Rps ds (a*ds.length) k:=by
 intro ds
 induction ds with
 | nil=>intro _;exact Rps.nil
 | cons d ds ih =>
  intro h;have:=Rps.cons (h d (List.mem_cons_self ..)) (ih fun x hx=>h x (List.mem_cons_of_mem _ hx));rw[List.length_cons,Nat.mul_add,Nat.mul_one,Nat.add_comm];exact this
theorem Rp.lst {ds:List D}{n k:Nat}(h:Rps ds n k):Rp (.lst ds) (n+2*ds.length+3) (k+1):=by
 obtain⟨ps,t1,t2,t3,t4,t5⟩:=h;refine⟨.list ps,by rw[zlv,t1];rfl,by rw[PyData.showable];exact t3,by rw[PyData.depth];omega,?_⟩;rw[PyData.shown];have:=listText_len_le (PyData.shownAll ps);rw[zfD] at this;omega
theorem Rp.tup {ds:List D}{n k:Nat}(h:Rps ds n k):Rp (.tup ds) (n+2*ds.length+3) (k+1):=by
 obtain⟨ps,t1,t2,t3,t4,t5⟩:=h;refine⟨.tuple ps,by rw[zlv,t1];rfl,by rw[PyData.showable];exact t3,by rw[PyData.depth];omega,?_⟩;rw[PyData.shown];have:=tupleText_len_le (PyData.shownAll ps);rw[zfD] at this;omega
theorem Rp.non:Rp .non 4 0:=⟨.none,by rw[zlv],by rw[PyData.showable],by rw[PyData.depth];omega,by rw[PyData.shown,PySem.ofString_length];decide⟩
theorem Rp.int {i:Int}(h:i.natAbs < 2 ^ 200):Rp (.int i) 201 0:=by
 refine⟨.int i,by rw[zlv],?_,by rw[PyData.depth]<;>simp,?_⟩
 .rw[PyData.showable]
  refine decide_eq_true ?_
  by_cases h0:i.natAbs=0
  .rw[h0];decide
  .exact Nat.lt_trans ((Nat.log2_lt h0).mpr h) (by decide)
 .rw[PyData.shown,PySem.ofString_length]
  cases i with
  | ofNat m =>
   have:=nat_repr_length_le (n:=m) (k:=200) (by decide) h;show(Nat.repr m).length<=201;omega
  | negSucc m =>
   have:=nat_repr_length_le (n:=m+1) (k:=200) (by decide) h;show("-"++Nat.repr (m+1)).length<=201;rw[String.length_append];have h1 : "-".length=1:=rfl;omega
theorem Rp.str {z:Str}{n:Nat}(hl:z.length<=n)(h:∀ c∈z.cps.toList,c < 16 ^ 8):Rp (.str z) (10*n+2) 0:=by
 refine⟨.str z,by rw[zlv],by rw[PyData.showable],by rw[PyData.depth]<;>simp,?_⟩;rw[PyData.shown];have:=StrLaws.reprText_len z h;omega
end DL
namespace Bor
open PySem L2 DL Com
theorem zod {α β γ:Type}:∀ (l:List α) (b:β×γ),List.foldl (fun b _=>(b.1,b.2)) b l=b
 | [],_=>rfl
 | _::l,b=>zod l b
theorem zqj:∀ c∈abc.cps.toList,c < 16 ^ 8:=by decide +kernel
theorem zBZ {c:Nat}(h:zoc c=true):c < 16 ^ 8:=by
 refine Nat.lt_of_not_le fun hc=>?_;have hs:∀ i,Builtin.Str.subAt abc ⟨#[c]⟩ i=false:=by
  intro i;unfold Builtin.Str.subAt;rw[beq_eq_false_iff_ne];intro e;have:c∈(abc.cps.extract i (i+(⟨#[c]⟩:Str).length)):=by rw[e];simp
  have h2:c∈abc.cps:=by
   obtain⟨j,hj,e⟩:=Array.mem_iff_getElem.mp this;rw[Array.getElem_extract] at e;rw[← e];exact Array.getElem_mem _
  have:=zqj c (Array.mem_toList_iff.mpr h2);omega
 have:Builtin.Str.occurrences abc ⟨#[c]⟩ 0 abc.length 1=[]:=by
  unfold Builtin.Str.occurrences;simp [hs,zod]
 unfold zoc occ at h;rw[this] at h;cases h
theorem zjC {z:Str}(h:nameB z=true):Rp (.str z) 82 0:=by
 unfold nameB at h;simp only[Bool.and_eq_true,decide_eq_true_eq,List.all_eq_true] at h;refine Rp.str (n:=8) h.2.1 fun c hc=>?_;exact zBZ (h.2.2 c hc)
theorem zw5 {x:Fra}(h:zgo x):Rp (fr x) 409 1:=by
 have hN:N60<=2 ^ 200:=by decide
 have h1:=h.pN;have h2:=h.qN;exact(Rp.tup (Rps.cons (Rp.int (Nat.lt_of_lt_of_le h1 hN)) (Rps.cons (Rp.int (Nat.lt_of_lt_of_le h2 hN)) Rps.nil))).up (by simp) (Nat.le_refl _)
theorem zAz {zs:List Str}{t:Tie}(h:zqk zs t)(hz:∀ z∈zs,nameB z=true):Rp (zbS t) 1100 2:=by
 have ha:=(zjC (hz _ h.a)).up (k':=1) (Nat.le_refl _) (by decide);have hb:=(zjC (hz _ h.b)).up (k':=1) (Nat.le_refl _) (by decide);have hw:Rp (.str t.w) 82 1:=by
  rcases h.w with e | e<;>rw[e]
  .exact(Rp.str (n:=8) (by decide) (by decide)).up (by decide) (by decide)
  .exact(Rp.str (n:=8) (by decide) (by decide)).up (by decide) (by decide)
 have hl:=zw5 h.l;have ho:Rp (zaz t.o) 409 1:=by
  cases e:t.o with
  | none=>exact Rp.non.up (by decide) (by decide)
  | some x=>exact zw5 (h.o x e).1
 exact(Rp.tup (Rps.cons ha (Rps.cons hb (Rps.cons hw (Rps.cons hl (Rps.cons ho Rps.nil)))))).up (by simp) (Nat.le_refl _)
theorem zvZ {ds:List Str}{n:Nat}(hl:ds.length<=n)(h:∀ z∈ds,nameB z=true):Rp (.lst (ds.map D.str)) (84*n+3) 1:=by
 have:=Rp.lst (Rps.all (a:=82) (k:=0) (ds:=ds.map D.str) fun d hd=>by
  obtain⟨z,hz,rfl⟩:=List.mem_map.mp hd;exact zjC (h z hz))
 rw[List.length_map] at this;exact this.up (by omega) (Nat.le_refl _)
theorem zAx {w:Web}(W:zed w):Rp (zbR w) 20000 4:=by
 have h1:=(zvZ W.n7 W.nm.nm).up (k':=3) (Nat.le_refl _) (by decide);have h2:Rp (.lst (w.ts.map zbS)) 15700 3:=by
  have:=Rp.lst (Rps.all (a:=1100) (k:=2) (ds:=w.ts.map zbS) fun d hd=>by
   obtain⟨t,ht,rfl⟩:=List.mem_map.mp hd;exact zAz (W.ts t ht) W.nm.nm)
  rw[List.length_map] at this;have t14:=W.t14;exact this.up (by omega) (Nat.le_refl _)
 have h3:=(zjC (W.nm.nm _ W.fi)).up (k':=3) (Nat.le_refl _) (by decide);have h4:=(zjC (W.nm.nm _ W.la)).up (k':=3) (Nat.le_refl _) (by decide);exact(Rp.tup (Rps.cons h1 (Rps.cons h2 (Rps.cons h3 (Rps.cons h4 Rps.nil))))).up (by simp) (Nat.le_refl _)
end Bor
namespace K11
open PySem L2 DL Com Bor
end K11
namespace K12
open PySem L2 DL Com Bor K11
section
variable {s t:Ev->Res Fl}{ρ:Ev}{ds:List D}{n i:Nat}{f:Ev->Res D}{fa:Ev->Res (List D)}{m:List D->Res D}{d:D}
end
def lenAt (w:Web)(k:Nat):Fra:=((w.ts[k]?).map Tie.l).getD (0,1)
theorem lenAt_of {w:Web}{k:Nat}{t:Tie}(h:w.ts[k]?=some t):lenAt w k=t.l:=by unfold lenAt;rw[h];rfl
end K12
namespace K51
open PySem L2 DL Com Bor
structure El (x:Fra):Prop where
 lo:Low x
 p0:0<=x.1
 p1:x.1 < 1152921504606846976
 q1:x.2 < 1152921504606846976
theorem El.b {x:Fra}(h:El x):x.1.natAbs < 2 ^ 60/\x.2.natAbs < 2 ^ 60:=by
 have:=h.p0;have:=h.p1;have:=h.q1;have:=h.lo.q1;rw[show(2:Nat) ^ 60=1152921504606846976 from by decide];omega
theorem amt_el {x:Fra}(h:Amt x):El x:=⟨h.lo,h.p0,by have:=h.p1;omega,by have:=h.q1;omega⟩
theorem p2_lt {a:Int}{m n:Nat}(h:a.natAbs < 2 ^ m)(hm:m<=n):a.natAbs < 2 ^ n:=Nat.lt_of_lt_of_le h (Nat.pow_le_pow_right (by decide) hm)
theorem zty {a b:Int}{m n:Nat}(h:a.natAbs < 2 ^ m)(h':b.natAbs < 2 ^ n):(a*b).natAbs < 2 ^ (m+n):=by
 rw[Int.natAbs_mul,Nat.pow_add];exact Nat.mul_lt_mul'' h h'
theorem zBX {a b:Int}{m:Nat}(h:a.natAbs < 2 ^ m)(h':b.natAbs < 2 ^ m):(a+b).natAbs < 2 ^ (m+1):=by
 have:=Int.natAbs_add_le a b;rw[Nat.pow_succ];omega
def pl (x y:Fra):Fra:=low (un x y).1 (un x y).2
theorem i0 (u:Fra):dIx (fr u) (.int 0)=.ok (.int u.1):=rfl
theorem i1 (u:Fra):dIx (fr u) (.int 1)=.ok (.int u.2):=rfl
structure Bd (x:Fra) (n:Nat):Prop where
 q0:0 < x.2
 a:x.1.natAbs < 2 ^ n
 b:x.2.natAbs < 2 ^ n
theorem Bd.c13 {x:Fra}{n:Nat}(h:Bd x n)(hn:n<=6000):x.1.natAbs < B13/\x.2.natAbs < B13:=by
 have:2 ^ n<=B13:=by rw[zmH];exact Nat.pow_le_pow_right (by decide) (Nat.le_trans hn (by decide))
 exact⟨Nat.lt_of_lt_of_le h.a this,Nat.lt_of_lt_of_le h.b this⟩
theorem Bd.c60 {x:Fra}{n:Nat}(h:Bd x n)(hn:n<=6000):x.1.natAbs < B60/\x.2.natAbs < B60:=⟨Nat.lt_of_lt_of_le (h.c13 hn).1 znE,Nat.lt_of_lt_of_le (h.c13 hn).2 znE⟩
theorem El.bd {x:Fra}(h:El x):Bd x 60:=⟨by have:=h.lo.q1;omega,h.b.1,h.b.2⟩
theorem low_bd {a b:Int}{n:Nat}(hb:0 < b)(h1:a.natAbs < 2 ^ n)(h2:b.natAbs < 2 ^ n):Bd (low a b) n:=⟨by have:=(zic (a:=a) hb).q1;omega,Nat.lt_of_le_of_lt zpX h1,Nat.lt_of_le_of_lt zpW h2⟩
theorem zrE {x y:Fra}{m n:Nat}(hx:Bd x m)(hy:Bd y n):Bd (un x y) (m+n+1):=by
 refine⟨Int.mul_pos hx.q0 hy.q0,?_,p2_lt (zty hx.b hy.b) (by omega)⟩;have h1:=zty hx.a hy.b;have h2:=zty hy.a hx.b;rw[Nat.add_comm n m] at h2;exact zBX h1 h2
theorem pl_bd {x y:Fra}{m n:Nat}(hx:Bd x m)(hy:Bd y n):Bd (pl x y) (m+n+1):=low_bd (zrE hx hy).q0 (zrE hx hy).a (zrE hx hy).b
theorem lplus_bd {x y:Fra}{m n:Nat}(hx:Bd x m)(hy:Bd y n)(h:m+n<=5900):zbd [fr x,fr y]=.ok (fr (pl x y)):=by
 have b1:=hx.c60 (by omega);have b2:=hy.c60 (by omega);have hp:=zrE hx hy;have hc:=hp.c13 (by omega);have m1:=zbW (zeA b1.1 b2.2);have m2:=zbW (zeA b2.1 b1.2);have m3:=zbW (zeA b1.2 b2.2);have hlo:za6 [.int (x.1*y.2+y.1*x.2),.int (x.2*y.2)]=.ok (fr (pl x y)):=Cod.low_ok hp.q0 hc.1 hc.2;open_line with[K12.zbd,K12.zlf,i0,i1,m1,m2,m3,hlo]
theorem plus_bd {x y:Fra}{m n:Nat}(hx:Bd x m)(hy:Bd y n)(h:m+n<=5900):zeg [fr x,fr y]=.ok (fr (pl x y)):=by
 have b1:=hx.c60 (by omega);have b2:=hy.c60 (by omega);have hp:=zrE hx hy;have hc:=hp.c13 (by omega);have m1:=zbW (zeA b1.1 b2.2);have m2:=zbW (zeA b2.1 b1.2);have m3:=zbW (zeA b1.2 b2.2);have hlo:zcb [.int (x.1*y.2+y.1*x.2),.int (x.2*y.2)]=.ok (fr (pl x y)):=zqx hp.q0 hc.1 hc.2;open_line with[Com.zeg,Com.zrv,i0,i1,m1,m2,m3,hlo]
theorem lless_bd {x y:Fra}{m n:Nat}(hx:Bd x m)(hy:Bd y n)(hm:m<=6000)(hn:n<=6000):zbA [fr x,fr y]=.ok (.bl (flt x y)):=by
 have b1:=hx.c60 hm;have b2:=hy.c60 hn;have m1:=zbW (zeA b1.1 b2.2);have m2:=zbW (zeA b2.1 b1.2);open_line with[zbA,zlg,i0,i1,m1,m2]
 rfl
theorem less_bd {x y:Fra}{m n:Nat}(hx:Bd x m)(hy:Bd y n)(hm:m<=6000)(hn:n<=6000):zcf [fr x,fr y]=.ok (.bl (flt x y)) :=
 zp1 (hx.c60 hm).1 (hx.c60 hm).2 (hy.c60 hn).1 (hy.c60 hn).2
theorem w1 {w:Web}:dIx (zbR w) (.int 1)=.ok (.lst (w.ts.map zbS)):=rfl
section
variable {w:Web}{as:List Fra}{p:Fra}{th:List D}{i:Nat}{t:Tie}{a:Fra}{e:D}
end
theorem zpd {α:Type}{B:Ev}{tg:Ev->D->Res Ev}{tt fe:Ev->Res D}(g:α->D)(pk:α->Option D):∀ (L:List α),(∀ a∈L,∃ ρ1,tg B (g a)=.ok ρ1/\((pk a=none/\tt ρ1=.ok (.bl false))∨(∃ d,pk a=some d/\tt ρ1=.ok (.bl true)/\fe ρ1=.ok d)))->zbt B tg tt fe (L.map g)=.ok (L.filterMap pk)
 | [],_=>rfl
 | a::L,h=>by
  obtain⟨ρ1,h1,h2⟩:=h a List.mem_cons_self;have ih:=zpd g pk L fun d hd=>h d (List.mem_cons_of_mem _ hd);rw[List.map_cons];unfold zbt;rw[h1,bok];rcases h2 with⟨e,h2⟩ | ⟨d,e,h2,h3⟩
  .rw[h2,bok]
   show zbt B tg tt fe (L.map g)=_;rw[ih,List.filterMap_cons_none e]
  .rw[h2,bok]
   show(fe ρ1).bind _=_;rw[h3,bok,ih,bok,List.filterMap_cons_some e]
theorem comp_pick {α:Type}{n:Nat}{fr':List Nat}{ρ:Ev}{tg:Ev->D->Res Ev}{tt fe:Ev->Res D}(g:α->D)(pk:α->Option D){L:List α}(hl:L.length<=1000000)(h:∀ a∈L,∃ ρ1,tg (zdy n fr' ρ) (g a)=.ok ρ1/\((pk a=none/\tt ρ1=.ok (.bl false))∨(∃ d,pk a=some d/\tt ρ1=.ok (.bl true)/\fe ρ1=.ok d))):ziq n fr' tg tt fe ρ (L.map g)=.ok (.lst (L.filterMap pk)):=by
 unfold ziq;rw[if_pos (show(L.map g).length<=line from by rw[List.length_map];exact hl),zpd g pk L h]
theorem zvt {α:Type}{g:α->Bool}:∀ {l:List α},zec (l.map fun x=>D.bl (g x))=some (l.map g)
 | []=>rfl
 | a::l=>by rw[List.map_cons,zec,zvt];rfl
theorem all_ok {ds:List D}{g:D->Bool}:zzx (.lst (ds.map fun d=>.bl (g d)))=.ok (.bl (ds.all g)):=by
 show(match zec (ds.map fun d=>D.bl (g d)) with | some bs=>Res.ok (D.bl (bs.all id)) | none=>.stuck)=_;rw[zvt];simp only[List.all_map];rfl
end K51
namespace Pth
open PySem L2 DL Com Bor K17
open K11 (zeq ways pr zhu)
structure Stp where
 n:Nat
 a:Str
 b:Str
def znF (s:Stp):D:=.tup [.int (s.n:Int),.str s.a,.str s.b]
noncomputable def zfA (ks:List Nat) (n:Nat) (t:Tie):List Stp:=if n∈ks then[] else(ways t).map fun p=>⟨n,p.1,p.2⟩
noncomputable def zbU (ks:List Nat):Nat->List Tie->List Stp
 | _,[]=>[]
 | n,t::ts=>zfA ks n t++zbU ks (n+1) ts
def zbD (w:Web)(ks:List Nat):List Stp:=zbU ks 0 w.ts
theorem zsB (t:Tie):(ways t).length<=2:=by unfold ways;split<;>simp
theorem zlM {ks:List Nat}{n:Nat}{t:Tie}:(zfA ks n t).length<=2:=by
 unfold zfA;split
 .simp
 .rw[List.length_map];exact zsB t
theorem znL {ks:List Nat}:∀ (n:Nat) (ts:List Tie),(zbU ks n ts).length<=2*ts.length
 | _,[]=>by simp [zbU]
 | n,t::ts=>by
  have:=znL (ks:=ks) (n+1) ts;have:=zlM (ks:=ks) (n:=n) (t:=t);rw[zbU,List.length_append,List.length_cons];omega
theorem zha {ks:List Nat}{s:Stp}:∀ (n:Nat) (ts:List Tie),s∈zbU ks n ts↔∃ t,n<=s.n/\ts[s.n-n]?=some t/\s.n∉ks/\(s.a,s.b)∈ways t
 | n,[]=>by simp [zbU]
 | n,t::ts=>by
  rw[zbU,List.mem_append,zha (n+1) ts];constructor
  .rintro(h | ⟨u,h1,h2,h3,h4⟩)
   .unfold zfA at h
    by_cases hk:n∈ks
    .rw[if_pos hk] at h;cases h
    .rw[if_neg hk] at h
     obtain⟨p,hp,rfl⟩:=List.mem_map.mp h;exact⟨t,Nat.le_refl _,by simp,hk,hp⟩
   .refine⟨u,by omega,?_,h3,h4⟩
    rw[show s.n-n=(s.n-(n+1))+1 by omega,List.getElem?_cons_succ];exact h2
  .rintro⟨u,h1,h2,h3,h4⟩
   by_cases hn:s.n=n
   .left
    rw[hn,Nat.sub_self,List.getElem?_cons_zero] at h2;cases h2;unfold zfA;rw[if_neg (by rw[← hn];exact h3)];exact List.mem_map.mpr ⟨(s.a,s.b),h4,by rw[← hn]⟩
   .right
    refine⟨u,by omega,?_,h3,h4⟩;rw[show s.n-n=(s.n-(n+1))+1 by omega,List.getElem?_cons_succ] at h2;exact h2
theorem zeB {w:Web}{ks:List Nat}{s:Stp}:s∈zbD w ks↔∃ t,w.ts[s.n]?=some t/\s.n∉ks/\(s.a,s.b)∈ways t:=by
 unfold zbD;rw[zha];simp
abbrev inB:Ev->Res Fl:=(zaw (zeW 2 (zam (zae (zad 3) (zae (zad 5) (zae (zad 6) zaH))) zjR))
 zao)
abbrev zDL:Ev->Res Fl:=(zaw (sIf (zaa (zad 3) (zad 1) zdd)
 (zaw (zpF (zam (zae (zad 4) zaH) za1) (zm7 [5,6])
 inB)
 zao)
 zao)
 zao)
noncomputable def sEv (w:Web) (ks:List Nat) (ss:List Stp) (x3 x4 x5 x6:Sl):Ev:=[.sh (zbR w),.sh (zbn ks),.ow (.lst (ss.map znF)),x3,x4,x5,x6]
theorem ztT {w:Web}{ks:List Nat}{n:Nat}{x4:D}:∀ (ps:List (Str×Str)) (ss:List Stp) (x5 x6:Sl),ss.length+ps.length<=900->∃ y5 y6,zd2 (zm7 [5,6]) inB (ps.map pr) (sEv w ks ss (.sh (.int (n:Int))) (.sh x4) x5 x6)=.ok (.nx (sEv w ks (ss++ps.map fun p=>⟨n,p.1,p.2⟩) (.sh (.int (n:Int))) (.sh x4) y5 y6))
 | [],ss,x5,x6,_=>⟨x5,x6,by simp only[List.map_nil,List.append_nil];rfl⟩
 | p::ps,ss,x5,x6,h=>by
  rw[List.length_cons] at h;obtain⟨y5,y6,e⟩:=ztT (w:=w) (ks:=ks) (n:=n) (x4:=x4) ps (ss++[⟨n,p.1,p.2⟩]) (.sh (.str p.1)) (.sh (.str p.2)) (by rw[List.length_append,List.length_singleton];omega);refine⟨y5,y6,?_⟩;have hap:decide ((ss.map znF).length<=999)=true:=decide_eq_true (by rw[List.length_map];omega);rw[List.map_cons,zfR (ρ1:=sEv w ks ss (.sh (.int (n:Int))) (.sh x4) (.sh (.str p.1)) (.sh (.str p.2))) (ρ2:=sEv w ks (ss++[⟨n,p.1,p.2⟩]) (.sh (.int (n:Int))) (.sh x4) (.sh (.str p.1)) (.sh (.str p.2))) rfl]
  .rw[e,List.map_cons,List.append_assoc];rfl
  .unfold sEv
   have:(ss++[(⟨n,p.1,p.2⟩:Stp)]).map znF=ss.map znF++[.tup [.int (n:Int),.str p.1,.str p.2]]:=by rw[List.map_append];rfl
   simp only[this];open_line with[ze6 hap]
theorem zqF {w:Web}{ks:List Nat}(t14:w.ts.length<=14):∀ (ts:List Tie) (n:Nat) (ss:List Stp) (x3 x4 x5 x6:Sl),ss.length+2*ts.length<=100->∃ y3 y4 y5 y6,zd2 (zm7 [3,4]) zDL (numbered n (ts.map zbS)) (sEv w ks ss x3 x4 x5 x6)=.ok (.nx (sEv w ks (ss++zbU ks n ts) y3 y4 y5 y6))
 | [],n,ss,x3,x4,x5,x6,_=>⟨x3,x4,x5,x6,by rw[zbU,List.append_nil];rfl⟩
 | t::ts,n,ss,x3,x4,x5,x6,h=>by
  rw[List.length_cons] at h;have hni:=K11.notIn_nums (ks:=ks) (n:=n);have h2:=zsB t;have key:∃ y5 y6,zDL (sEv w ks ss (.sh (.int (n:Int))) (.sh (zbS t)) x5 x6)=.ok (.nx (sEv w ks (ss++zfA ks n t) (.sh (.int (n:Int))) (.sh (zbS t)) y5 y6)):=by
   unfold zfA
   by_cases hk:n∈ks
   .rw[if_pos hk,List.append_nil]
    rw[decide_eq_true hk] at hni;refine⟨x5,x6,?_⟩;unfold sEv zbn;open_line with[hni]
   .rw[if_neg hk]
    rw[decide_eq_false hk] at hni;obtain⟨y5,y6,e⟩:=ztT (w:=w) (ks:=ks) (n:=n) (x4:=zbS t) (ways t) ss x5 x6 (by omega);refine⟨y5,y6,?_⟩;unfold sEv zbn at e ⊢;open_line with[hni,K11.steps_ok,e]
  obtain⟨y5,y6,e1⟩:=key;have hle:=zlM (ks:=ks) (n:=n) (t:=t);obtain⟨z3,z4,z5,z6,e2⟩:=zqF (ks:=ks) t14 ts (n+1) (ss++zfA ks n t) (.sh (.int (n:Int))) (.sh (zbS t)) y5 y6 (by rw[List.length_append];omega);refine⟨z3,z4,z5,z6,?_⟩;rw[List.map_cons,DL.numbered,zfR (ρ1:=sEv w ks ss (.sh (.int (n:Int))) (.sh (zbS t)) x5 x6) rfl e1,e2,zbU,List.append_assoc]
theorem steps_ok {w:Web}(W:zed w){ks:List Nat}:zbu [zbR w,zbn ks]=.ok (.lst ((zbD w ks).map znF)):=by
 have t14:=W.t14;obtain⟨y3,y4,y5,y6,e⟩:=zqF (w:=w) (ks:=ks) t14 w.ts 0 [] .no .no .no .no (by simp;omega);rw[List.nil_append] at e;have hi:dIx (zbR w) (.int 1)=.ok (.lst (w.ts.map zbS)):=rfl;unfold sEv at e;simp only[List.map_nil] at e;open_line with[K51.zbu,K51.ziT,hi,e]
 rfl
open K11 (zeq ways pr zhu)
structure Ent where
 p:Str
 z:Int
 y:List Nat
def znm (e:Ent):D:=.tup [.int e.z,.lst (zeq e.y)]
def fD (F:List Ent):D:=.dic (F.map (·.p)) (F.map znm)
def get (F:List Ent)(k:Str):Option Ent:=F.find? fun e=>decide (e.p=k)
theorem zlh {k:Str}:∀ {F:List Ent},atD (F.map (·.p)) (F.map znm) k=(get F k).map znm
 | []=>rfl
 | e::F=>by
  rw[List.map_cons,List.map_cons,atD];unfold get
  by_cases h:e.p=k
  .rw[if_pos h,List.find?_cons_of_pos (by exact decide_eq_true h)];rfl
  .rw[if_neg h,List.find?_cons_of_neg (by simpa using h),zlh];rfl
theorem zcV {F:List Ent}{k:Str}{e:Ent}(h:get F k=some e):e∈F/\e.p=k:=⟨List.mem_of_find?_eq_some h,by simpa using List.find?_some h⟩
theorem zm5 {F:List Ent}{k:Str}:get F k=none↔∀ e∈F,e.p≠k:=by
 unfold get;rw[List.find?_eq_none];simp
theorem zqV {F:List Ent}(nd:(F.map (·.p)).Nodup){e:Ent}(he:e∈F):get F e.p=some e:=by
 induction F with
 | nil=>cases he
 | cons d F ih =>
  rw[List.map_cons,List.nodup_cons] at nd;unfold get;rcases List.mem_cons.mp he with rfl | he
  .rw[List.find?_cons_of_pos (by simp)]
  .have:d.p≠e.p:=fun z=>nd.1 (z▸List.mem_map.mpr ⟨e,he,rfl⟩)
   rw[List.find?_cons_of_neg (by simpa using this)];exact ih nd.2 he
def zAt (zs:List Int)(n:Nat):Int:=(zs[n]?).getD 0
noncomputable def zjM (zs:List Int) (F:List Ent) (c:Option Ent) (s:Stp):Option Ent:=match get F s.a,get F s.b with
 | some e,none=>match c with
  | none=>some ⟨s.b,e.z+zAt zs s.n,e.y++[s.n]⟩
  | some d=>if e.z+zAt zs s.n < d.z then some ⟨s.b,e.z+zAt zs s.n,e.y++[s.n]⟩ else c
 | _,_=>c
def cD:Option Ent->D
 | none=>.non
 | some e=>.tup [.str e.p,.int e.z,.lst (zeq e.y)]
abbrev nB:Ev->Res Fl :=
 (zaw (sIf (zlw (zaa (zad 5) (zad 2) zvb) (zaa (zad 6) (zad 2) zgX))
 (zaw (zb6 7 (zaa (zaa (zaa (zad 2) (zad 5) zea) (dC (.int 0)) dIx) (zaa (zad 1) (zad 4) dIx) zcP))
 (zaw (sIf (dOr (zaa (zad 3) (dC (.non)) zio) (zaa (zad 7) (zaa (zad 3) (dC (.int 1)) dIx) dLt))
 (zaw (zb6 3 (zam (zae (zad 6) (zae (zad 7) (zae (zaa (zaa (zaa (zad 2) (zad 5) zea) (dC (.int 1)) dIx) (zam (zae (zad 4) zaH) zi5) zcP) zaH))) zjR))
 zao)
 zao)
 zao))
 zao)
 zao)
section
variable {S:D}{zs:List Int}{F:List Ent}
theorem zA7 (hF:∀ e∈F,e.y.length<=900){s:Stp}(hs:s.n < zs.length){c:Option Ent}{x7:Sl} :
  ∃ y7,nB [.sh S,.sh (.lst (zs.map D.int)),.sh (fD F),.sh (cD c),.sh (.int (s.n:Int)),.sh (.str s.a),.sh (.str s.b),x7]=.ok (.nx [.sh S,.sh (.lst (zs.map D.int)),.sh (fD F),.sh (cD (zjM zs F c s)),.sh (.int (s.n:Int)),.sh (.str s.a),.sh (.str s.b),y7]):=by
 have g1:∀ k,zvb (.str k) (fD F)=.ok (.bl (get F k).isSome):=fun k=>by
  show Res.ok (D.bl (atD (F.map (·.p)) (F.map znm) k).isSome)=_;rw[zlh,Option.isSome_map]
 have g2:∀ k,zgX (.str k) (fD F)=.ok (.bl (!(get F k).isSome)):=fun k=>by
  show Res.ok (D.bl (!(atD (F.map (·.p)) (F.map znm) k).isSome))=_;rw[zlh,Option.isSome_map]
 have h1:=g1 s.a;have h2:=g2 s.b;unfold zjM;cases ea:get F s.a with
 | none =>
  rw[ea] at h1;simp only[Option.isSome_none] at h1;refine⟨x7,?_⟩;open_line with[h1]
 | some e =>
  rw[ea] at h1;simp only[Option.isSome_some] at h1;cases eb:get F s.b with
  | some e' =>
   rw[eb] at h2;simp only[Option.isSome_some,Bool.not_true] at h2;refine⟨x7,?_⟩;open_line with[h1,h2]
  | none =>
   rw[eb] at h2;simp only[Option.isSome_none,Bool.not_false] at h2;have h3:zea (fD F) (.str s.a)=.ok (znm e):=by
    show(match atD (F.map (·.p)) (F.map znm) s.a with | some d=>Res.ok d | none=>.stuck)=_;rw[zlh,ea];rfl
   have h4:dIx (znm e) (.int 0)=.ok (.int e.z):=rfl;have h5:dIx (znm e) (.int 1)=.ok (.lst (zeq e.y)):=rfl;have h6:dIx (.lst (zs.map D.int)) (.int (s.n:Int))=.ok (.int (zAt zs s.n)):=zjW (by
    unfold zAt;rw[List.getElem?_map,List.getElem?_eq_getElem hs];rfl)
   have h7:zcP (.lst (zeq e.y)) (.lst [.int (s.n:Int)])=.ok (.lst (zeq (e.y++[s.n]))):=by
    rw[zfX (decide_eq_true (by
     have:=hF e (zcV ea).1;unfold zeq;simp;omega))]
    unfold zeq;rw[List.map_append];rfl
   cases c with
   | none =>
    refine⟨.sh (.int (e.z+zAt zs s.n)),?_⟩;simp only[cD];open_line with[h1,h2,h3,h4,h5,h6,h7]
   | some d =>
    refine⟨.sh (.int (e.z+zAt zs s.n)),?_⟩;simp only
    by_cases hlt:e.z+zAt zs s.n < d.z
    .rw[if_pos hlt]
     simp only[cD];open_line with[h1,h2,h3,h4,h5,h6,h7,decide_eq_true hlt]
    .rw[if_neg hlt]
     simp only[cD];open_line with[h1,h2,h3,h4,h5,h6,h7,decide_eq_false hlt]
theorem zxk (hF:∀ e∈F,e.y.length<=900):∀ (ss:List Stp) (c:Option Ent) (x4 x5 x6 x7:Sl),(∀ s∈ss,s.n < zs.length)->∃ y4 y5 y6 y7,zd2 (zm7 [4,5,6]) nB (ss.map znF) [.sh S,.sh (.lst (zs.map D.int)),.sh (fD F),.sh (cD c),x4,x5,x6,x7]=.ok (.nx [.sh S,.sh (.lst (zs.map D.int)),.sh (fD F),.sh (cD (ss.foldl (zjM zs F) c)),y4,y5,y6,y7])
 | [],c,x4,x5,x6,x7,_=>⟨x4,x5,x6,x7,rfl⟩
 | s::ss,c,x4,x5,x6,x7,h=>by
  obtain⟨y7,e1⟩:=zA7 (S:=S) hF (h s List.mem_cons_self) (c:=c) (x7:=x7);obtain⟨z4,z5,z6,z7,e2⟩:=zxk hF ss (zjM zs F c s) (.sh (.int (s.n:Int))) (.sh (.str s.a)) (.sh (.str s.b)) y7 fun u hu=>h u (List.mem_cons_of_mem _ hu);exact⟨z4,z5,z6,z7,by rw[List.map_cons,zfR (ρ1:=[.sh S,.sh (.lst (zs.map D.int)),.sh (fD F),.sh (cD c),.sh (.int (s.n:Int)),.sh (.str s.a),.sh (.str s.b),x7]) rfl e1,e2,List.foldl_cons]⟩
end
def zzQ (ss:List Stp)(zs:List Int)(F:List Ent):Option Ent:=ss.foldl (zjM zs F) none
theorem zyR {ss:List Stp}{zs:List Int}{F:List Ent}(hF:∀ e∈F,e.y.length<=900)(hs:∀ s∈ss,s.n < zs.length):zbl [.lst (ss.map znF),.lst (zs.map D.int),fD F]=.ok (cD (zzQ ss zs F)):=by
 obtain⟨y4,y5,y6,y7,e⟩:=zxk (S:=.lst (ss.map znF)) hF ss none .no .no .no .no hs;have e:zd2 (zm7 [4,5,6]) nB (ss.map znF) [.sh (.lst (ss.map znF)),.sh (.lst (zs.map D.int)),.sh (fD F),.sh .non,.no,.no,.no,.no]=_:=e;open_line with[zbl,zgD,e]
 rfl
def zvy (F:List Ent)(s:Stp)(e:Ent):Prop:=e∈F/\e.p=s.a/\∀ d∈F,d.p≠s.b
theorem zjO {zs:List Int}{F:List Ent}(nd:(F.map (·.p)).Nodup):∀ (ss:List Stp) (c:Option Ent),
  (∀ d,ss.foldl (zjM zs F) c=some d->(c=some d∨∃ s∈ss,∃ e,zvy F s e/\d=⟨s.b,e.z+zAt zs s.n,e.y++[s.n]⟩)/\(∀ d',c=some d'->d.z<=d'.z)/\∀ s∈ss,∀ e,zvy F s e->d.z<=e.z+zAt zs s.n) /\
  (ss.foldl (zjM zs F) c=none->c=none/\∀ s∈ss,∀ e,¬ zvy F s e)
 | [],c=>⟨fun d h=>⟨.inl h,fun d' h'=>by rw[List.foldl_nil] at h;rw[h] at h';cases h';exact Int.le_refl _,fun s hs=>(nomatch hs)⟩,fun h=>⟨h,fun s hs=>(nomatch hs)⟩⟩
 | s::ss,c=>by
  obtain⟨i1,i2⟩:=zjO (zs:=zs) nd ss (zjM zs F c s);rw[List.foldl_cons];have hc:∀ e,zvy F s e->get F s.a=some e/\get F s.b=none:=fun e ⟨h1,h2,h3⟩=>⟨by rw[← h2];exact zqV nd h1,zm5.mpr h3⟩
  have hst:(zjM zs F c s=c/\((∀ e,¬ zvy F s e)∨∃ e d,zvy F s e/\c=some d/\d.z<=e.z+zAt zs s.n))∨∃ e,zvy F s e/\zjM zs F c s=some ⟨s.b,e.z+zAt zs s.n,e.y++[s.n]⟩/\∀ d,c=some d->e.z+zAt zs s.n<=d.z:=by
   unfold zjM;cases ea:get F s.a with
   | none=>exact .inl ⟨rfl,.inl fun e h=>by rw[(hc e h).1] at ea;cases ea⟩
   | some e =>
    cases eb:get F s.b with
    | some e'=>exact .inl ⟨rfl,.inl fun e h=>by rw[(hc e h).2] at eb;cases eb⟩
    | none =>
     have hC:zvy F s e:=⟨(zcV ea).1,(zcV ea).2,zm5.mp eb⟩
     cases c with
     | none=>exact .inr ⟨e,hC,rfl,fun d h=>by cases h⟩
     | some d =>
      simp only
      by_cases hlt:e.z+zAt zs s.n < d.z
      .rw[if_pos hlt]
       exact .inr ⟨e,hC,rfl,fun d' h=>by cases h;omega⟩
      .rw[if_neg hlt]
       exact .inl ⟨rfl,.inr ⟨e,d,hC,rfl,by omega⟩⟩
  have one:∀ e e',zvy F s e->zvy F s e'->e=e':=fun e e' h h'=>by
   have h1:=(hc e h).1;rw[(hc e' h').1] at h1;cases h1;rfl
  refine⟨fun d h=>?_,fun h=>?_⟩
  .obtain⟨j1,j2,j3⟩:=i1 d h
   rcases hst with⟨e1,e2⟩ | ⟨e,hC,e1,e2⟩
   .rw[e1] at j1 j2
    refine⟨?_,j2,fun s' hs' e' hC'=>?_⟩
    .rcases j1 with j1 | ⟨s',hs',j1⟩
     .exact .inl j1
     .exact .inr ⟨s',List.mem_cons_of_mem _ hs',j1⟩
    .rcases List.mem_cons.mp hs' with rfl | hs'
     .rcases e2 with e2 | ⟨e,d0,hC,h1,h2⟩
      .exact absurd hC' (e2 e')
      .rw[one e' e hC' hC]
       have:=j2 d0 h1;omega
     .exact j3 s' hs' e' hC'
   .rw[e1] at j1 j2
    have k:=j2 _ rfl;refine⟨?_,fun d' h'=>Int.le_trans k (e2 d' h'),fun s' hs' e' hC'=>?_⟩
    .rcases j1 with j1 | ⟨s',hs',j1⟩
     .cases j1
      exact .inr ⟨s,List.mem_cons_self,e,hC,rfl⟩
     .exact .inr ⟨s',List.mem_cons_of_mem _ hs',j1⟩
    .rcases List.mem_cons.mp hs' with rfl | hs'
     .rw[one e' e hC' hC];exact k
     .exact j3 s' hs' e' hC'
  .obtain⟨j1,j2⟩:=i2 h
   rcases hst with⟨e1,e2⟩ | ⟨e,hC,e1,e2⟩
   .rw[e1] at j1
    refine⟨j1,fun s' hs' e' hC'=>?_⟩;rcases List.mem_cons.mp hs' with rfl | hs'
    .rcases e2 with e2 | ⟨e,d0,hC,h1,h2⟩
     .exact e2 e' hC'
     .rw[j1] at h1;cases h1
    .exact j2 s' hs' e' hC'
   .rw[e1] at j1;cases j1
open K11 (zeq ways pr zhu)
def zDr (w:Web)(ks:List Nat)(n:Nat)(a b:Str):Prop:=∃ t,w.ts[n]?=some t/\n∉ks/\(a,b)∈ways t
inductive zsq (w:Web) (ks:List Nat) (a:Str):List Nat->Str->Prop where
 | nil:zsq w ks a [] a
 | snoc {p:List Nat}{b c:Str}{n:Nat}:zsq w ks a p b->zDr w ks n b c->zsq w ks a (p++[n]) c
def zpz (zs:List Int)(p:List Nat):Int:=(p.map (zAt zs)).sum
theorem znG {zs:List Int}{p:List Nat}{n:Nat}:zpz zs (p++[n])=zpz zs p+zAt zs n:=by
 unfold zpz;rw[List.map_append,List.sum_append];simp
theorem zsC {zs:List Str}{t:Tie}(T:zqk zs t){a b:Str}(h:(a,b)∈ways t):a∈zs/\b∈zs/\(a=t.a∨a=t.b)/\(b=t.a∨b=t.b):=by
 have ta:=T.a;have tb:=T.b;unfold ways at h;split at h
 .have:(a,b)=(t.a,t.b):=by simpa using h
  cases this;exact⟨ta,tb,.inl rfl,.inr rfl⟩
 .rcases List.mem_cons.mp h with e | h
  .cases e;exact⟨ta,tb,.inl rfl,.inr rfl⟩
  .have:(a,b)=(t.b,t.a):=by simpa using h
   cases this;exact⟨tb,ta,.inr rfl,.inl rfl⟩
structure Rch (w:Web) (ks:List Nat) (zs:List Int) (F:List Ent) (m:Int):Prop where
 nd:(F.map (·.p)).Nodup
 pl:∀ e∈F,e.p∈w.ps
 fi:∃ e∈F,e.p=w.fi/\e.z=0/\e.y=[]
 wy:∀ e∈F,zsq w ks w.fi e.y e.p/\e.z=zpz zs e.y/\e.y.Nodup/\e.y.length < F.length
 en:∀ e∈F,∀ n∈e.y,∀ t,w.ts[n]?=some t->(∃ d∈F,d.p=t.a)/\∃ d∈F,d.p=t.b
 mo:∀ e∈F,0<=e.z/\e.z<=m
 cl:∀ s∈zbD w ks,∀ e∈F,e.p=s.a->∀ d∈F,d.p=s.b->d.z<=e.z+zAt zs s.n
 op:∀ s∈zbD w ks,∀ e,zvy F s e->m<=e.z+zAt zs s.n
theorem zsz {zs:List Int}(h:∀ z∈zs,0<=z)(n:Nat):0<=zAt zs n:=by
 unfold zAt;cases e:zs[n]? with
 | none=>exact Int.le_refl _
 | some z=>exact h z (List.mem_of_getElem? e)
theorem Rch.start {w:Web}(W:zed w){ks:List Nat}{zs:List Int}(hz:∀ z∈zs,0<=z):Rch w ks zs [⟨w.fi,0,[]⟩] 0:=by
 have one:∀ {e:Ent},e∈[(⟨w.fi,0,[]⟩:Ent)]->e=⟨w.fi,0,[]⟩:=fun h=>by simpa using h
 refine⟨by simp,fun e he=>?_,⟨_,List.mem_singleton.mpr rfl,rfl,rfl,rfl⟩,fun e he=>?_,fun e he n hn=>?_,fun e he=>?_,fun s hs e he ea d hd eb=>?_,fun s hs e ⟨he,_⟩=>?_⟩
 .rw[one he];exact W.fi
 .rw[one he];exact⟨.nil,rfl,List.nodup_nil,by simp⟩
 .rw[one he] at hn;cases hn
 .rw[one he];exact⟨Int.le_refl _,Int.le_refl _⟩
 .rw[one he,one hd]
  have:=zsz hz s.n;simp;exact this
 .rw[one he]
  have:=zsz hz s.n;simp;exact this
theorem Rch.step {w:Web}(W:zed w){ks:List Nat}{zs:List Int}(hz:∀ z∈zs,0<=z){F:List Ent}{m:Int}(R:Rch w ks zs F m){d:Ent}(h:zzQ (zbD w ks) zs F=some d):Rch w ks zs (F++[d]) d.z/\∀ e∈F,e.p≠d.p:=by
 obtain⟨j1,_,j3⟩:=(zjO (zs:=zs) R.nd (zbD w ks) none).1 d h;rcases j1 with j1 | ⟨s,hs,e,hC,rfl⟩
 .cases j1
 obtain⟨hcm,hca,hcb⟩:=hC;obtain⟨t,ht1,ht2,ht3⟩:=zeB.mp hs;have T:=W.ts t (List.mem_of_getElem? ht1);obtain⟨wa,wb,wc,wd⟩:=zsC T ht3;have hm:m<=e.z+zAt zs s.n:=R.op s hs e ⟨hcm,hca,hcb⟩;have hnn:=zsz hz;have mem:∀ {x:Ent},x∈F++[(⟨s.b,e.z+zAt zs s.n,e.y++[s.n]⟩:Ent)]->x∈F∨x=⟨s.b,e.z+zAt zs s.n,e.y++[s.n]⟩:=fun hx=>by
  rcases List.mem_append.mp hx with hx | hx
  .exact .inl hx
  .exact .inr (by simpa using hx)
 have old:∀ {x:Ent},x∈F->x∈F++[(⟨s.b,e.z+zAt zs s.n,e.y++[s.n]⟩:Ent)]:=fun hx=>List.mem_append_left _ hx;have new:(⟨s.b,e.z+zAt zs s.n,e.y++[s.n]⟩:Ent)∈F++[(⟨s.b,e.z+zAt zs s.n,e.y++[s.n]⟩:Ent)]:=List.mem_append_right _ (List.mem_singleton.mpr rfl);obtain⟨k1,k2,k3,k4⟩:=R.wy e hcm;refine⟨⟨?_,fun x hx=>?_,?_,fun x hx=>?_,fun x hx n hn u hu=>?_,fun x hx=>?_,fun s' hs' x hx xa y hy yb=>?_,fun s' hs' x ⟨hx,xa,xb⟩=>?_⟩,hcb⟩
 .rw[List.map_append]
  refine List.nodup_append.mpr ⟨R.nd,by simp,fun a ha b hb=>?_⟩;obtain⟨x,hx,rfl⟩:=List.mem_map.mp ha;have:b=s.b:=by simpa using hb
  rw[this];exact hcb x hx
 .rcases mem hx with hx | rfl
  .exact R.pl x hx
  .exact wb
 .obtain⟨x,hx,h1⟩:=R.fi
  exact⟨x,old hx,h1⟩
 .rcases mem hx with hx | rfl
  .obtain⟨h1,h2,h3,h4⟩:=R.wy x hx
   exact⟨h1,h2,h3,by rw[List.length_append];omega⟩
  .refine⟨.snoc k1 ⟨t,ht1,ht2,by rw[hca];exact ht3⟩,by rw[znG,k2],?_,by simp;omega⟩
   refine List.nodup_append.mpr ⟨k3,by simp,fun a ha b hb=>?_⟩;have hbn:b=s.n:=by simpa using hb
   subst hbn;intro z;subst z;obtain⟨⟨d1,hd1,e1⟩,d2,hd2,e2⟩:=R.en e hcm _ ha t ht1;rcases wd with z | z
   .exact hcb d1 hd1 (by rw[e1,z])
   .exact hcb d2 hd2 (by rw[e2,z])
 .rcases mem hx with hx | rfl
  .obtain⟨⟨d1,hd1,e1⟩,d2,hd2,e2⟩:=R.en x hx n hn u hu
   exact⟨⟨d1,old hd1,e1⟩,d2,old hd2,e2⟩
  .rcases List.mem_append.mp hn with hn | hn
   .obtain⟨⟨d1,hd1,e1⟩,d2,hd2,e2⟩:=R.en e hcm n hn u hu
    exact⟨⟨d1,old hd1,e1⟩,d2,old hd2,e2⟩
   .have:n=s.n:=by simpa using hn
    subst this;rw[ht1] at hu;cases hu;have ne:=T.ne;unfold ways at ht3;have hab:(s.a=t.a/\s.b=t.b)∨(s.a=t.b/\s.b=t.a):=by
     split at ht3
     .have:(s.a,s.b)=(t.a,t.b):=by simpa using ht3
      injection this with z1 z2;exact .inl ⟨z1,z2⟩
     .rcases List.mem_cons.mp ht3 with z | z
      .injection z with z1 z2;exact .inl ⟨z1,z2⟩
      .have:(s.a,s.b)=(t.b,t.a):=by simpa using z
       injection this with z1 z2;exact .inr ⟨z1,z2⟩
    rcases hab with⟨z1,z2⟩ | ⟨z1,z2⟩
    .exact⟨⟨e,old hcm,by rw[hca,z1]⟩,_,new,z2⟩
    .exact⟨⟨_,new,z2⟩,e,old hcm,by rw[hca,z1]⟩
 .have he:=R.mo e hcm
  have:=hnn s.n;rcases mem hx with hx | rfl
  .have:=R.mo x hx
   exact⟨this.1,by show x.z<=e.z+zAt zs s.n;omega⟩
  .exact⟨by show 0<=e.z+zAt zs s.n;omega,Int.le_refl _⟩
 .have n':=hnn s'.n
  rcases mem hx with hx | rfl
  .rcases mem hy with hy | rfl
   .exact R.cl s' hs' x hx xa y hy yb
   .exact j3 s' hs' x ⟨hx,xa,fun d hd=>by rw[← yb];exact hcb d hd⟩
  .rcases mem hy with hy | rfl
   .have:=(R.mo y hy).2
    show y.z<=e.z+zAt zs s.n+zAt zs s'.n;omega
   .show e.z+zAt zs s.n<=e.z+zAt zs s.n+zAt zs s'.n
    omega
 .have n':=hnn s'.n
  rcases mem hx with hx | rfl
  .exact j3 s' hs' x ⟨hx,xa,fun d hd=>xb d (old hd)⟩
  .show e.z+zAt zs s.n<=e.z+zAt zs s.n+zAt zs s'.n
   omega
def zxU (w:Web)(ks:List Nat)(F:List Ent):Prop:=∀ s∈zbD w ks,∀ e∈F,e.p=s.a->∃ d∈F,d.p=s.b
theorem Rch.len {w:Web}(W:zed w){ks:List Nat}{zs:List Int}{F:List Ent}{m:Int}(R:Rch w ks zs F m):F.length<=7:=by
 have:=Cod.nodup_le R.nd (fun z hz=>by
  obtain⟨e,he,rfl⟩:=List.mem_map.mp hz;exact R.pl e he)
 rw[List.length_map] at this;have:=W.n7;omega
theorem Rch.shut {w:Web}{ks:List Nat}{zs:List Int}{F:List Ent}{m:Int}(R:Rch w ks zs F m)(h:zzQ (zbD w ks) zs F=none):zxU w ks F:=fun s hs e he ea=>by
 have hn:=((zjO (zs:=zs) R.nd (zbD w ks) none).2 h).2 s hs e;cases hg:get F s.b with
 | none=>exact absurd ⟨he,ea,zm5.mp hg⟩ hn
 | some d=>exact⟨d,(zcV hg).1,(zcV hg).2⟩
abbrev rT:Ev->Res D:=zaa (zad 5) (dC (.non)) zdF
abbrev rB:Ev->Res Fl :=
 (zaw (zrJ 4 (zam (zae (zaa (zad 5) (dC (.int 1)) dIx) (zae (zaa (zad 5) (dC (.int 2)) dIx) zaH)) zjR) (zaa (zad 5) (dC (.int 0)) dIx))
 (zaw (zsY 5 (zam (zae (zad 3) (zae (zad 2) (zae (zad 4) zaH))) zbl))
 zao))
section
variable {ρ:Ev}{i:Nat}{f k:Ev->Res D}{ks:List Str}{ds:List D}{d:D}
theorem zuR:zs0 i f ρ=(f ρ).bind (zyG i ρ):=zat rfl
theorem zp9:zyG i ρ (.dic ks ds)=.ok (.nx (ρ.set i (.ow (.dic ks ds)))):=zat rfl
noncomputable def zAJ (i:Nat) (f k:Ev->Res D) (ρ:Ev) (s:Option Sl):Res Fl:=match s with
 | some (.ow (.dic ks ds))=>(f ρ).bind fun d=>(k ρ).bind (zmV i ρ ks ds d)
 | _=>.stuck
theorem zuQ:zrJ i f k ρ=zAJ i f k ρ ρ[i]?:=zat rfl
noncomputable def zAI (i:Nat) (k:Ev->Res D) (ρ:Ev) (ks:List Str) (ds:List D) (d:D):Res Fl:=(k ρ).bind (zmV i ρ ks ds d)
theorem zp8:zAJ i f k ρ (some (.ow (.dic ks ds)))=(f ρ).bind (zAI i k ρ ks ds):=zat rfl
theorem zp7:zAI i k ρ ks ds d=(k ρ).bind (zmV i ρ ks ds d):=zat rfl
theorem zp6 {x:Str}(h:decide (ks.length<=900)=true):zmV i ρ ks ds d (.str x)=.ok (.nx (ρ.set i (.ow (zxb ks ds x d)))):=if_pos (Nat.lt_of_le_of_lt (of_decide_eq_true h) (by decide))
theorem zxG:zsY i f ρ=(f (shr ρ)).bind (zvS i ρ):=zat rfl
theorem zuP (h1:nd d=true)(h2:zrS ρ=true):zvS i ρ d=.ok (.nx (ρ.set i (.sh d))):=if_pos ⟨h1,h2⟩
theorem zzf {a b:Ev->Res D}:zwR a b ρ=zaa a b zzo ρ:=zat rfl
theorem zwI {x:Str}:zzo (.str x) d=.ok (.dic [x] [d]):=zat rfl
end
theorem zqM:∀ (p:List Nat),nds (zeq p)=true
 | []=>rfl
 | n::p=>by
  show(nd (.int (n:Int))&&nds (zeq p))=true;rw[zqM p];rfl
theorem zDP (c:Option Ent):nd (cD c)=true:=by
 cases c with
 | none=>rfl
 | some e =>
  show(nd (.str e.p)&&(nd (.int e.z)&&(nd (.lst (zeq e.y))&&true)))=true;have:nd (.lst (zeq e.y))=true:=by rw[nd];exact zqM e.y
  rw[this];rfl
theorem zys {F:List Ent}{d:Ent}(h:∀ e∈F,e.p≠d.p):zxb (F.map (·.p)) (F.map znm) d.p (znm d)=fD (F++[d]):=by
 unfold zxb fD;rw[if_neg (fun z=>by
  obtain⟨e,he,e1⟩:=List.mem_map.mp z;exact h e he e1),List.map_append,List.map_append]
 rfl
section
variable {w:Web}(W:zed w) {ks:List Nat}{zs:List Int}(hl:zs.length=w.ts.length) (hz:∀ z∈zs,0<=z)
include W hl hz
theorem zw6 {F:List Ent}{m:Int}(R:Rch w ks zs F m):zbl [.lst ((zbD w ks).map znF),.lst (zs.map D.int),fD F]=.ok (cD (zzQ (zbD w ks) zs F)) :=
 zyR (fun e he=>by have:=(R.wy e he).2.2.2;have:=R.len W;omega) fun s hs=>by
  obtain⟨t,ht,_⟩:=zeB.mp hs;rw[hl];exact(List.getElem?_eq_some_iff.mp ht).1
theorem zAC:∀ (f:Nat) (F:List Ent) (m:Int),Rch w ks zs F m->8<=F.length+f ->
  ∃ G m',Rch w ks zs G m'/\zxU w ks G/\zbT rT rB f [.sh (zbR w),.sh (zbn ks),.sh (.lst (zs.map D.int)),.sh (.lst ((zbD w ks).map znF)),.ow (fD F),.sh (cD (zzQ (zbD w ks) zs F))]=.ok (.nx [.sh (zbR w),.sh (zbn ks),.sh (.lst (zs.map D.int)),.sh (.lst ((zbD w ks).map znF)),.ow (fD G),.sh .non]):=by
 intro f
 induction f with
 | zero=>intro F m R h;have:=R.len W;omega
 | succ f ih =>
  intro F m R h;cases hn:zzQ (zbD w ks) zs F with
  | none =>
   refine⟨F,m,R,R.shut hn,?_⟩;exact znH (by unfold fD;open_line with[cD])
  | some d =>
   obtain⟨R',hne⟩:=R.step W hz hn;obtain⟨G,m',h1,h2,h3⟩:=ih (F++[d]) d.z R' (by rw[List.length_append,List.length_singleton];omega);refine⟨G,m',h1,h2,?_⟩;rw[← h3];refine zqn (by unfold fD;open_line with[cD]) ?_;have hr:=zw6 W hl hz R';have hp:=zys hne;have h9:decide ((F.map (·.p)).length<=900)=true:=decide_eq_true (by rw[List.length_map];have:=R.len W;omega);have q1:dIx (cD (some d)) (.int 1)=.ok (.int d.z):=rfl;have q2:dIx (cD (some d)) (.int 2)=.ok (.lst (zeq d.y)):=rfl;have q0:dIx (cD (some d)) (.int 0)=.ok (.str d.p):=rfl;have he:D.tup [.int d.z,.lst (zeq d.y)]=znm d:=rfl;have hoD:∀ c,zrS [.sh (zbR w),.sh (zbn ks),.sh (.lst (zs.map D.int)),.sh (.lst ((zbD w ks).map znF)),.ow (fD (F++[d])),.sh c]=true:=fun _=>rfl;show rB [.sh (zbR w),.sh (zbn ks),.sh (.lst (zs.map D.int)),.sh (.lst ((zbD w ks).map znF)),.ow (.dic (F.map (·.p)) (F.map znm)),.sh (cD (some d))]=_;open_line with[zuQ,zp8,zp7,zp6 h9,q0,q1,q2,he,hp,zxG,hr,zuP (zDP _) (hoD _)]
theorem zrL:∃ F m,Rch w ks zs F m/\zxU w ks F/\zdM [zbR w,zbn ks,.lst (zs.map D.int)]=.ok (fD F):=by
 have R0:=Rch.start W (ks:=ks) hz;obtain⟨G,m',h1,h2,h3⟩:=zAC W hl hz (ks:=ks) 8 [⟨w.fi,0,[]⟩] 0 R0 (by simp);refine⟨G,m',h1,h2,?_⟩;have hs:=steps_ok W (ks:=ks);have hn:=zw6 W hl hz R0;have i2:dIx (zbR w) (.int 2)=.ok (.str w.fi):=rfl;have hf:fD [⟨w.fi,0,[]⟩]=.dic [w.fi] [.tup [.int 0,.lst []]]:=rfl;rw[hf] at hn h3;have hoD:zrS [.sh (zbR w),.sh (zbn ks),.sh (.lst (zs.map D.int)),.sh (.lst ((zbD w ks).map znF)),.ow (.dic [w.fi] [.tup [.int 0,.lst []]]),.no]=true:=rfl;have hw:∀ (c:Ev->Res D) (s:Ev->Res Fl) (ρ:Ev),zg5 (fun _=>8) c s ρ=zbT c s 8 ρ:=fun _ _ _=>rfl;unfold fD at h3 ⊢;open_line with[zdM,zhJ,hs,i2,zuR,zzf,zwI,zp9,zxG,hn,zuP (zDP _) hoD,hw,h3]
end
open K11 (zeq ways pr zhu)
theorem zx7 {w:Web}{ks:List Nat}{zs:List Int}{F:List Ent}{m:Int}(R:Rch w ks zs F m)(S:zxU w ks F){p:List Nat}{b:Str}(h:zsq w ks w.fi p b):∃ e∈F,e.p=b/\e.z<=zpz zs p:=by
 induction h with
 | nil =>
  obtain⟨e,he,h1,h2,_⟩:=R.fi;exact⟨e,he,h1,by rw[h2];exact Int.le_refl _⟩
 | @snoc p b c n _ g ih =>
  obtain⟨e,he,h1,h2⟩:=ih;obtain⟨t,t1,t2,t3⟩:=g;have hs:(⟨n,b,c⟩:Stp)∈zbD w ks:=zeB.mpr ⟨t,t1,t2,t3⟩;obtain⟨d,hd,hb⟩:=S _ hs e he h1;have:=R.cl _ hs e he h1 d hd hb;refine⟨d,hd,hb,?_⟩;rw[znG];have this:d.z<=e.z+zAt zs n:=this;omega
def lB (w:Web):Int:=bot (w.ts.map (·.l))
def lz (w:Web):List Int:=w.ts.map fun t=>t.l.1*(lB w / t.l.2)
theorem zrH (xs:List Fra):zgK (xs.map some)=xs:=by
 unfold zgK;rw[List.filterMap_map];simp
section
variable {w:Web}(W:zed w)
include W
theorem zi6:0 < lB w/\(lB w).natAbs<=2 ^ 2800/\∀ t∈w.ts,t.l.2∣lB w:=by
 have h:=zxR (xs:=w.ts.map (·.l)) (fun x hx=>by
  obtain⟨t,ht,rfl⟩:=List.mem_map.mp hx;exact(W.ts t ht).l) 1 0 ⟨by decide,by decide⟩
 obtain⟨⟨h1,h2⟩,_,h3⟩:=h;refine⟨h1,?_,fun t ht=>h3 _ (List.mem_map.mpr ⟨t,ht,rfl⟩)⟩;refine Nat.le_trans h2 (Nat.pow_le_pow_right (by decide) ?_);rw[List.length_map];have:=W.t14;omega
theorem zBb:(lz w).length=w.ts.length:=by unfold lz;rw[List.length_map]
theorem zCX:∀ z∈lz w,0<=z:=fun z hz=>by
 obtain⟨t,ht,rfl⟩:=List.mem_map.mp hz;have T:=W.ts t ht;have:=T.l.q1;exact Int.mul_nonneg T.l0 (Int.ediv_nonneg (by have:=(zi6 W).1;omega) (by omega))
theorem zCY (n:Nat):(zAt (lz w) n).natAbs < 2 ^ 3000:=by
 unfold zAt lz;rw[List.getElem?_map];cases e:w.ts[n]? with
 | none=>show(0:Int).natAbs < _;exact Nat.pow_pos (by decide)
 | some t =>
  have T:=W.ts t (List.mem_of_getElem? e);show(t.l.1*(lB w / t.l.2)).natAbs < _;rw[Int.natAbs_mul,show(3000:Nat)=200+2800 from rfl,Nat.pow_add];have h1:t.l.1.natAbs < 2 ^ 200:=Nat.lt_of_lt_of_le T.l.pN (by decide);have h2:(lB w / t.l.2).natAbs<=2 ^ 2800:=Nat.le_trans (Int.natAbs_ediv_le_natAbs _ _) (zi6 W).2.1;exact Nat.lt_of_lt_of_le (Nat.mul_lt_mul_of_lt_of_le h1 h2 (Nat.pow_pos (by decide))) (Nat.le_refl _)
theorem zsV:zcA [zbR w]=.ok (.tup [.lst ((lz w).map D.int),.int (lB w)]):=by
 have t14:=W.t14;have hi:dIx (zbR w) (.int 1)=.ok (.lst (w.ts.map zbS)):=rfl;have hc:∀ A,ziq 1 [] (zdN 0) mYes (zaa (zad 0) (dC (.int 3)) dIx) A (w.ts.map zbS)=.ok (.lst (((w.ts.map (·.l)).map some).map zaz)):=fun A=>by
  rw[K51.comp_pick zbS (fun t=>some (zaz (some t.l))) (by omega)]
  .rw[List.map_map,List.map_map,← List.filterMap_eq_map];rfl
  .intro t ht
   have:dIx (zbS t) (.int 3)=.ok (zaz (some t.l)):=rfl;refine⟨[.sh (zbS t)],rfl,.inr ⟨_,rfl,rfl,?_⟩⟩;open_line with[this]
 have hs:=zvV (os:=(w.ts.map (·.l)).map some) (by rw[List.length_map,List.length_map];omega) (fun x hx=>by
  obtain⟨y,hy,e⟩:=List.mem_map.mp hx;cases e;obtain⟨t,ht,rfl⟩:=List.mem_map.mp hy;exact(W.ts t ht).l)
 rw[zrH] at hs;open_line with[zcA,zfl,hi,hc,hs]
 show Res.ok (D.tup [.lst _,.int (lB w)])=_;unfold lz;rw[List.map_map,List.map_map,List.map_map];rfl
theorem zxW {p:List Nat}(hp:p.length<=7):(zpz (lz w) p).natAbs < 2 ^ 3003:=by
 have key:∀ (p:List Nat),(zpz (lz w) p).natAbs<=p.length*2 ^ 3000:=by
  intro p
  induction p with
  | nil=>show(0:Int).natAbs<=_;simp
  | cons n p ih =>
   have:zpz (lz w) (n::p)=zAt (lz w) n+zpz (lz w) p:=by unfold zpz;rw[List.map_cons,List.sum_cons]
   rw[this,List.length_cons,Nat.add_mul,Nat.one_mul];have h1:=Int.natAbs_add_le (zAt (lz w) n) (zpz (lz w) p);have h2:=zCY W n;omega
 have h:=key p;have h8:p.length*2 ^ 3000<=7*2 ^ 3000:=Nat.mul_le_mul_right _ hp;have h9:7*2 ^ 3000 < 2 ^ 3003:=by
  rw[show(3003:Nat)=3+3000 from rfl,Nat.pow_add];exact Nat.mul_lt_mul_of_pos_right (by decide) (Nat.pow_pos (by decide))
 omega
end
open K11 (zeq ways pr zhu)
def pf (w:Web)(F:List Ent)(p:Str):Option Fra:=(get F p).map fun e=>low e.z (lB w)
def prD (w:Web)(F:List Ent):D:=.dic w.ps (w.ps.map fun p=>zaz (pf w F p))
noncomputable def zvC (w:Web) (F:List Ent):D:=match get F w.la with
 | none=>.tup [.non,.non,prD w F]
 | some e=>.tup [.lst (zeq e.y),fr (low e.z (lB w)),prD w F]
theorem zry {g:Str->D}{k:Str}:∀ {ps:List Str},atD ps (ps.map g) k=if k∈ps then some (g k) else none
 | []=>rfl
 | p::ps=>by
  rw[List.map_cons,atD]
  by_cases h:p=k
  .subst h;simp
  .rw[if_neg h,zry]
   have:k≠p:=fun z=>h z.symm;simp [this]
theorem zAM {w:Web}{F:List Ent}{p:Str}(h:p∈w.ps):zea (prD w F) (.str p)=.ok (zaz (pf w F p)):=by
 show(match atD w.ps (w.ps.map fun p=>zaz (pf w F p)) p with | some d=>Res.ok d | none=>.stuck)=_;rw[zry,if_pos h]
theorem zEB {F:List Ent}(k:Str):zvb (.str k) (fD F)=.ok (.bl (get F k).isSome):=by
 show Res.ok (D.bl (atD (F.map (·.p)) (F.map znm) k).isSome)=_;rw[zlh,Option.isSome_map]
theorem zzd {F:List Ent}(k:Str):zgX (.str k) (fD F)=.ok (.bl (!(get F k).isSome)):=by
 show Res.ok (D.bl (!(atD (F.map (·.p)) (F.map znm) k).isSome))=_;rw[zlh,Option.isSome_map]
theorem zBp {F:List Ent}{k:Str}{e:Ent}(h:get F k=some e):zea (fD F) (.str k)=.ok (znm e):=by
 show(match atD (F.map (·.p)) (F.map znm) k with | some d=>Res.ok d | none=>.stuck)=_;rw[zlh,h];rfl
abbrev pB:Ev->Res Fl :=
 (zaw (zrJ 4 (dIf (zaa (zad 5) (zad 3) zvb) (zam (zae (zaa (zaa (zad 3) (zad 5) zea) (dC (.int 0)) dIx) (zae (zaa (zad 2) (dC (.int 1)) dIx) zaH)) K17.zcb) (dC (.non))) (zad 5))
 zao)
section
variable {w:Web}(W:zed w) {ks:List Nat}{F:List Ent}{m:Int}(R:Rch w ks (lz w) F m)
include W R
theorem zxr {e:Ent}(he:e∈F):e.z.natAbs < 2 ^ 3003:=by
 obtain⟨_,h2,_,h4⟩:=R.wy e he;have:=R.len W;rw[h2];exact zxW W (by omega)
theorem zwa {p:Str}{e:Ent}(h:get F p=some e):K17.zcb [.int e.z,.int (lB w)]=.ok (fr (low e.z (lB w))):=by
 have b13:∀ n,n<=6000->2 ^ n<=B13:=fun n hn=>by rw[zmH];exact Nat.pow_le_pow_right (by decide) (Nat.le_trans hn (by decide))
 obtain⟨h1,h2,_⟩:=zi6 W;refine zqx h1 (Nat.lt_of_lt_of_le (zxr W R (zcV h).1) (b13 3003 (by decide))) (Nat.lt_of_le_of_lt h2 (Nat.lt_of_lt_of_le (Nat.pow_lt_pow_right (by decide) (show 2800 < 2801 by decide)) (b13 2801 (by decide))))
theorem zxh {A:D}:∀ (rest done:List Str) (x5:Sl),(done++rest).Nodup->(done++rest).length<=7->∃ y5,zd2 (zdN 5) pB (rest.map D.str) [.sh (zbR w),.sh A,.sh (.tup [.lst ((lz w).map D.int),.int (lB w)]),.sh (fD F),.ow (.dic done (done.map fun p=>zaz (pf w F p))),x5] =
  .ok (.nx [.sh (zbR w),.sh A,.sh (.tup [.lst ((lz w).map D.int),.int (lB w)]),.sh (fD F),.ow (.dic (done++rest) ((done++rest).map fun p=>zaz (pf w F p))),y5])
 | [],done,x5,_,_=>⟨x5,by rw[List.append_nil];rfl⟩
 | p::rest,done,x5,nd,hl=>by
  have e0:done++p::rest=(done++[p])++rest:=by rw[List.append_assoc];rfl
  rw[e0] at nd hl ⊢;obtain⟨y5,e⟩:=zxh (A:=A) rest (done++[p]) (.sh (.str p)) nd hl;refine⟨y5,?_⟩;have hp:p∉done:=fun z=>by
   have:=(List.nodup_append.mp nd).1;have:=(List.nodup_append.mp this).2.2 p z p (List.mem_singleton.mpr rfl);exact this rfl
  rw[List.map_cons,zfR (ρ1:=[.sh (zbR w),.sh A,.sh (.tup [.lst ((lz w).map D.int),.int (lB w)]),.sh (fD F),.ow (.dic done (done.map fun p=>zaz (pf w F p))),.sh (.str p)]) (ρ2:=[.sh (zbR w),.sh A,.sh (.tup [.lst ((lz w).map D.int),.int (lB w)]),.sh (fD F),.ow (.dic (done++[p]) ((done++[p]).map fun p=>zaz (pf w F p))),.sh (.str p)]) rfl,e];have h9:decide (done.length<=900)=true:=decide_eq_true (by rw[List.length_append,List.length_append] at hl;omega);have hput:∀ d,zxb done (done.map fun p=>zaz (pf w F p)) p d=.dic (done++[p]) ((done.map fun p=>zaz (pf w F p))++[d]):=fun d=>by unfold zxb;rw[if_neg hp]
  have hin:=zEB (F:=F) p;have hw0:zaz none=.non:=rfl;have hw1:∀ x,zaz (some x)=fr x:=fun _=>rfl;have hv:(done++[p]).map (fun p=>zaz (pf w F p))=(done.map fun p=>zaz (pf w F p))++[zaz (pf w F p)]:=by rw[List.map_append];rfl
  rw[hv];cases hg:get F p with
  | none =>
   rw[hg] at hin;simp only[Option.isSome_none] at hin;have hpf:pf w F p=none:=by unfold pf;rw[hg];rfl
   rw[hpf];open_line with[zuQ,zp8,zp7,zp6 h9,hin,hput,hw0]
  | some e' =>
   rw[hg] at hin;simp only[Option.isSome_some] at hin;have hpf:pf w F p=some (low e'.z (lB w)):=by unfold pf;rw[hg];rfl
   rw[hpf];have h4:dIx (znm e') (.int 0)=.ok (.int e'.z):=rfl;open_line with[zuQ,zp8,zp7,zp6 h9,hin,hput,zBp hg,h4,zwa W R hg,hw1]
end
theorem zpD {w:Web}(W:zed w){ks:List Nat}:∃ F m,Rch w ks (lz w) F m/\zxU w ks F/\zeC [zbR w,zbn ks]=.ok (zvC w F):=by
 obtain⟨F,m,R,S,hr⟩:=zrL W (ks:=ks) (zBb W) (zCX W);refine⟨F,m,R,S,?_⟩;have hs:=zsV W;obtain⟨y5,hl⟩:=zxh W R (A:=zbn ks) w.ps [] .no (by rw[List.nil_append];exact W.nm.nd) (by rw[List.nil_append];exact W.n7);rw[List.nil_append,List.map_nil] at hl;have i0:dIx (zbR w) (.int 0)=.ok (.lst (w.ps.map D.str)):=rfl;have i3:dIx (zbR w) (.int 3)=.ok (.str w.la):=rfl;have hni:=zzd (F:=F) w.la;have hpr:=zAM (w:=w) (F:=F) W.la;unfold zvC;cases hg:get F w.la with
 | none =>
  rw[hg] at hni;simp only[Option.isSome_none,Bool.not_false] at hni;open_line with[zeC,zit,hs,hr,zuR,zp9,i0,hl,i3,hni]
  rfl
 | some e =>
  rw[hg] at hni;simp only[Option.isSome_some,Bool.not_true] at hni;have h5:dIx (znm e) (.int 1)=.ok (.lst (zeq e.y)):=rfl;have hpf:pf w F w.la=some (low e.z (lB w)):=by unfold pf;rw[hg];rfl
  rw[hpf] at hpr;unfold prD at hpr ⊢;open_line with[zeC,zit,hs,hr,zuR,zp9,i0,hl,i3,hni,zBp hg,h5,hpr]
  rfl
theorem zm3 {w:Web}(W:zed w){ks:List Nat}(T:zlq w ks):∃ F m,Rch w ks (lz w) F m/\zxU w ks F/\zdl [zbR w,zbn ks]=.ok (zvC w F):=by
 obtain⟨F,m,R,S,h⟩:=zpD W (ks:=ks);have ht:K17.zaT [zbR w,zbn ks]=.ok .non:=Com.taking_ok W T;exact⟨F,m,R,S,by open_line with[zdl,zld,ht,h]⟩
open K11 (zeq ways pr zhu)
open K51 (Bd pl)
def val (x:Fra):Rat:=(x.1:Rat) / (x.2:Rat)
theorem zbP {a:Int}(h:0 < a):(0:Rat) < (a:Rat):=by
 have:=Rat.intCast_lt_intCast.mpr h;simpa using this
theorem zrl {a b c d:Rat}(hb:0 < b)(hd:0 < d):a / b < c / d↔a*d < c*b:=by
 have h1:a / b < c / d↔(a / b)*(b*d) < (c / d)*(b*d):=(Rat.mul_lt_mul_right (Rat.mul_pos hb hd)).symm;rw[h1];have e1:a / b*(b*d)=a*d:=by grind
 have e2:c / d*(b*d)=c*b:=by grind
 rw[e1,e2]
theorem zt0 {x y:Fra}(hx:0 < x.2)(hy:0 < y.2):flt x y=decide (val x < val y):=by
 unfold flt val
 congr 1
 rw[zrl (zbP hx) (zbP hy),← Rat.intCast_mul,← Rat.intCast_mul,Rat.intCast_lt_intCast]
theorem zsF {a b:Int}(hb:0 < b):val (low a b)=(a:Rat) / (b:Rat):=by
 have h:=zy3 (a:=a) (b:=b);have hq:0 < (low a b).2:=by have:=(zic (a:=a) hb).q1;omega
 unfold val;have p1:=zbP hq;have p2:=zbP hb;have e:((low a b).1:Rat)*(b:Rat)=(a:Rat)*((low a b).2:Rat):=by rw[← Rat.intCast_mul,← Rat.intCast_mul,h]
 grind
theorem zsE {x y:Fra}(hx:0 < x.2)(hy:0 < y.2):val (pl x y)=val x+val y:=by
 have:pl x y=low (x.1*y.2+y.1*x.2) (x.2*y.2):=rfl;rw[this,zsF (Int.mul_pos hx hy)];unfold val;have p1:=zbP hx;have p2:=zbP hy;rw[Rat.intCast_add,Rat.intCast_mul,Rat.intCast_mul,Rat.intCast_mul]
 grind
structure Pri (x:Fra):Prop where
 lo:Low x
 p0:0<=x.1
 b:Bd x 3010
theorem Pri.q {x:Fra}(h:Pri x):0 < x.2:=h.b.q0
theorem zt1 {x:Fra}(h:zgo x):Bd x 200:=⟨by have:=h.q1;omega,Nat.lt_of_lt_of_le h.pN (by decide),Nat.lt_of_lt_of_le h.qN (by decide)⟩
def qD (w:Web)(q:Str->Option Fra):D:=.dic w.ps (w.ps.map fun p=>zaz (q p))
theorem zv4 {w:Web}{q:Str->Option Fra}{p:Str}(h:p∈w.ps):zea (qD w q) (.str p)=.ok (zaz (q p)):=by
 show(match atD w.ps (w.ps.map fun p=>zaz (q p)) p with | some d=>Res.ok d | none=>.stuck)=_;rw[zry,if_pos h]
theorem zp0 {o:Option Fra}(h:∀ x,o=some x->Pri x):K17.zcH [zaz o]=.ok (.bl true):=by
 cases o with
 | none=>rfl
 | some x =>
  have hl:=zjV (h x rfl).lo (h x rfl).p0;have hn:zio (fr x) .non=.ok (.bl false):=rfl;show K51.zcH [fr x]=_;open_line with[K51.zcH,K51.zmq,hn,hl]
theorem zy6 {w:Web}(W:zed w){q:Str->Option Fra}(h:∀ p∈w.ps,∀ x,q p=some x->Pri x):za5 [.lst (w.ps.map D.str),qD w q]=.ok (.bl true):=by
 have n7:=W.n7;have hlP:zgl (.lst (w.ps.map D.str))=.ok (.int w.ps.length):=by rw[zds,List.length_map]
 have hlQ:zwQ (qD w q)=.ok (.int w.ps.length):=rfl;have hb:((w.ps.length:Int)==(w.ps.length:Int))=true:=by simp
 have hd:zdt "dict" (qD w q)=.ok (.bl true):=rfl;have hc:∀ A,ziq 1 [1] (zdN 0) mYes (zlw (zaa (zad 0) (zad 1) zvb) (zam (zae (zaa (zad 1) (zad 0) zea) zaH) K17.zcH)) [A,.sh (qD w q)] (w.ps.map D.str)=.ok (.lst ((w.ps.map D.str).map fun _=>.bl true)):=fun A=>znq (by rw[List.length_map];omega) fun d hd=>by
  obtain⟨p,hp,rfl⟩:=List.mem_map.mp hd;refine⟨[.sh (.str p),.sh (qD w q)],rfl,rfl,?_⟩;have hin:zvb (.str p) (qD w q)=.ok (.bl true):=by
   show Res.ok (D.bl (atD w.ps (w.ps.map fun p=>zaz (q p)) p).isSome)=_;rw[zry,if_pos hp];rfl
  open_line with[hin,zv4 hp,zp0 (h p hp)]
 have hall:zzx (.lst ((w.ps.map D.str).map fun _=>.bl true))=.ok (.bl true):=by
  have:=K51.all_ok (ds:=w.ps.map D.str) (g:=fun _=>true);rw[show((w.ps.map D.str).all fun _=>true)=true from List.all_eq_true.mpr fun _ _=>rfl] at this;exact this
 open_line with[za5,zcM,hd,hlP,hlQ,hb,hc,hall]
noncomputable def Let (w:Web) (q:Str->Option Fra) (s:Stp):Prop:=∀ x,q s.a=some x->∀ t,w.ts[s.n]?=some t->∃ y,q s.b=some y/\val y<=val x+val t.l
theorem zBe {o o':Option Fra}{l:Fra}(hl:zgo l)(ho:∀ x,o=some x->Pri x)(ho':∀ x,o'=some x->Pri x)(h:∀ x,o=some x->∃ y,o'=some y/\val y<=val x+val l):K17.zdL [zaz o,fr l,zaz o']=.ok (.bl true):=by
 show K51.zdL [zaz o,fr l,zaz o']=_;cases o with
 | none =>
  have hn:zio (zaz none) .non=.ok (.bl true):=rfl;open_line with[K51.zdL,K51.znC,hn]
 | some x =>
  obtain⟨y,rfl,hv⟩:=h x rfl;have px:=ho x rfl;have py:=ho' y rfl;have bl:=zt1 hl;have hp:=K51.plus_bd px.b bl (by decide);have hle:=K51.less_bd (K51.pl_bd px.b bl) py.b (by decide) (by decide);have hf:flt (pl x l) y=false:=by
   rw[zt0 (K51.pl_bd px.b bl).q0 py.q,zsE px.q bl.q0];refine decide_eq_false fun z=>?_;exact absurd z (Rat.not_lt.mpr hv)
  rw[hf] at hle;have hn:zio (zaz (some x)) .non=.ok (.bl false):=rfl;have hn':zdF (zaz (some y)) .non=.ok (.bl true):=rfl;have e1:zaz (some x)=fr x:=rfl;have e2:zaz (some y)=fr y:=rfl;rw[e1] at hn;rw[e2] at hn';rw[e1,e2];have hp:K51.zeg [fr x,fr l]=.ok (fr (pl x l)):=hp;have hle:K51.zcf [fr (pl x l),fr y]=.ok (.bl false):=hle;open_line with[K51.zdL,K51.znC,hn,hn',hp,hle]
theorem ztF {w:Web}(W:zed w){ks:List Nat}(T:zlq w ks){q:Str->Option Fra}(h:∀ p∈w.ps,∀ x,q p=some x->Pri x)(h0:q w.fi=some (0,1))(hl:∀ s∈zbD w ks,Let w q s):zdK [zbR w,zbn ks,qD w q]=.ok (.bl true):=by
 have ht:K17.zaT [zbR w,zbn ks]=.ok .non:=Com.taking_ok W T;have hj:=zy6 W h;have hs:K17.zbu [zbR w,zbn ks]=.ok (.lst ((zbD w ks).map znF)):=steps_ok W;have i0:dIx (zbR w) (.int 0)=.ok (.lst (w.ps.map D.str)):=rfl;have i1:dIx (zbR w) (.int 1)=.ok (.lst (w.ts.map zbS)):=rfl;have i2:dIx (zbR w) (.int 2)=.ok (.str w.fi):=rfl;have hg:=zv4 (q:=q) W.fi;rw[h0] at hg;have hg:zea (qD w q) (.str w.fi)=.ok (.tup [.int 0,.int 1]):=hg;have hne:dNe (.tup [.int 0,.int 1]) (.tup [.int 0,.int 1])=.ok (.bl false):=rfl;have loop:∀ (ss:List Stp),(∀ s∈ss,s∈zbD w ks)->∀ x3 x4 x5:Sl,∃ y3 y4 y5,zd2 (zm7 [3,4,5]) (zaw (sIf (zet (zam (zae (zaa (zad 2) (zad 4) zea) (zae (zaa (zaa (zaa (zad 0) (dC (.int 1)) dIx) (zad 3) dIx) (dC (.int 3)) dIx) (zae (zaa (zad 2) (zad 5) zea) zaH))) K17.zdL))
 (zaw (zde (dC (.bl false)))
 zao)
 zao)
 zao) (ss.map znF) [.sh (zbR w),.sh (zbn ks),.sh (qD w q),x3,x4,x5]=.ok (.nx [.sh (zbR w),.sh (zbn ks),.sh (qD w q),y3,y4,y5]):=by
  intro ss
  induction ss with
  | nil=>intro _ x3 x4 x5;exact⟨x3,x4,x5,rfl⟩
  | cons s ss ih =>
   intro hm x3 x4 x5;obtain⟨y3,y4,y5,e⟩:=ih (fun u hu=>hm u (List.mem_cons_of_mem _ hu)) (.sh (.int (s.n:Int))) (.sh (.str s.a)) (.sh (.str s.b));refine⟨y3,y4,y5,?_⟩;have hs:=hm s List.mem_cons_self;obtain⟨t,t1,t2,t3⟩:=zeB.mp hs;have TT:=W.ts t (List.mem_of_getElem? t1);obtain⟨wa,wb,_⟩:=zsC TT t3;have h1:=zqp t1;have h3:dIx (zbS t) (.int 3)=.ok (fr t.l):=rfl;have hlet:=zBe TT.l (h s.a wa) (h s.b wb) (fun x hx=>hl s hs x hx t t1);rw[List.map_cons,zfR (ρ1:=[.sh (zbR w),.sh (zbn ks),.sh (qD w q),.sh (.int (s.n:Int)),.sh (.str s.a),.sh (.str s.b)]) (ρ2:=[.sh (zbR w),.sh (zbn ks),.sh (qD w q),.sh (.int (s.n:Int)),.sh (.str s.a),.sh (.str s.b)]) rfl,e];open_line with[i1,h1,h3,zv4 wa,zv4 wb,hlet]
 obtain⟨y3,y4,y5,e⟩:=loop (zbD w ks) (fun _ h=>h) .no .no .no;open_line with[zdK,zhI,ht,i0,hj,i2,hg,hne,hs,e]
open K11 (zeq ways pr zhu)
open K51 (Bd pl)
def zjf (w:Web)(p:List Nat):Rat:=(p.map fun n=>val (K12.lenAt w n)).sum
theorem ztW {w:Web}{ks ks':List Nat}(h:∀ n∈ks,n∈ks'){n:Nat}{a b:Str}(g:zDr w ks' n a b):zDr w ks n a b:=by
 obtain⟨t,h1,h2,h3⟩:=g;exact⟨t,h1,fun z=>h2 (h n z),h3⟩
theorem zsD {w:Web}{ks ks':List Nat}{a b:Str}{p:List Nat}(h:∀ n∈ks,n∈ks')(g:zsq w ks' a p b):zsq w ks a p b:=by
 induction g with
 | nil=>exact .nil
 | snoc _ g ih=>exact .snoc ih (ztW h g)
theorem zrD {w:Web}{ks ks':List Nat}{a b:Str}{p:List Nat}(g:zsq w ks a p b)(h:∀ n∈p,n∈ks'->n∈ks):zsq w ks' a p b:=by
 induction g with
 | nil=>exact .nil
 | @snoc p b c n _ g ih =>
  obtain⟨t,h1,h2,h3⟩:=g;exact .snoc (ih fun m hm=>h m (List.mem_append_left _ hm)) ⟨t,h1,fun z=>h2 (h n (List.mem_append_right _ (List.mem_singleton.mpr rfl)) z),h3⟩
noncomputable def zDp (w v:Web):Prop:=w.fi=v.fi/\∀ (n:Nat) (t:Tie),w.ts[n]?=some t->∃ u,v.ts[n]?=some u/\ways u=ways t
theorem znI {w v:Web}(h:zDp w v){ks:List Nat}{a b:Str}{p:List Nat}(g:zsq w ks a p b):zsq v ks a p b:=by
 induction g with
 | nil=>exact .nil
 | snoc _ g ih =>
  obtain⟨t,h1,h2,h3⟩:=g;obtain⟨u,k1,k2⟩:=h.2 _ t h1;exact .snoc ih ⟨u,k1,h2,by rw[k2];exact h3⟩
theorem zmK {w:Web}{ks:List Nat}{a b:Str}{p:List Nat}(g:zsq w ks a p b):∀ n∈p,n < w.ts.length/\n∉ks:=by
 induction g with
 | nil=>intro n hn;cases hn
 | @snoc p b c n _ g ih =>
  intro m hm;rcases List.mem_append.mp hm with hm | hm
  .exact ih m hm
  .have:m=n:=by simpa using hm
   subst this;obtain⟨t,h1,h2,_⟩:=g;exact⟨(List.getElem?_eq_some_iff.mp h1).1,h2⟩
section
variable {w:Web}(W:zed w)
include W
theorem z_len {n:Nat}(hn:n < w.ts.length):val (K12.lenAt w n)=(zAt (lz w) n:Rat) / (lB w:Rat):=by
 have ht:=List.getElem?_eq_getElem hn;have T:=W.ts w.ts[n] (List.getElem_mem hn);rw[K12.lenAt_of ht];have hz:zAt (lz w) n=w.ts[n].l.1*(lB w / w.ts[n].l.2):=by
  unfold zAt lz;rw[List.getElem?_map,ht];rfl
 obtain⟨h1,_,h3⟩:=zi6 W;have hq:=T.l.q1;have hd:=Int.ediv_mul_cancel (h3 _ (List.getElem_mem hn));have e:zAt (lz w) n*w.ts[n].l.2=w.ts[n].l.1*lB w:=by rw[hz,Int.mul_assoc,hd]
 have p1:=zbP h1;have p2:=zbP (show 0 < w.ts[n].l.2 by omega);have e':(zAt (lz w) n:Rat)*(w.ts[n].l.2:Rat)=(w.ts[n].l.1:Rat)*(lB w:Rat):=by rw[← Rat.intCast_mul,← Rat.intCast_mul,e]
 unfold val
 grind
theorem zmI:∀ {p:List Nat},(∀ n∈p,n < w.ts.length)->(zpz (lz w) p:Rat) / (lB w:Rat)=zjf w p
 | [],_=>by
  show((0:Int):Rat) / _=0;have p1:=zbP (zi6 W).1;rw[show((0:Int):Rat)=0 from rfl]
  grind
 | n::p,h=>by
  have ih:=zmI (p:=p) fun m hm=>h m (List.mem_cons_of_mem _ hm);have h1:=z_len W (h n List.mem_cons_self);have e1:zpz (lz w) (n::p)=zAt (lz w) n+zpz (lz w) p:=by unfold zpz;rw[List.map_cons,List.sum_cons]
  have e2:zjf w (n::p)=val (K12.lenAt w n)+zjf w p:=by unfold zjf;rw[List.map_cons,List.sum_cons]
  have p1:=zbP (zi6 W).1;rw[e1,e2,h1,← ih,Rat.intCast_add]
  grind
variable {ks:List Nat}{F:List Ent}{m:Int}(R:Rch w ks (lz w) F m)
include R
theorem zp4 {e:Ent}(he:e∈F):Pri (low e.z (lB w)):=by
 obtain⟨h1,h2,_⟩:=zi6 W;refine⟨zic h1,zgh (R.mo e he).1 h1,K51.low_bd h1 (K51.p2_lt (zxr W R he) (by decide)) (K51.p2_lt (n:=3010) (m:=2801) ?_ (by decide))⟩;exact Nat.lt_of_le_of_lt h2 (Nat.pow_lt_pow_right (by decide) (by decide))
theorem ze7 {e:Ent}(he:e∈F):val (low e.z (lB w))=(e.z:Rat) / (lB w:Rat)/\val (low e.z (lB w))=zjf w e.y:=by
 have h:=zsF (a:=e.z) (zi6 W).1;obtain⟨h1,h2,_⟩:=R.wy e he;refine⟨h,?_⟩;rw[h,h2];exact zmI W fun n hn=>(zmK h1 n hn).1
theorem ztf:∀ p∈w.ps,∀ x,pf w F p=some x->Pri x:=fun p _ x h=>by
 unfold pf at h;cases e:get F p with
 | none=>rw[e] at h;cases h
 | some d=>rw[e] at h;cases h;exact zp4 W R (zcV e).1
theorem zCM:pf w F w.fi=some (0,1):=by
 obtain⟨e,he,h1,h2,_⟩:=R.fi;have:=zqV R.nd he;rw[h1] at this;unfold pf;rw[this];show some (low e.z (lB w))=_;rw[h2];have hB:=(zi6 W).1;unfold low;rw[show Int.gcd 0 (lB w)=(lB w).natAbs from Int.gcd_zero_left _];have:((lB w).natAbs:Int)=lB w:=by omega
 rw[this,Int.ediv_self (by omega)];simp
theorem zAQ (S:zxU w ks F){s:Stp}(hs:s∈zbD w ks):Let w (pf w F) s:=fun x hx t ht=>by
 unfold pf at hx;cases ea:get F s.a with
 | none=>rw[ea] at hx;cases hx
 | some e =>
  rw[ea] at hx;cases hx;obtain⟨he,hea⟩:=zcV ea;obtain⟨d,hd,hdb⟩:=S s hs e he hea;have hg:=zqV R.nd hd;rw[hdb] at hg;refine⟨low d.z (lB w),by unfold pf;rw[hg];rfl,?_⟩;have hcl:=R.cl s hs e he hea d hd hdb;have hn:=(List.getElem?_eq_some_iff.mp ht).1;have hl:=z_len W hn;rw[K12.lenAt_of ht] at hl;have p1:=zbP (zi6 W).1;show val (low d.z (lB w))<=val (low e.z (lB w))+val t.l;rw[(ze7 W R hd).1,(ze7 W R he).1,hl];have hc:(d.z:Rat)<=(e.z:Rat)+(zAt (lz w) s.n:Rat):=by
   rw[← Rat.intCast_add];exact Rat.intCast_le_intCast.mpr hcl
  refine Rat.not_lt.mp fun z=>?_;have z':((e.z:Rat)+(zAt (lz w) s.n:Rat)) / (lB w:Rat) < (d.z:Rat) / (lB w:Rat):=by
   have:((e.z:Rat)+(zAt (lz w) s.n:Rat)) / (lB w:Rat)=(e.z:Rat) / (lB w:Rat)+(zAt (lz w) s.n:Rat) / (lB w:Rat):=by grind
   rw[this];exact z
  rw[zrl p1 p1] at z';have:=(Rat.mul_lt_mul_right p1).mp z';exact absurd this (Rat.not_lt.mpr hc)
theorem zCg (S:zxU w ks F){p:List Nat}{b:Str}(h:zsq w ks w.fi p b):∃ e∈F,get F b=some e/\val (low e.z (lB w))<=zjf w p:=by
 obtain⟨e,he,h1,h2⟩:=zx7 R S h;have hg:=zqV R.nd he;rw[h1] at hg;refine⟨e,he,hg,?_⟩;rw[(ze7 W R he).1,← zmI W fun n hn=>(zmK h n hn).1];have p1:=zbP (zi6 W).1;refine Rat.not_lt.mp fun z=>?_;rw[zrl p1 p1] at z;have:=(Rat.mul_lt_mul_right p1).mp z;have:=Rat.intCast_lt_intCast.mp this;omega
end
end Pth
namespace K51
open PySem L2 DL Com Bor
theorem amt52 {x:Fra}(A:Amt x):Bd x 52:=by
 have c1:=A.lo.q1;have c2:=A.p0;have c3:=A.p1;have c4:=A.q1;refine⟨by omega,?_,?_⟩
 .rw[show(2:Nat) ^ 52=4503599627370496 from by decide];omega
 .rw[show(2:Nat) ^ 52=4503599627370496 from by decide];omega
theorem pl_fin {x y:Fra}(A:Amt x)(E:El y):zgo (pl x y)/\0<=(pl x y).1:=by
 have h:=pl_bd (amt52 A) E.bd;have hN:2 ^ 113<=N60:=by decide
 have hu:=zrE (amt52 A) E.bd;refine⟨⟨zic hu.q0,Nat.lt_of_lt_of_le h.a hN,Nat.lt_of_lt_of_le h.b hN⟩,zgh ?_ hu.q0⟩;have q1:=A.lo.q1;have q2:=E.lo.q1;exact Int.add_nonneg (Int.mul_nonneg A.p0 (by omega)) (Int.mul_nonneg E.p0 (by omega))
section
variable {W0 A P d v:D}{x:Exn}
end
end K51
namespace K17
open PySem L2 DL Com Bor Pth
open K11 (zeq)
open K51 (Bd pl)
def toI (xs:List Nat):List Int:=xs.map fun(k:Nat)=>(k:Int)
def more (ks:List Nat)(k:Nat):List Nat:=(zgJ (toI (ks++[k]))).map Int.toNat
theorem zqU:∀ (ns:List Int),zgv (ns.map D.int)=some ns
 | []=>rfl
 | n::ns=>by rw[List.map_cons,zgv,zqU];rfl
theorem zjd {ks:List Nat}{k:Nat}{z:Int}(h:z∈zgJ (toI (ks++[k]))):∃ n:Nat,z=(n:Int)/\(n∈ks∨n=k):=by
 have:=(zdQ (toI (ks++[k]))).mem_iff.mp h;obtain⟨n,hn,rfl⟩:=List.mem_map.mp this;refine⟨n,rfl,?_⟩;rcases List.mem_append.mp hn with h | h
 .exact .inl h
 .exact .inr (by simpa using h)
theorem zm1 {ks:List Nat}{k n:Nat}:n∈more ks k↔n∈ks∨n=k:=by
 constructor
 .intro h
  obtain⟨z,hz,rfl⟩:=List.mem_map.mp h;obtain⟨m,rfl,hm⟩:=zjd hz;simpa using hm
 .intro h
  refine List.mem_map.mpr ⟨(n:Int),(zdQ _).mem_iff.mpr (List.mem_map.mpr ⟨n,?_,rfl⟩),by simp⟩;rcases h with h | rfl
  .exact List.mem_append_left _ h
  .exact List.mem_append_right _ (List.mem_singleton.mpr rfl)
theorem zym {ks:List Nat}{k:Nat}(hl:ks.length<=14):zu9 (.lst (zeq (ks++[k])))=.ok (zbn (more ks k)):=by
 have e:zeq (ks++[k])=(toI (ks++[k])).map D.int:=by unfold zeq toI;rw[List.map_map];rfl
 have hlen:(toI (ks++[k])).length < 64:=by unfold toI;rw[List.length_map,List.length_append,List.length_singleton];omega
 rw[e];show(match zgv ((toI (ks++[k])).map D.int) with | some ns=>if ns.length < 64 then Res.ok (D.lst ((zgJ ns).map D.int)) else .stuck | none=>.stuck)=_;rw[zqU];simp only;rw[if_pos hlen];unfold zbn more;rw[List.map_map]
 congr 2
 refine List.map_congr_left fun z hz=>?_;obtain⟨n,rfl,_⟩:=zjd hz;simp
theorem zwm {w:Web}{ks:List Nat}(T:zlq w ks){k:Nat}(hk:k∉ks)(ho:∃ t x,w.ts[k]?=some t/\t.o=some x):zlq w (more ks k):=by
 refine⟨?_,fun n hn=>?_⟩
 .have hnd:(toI (ks++[k])).Nodup:=by
   unfold toI;rw[List.nodup_iff_pairwise_ne,List.pairwise_map];have h1:(ks++[k]).Nodup:=List.nodup_append.mpr ⟨List.Pairwise.imp (fun h=>Nat.ne_of_lt h) T.up,by simp,fun a ha b hb=>by
    have:b=k:=by simpa using hb
    rw[this];intro z;rw[z] at ha;exact hk ha⟩
   exact List.Pairwise.imp (fun h z=>h (by omega)) (List.nodup_iff_pairwise_ne.mp h1)
  have hs:=zfB (toI (ks++[k]));have hn2:(zgJ (toI (ks++[k]))).Nodup:=(zdQ _).nodup_iff.mpr hnd;unfold more;rw[List.pairwise_map];have hb:=(List.Pairwise.and hs (List.nodup_iff_pairwise_ne.mp hn2))
  refine List.Pairwise.imp_of_mem (fun {a b} ha hb h=>?_) hb;obtain⟨x,rfl,_⟩:=zjd ha;obtain⟨y,rfl,_⟩:=zjd hb;have h1:=h.1;have h2:=h.2;simp only[Int.toNat_natCast];omega
 .rcases zm1.mp hn with h | rfl
  .exact T.wo n h
  .exact ho
theorem zCR {w:Web}{F:List Ent}:dIx (zvC w F) (.int 1)=.ok (zaz (pf w F w.la)):=by
 unfold zvC pf;cases get F w.la<;>rfl
theorem zEo {w:Web}{F:List Ent}:dIx (zvC w F) (.int 2)=.ok (qD w (pf w F)):=by
 unfold zvC;cases get F w.la<;>rfl
def zzM (w:Web)(F:List Ent):D:=match get F w.la with
 | none=>.non
 | some e=>.lst (zeq e.y)
theorem zEp {w:Web}{F:List Ent}:dIx (zvC w F) (.int 0)=.ok (zzM w F):=by
 unfold zvC zzM;cases get F w.la<;>rfl
theorem zjU {x y:Fra}{m n:Nat}(hx:Bd x m)(hy:Bd y n)(hm:m<=6000)(hn:n<=6000):zbA [fr x,fr y]=.ok (.bl (decide (val x < val y))):=by
 have h:=K51.lless_bd hx hy hm hn;rw[zt0 hx.q0 hy.q0] at h;exact h
theorem zyU {o o':Option Fra}(ho:∀ x,o=some x->Pri x)(ho':∀ x,o'=some x->Pri x)(h:∀ y,o'=some y->∃ x,o=some x/\val x<=val y):zdp [zaz o,zaz o']=.ok (.bl true):=by
 cases o' with
 | none =>
  have hn:zio (zaz none) .non=.ok (.bl true):=rfl;open_line with[zdp,zg1,hn]
 | some y =>
  obtain⟨x,rfl,hv⟩:=h y rfl;have px:=ho x rfl;have py:=ho' y rfl;have hl:=zjU py.b px.b (by decide) (by decide);rw[decide_eq_false (Rat.not_lt.mpr hv)] at hl;have e1:zaz (some x)=fr x:=rfl;have e2:zaz (some y)=fr y:=rfl;rw[e1,e2];have hn:zio (fr y) .non=.ok (.bl false):=rfl;have hn':zdF (fr x) .non=.ok (.bl true):=rfl;open_line with[zdp,zg1,hn,hn',hl]
def zwq (t:Tie)(y:Fra):Tie:={ t with l:=pl t.l y }
def ziI (w:Web)(n:Nat)(t:Tie)(y:Fra):Web:={ w with ts:=w.ts.set n (zwq t y) }
section
variable {w:Web}(W:zed w) (hw:∀ t∈w.ts,zlp t) {n:Nat}{t:Tie}(ht:w.ts[n]?=some t) {y:Fra}(ay:Amt y)
include W hw ht ay
theorem zy1:zed (ziI w n t y):=by
 refine⟨W.n2,W.n7,W.nm,by show(w.ts.set n (zwq t y)).length<=14;rw[List.length_set];exact W.t14,fun u hu=>?_,W.fi,W.la,W.ne⟩;rcases List.mem_or_eq_of_mem_set hu with h | rfl
 .exact W.ts u h
 .have hm:=List.mem_of_getElem? ht
  have T:=W.ts t hm;have P:=K51.pl_fin (hw t hm).1 (K51.amt_el ay);exact⟨T.a,T.b,T.ne,T.w,P.1,P.2,T.o⟩
omit hw ay W in
theorem zjS {k:Nat}:(ziI w n t y).ts[k]?=if k=n then some (zwq t y) else w.ts[k]?:=by
 have hn:=(List.getElem?_eq_some_iff.mp ht).1;show(w.ts.set n (zwq t y))[k]?=_;rw[List.getElem?_set]
 by_cases h:n=k
 .subst h;simp [hn]
 .have:¬ k=n:=fun z=>h z.symm
  simp [h,this]
omit hw ay W in
theorem ztD:zDp w (ziI w n t y)/\zDp (ziI w n t y) w:=by
 refine⟨⟨rfl,fun k u hu=>?_⟩,rfl,fun k u hu=>?_⟩
 .rw[zjS ht]
  by_cases h:k=n
  .subst h
   rw[ht] at hu;cases hu;rw[if_pos rfl];exact⟨_,rfl,rfl⟩
  .rw[if_neg h];exact⟨u,hu,rfl⟩
 .rw[zjS ht] at hu
  by_cases h:k=n
  .subst h
   rw[if_pos rfl] at hu;cases hu;exact⟨t,ht,rfl⟩
  .rw[if_neg h] at hu;exact⟨u,hu,rfl⟩
theorem zwp {ks:List Nat}(T:zlq w ks):zlq (ziI w n t y) ks:=⟨T.up,fun k hk=>by
 obtain⟨u,x,h1,h2⟩:=T.wo k hk;rw[zjS ht]
 by_cases h:k=n
 .subst h
  rw[ht] at h1;cases h1;rw[if_pos rfl];exact⟨_,x,rfl,h2⟩
 .rw[if_neg h];exact⟨u,x,h1,h2⟩⟩
theorem zqO {k:Nat}:val (K12.lenAt (ziI w n t y) k)=val (K12.lenAt w k)+if k=n then val y else 0:=by
 by_cases h:k=n
 .subst h
  have h1:(ziI w k t y).ts[k]?=some (zwq t y):=by rw[zjS ht,if_pos rfl]
  rw[K12.lenAt_of h1,K12.lenAt_of ht,if_pos rfl];have hm:=List.mem_of_getElem? ht;exact zsE (zt1 (W.ts t hm).l).q0 (K51.amt52 ay).q0
 .rw[if_neg h,Rat.add_zero]
  unfold K12.lenAt;rw[zjS ht,if_neg h]
theorem zw2 {x:Fra}(h0:0<=x.1)(hq:0 < x.2):0<=val x:=by
 refine Rat.not_lt.mp fun z=>?_;have e:(0:Rat)=(0:Rat) / 1:=by grind
 unfold val at z;rw[e,zrl (zbP hq) (by decide)] at z;have:(x.1:Rat) < ((0:Int):Rat):=by simpa using z
 have:=Rat.intCast_lt_intCast.mp this;omega
theorem zn5:∀ (p:List Nat),zjf w p<=zjf (ziI w n t y) p
 | []=>Rat.le_refl
 | k::p=>by
  have ih:=zn5 p;have h1:=zqO W hw ht ay (k:=k);have h2:=zw2 W hw ht ay ay.p0 (K51.amt52 ay).q0;have e1:zjf (ziI w n t y) (k::p)=val (K12.lenAt (ziI w n t y) k)+zjf (ziI w n t y) p:=by unfold zjf;rw[List.map_cons,List.sum_cons]
  have e2:zjf w (k::p)=val (K12.lenAt w k)+zjf w p:=by unfold zjf;rw[List.map_cons,List.sum_cons]
  rw[e1,e2,h1];split<;>grind
theorem zn4:∀ (p:List Nat),p.Nodup->zjf (ziI w n t y) p<=zjf w p+val y/\(n∉p->zjf (ziI w n t y) p=zjf w p)
 | [],_=>by
  have h2:=zw2 W hw ht ay ay.p0 (K51.amt52 ay).q0;refine⟨?_,fun _=>rfl⟩;show(0:Rat)<=0+val y
  grind
 | k::p,nd=>by
  have hnd:=List.nodup_cons.mp nd;obtain⟨i1,i2⟩:=zn4 p hnd.2;have h1:=zqO W hw ht ay (k:=k);have e1:zjf (ziI w n t y) (k::p)=val (K12.lenAt (ziI w n t y) k)+zjf (ziI w n t y) p:=by unfold zjf;rw[List.map_cons,List.sum_cons]
  have e2:zjf w (k::p)=val (K12.lenAt w k)+zjf w p:=by unfold zjf;rw[List.map_cons,List.sum_cons]
  rw[e1,e2,h1]
  by_cases h:k=n
  .subst h
   have:=i2 hnd.1;rw[if_pos rfl,this];refine⟨?_,fun z=>absurd List.mem_cons_self z⟩
   grind
  .rw[if_neg h]
   refine⟨by grind,fun z=>?_⟩;have:=i2 fun hm=>z (List.mem_cons_of_mem _ hm);rw[this,Rat.add_zero]
end
open K11 (zeq)
open K51 (Bd pl)
noncomputable def cK (w:Web) (ks:List Nat) (k:Nat):Bool:=(match w.ts[k]? with | some t=>t.o.isSome | none=>false)&&!(decide (k∈ks))
def zlG (w:Web)(ks:List Nat):List Nat:=(List.range w.ts.length).filter (cK w ks)
theorem zwz {w:Web}{ks:List Nat}{k:Nat}(h:k∈zlG w ks):k∉ks/\∃ t x,w.ts[k]?=some t/\t.o=some x:=by
 have h2:=(List.mem_filter.mp h).2;unfold cK at h2;rw[Bool.and_eq_true] at h2;refine⟨by simpa using h2.2,?_⟩;cases e:w.ts[k]? with
 | none=>rw[e] at h2;cases h2.1
 | some t =>
  rw[e] at h2;cases eo:t.o with
  | none=>simp [eo] at h2
  | some x=>exact⟨t,x,rfl,eo⟩
theorem zpK {c:Nat->Bool}:∀ (L:List Nat),L.filterMap (fun k=>if c k=true then some (D.int (k:Int)) else none)=zeq (L.filter c)
 | []=>rfl
 | k::L=>by
  by_cases h:c k=true
  .rw[List.filterMap_cons_some (b:=D.int (k:Int)) (by rw[if_pos h]),zpK L,List.filter_cons_of_pos h];rfl
  .rw[List.filterMap_cons_none (by rw[if_neg h]),zpK L,List.filter_cons_of_neg h]
theorem zza {w:Web}(W:zed w){ks:List Nat}{A B:List Sl}{x0:Sl}:ziq 1 [2,1] (zdN 0) (zlw (zaa (zaa (zaa (zaa (zad 2) (dC (.int 1)) dIx) (zad 0) dIx) (dC (.int 4)) dIx) (dC (.non)) zdF) (zaa (zad 0) (zad 1) zdd)) (zad 0) (x0::.sh (zbR w)::.sh (zbn ks)::B) (DL.intsFrom 0 w.ts.length)=.ok (.lst (zeq (zlG w ks))):=by
 have t14:=W.t14;have e:DL.intsFrom 0 w.ts.length=(List.range w.ts.length).map fun(k:Nat)=>D.int (k:Int):=by
  unfold DL.intsFrom;refine List.map_congr_left fun k _=>?_;rw[Int.zero_add]
 have i1:dIx (zbR w) (.int 1)=.ok (.lst (w.ts.map zbS)):=rfl;rw[e,K51.comp_pick (fun(k:Nat)=>D.int (k:Int)) (fun k=>if cK w ks k=true then some (D.int (k:Int)) else none) (by rw[List.length_range];omega),zpK]
 .rfl
 .intro k hk
  have hk:=List.mem_range.mp hk;have ht:=List.getElem?_eq_getElem hk;have h1:=zqp ht;have h4:dIx (zbS w.ts[k]) (.int 4)=.ok (zaz w.ts[k].o):=rfl;have hni:=K11.notIn_nums (ks:=ks) (n:=k);refine⟨[.sh (.int (k:Int)),.sh (zbn ks),.sh (zbR w)],rfl,?_⟩;unfold cK;rw[ht];unfold zbn;cases ho:w.ts[k].o with
  | none =>
   have hn:zdF (zaz none) .non=.ok (.bl false):=rfl;rw[ho] at h4;refine .inl ⟨by simp [ho],?_⟩;open_line with[i1,h1,h4,hn]
  | some x =>
   have hn:zdF (zaz (some x)) .non=.ok (.bl true):=rfl;rw[ho] at h4
   by_cases hm:k∈ks
   .rw[decide_eq_true hm] at hni
    refine .inl ⟨by simp [ho,hm],?_⟩;open_line with[i1,h1,h4,hn,hni]
   .rw[decide_eq_false hm] at hni
    refine .inr ⟨.int (k:Int),by simp [ho,hm],?_,?_⟩
    .open_line with[i1,h1,h4,hn,hni]
    .open_line with[]
theorem zxj {xs:List Nat}{v:Int}(v0:0<=v)(v1:v < (xs.length:Int)):∃ k,k∈xs/\dIx (.lst (zeq xs)) (.int v)=.ok (.int (k:Int)):=by
 obtain⟨n,rfl⟩:=Int.eq_ofNat_of_zero_le v0;have hn:n < xs.length:=by omega
 exact⟨xs[n],List.getElem_mem hn,zjW (by unfold zeq;rw[List.getElem?_map,List.getElem?_eq_getElem hn];rfl)⟩
theorem zwY {ks:List Nat}{k:Nat}(hl:ks.length<=14):zcP (zbn ks) (.lst [.int (k:Int)])=.ok (.lst (zeq (ks++[k]))):=by
 unfold zbn;rw[zfX (decide_eq_true (by rw[List.length_map];simp;omega))];unfold zeq;rw[List.map_append];rfl
theorem zvO {w:Web}{n:Nat}{t':Tie}(hn:n < w.ts.length):zlI (w.ts.map zbS) none (some (n:Int))++[zbS t']++zlI (w.ts.map zbS) (some ((n:Int)+1)) none=(w.ts.set n t').map zbS:=by
 have e1:zlI (w.ts.map zbS) none (some (n:Int))=(w.ts.map zbS).take n:=by
  unfold zlI;rw[HT.sIx_none,HT.sIx_nat,List.drop_zero,List.length_map,Nat.sub_zero,Nat.min_eq_left (by omega)]
 have e2:zlI (w.ts.map zbS) (some ((n:Int)+1)) none=(w.ts.map zbS).drop (n+1):=by
  unfold zlI;rw[show(n:Int)+1=((n+1:Nat):Int) from rfl,HT.sIx_none,HT.sIx_nat,List.length_map,Nat.min_eq_left (by omega)];exact List.take_of_length_le (by rw[List.length_drop,List.length_map];omega)
 rw[e1,e2,List.set_eq_take_append_cons_drop,if_pos hn,List.map_append,List.map_cons,List.map_take,List.map_drop,List.append_assoc];rfl
theorem zv0 (a:Addr){w:Web}(W:zed w)(hw:∀ t∈w.ts,zlp t){ks:List Nat}(T:zlq w ks){st:List D}(S:St st):∃ st',zbv a st [zbR w,zbn ks]=.ok (.bl true,st')/\St st':=by
 have t14:=W.t14;have hkl:=zz1 T.up T.lt;obtain⟨F,m,R,Sh,hl⟩:=zm3 W T;have i1:dIx (zbR w) (.int 1)=.ok (.lst (w.ts.map zbS)):=rfl;have hlen:zgl (.lst (w.ts.map zbS))=.ok (.int ((w.ts.length:Nat):Int)):=by rw[zds,List.length_map]
 have hsrc:=Cod.srcR1_nat (show w.ts.length<=1000000 by omega);have hfree:=fun(B:List Sl) (x0:Sl)=>zza W (ks:=ks) (A:=[]) (B:=B) (x0:=x0);cases hs:zlG w ks with
 | nil =>
  rw[hs] at hfree;have hfree:∀ (B:List Sl) (x0:Sl),_=Res.ok (D.lst []):=hfree;have e0:dEq (.lst []) (.lst [])=.ok (.bl true):=rfl;refine⟨st,?_,S⟩;open_line with[zbv,zdz,hl,i1,Cod.ev_srcR1,hlen,hsrc,hfree,e0]
 | cons c cs =>
  have hs:∃ c cs,zlG w ks=c::cs:=⟨c,cs,hs⟩
  have en:dEq (.lst (zeq (zlG w ks))) (.lst [])=.ok (.bl false):=by
   obtain⟨c,cs,e⟩:=hs;rw[e];exact K11.ne_nil rfl K11.shal_nums
  have hll:zgl (.lst (zeq (zlG w ks)))=.ok (.int (((zlG w ks).length:Nat):Int)):=by rw[zds];unfold zeq;rw[List.length_map]
  have hcl:(zlG w ks).length<=14:=by
   refine Nat.le_trans (List.length_filter_le _ _) ?_;rw[List.length_range];exact t14
  have hpos:0 < (zlG w ks).length:=by
   obtain⟨c,cs,e⟩:=hs;rw[e];simp
  obtain⟨v,st1,t1,v0,v1,S1⟩:=za9 a (n:=(((zlG w ks).length:Nat):Int)) (by omega) (by omega) S;obtain⟨one,h1m,h1⟩:=zxj v0 v1;obtain⟨hon,hot⟩:=zwz (w:=w) (ks:=ks) h1m;have T':=zwm T hon hot;obtain⟨F',m',R',Sh',hl'⟩:=zm3 W T';have hadd:=zwY (ks:=ks) (k:=one) (by omega);have hsort:=zym (ks:=ks) (k:=one) (by omega);have sub:∀ n∈ks,n∈more ks one:=fun n hn=>zm1.mpr (.inl hn);have hle:∀ e',get F' w.la=some e'->∃ e,get F w.la=some e/\e∈F/\val (low e.z (lB w))<=val (low e'.z (lB w)):=fun e' h'=>by
   have hm':=zcV h';have hwk:=(R'.wy e' hm'.1).1;rw[hm'.2] at hwk;obtain⟨e,he,hg,hv⟩:=zCg W R Sh (zsD sub hwk);exact⟨e,hg,he,by rw[(ze7 W R' hm'.1).2];exact hv⟩
  have hmore:zdp [zaz (pf w F w.la),zaz (pf w F' w.la)]=.ok (.bl true):=zyU (ztf W R w.la W.la) (ztf W R' w.la W.la) (fun y hy=>by
   unfold pf at hy;cases h':get F' w.la with
   | none=>rw[h'] at hy;cases hy
   | some e' =>
    rw[h'] at hy;cases hy;obtain⟨e,hg,_,hv⟩:=hle e' h';exact⟨_,by unfold pf;rw[hg];rfl,hv⟩)
  have hlets:=ztF W T' (ztf W R) (zCM W R) (fun s hs=>zAQ W R Sh (zeB.mpr (by
   obtain⟨t,h1,h2,h3⟩:=zeB.mp hs;exact⟨t,h1,fun z=>h2 (sub _ z),h3⟩)))
  have hB:zwP (.bl true) (.bl true)=.ok (.bl false):=rfl;have o0:=zEp (w:=w) (F:=F);have o1:=zCR (w:=w) (F:=F);have o1':=zCR (w:=w) (F:=F');have o2:=zEo (w:=w) (F:=F);cases hg:get F w.la with
  | none =>
   have hn:zio (zzM w F) .non=.ok (.bl true):=by unfold zzM;rw[hg];rfl
   refine⟨st1,?_,S1⟩;open_line with[zbv,zdz,hl,i1,Cod.ev_srcR1,hlen,hsrc,hfree,en,hll,t1,h1,hadd,hsort,hl',o1,o1',hmore,o2,hlets,hB,o0,hn]
  | some e =>
   obtain⟨he,hep⟩:=zcV hg;have hwk:=(R.wy e he).1;rw[hep] at hwk;have hwd:zzM w F=.lst (zeq e.y):=by unfold zzM;rw[hg]
   rw[hwd] at o0;have hpf:pf w F w.la=some (low e.z (lB w)):=by unfold pf;rw[hg];rfl
   have hw1:zaz (some (low e.z (lB w)))=fr (low e.z (lB w)):=rfl;rw[hpf,hw1] at o1 hmore;have hn:zio (.lst (zeq e.y)) .non=.ok (.bl false):=rfl;have hni:=K11.notIn_nums (ks:=e.y) (n:=one);have hand:(zdd (.int (one:Int)) (.lst (zeq e.y))=.ok (.bl false))∨(zdd (.int (one:Int)) (.lst (zeq e.y))=.ok (.bl true)/\dNe (zaz (pf w F' w.la)) (fr (low e.z (lB w)))=.ok (.bl false)):=by
    by_cases hm:one∈e.y
    .rw[decide_eq_true hm] at hni;exact .inl hni
    .rw[decide_eq_false hm] at hni
     refine .inr ⟨hni,?_⟩;obtain⟨e',he',hg',hv'⟩:=zCg W R' Sh' (zrD hwk fun n hn hk=>by
      rcases zm1.mp hk with h | rfl
      .exact h
      .exact absurd hn hm)
     obtain⟨e2,hg2,_,hv2⟩:=hle e' hg';rw[hg] at hg2;cases hg2;have hval:val (low e'.z (lB w))=val (low e.z (lB w)):=by
      rw[← (ze7 W R he).2] at hv';exact Rat.le_antisymm hv' hv2
     have hB:=(zi6 W).1;have hz:e'.z=e.z:=by
      rw[(ze7 W R' he').1,(ze7 W R he).1] at hval;have p1:=zbP hB;have:(e'.z:Rat)=(e.z:Rat):=by grind
      exact Rat.intCast_inj.mp this
     have:pf w F' w.la=some (low e.z (lB w)):=by unfold pf;rw[hg',← hz];rfl
     rw[this,hw1];exact zCV
   have hyl:e.y.length < 7:=by have:=(R.wy e he).2.2.2;have:=R.len W;omega
   have hy0:0 < e.y.length:=by
    cases hy:e.y with
    | nil =>
     rw[hy] at hwk;have:w.fi=w.la:=by
      generalize hb:w.la=b at hwk;generalize hp:([]:List Nat)=p at hwk;cases hwk with
      | nil=>rfl
      | snoc _ _=>simp at hp
     exact absurd this W.ne
    | cons n p=>simp
   have hyl':zgl (.lst (zeq e.y))=.ok (.int ((e.y.length:Nat):Int)):=by rw[zds];unfold zeq;rw[List.length_map]
   obtain⟨u,st2,t2,u0,u1,S2⟩:=za9 a (n:=((e.y.length:Nat):Int)) (by omega) (by omega) S1;obtain⟨n,hnm,h2⟩:=zxj u0 u1;have hnl:=(zmK hwk n hnm).1;have ht:=List.getElem?_eq_getElem hnl;have hti:=zqp ht;obtain⟨y,st3,t3,_,_,_,ay,S3⟩:=ziw a (l:=1) (.inr rfl) S2;have W':=zy1 W hw ht ay;have T2:=zwp W hw ht ay T;obtain⟨F2,m2,R2,Sh2,hl2⟩:=zm3 W' T2;obtain⟨lk1,lk2⟩:=ztD ht (y:=y);obtain⟨e2,he2,hg2,hv2⟩:=zCg W' R2 Sh2 (znI lk1 hwk);have hg2':get F2 (ziI w n w.ts[n] y).la=some e2:=hg2;have hpf2:pf (ziI w n w.ts[n] y) F2 (ziI w n w.ts[n] y).la=some (low e2.z (lB (ziI w n w.ts[n] y))):=by unfold pf;rw[hg2'];rfl
   have o12:=zCR (w:=ziI w n w.ts[n] y) (F:=F2);rw[hpf2] at o12;have o12:dIx (zvC (ziI w n w.ts[n] y) F2) (.int 1)=.ok (fr (low e2.z (lB (ziI w n w.ts[n] y)))):=o12;have p1:=zp4 W R he;have p2:=zp4 W' R2 he2;have hwk2:=(R2.wy e2 he2).1;rw[(zcV hg2).2] at hwk2;have v1:val (low e.z (lB w))<=val (low e2.z (lB (ziI w n w.ts[n] y))):=by
    obtain⟨e3,he3,hg3,hv3⟩:=zCg W R Sh (znI lk2 hwk2);rw[hg] at hg3;cases hg3;rw[(ze7 W' R2 he2).2];exact Rat.le_trans hv3 (zn5 W hw ht ay _)
   have v2:val (low e2.z (lB (ziI w n w.ts[n] y)))<=val (low e.z (lB w))+val y:=by
    rw[(ze7 W R he).2];exact Rat.le_trans hv2 (zn4 W hw ht ay _ (R.wy e he).2.2.1).1
   have by_:=(K51.amt52 ay)
   have l1:=zjU p2.b p1.b (by decide) (by decide);rw[decide_eq_false (Rat.not_lt.mpr v1)] at l1;have hpl:zbd [fr (low e.z (lB w)),fr y]=.ok (fr (pl (low e.z (lB w)) y)):=K51.lplus_bd p1.b by_ (by decide);have l2:=zjU (K51.pl_bd p1.b by_) p2.b (by decide) (by decide);rw[zsE p1.q by_.q0,decide_eq_false (Rat.not_lt.mpr v2)] at l2;have hpt:zbd [fr w.ts[n].l,fr y]=.ok (fr (pl w.ts[n].l y)):=K51.lplus_bd (zt1 (W.ts _ (List.getElem_mem hnl)).l) by_ (by decide);have etie:zbS w.ts[n]=.tup [.str w.ts[n].a,.str w.ts[n].b,.str w.ts[n].w,fr w.ts[n].l,zaz w.ts[n].o]:=rfl;have q3:dIx (zbS w.ts[n]) (.int 3)=.ok (fr w.ts[n].l):=rfl;have s1:zzO (zbS w.ts[n]) none (some 3)=.ok (.tup [.str w.ts[n].a,.str w.ts[n].b,.str w.ts[n].w]):=rfl;have s2:zzO (zbS w.ts[n]) (some 4) none=.ok (.tup [zaz w.ts[n].o]):=rfl;have s3:zcP (.tup [.str w.ts[n].a,.str w.ts[n].b,.str w.ts[n].w]) (.tup [fr (pl w.ts[n].l y)])=.ok (.tup [.str w.ts[n].a,.str w.ts[n].b,.str w.ts[n].w,fr (pl w.ts[n].l y)]):=zik rfl;have s4:zcP (.tup [.str w.ts[n].a,.str w.ts[n].b,.str w.ts[n].w,fr (pl w.ts[n].l y)]) (.tup [zaz w.ts[n].o])=.ok (zbS (zwq w.ts[n] y)):=zik rfl;have lA:=K11.cut_len (ws:=w.ts.map zbS) (lo:=none) (hi:=some (n:Int));have lB':=K11.cut_len (ws:=w.ts.map zbS) (lo:=some ((n:Int)+1)) (hi:=none);rw[List.length_map] at lA lB';have s5:=K11.add_any (xs:=zlI (w.ts.map zbS) none (some (n:Int))) (ys:=[zbS (zwq w.ts[n] y)]) (by simp;omega);have s6:=K11.add_any (xs:=zlI (w.ts.map zbS) none (some (n:Int))++[zbS (zwq w.ts[n] y)]) (ys:=zlI (w.ts.map zbS) (some ((n:Int)+1)) none) (by simp;omega);rw[zvO hnl] at s6;have i0:dIx (zbR w) (.int 0)=.ok (.lst (w.ps.map D.str)):=rfl;have i2:dIx (zbR w) (.int 2)=.ok (.str w.fi):=rfl;have i3:dIx (zbR w) (.int 3)=.ok (.str w.la):=rfl;have ew:D.tup [.lst (w.ps.map D.str),.lst ((w.ts.set n (zwq w.ts[n] y)).map zbS),.str w.fi,.str w.la]=zbR (ziI w n w.ts[n] y):=rfl;refine⟨st3,?_,S3⟩;rcases hand with ha | ⟨ha,hb⟩
   .open_line with[zbv,zdz,hl,i1,Cod.ev_srcR1,hlen,hsrc,hfree,en,hll,t1,h1,hadd,hsort,hl',o1,o1',hmore,o2,hlets,hB,o0,hn,ha,hyl',t2,h2,hti,t3,s1,s2,q3,hpt,s3,s4,s5,s6,i0,i2,i3,ew,hl2,o12,l1,hpl,l2]
   .open_line with[zbv,zdz,hl,i1,Cod.ev_srcR1,hlen,hsrc,hfree,en,hll,t1,h1,hadd,hsort,hl',o1,o1',hmore,o2,hlets,hB,o0,hn,ha,hb,hyl',t2,h2,hti,t3,s1,s2,q3,hpt,s3,s4,s5,s6,i0,i2,i3,ew,hl2,o12,l1,hpl,l2]
end K17
namespace K12
open PySem L2 DL Com Bor K11
section
variable {f g:Ev->List D->Res (D×List D)}{ρ:Ev}{st:List D}
theorem em_or:mOr f g ρ st=(f ρ st).bind (zCc g ρ):=zat rfl
theorem em_or1:zCc g ρ (.bl true,st)=.ok (.bl true,st):=zat rfl
theorem em_or2:zCc g ρ (.bl false,st)=g ρ st:=zat rfl
theorem em_not:zA8 f ρ st=(f ρ st).bind zyX:=zat rfl
theorem em_not1 {b:Bool}:zyX (.bl b,st)=.ok (.bl (!b),st):=zat rfl
end
end K12
namespace K17
open PySem L2 DL Com Bor Pth
theorem zAy {ds:List D}{n k:Nat}(h:Rp (.tup ds) n k)(hn:n<=sizeLine)(hk:k<=100):∃ z,zk2 (.tup ds)=.ok (.str z):=by
 obtain⟨p,h1,h2,h3,h4⟩:=h;refine⟨p.shown,?_⟩;unfold zk2;rw[h1];show(if _ then _ else _)=_;have hs:znP p=true:=by
  unfold znP;rw[h2,decide_eq_true (Nat.le_trans h3 hk),decide_eq_true (Nat.le_trans h4 hn)];rfl
 rw[if_pos ⟨rfl,hs⟩]
theorem zyS {ks:List Nat}:dNe (zbn ks) (zbn ks)=.ok (.bl false):=by
 have h:zbo 40 (zbn ks)=true:=K11.shal_nums (m:=39);unfold dNe;rw[if_pos ⟨h,h⟩,zhv 40 _ h];rfl
abbrev lB' (a:Addr):Ev->List D->Res MFl :=
 (za8 (zgu 6 (zbm 2 a (zaZ (mP (zad 3)) (zaZ (mB (mP (dC (.int 2))) (zbm 2 a (zaZ (mP (dC (.int 6))) zee) zas) zcP) zee)) zbz))
 (za8 (zcT (zb6 7 (zam (zae (zad 6) zaH) (m1 zsh))))
 (za8 (mIf (mOr (zA8 (zbm 2 a (zaZ (mP (zad 3)) (zaZ (mP (zad 6)) zee)) zbv)) (mOr (mT (zaa (zad 6) (zad 7) dNe)) (mT (zaa (zam (zae (zad 3) zaH) (m1 zk2)) (zad 4) dNe))))
 (za8 (zfO (dC (.bl false)))
 zbe)
 zbe)
 zbe)))
theorem zvM (a:Addr){w:Web}(W:zed w)(hw:∀ t∈w.ts,zlp t){z:Str}(hz:zk2 (zbR w)=.ok (.str z)){st:List D}(S:St st){d0 d1 d5:D}{x6 x7:Sl} :
  ∃ d6 d7 st',lB' a [.sh d0,.sh d1,.pt a,.sh (zbR w),.sh (.str z),.sh d5,x6,x7] st=.ok (.nx [.sh d0,.sh d1,.pt a,.sh (zbR w),.sh (.str z),.sh d5,.sh d6,.sh d7] st')/\St st':=by
 obtain⟨r,st2,t2,r0,r1,S2⟩:=za9 a (n:=6) (by decide) (by decide) S;obtain⟨ks,st3,t3,T,S3⟩:=taking_ok a W (r:=2+r) ⟨by omega,by omega⟩ S2;obtain⟨st4,t4,S4⟩:=zv0 a W hw T S3;have hli:zsh (zbn ks)=.ok (zbn ks):=rfl;have hez:dNe (.str z) (.str z)=.ok (.bl false):=by rw[K11.ne_str,decide_eq_true rfl];rfl
 refine⟨zbn ks,zbn ks,st4,?_,S4⟩;open_line with[t2,t3,hli,t4,zyS,hz,hez,K12.em_or,K12.em_or1,K12.em_or2,K12.em_not,K12.em_not1]
theorem zCm (a:Addr){w:Web}(W:zed w)(hw:∀ t∈w.ts,zlp t){z:Str}(hz:zk2 (zbR w)=.ok (.str z)){st:List D}(S:St st){d0 d1:D}{x5 x6 x7:Sl} :
  ∃ y5 y6 y7 st',DL.forM (zdN 5) (lB' a) (intsFrom 0 4) [.sh d0,.sh d1,.pt a,.sh (zbR w),.sh (.str z),x5,x6,x7] st=.ok (.nx [.sh d0,.sh d1,.pt a,.sh (zbR w),.sh (.str z),y5,y6,y7] st'):=by
 obtain⟨ρ2,st2,h,⟨y5,y6,y7,rfl⟩,_⟩:=zjg (tg:=zdN 5) (body:=lB' a) (fun _ ρ st=>(∃ y5 y6 y7,ρ=[.sh d0,.sh d1,.pt a,.sh (zbR w),.sh (.str z),y5,y6,y7])/\St st) (intsFrom 0 4) (by
  rintro j d ρ st hd ⟨⟨y5,y6,y7,rfl⟩,S⟩;obtain⟨d6,d7,st',e,S'⟩:=zvM a W hw hz S (d0:=d0) (d1:=d1) (d5:=d) (x6:=y6) (x7:=y7);exact⟨_,_,st',rfl,.inl e,⟨_,_,_,rfl⟩,S'⟩) 0 [.sh d0,.sh d1,.pt a,.sh (zbR w),.sh (.str z),x5,x6,x7] st (Nat.zero_le _) ⟨⟨_,_,_,rfl⟩,S⟩
 exact⟨y5,y6,y7,st2,h⟩
abbrev zwi (a:Addr):Ev->List D->Res MFl :=
 (za8 (zgu 3 (zbm 2 a (zaZ (mP (dC (.int 7))) (zaZ (mP (dC (.int 14))) zee)) zb9))
 (za8 (zcT (zb6 4 (zam (zae (zad 3) zaH) (m1 zk2))))
 (za8 (zn2 (zxl (zgI (dC (.int 4)))) (zdN 5)
 (lB' a))
 zbe)))
theorem zvN (a:Addr){d0 d1:D}{st:List D}(S:St st):∃ d3 d4 y5 y6 y7 st',zwi a [.sh d0,.sh d1,.pt a,.no,.no,.no,.no,.no] st=.ok (.nx [.sh d0,.sh d1,.pt a,.sh d3,.sh d4,y5,y6,y7] st'):=by
 obtain⟨w,st1,t1,W,hw,S1⟩:=zx5 a (p:=7) (q:=14) ⟨by decide,by decide⟩ (by decide) S;obtain⟨z,hz⟩:∃ z,zk2 (zbR w)=.ok (.str z):=zAy (zAx W) (by decide) (by decide);obtain⟨y5,y6,y7,st5,hf⟩:=zCm a W hw hz S1 (d0:=d0) (d1:=d1) (x5:=.no) (x6:=.no) (x7:=.no);have hs:∀ ρ,zgI (dC (.int 4)) ρ=.ok (intsFrom 0 4):=fun _=>rfl;refine⟨zbR w,.str z,y5,y6,y7,st5,?_⟩;have t1:zb9 a st [.int 7,.int 14]=.ok (zbR w,st1):=t1;open_line with[t1,hz,hs,hf]
theorem zwr (ns:List Int)(hn:ns.length<=63):ztC [.lst (ns.map D.int)]=.ok (.bl true):=by
 obtain⟨q,m,hm,h1,hq⟩:∃ (q:Int) (m:Nat),m<=10/\zCe (.int ns.length) (.int 10)=.ok (.int q)/\(if q > 1 then q else 1)=(m:Int):=by
  have h1:zCe (.int ns.length) (.int 10)=.ok (.int (if(10:Int) < ns.length then 10 else ns.length)):=rfl;refine⟨_,(if(if(10:Int) < ns.length then 10 else(ns.length:Int)) > 1 then(if(10:Int) < ns.length then 10 else(ns.length:Int)) else 1).toNat,?_,h1,?_⟩
  .split<;>split<;>omega
  .split<;>split<;>omega
 have hstep:∀ k,k < m->∀ ρ:Ev,(∃ s,ρ=[.sh (.lst (ns.map D.int)),s,.no,.no,.no,.no,.no,.no]) ->
   ∃ ρ2,(zjB 2 (zam (zae (zad 0) (zae (zad 1) zaH)) za7) fun a=>zwi a) (ρ.set 1 (.sh (.int (k:Int))))=.ok (.nx ρ2)/\∃ s,ρ2=[.sh (.lst (ns.map D.int)),s,.no,.no,.no,.no,.no,.no]:=by
  rintro k hk ρ ⟨s,rfl⟩;obtain⟨st,hb,S⟩:=zwW ns k (by omega) hn;refine⟨[.sh (.lst (ns.map D.int)),.sh (.int (k:Int)),.no,.no,.no,.no,.no,.no],?_,_,rfl⟩;have h1:(zam (zae (zad 0) (zae (zad 1) zaH)) za7) [.sh (.lst (ns.map D.int)),.sh (.int (k:Int)),.no,.no,.no,.no,.no,.no]=.ok (.lst st):=by
   open_line with[hb]
  show zjB 2 _ _ [.sh (.lst (ns.map D.int)),.sh (.int (k:Int)),.no,.no,.no,.no,.no,.no]=_;unfold zjB;rw[h1,zsa];unfold zra;show(if _ then _ else _)=_;rw[if_pos ⟨rfl,(by show 2 < 8;decide)⟩];refine zyZ fun a=>?_;obtain⟨d3,d4,y5,y6,y7,st',e⟩:=zvN a (d0:=.lst (ns.map D.int)) (d1:=.int (k:Int)) S;show zwB 2 (zwi a [.sh (.lst (ns.map D.int)),.sh (.int (k:Int)),.pt a,.no,.no,.no,.no,.no] st)=_;rw[e];rfl
 obtain⟨ρ',hf,s,rfl⟩:=ztX (i:=1) (body:=(zjB 2 (zam (zae (zad 0) (zae (zad 1) zaH)) za7) fun a=>zwi a)) (fun _ ρ=>∃ s,ρ=[.sh (.lst (ns.map D.int)),s,.no,.no,.no,.no,.no,.no]) (n:=m) hstep (ρ:=[.sh (.lst (ns.map D.int)),.no,.no,.no,.no,.no,.no,.no]) ⟨.no,rfl⟩;have hfr:=fun s:Ev->Res Fl=>zqX (tg:=zdN 1) (s:=s) (ρ:=[.sh (.lst (ns.map D.int)),.no,.no,.no,.no,.no,.no,.no]) (k:=m) (by omega);unfold ztC zBV;open_line with[List.length_map,h1,hq,hfr,hf]
end K17
namespace K17
open PySem L2 DL
theorem zAh (K:W.Frag)(H:Hp)(a:Addr)(ns:List Int)(hl:ns.length<=63)(hS:SqL K H a (ns.map V.int)):spD K 1 ztC [.ref a] H (fun v _=>v=.bl true) fun _ _ _=>False:=by
 refine⟨rfl,H,[.lst (ns.map D.int)],zaA.refl _,Reps.cons (zan.mpr ⟨a,_,rfl,hS,zlr ns⟩) Reps.nil,?_⟩;rw[zwr ns hl];exact fun v H' Ha' _ r=>zaq.mp r
end K17
namespace PySem.W.Fast
def tw9322401990062682233:=0
def tw13948068379981785634:=0
def tw9767857876532430005:=0
def tw10430787696014362116:=0
def tw1177788084659666714:=0
def tw1907350147668193212:=0
def tw5805923702622249443:=0
def tw13050980176411892665:=0
def tw7671619348326205844:=0
def tw15851033932864786878:=0
def tw8483537711478302963:=0
def tw17716683885187663678:=0
def tw7405520009157136182:=0
def tw4258395047384469784:=0
def tw3194005028143286005:=0
def tw17937164554924374193:=0
def tw7493145357976764179:=0
def tw9765339869110865951:=0
def tw4338084133942135571:=0
def tw8322067859195357658:=0
def tw15173209316765012126:=0
def tw2044185594955204148:=0
def tw15813164804953395434:=0
def tw7058888208804237040:=0
def tw4181449350837591691:=0
def tw4692228581204894776:=0
def tw3268502172331735210:=0
def tw9819263867841111655:=0
def tw13718560243406750666:=0
def tw4629171517500436267:=0
def tw17814123186598800854:=0
def tw5787296880749314019:=0
end PySem.W.Fast
open PySem PySem.W PyProof.Rows
set_option maxRecDepth 100000 in
set_option maxHeartbeats 0 in
theorem PySem.Challenge.cw_farthestcut_k17_whole_more_taken_is_no_s_holds : PySem.Challenge.rw_farthestcut_k17_whole_more_taken_is_no_s.Holds := by
 w_on;o_law;k_head;(case hw=>w_witness2)
 k_fill
 refine L2.walk_ofK (l:=PySem.Challenge.rw_farthestcut_k17_whole_more_taken_is_no_s) (n:=63) (k:=10) (x:="_law_script") (CX:=L2.CX0) (sp:=fun K=>DL.spD K 1 K17.ztC) ?I rfl (by decide) rfl ⟨rfl,by decide,by decide,rfl⟩ (fun w h Y=>W.kIn_of Y) ?F ?S ?C
 case S=>exact fun K H a ns hl _ hS=>K17.zAh K H a ns hl hS
 case C=>exact fun _ _ _ _ h=>h
 case I=>rfl
 case F =>
  intro w mg fa h KX G hmg;have T:∃ t:K17.Adr,K17.Txt (L2.KOf KX) mg t/\mg "law"=some (.ref t.zsp)/\∃ kV doc pm an cdv ct,t.zu6=W.fnOf "law" "law" (L2.defArgs K17.zmO) (L2.defBody K17.zmO) (L2.defScope K17.zmO) .none kV doc pm an cdv ct:=by
   dsimp only[L2.KOf];refine' K17.txt_wr (K17.txt_mk KX G ?_ ?_ ?_ ?_ ?_ ?_ ?_ ?_ ?_ ?_ ?_ ?_ ?_ ?_ ?_ ?_ ?_ ?_ ?_ ?_ ?_ ?_ ?_ ?_ ?_ ?_ ?_ ?_ ?_ ?_ ?_ ?_ ?_ ?_ ?_ ?_ ?_ ?_ ?_ ?_ ?_ ?_ ?_ ?_ ?_ ?_ ?_ ?_ ?_ ?_ ?_ ?_ ?_ ?_ ?_ ?_ ?_ ?_ ?_ ?_ ?_ ?_ ?_ ?_ ?_ ?_ ?_ ?_ ?_ ?_ ?_ ?_ ?_ ?_ ?_ ?_ ?_ ?_ ?_)
   all_goals try first | (unfold DL.QA;exact⟨by k_is,by k_is,_,_,_,_,_,_,_,_,_,by k_is,by k_is⟩) | k_is | k_exc | rfl
   exact⟨_,_,_,_,[.int 0,.int 1],rfl,.cons ⟨_,rfl⟩ (.cons ⟨_,rfl⟩ (.nil)),by decide,fun H=>DL.Reps.cons (DL.ri _) (DL.Reps.cons (DL.ri _) (DL.Reps.nil))⟩;exact⟨_,_,_,_,[.str "one",.str "both"],rfl,.cons ⟨_,rfl⟩ (.cons ⟨_,rfl⟩ (.nil)),by decide,fun H=>DL.Reps.cons (DL.Rep.str_iff.mpr rfl) (DL.Reps.cons (DL.Rep.str_iff.mpr rfl) (DL.Reps.nil))⟩
  obtain⟨t,T,e0,kV,doc,pm,an,cdv,ct,ed⟩:=T;have e1:=hmg.symm.trans e0;cases e1;refine⟨t.zu6,fun s u=>?_,fun base kb nb=>K17.zA4 T⟩;rw[ed];exact .of_eq rfl
