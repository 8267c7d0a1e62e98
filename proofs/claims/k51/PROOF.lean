import PyProof.Rows.All
import Wide.All
import OpenK.AllK
import Wide.FinOn
import PyProof.EqAt
import PyProof.EqKinds
import PyProof.NeKinds
import PyProof.TupleCall
import PyProof.StrWalks
import PyProof.EnumMake
import PyProof.WalksEnum
import PyProof.ZipIter
import PyProof.Rows.ZipGen
import PyProof.Rows.SortWalk
import KE.KSortedM
import PyProof.StrLawsIdx
import PyProof.StrLawsNeg
import PyProof.ExcInit
import PyProof.InstStoreFacts
import PyProof.AttrMissHeap
import PyProof.FactsAll.enumerate
import PyProof.FactsAll.dict_1
import KE.KDictOf
import KE.KItemsList
import PyProof.ReprRoads
import PyProof.FitsInt
import PySem.Challenge.RW_farthestcut_k51_spreads_looked_at
open List renaming getElem?_eq_getElem->saa,getElem?_eq_some_iff->sac,length_map->sag,getElem?_set_ne->sah,getElem?_map->sai,replicate->saj,mem_cons_of_mem->sak,mem_cons->sam,getElem?_append_left->san,size_toArray->sao,getElem?_append_right->sar,length_cons->sau,getElem?_replicate->saw,mem_cons_self->sax,getElem?_set_self->saF,mem_of_getElem?->saH,all_eq_true->saJ,drop_eq_getElem_cons->saL,map_cons->saN,replicate_succ->saO,length_take->saQ,length_append->saR,not_mem_nil->saU,length_replicate->saV,getElem?_cons_succ->saW,mem_append_right->saY,append_nil->saZ,of_mem_zip->sa2,mem_map->sa6,mem_append->sbc,lookup_cons->sbe,drop_zero->sbq,range->sbr,length_nil->sbu,getElem_mem->sbw,mem_filterMap->sbA,flatten_cons->sbD,length_eq_zero_iff->sbF,getElem?_cons_zero->sbG,zip_cons_cons->sbI,nil_append->sbL,map_append->sbM,mem_nil_iff->sbT,drop_length->sbU,cons_append->sbV,replicate_zero->sbW,filterMap_cons->sbX,Nodup->sb1,set_cons_zero->sb5,set_cons_succ->sb6,nodup_cons->sb7,length_zip->sb8,getElem?_set_self'->sb9,map_nil->scg,mem_of_mem_take->sch,all_cons->sck,lookup->scn,nodup_iff_pairwise_ne->scp,length->scB,map_map->scH,getElem?_range->scN,Pairwise->scS,all_map->sc2,length_drop->sc4
open PySem.W renaming Frag->sab,subIn->sa0,mg_none_of->sa1,nsIn->sa4,kia_one->sbm,mg_of->sbv,findIn->sbO,fnOf->sbY,keepIn->scj,hasDictIn->scm,mroIn->scE,emptyDict->scL,typeIn->scP,kitOne->sc6
open PySem renaming wpAny_bind->sad,wpAny_pure->saB,wpAny_truthy_bool->sa3,wpAny_mono->sa8,Env->sba,wpAny_loadPart_at->sbg,wpAny_holding->sbl,mem_of_lookup->sbs,ofString_length->sce,Within->scq
open Nat renaming lt_of_lt_of_le->sae,le_refl->saq,le_trans->sat,ne_of_lt->saE,lt_of_le_of_lt->saG,pow_le_pow_right->sbp,zero_le->sbE,lt_succ_self->sbS,lt_irrefl->sb3,zero_add->scf,sub_zero->scr,le_of_lt->scs,lt_trans->scF,add_zero->scG
open PySem.Heap renaming get?_push_of_some->saf,lt_size->sap,get?_push_size->saX,get?_update_other->sbf,get?_update_self->sbn,FlyingW->sbN,get?_none_of_le->sci,SameBut->scI
open Or renaming inl->sas
open PySem.SeqAt renaming RcNeAt->sav,EqAt->saz,RcAt->saD
open Bool renaming and_eq_true->saA,false_ne_true->sa7,false_and->scd,false_eq_true->sct,not_false->scw,not_true->scC,and_self->scD,true_and->scV
open PySem.Value renaming ref->saI,none->sbh,bool->sbi,str->sbx,int->sby,builtin->sbP
open Int renaming gcd->saK,fmod_eq_emod_of_nonneg->sa5,mul_nonneg->sa9,eq_ofNat_of_zero_le->sbd,mul_pos->sbk,fmod_nonneg_of_pos->scb,mul_le_mul->scu,natAbs_mul->scK,fmod_lt_of_pos->scT,toNat_natCast->scY,emod_eq_of_lt->scZ,gcd_dvd_left->sc5
open PySem.PassesOwn renaming never->saM
open Option renaming some->saP,map_some->sbt,isSome_iff_exists->scx
open Option.some renaming inj->saS,injEq->sbj
open Ne renaming symm->saT
open False renaming elim->sbb
open PySem.NameKind renaming free->sbz
open PySem.PyData renaming shownAll->sbB,showable->sbC,shown->sbZ,depth->sb0
open PySem.Builtin.Str renaming occurrences->sbH
open PySem.Builtin renaming divisionGoesByPylong->sbJ
open PyProof.Rows renaming callWith_type1->sbK,slot_tuple_getitem->scc
open Array renaming getElem?_eq_some_iff->sbQ,length_toList->scO,append_assoc->scW
open PySem.Builtin.Slice renaming slicePlaces->sbR,sliceAdjust->scv
open PySem.Builtin.Tuple renaming tupleExact->sb2
open ForInStep renaming yield->sca
open True renaming intro->scl
open PySem.F renaming excBase_ValueError->sco,attr_ValueError->scy
open PySem.Builtin.List renaming listTooLong->scz
open Sum renaming inr->scA,inl->scM
open PySem.Calls renaming evalArgs_plain->scJ
open PySem.SeqAt.EqAt renaming of_refs->scQ
open PySem.Obj renaming data_mapFields->scR,mapSeq->scX
open PySem.Code renaming quiet_builtin->scU
open PySem.Txt renaming slice_le->sc0
open Nat.succ renaming inj->sc1
open PySem.Around renaming under->sc3
set_option compiler.extract_closed false
set_option Elab.async false
set_option linter.all false
set_option maxRecDepth 100000
set_option maxHeartbeats 4000000
noncomputable section
namespace L2
open PySem PySem.Spec PyProof.Rows
abbrev Key:=Sum Int Str
def zEu:Key->Value->Bool
 | .inl k,v=>Value.isInt k v
 | .inr x,v=>Value.isStrOf x v
def zHL (w:World):Key->Int
 | .inl k=>hashInt k
 | .inr x=>hashStr w x
theorem zbY:∀ {k:Key}{v:Value},zEu k v=true->(∃ i t,k=scM i/\v=sby i t)∨(∃ x t,k=scA x/\v=sbx x t)
 | .inl i,v,h=>by
  obtain⟨t,e⟩:=Value.isInt_shape (k:=i) (v:=v) h;exact .inl ⟨i,t,rfl,e⟩
 | .inr x,v,h=>by
  obtain⟨t,e⟩:=Value.isStrOf_shape (x:=x) (v:=v) h;exact .inr ⟨x,t,rfl,e⟩
theorem zEt (a b:Int):decide ((scM a:Key)=scM b)=(a==b):=by
 by_cases e:a=b
 .subst e;simp
 .have h:¬ (scM a:Key)=scM b:=fun q=>e (scM.inj q)
  rw[decide_eq_false h];exact(beq_eq_false_iff_ne.mpr e).symm
theorem zEq (a b:Str):decide ((scA a:Key)=scA b)=decide (a=b):=by
 by_cases e:a=b
 .subst e;simp
 .have h:¬ (scA a:Key)=scA b:=fun q=>e (scA.inj q)
  rw[decide_eq_false h,decide_eq_false e]
theorem zEs (a:Int)(b:Str):decide ((scM a:Key)=scA b)=false:=decide_eq_false (fun q=>nomatch q)
theorem zEr (a:Str)(b:Int):decide ((scA a:Key)=scM b)=false:=decide_eq_false (fun q=>nomatch q)
noncomputable def zlx (prog:Program) (w:World):PySem.KeyKind prog w Key where
 is:=zEu
 hash:=zHL w
 inj:=fun v a b ha hb=>by
  rcases zbY ha with⟨i,t,rfl,rfl⟩ | ⟨x,t,rfl,rfl⟩
  .rcases zbY hb with⟨j,u,rfl,e⟩ | ⟨y,u,rfl,e⟩
   .injection e with e1 _;rw[e1]
   .exact nomatch e
  .rcases zbY hb with⟨j,u,rfl,e⟩ | ⟨y,u,rfl,e⟩
   .exact nomatch e
   .injection e with e1 _;rw[e1]
 byValue:=fun k v h=>by
  rcases zbY h with⟨i,t,rfl,rfl⟩ | ⟨x,t,rfl,rfl⟩<;>rfl
 pyHash:=fun hv h=>by
  rcases zbY hv with⟨i,t,rfl,rfl⟩ | ⟨x,t,rfl,rfl⟩
  .exact wpAny_pyHash_int h
  .exact wpAny_pyHash_str h
 eqBool:=fun hu hv h=>by
  rcases zbY hu with⟨i,t,rfl,rfl⟩ | ⟨x,t,rfl,rfl⟩
  .rcases zbY hv with⟨j,u,rfl,rfl⟩ | ⟨y,u,rfl,rfl⟩
   .rw[zEt] at h;exact wpAny_eqBool_int h
   .rw[zEs] at h;exact saz.int_str i t y u _ _ _ _ h
  .rcases zbY hv with⟨j,u,rfl,rfl⟩ | ⟨y,u,rfl,rfl⟩
   .rw[zEr] at h;exact saz.str_int x t j u _ _ _ _ h
   .rw[zEq] at h;exact wpAny_eqBool_str h
 «strs»:=fun k x t v h=>by
  rcases zbY h with⟨i,u,rfl,e⟩ | ⟨y,u,rfl,e⟩
  .exact nomatch e
  .injection e with e1 _
   subst e1;cases v<;>rfl
inductive V where
 | non | bl (b:Bool) | int (i:Int) | str (x:Str) | byt (b:Array UInt8) | flt (b:UInt64) | ref (a:Addr) | ty (n:String)
 deriving DecidableEq
noncomputable def zcb:V->Value->Prop
 | .non,u=>u=sbh
 | .bl b,u=>u=sbi b
 | .int i,u=>∃ t,u=sby i t
 | .str x,u=>∃ t,u=sbx x t
 | .byt b,u=>∃ t,u=Value.bytes b t
 | .flt b,u=>∃ t,u=Value.float b t
 | .ref a,u=>u=saI a
 | .ty n,u=>u=Value.type n
abbrev zbT:List V->List Value->Prop:=Paired zcb
theorem zbT.length {xs:List V}{us:List Value}(r:zbT xs us):xs.length=us.length:=Paired.length r
theorem zbT.get:∀ {xs:List V}{us:List Value}{i:Nat}{x:V},zbT xs us->xs[i]?=some x->∃ u,us[i]?=some u/\zcb x u
 | _,_,_,_,.nil,e=>by simp at e
 | _,_,0,_,.cons r _,e=>by simp at e;subst e;exact⟨_,rfl,r⟩
 | _,_,i+1,x,.cons _ t,e=>by
  obtain⟨u,h1,h2⟩:=zbT.get (i:=i) (x:=x) t (by simpa using e);exact⟨u,by simpa using h1,h2⟩
theorem zbT.set {x:V}{u:Value}(r:zcb x u):∀ {xs:List V}{us:List Value}(i:Nat),zbT xs us->zbT (xs.set i x) (us.set i u)
 | _,_,_,.nil=>.nil
 | _,_,0,.cons _ t=>.cons r t
 | _,_,i+1,.cons q t=>.cons q (zbT.set r i t)
theorem zbT.append:∀ {xs ys:List V}{us ws:List Value},zbT xs us->zbT ys ws->zbT (xs++ys) (us++ws)
 | _,_,_,_,.nil,s=>s
 | _,_,_,_,.cons r t,s=>.cons r (zbT.append t s)
theorem zbT.take:∀ {xs:List V}{us:List Value}(n:Nat),zbT xs us->zbT (xs.take n) (us.take n)
 | _,_,0,_=>.nil
 | _,_,_+1,.nil=>.nil
 | _,_,n+1,.cons r t=>.cons r (zbT.take n t)
theorem zbT.drop:∀ {xs:List V}{us:List Value}(n:Nat),zbT xs us->zbT (xs.drop n) (us.drop n)
 | _,_,0,r=>r
 | _,_,_+1,.nil=>.nil
 | _,_,n+1,.cons _ t=>zbT.drop n t
def zC2:Option V->Option Value->Prop
 | some v,some u=>zcb v u
 | none,none=>True
 | _,_=>False
noncomputable def KV {κ:Type}:List (κ×V)->List (κ×Value)->Prop:=Paired fun(p:κ×V) (q:κ×Value)=>p.1=q.1/\zcb p.2 q.2
def kV:Key->V
 | .inl i=>.int i
 | .inr x=>.str x
inductive HO where
 | lst (xs:List V)
 | tup (xs:List V)
 | dK (kvs:List (Key×V)) | dT (kvs:List (List Key×V))
 | set (S:Int->Bool) (n:Nat)
 | ins (C dx:Addr) (fs:List (Str×V))
 | own (x:Addr)
 | xd (fs:List (Str×V))
 | met (f x:Addr)
 | rng (lo hi:Int)
 | frz (o:Obj) (u:HO)
 | tbl (ps:Array Value)
 | ext (φ:Heap->Prop)
abbrev Hp:=Addr->Option HO
def upd (H:Hp)(a:Addr)(o:HO):Hp:=fun b=>if b=a then some o else H b
theorem zao {H:Hp}{a:Addr}{o:HO}:upd H a o a=some o:=by unfold upd;rw[if_pos rfl]
theorem zan {H:Hp}{a b:Addr}{o:HO}(h:b≠a):upd H a o b=H b:=by unfold upd;rw[if_neg h]
theorem zaP {H:Hp}{a b:Addr}{o:HO}(h:H a=some o)(h':H b=none):a≠b:=by
 intro e;subst e;rw[h] at h';cases h'
section
variable (P:Program) (w:World)
noncomputable def zcp (H:Hp) (h:Heap) (a:Addr):HO->Prop
 | .lst xs=>xs.length<=sizeLine/\∃ (its:List Value) (n:Nat),zbT xs its/\h.get? a=some { cls:=.type "list",data:=.seq its.toArray n }
 | .tup xs=>xs.length<=sizeLine/\∃ its:List Value,zbT xs its/\IsTup h a its.toArray
 | .dK kvs=>kvs.length<=sizeLine/\(a==sysModules)=false/\∃ vs,KV kvs vs/\h.DictOf (zlx P w) a vs
 | .dT kvs=>kvs.length<=sizeLine/\(a==sysModules)=false/\∃ xs:List (List Key×Addr×Value),
   Paired (fun(p:List Key×V) (q:List Key×Addr×Value)=>p.1=q.1/\H q.2.1=some (.tup (p.1.map kV))/\zcb p.2 q.2.2) kvs xs /\
   ∃ o es ep,h.get? a=some o/\o.ExactDict/\o.data=.dict es ep/\es.toList=xs.map (entryOfKey (tupleKind (zlx P w)))/\(xs.map (·.1)).Nodup
 | .set S n=>h.SetOf (intKind P w) a S n
 | .ins C dx fs=>H dx=some (.own a)/\fs.length<=1000/\dx≠a/\h.get? a=some (W.instObj C dx) /\
   ∃ mA,h.Ns1 dx mA/\(∀ f,zC2 (fs.lookup f) (mA f))/\scq mA (fs.map (·.1))
 | .own _=>∃ o,h.get? a=some o
 | .xd fs=>∃ mA,h.Ns1 a mA/\∀ f,zC2 (fs.lookup f) (mA f)
 | .rng lo hi=>∃ t u v,h.get? a=some { cls:=.type "range",data:=.fields #[.int lo t,.int hi u,.int 1 v] }
 | .frz o u=>h.get? a=some o/\zcp H h a u
 | .tbl ps=>h.get? a=some { cls:=.none,data:=.fields ps }
 | .met f x=>h.get? a=some (W.methodObj (.ref f) (.ref x))
 | .ext φ=>φ h/\(∃ o,h.get? a=some o)/\∀ h1 h2:Heap,φ h1->(∀ o,h1.get? a=some o->h2.get? a=some o)->φ h2
def HOk (H:Hp)(h:Heap):Prop:=∀ a o,H a=some o->zcp P w H h a o
end
section
variable {P:Program}{w:World}{H H':Hp}{h h':Heap}{a:Addr}{o:HO}
theorem zcp.lt (x:zcp P w H h a o):a < h.objs.size:=by
 cases o with
 | lst xs=>obtain⟨_,_,_,_,e⟩:=x;exact sap e
 | tup xs=>obtain⟨_,_,_,p⟩:=x;exact p.lt
 | dK kvs=>obtain⟨_,_,_,_,o,_,_,e,_⟩:=x;exact sap e
 | dT kvs=>obtain⟨_,_,_,_,o,_,_,e,_⟩:=x;exact sap e
 | set S n=>obtain⟨o,_,_,_,e,_⟩:=x;exact sap e
 | ins C dx fs=>obtain⟨_,_,_,e,_⟩:=x;exact sap e
 | own y=>obtain⟨_,e⟩:=x;exact sap e
 | xd fs=>obtain⟨_,⟨_,_,_,e,_⟩,_⟩:=x;exact sap e
 | rng lo hi=>obtain⟨_,_,_,e⟩:=x;exact sap e
 | frz ob u=>obtain⟨e,_⟩:=x;exact sap e
 | tbl ps=>exact sap (show h.get? a=some _ from x)
 | met f y=>exact sap (show h.get? a=some _ from x)
 | ext φ=>obtain⟨_,⟨_,e⟩,_⟩:=x;exact sap e
theorem znn {α β:Type}{F G:α->β->Prop}:∀ {lc:List α}{lb:List β},Paired F lc lb->(∀ a b,F a b->G a b)->Paired G lc lb
 | _,_,.nil,_=>.nil
 | _,_,.cons r t,f=>.cons (f _ _ r) (znn t f)
theorem zcp.stay (x:zcp P w H h a o)(k:∀ b u,(b=a∨H b=some (.own a))->h.get? b=some u->h'.get? b=some u)
  (ho:∀ b,H b=some (.own a)->H' b=some (.own a))(ht:∀ b xs,H b=some (.tup xs)->H' b=some (.tup xs)):zcp P w H' h' a o:=by
 induction o with
 | lst xs=>obtain⟨z,its,n,r,e⟩:=x;exact⟨z,its,n,r,k _ _ (.inl rfl) e⟩
 | tup xs=>obtain⟨z,its,r,ob,e,c⟩:=x;exact⟨z,its,r,ob,k _ _ (.inl rfl) e,c⟩
 | dK kvs=>obtain⟨z,y,vs,r,ob,es,ep,e,c⟩:=x;exact⟨z,y,vs,r,ob,es,ep,k _ _ (.inl rfl) e,c⟩
 | dT kvs =>
  obtain⟨z,y,xs,r,ob,es,ep,e,c⟩:=x;exact⟨z,y,xs,znn r fun p q z=>⟨z.1,ht _ _ z.2.1,z.2.2⟩,ob,es,ep,k _ _ (.inl rfl) e,c⟩
 | set S n=>obtain⟨ob,es,ep,t,e,c⟩:=x;exact⟨ob,es,ep,t,k _ _ (.inl rfl) e,c⟩
 | ins C dx fs =>
  obtain⟨d,z,ne,e,mA,⟨od,es,ep,e2,c⟩,r⟩:=x;exact⟨ho _ d,z,ne,k _ _ (.inl rfl) e,mA,⟨od,es,ep,k _ _ (.inr d) e2,c⟩,r⟩
 | own y=>obtain⟨ob,e⟩:=x;exact⟨ob,k _ _ (.inl rfl) e⟩
 | xd fs=>obtain⟨mA,⟨od,es,ep,e,c⟩,r⟩:=x;exact⟨mA,⟨od,es,ep,k _ _ (.inl rfl) e,c⟩,r⟩
 | rng lo hi=>obtain⟨t,u,v,e⟩:=x;exact⟨t,u,v,k _ _ (.inl rfl) e⟩
 | frz ob u ih=>obtain⟨e,q⟩:=x;exact⟨k _ _ (.inl rfl) e,ih q⟩
 | tbl ps =>
  have e:h.get? a=some { cls:=.none,data:=.fields ps }:=x;show h'.get? a=some { cls:=.none,data:=.fields ps };exact k a _ (.inl rfl) e
 | met f y =>
  have e:h.get? a=some (W.methodObj (.ref f) (.ref y)):=x;show h'.get? a=some (W.methodObj (.ref f) (.ref y));exact k a _ (.inl rfl) e
 | ext φ=>obtain⟨p,⟨o,e⟩,st⟩:=x;exact⟨st _ _ p fun o q=>k _ _ (.inl rfl) q,⟨o,k _ _ (.inl rfl) e⟩,st⟩
theorem HOk.lt (x:HOk P w H h)(e:H a=some o):a < h.objs.size:=(x a o e).lt
theorem HOk.fresh (x:HOk P w H h)(e:h.objs.size<=a):H a=none:=by
 cases q:H a with
 | none=>rfl
 | some u=>exact absurd (sae (x.lt q) e) (sb3 _)
theorem HOk.kept (x:HOk P w H h)(k:∀ b u,h.get? b=some u->h'.get? b=some u):HOk P w H h':=fun a o e =>
 (x a o e).stay (fun b u _ q=>k b u q) (fun _ q=>q) fun _ _ q=>q
theorem HOk.laid (x:HOk P w H h)(k:∀ b u,h.get? b=some u->h'.get? b=some u)(hp:h.objs.size<=a)(new:zcp P w (upd H a o) h' a o):HOk P w (upd H a o) h':=fun b u e=>by
 have hn:=x.fresh hp
 by_cases hb:b=a
 .subst hb;rw[zao] at e;cases e;exact new
 .rw[zan hb] at e
  exact(x b u e).stay (fun c v _ q=>k c v q) (fun c q=>by rw[zan (zaP q hn)];exact q) fun c xs q=>by rw[zan (zaP q hn)];exact q
end
def Rd (H:Hp)(a:Addr)(u:HO):Prop:=H a=some u∨∃ o,H a=some (.frz o u)
theorem Rd.ok {P:Program}{w:World}{H:Hp}{h:Heap}{a:Addr}{u:HO}(r:Rd H a u)(x:HOk P w H h):zcp P w H h a u:=by
 rcases r with r | ⟨o,r⟩
 .exact x a u r
 .obtain⟨_,q⟩:=x a _ r
  exact q
noncomputable def Mut:Option HO->Prop
 | some (.lst _)=>True
 | some (.dK _)=>True
 | some (.dT _)=>True
 | some (.set _ _)=>True
 | some (.ins _ _ _)=>True
 | some (.ext _)=>True
 | _=>False
section
variable {P:Program}{w:World}{H:Hp}{h h':Heap}{x e:Addr}{o':HO}
theorem HOk.write (ok:HOk P w H h)(mu:Mut (H x))(he:e=x∨H e=some (.own x))(k:∀ b u,b≠e->h.get? b=some u->h'.get? b=some u)(heo:∃ u,h'.get? e=some u)
  (new:zcp P w (upd H x o') h' x o'):HOk P w (upd H x o') h':=fun b u q=>by
 have nown:∀ c y,H c=some (.own y)->c≠x:=fun c y r z=>by subst z;rw[r] at mu;exact mu
 have ntup:∀ c xs,H c=some (.tup xs)->c≠x:=fun c xs r z=>by subst z;rw[r] at mu;exact mu
 by_cases hb:b=x
 .subst hb;rw[zao] at q;cases q;exact new
 .rw[zan hb] at q
  by_cases hbe:b=e
  .have q':H b=some (.own x):=by
    rcases he with z | z
    .exact absurd (hbe.trans z) hb
    .rw[hbe];exact z
   rw[q] at q';cases q';obtain⟨v,hv⟩:=heo;exact⟨v,by rw[hbe];exact hv⟩
  .refine(ok b u q).stay (fun c v hc r=>k c v ?_ r) (fun c r=>by rw[zan (nown c b r)];exact r) fun c xs r=>by rw[zan (ntup c xs r)];exact r
   rcases hc with rfl | hc
   .exact hbe
   .rintro rfl
    rcases he with z | z
    .exact nown c b hc z
    .rw[hc] at z;cases z;exact hb rfl
end
structure Un (fs ex:List Addr) (H H':Hp) (h h':Heap):Prop where
 keep:∀ b o,h.get? b=some o->H b=none->b∉fs->b∉ex->h'.get? b=some o
 slot:∀ b o,h.get? b=some o->H b=none->b∈fs->b∉ex->∃ sl,h'.get? b=some { o with slots:=sl }
 free:∀ b o,h.get? b=some o->H b=none->b∉ex->H' b=none
 there:∀ b o,h.get? b=some o->b∉ex->∃ o',h'.get? b=some o'
 tups:∀ b xs,H b=some (.tup xs)->H' b=some (.tup xs)
 frzs:∀ b o u,H b=some (.frz o u)->H' b=some (.frz o u)
 tbls:∀ b ps,H b=some (.tbl ps)->∃ more,H' b=some (.tbl (ps++more))
section
variable {fs fs' ex ex':List Addr}{H H1 H2:Hp}{h h1 h2 h':Heap}{a x e:Addr}{o:HO}
theorem Un.any (u:Un fs ex H H1 h h1){b:Addr}{ob:Obj}(q:h.get? b=some ob)(n:H b=none)(hx:b∉ex):∃ sl,h1.get? b=some { ob with slots:=sl }:=by
 by_cases hb:b∈fs
 .exact u.slot b ob q n hb hx
 .exact⟨ob.slots,u.keep b ob q n hb hx⟩
theorem Un.trans (a:Un fs ex H H1 h h1)(b:Un fs ex H1 H2 h1 h2):Un fs ex H H2 h h2 where
 keep:=fun c ob q n hc hx=>b.keep c ob (a.keep c ob q n hc hx) (a.free c ob q n hx) hc hx
 slot:=fun c ob q n hc hx=>by
  obtain⟨sl,e1⟩:=a.slot c ob q n hc hx;obtain⟨sl',e2⟩:=b.slot c _ e1 (a.free c ob q n hx) hc hx;exact⟨sl',e2⟩
 free:=fun c ob q n hx=>by
  obtain⟨o',e1⟩:=a.there c ob q hx;exact b.free c o' e1 (a.free c ob q n hx) hx
 there:=fun c ob q hx=>by
  obtain⟨o',e1⟩:=a.there c ob q hx;exact b.there c o' e1 hx
 tups:=fun c xs q=>b.tups c xs (a.tups c xs q)
 frzs:=fun c ob xs q=>b.frzs c ob xs (a.frzs c ob xs q)
 tbls:=fun c ps q=>by
  obtain⟨m1,e1⟩:=a.tbls c ps q;obtain⟨m2,e2⟩:=b.tbls c _ e1;exact⟨m1++m2,by rw[e2,scW]⟩
theorem Un.kept (k:∀ b u,h.get? b=some u->h'.get? b=some u):Un fs ex H H h h' :=
 ⟨fun b ob q _ _ _=>k b ob q,fun b ob q _ _ _=>⟨ob.slots,k b ob q⟩,fun _ _ _ n _=>n,fun b ob q _=>⟨ob,k b ob q⟩,fun _ _ q=>q,fun _ _ _ q=>q,fun _ ps q=>⟨#[],by rw[q];simp⟩⟩
theorem Un.refl:Un fs ex H H h h:=Un.kept fun _ _ q=>q
theorem Un.laid (k:∀ b u,h.get? b=some u->h'.get? b=some u)(hp:h.objs.size<=a)(hn:H a=none):Un fs ex H (upd H a o) h h' where
 keep:=fun b u q _ _ _=>k b u q
 slot:=fun b u q _ _ _=>⟨u.slots,k b u q⟩
 free:=fun b u q n _=>by rw[zan (saE (sae (sap q) hp))];exact n
 there:=fun b u q _=>⟨u,k b u q⟩
 tups:=fun b xs q=>by rw[zan (zaP q hn)];exact q
 frzs:=fun b u xs q=>by rw[zan (zaP q hn)];exact q
 tbls:=fun b ps q=>⟨#[],by rw[zan (zaP q hn),q];simp⟩
theorem Un.write (mu:Mut (H x))(he:e=x∨H e=some (.own x))(k:∀ b u,b≠e->h.get? b=some u->h'.get? b=some u)(heo:∃ u,h'.get? e=some u):Un fs ex H (upd H x o) h h':=by
 have hx:∀ b,H b=none->b≠x:=fun b n z=>by subst z;rw[n] at mu;exact mu
 have hb:∀ b,H b=none->b≠e:=fun b n z=>by
  subst z;rcases he with r | r
  .exact hx b n r
  .rw[n] at r;cases r
 have hm:∀ b u,H b=some u->¬ Mut (some u)->b≠x:=fun b u q nm z=>by subst z;rw[q] at mu;exact nm mu
 refine⟨fun b u q n _ _=>k b u (hb b n) q,fun b u q n _ _=>⟨u.slots,k b u (hb b n) q⟩,fun b u q n _=>by rw[zan (hx b n)];exact n,fun b u q _=>?_,
  fun b xs q=>by rw[zan (hm b _ q fun z=>z)];exact q,fun b u xs q=>by rw[zan (hm b _ q fun z=>z)];exact q,fun b ps q=>⟨#[],by rw[zan (hm b _ q fun z=>z),q];simp⟩⟩
 by_cases hbe:b=e
 .subst hbe;exact heo
 .exact⟨u,k b u hbe q⟩
end
def trk (h:Heap)(H:Hp):List Addr:=(sbr h.objs.size).filter fun a=>(H a).isSome
def zzA (h:Heap)(H:Hp):Heap:=W.hideAll h (trk h H)
theorem zwN (h:Heap)(H:Hp):(zzA h H).objs.size=h.objs.size:=W.hideAll_size _ _
theorem zzz {h:Heap}{H:Hp}{b:Addr}{o:Obj}(e:h.get? b=some o)(n:H b=none):(zzA h H).get? b=some o :=
 W.hideAll_get _ e fun hm=>by
  have q:(H b).isSome=true:=(List.mem_filter.mp hm).2;rw[n] at q;simp at q
theorem zBX {h:Heap}{H:Hp}{b:Addr}{o:Obj}(e:(zzA h H).get? b=some o):h.get? b=some o/\H b=none:=by
 have e':h.get? b=some o:=W.of_hideAll (trk h H) e;refine⟨e',?_⟩;cases q:H b with
 | none=>rfl
 | some x =>
  have hm:b∈trk h H:=List.mem_filter.mpr ⟨List.mem_range.mpr (sap e'),by simp [q]⟩;have z:(zzA h H).get? b=none:=W.hideAll_none (trk h H) hm;rw[z] at e;cases e
structure Mod (K:sab) (mg:Str->Option Value) (base:Heap):Prop where
 kin:K.In base
 glob:base.Ns mainGlobals mg
 blt:∃ mb,base.Ns builtinsNs mb/\∀ x:Str,x≠"__name__"->mb x=bootBuiltins x
 nolimit:base.NoLimit
 sm:∃ mm,base.Ns sysModules mm
structure Cx where
 prog:Program
 w:World
 K:sab
 mg:Str->Option Value
 base:Heap
 A:Around
 N:List Str
 sj:Shared
 Ha:Hp
 env:Env
 outer:List Env
 stack:List Env
 ex:List Addr
 fn:Str->Bool
 calm:Bool
 pn:List (Addr×Obj)
 xe:Value->Shared->Prop
def frs (l:List Env):List Addr:=l.filterMap (·.frame)
abbrev Cx.fs (X:Cx):List Addr:=frs X.outer
noncomputable def Vis (sc:Scope) (x:Str):Prop:=sc.names.lookup x=some .local ∨ sc.names.lookup x=some .cell∨sc.names.lookup x=some .free
def Loc (sc:Scope)(x:Str):Prop:=sc.names.lookup x=some .local ∨ sc.names.lookup x=some .cell
noncomputable def zHm (env:Env) (h:Heap) (m:Str->Option Value) (x:Str) (u:Value):Prop :=
 (env.kindOf x=some .local /\ m x=some u)∨((env.kindOf x=some .cell∨env.kindOf x=some .free)/\∃ c,env.cells.lookup x=some c/\h.IsCell c (some u))
structure Cx.Ok (X:Cx):Prop where
 mod:Mod X.K X.mg X.base
 kind:X.env.scope.kind=.function
 glob:X.env.globals=mainGlobals
 blt:X.env.builtins=builtinsNs
 above:X.sj.heap.objs.size<=X.env.locals
 inj:∀ x y c,X.env.cells.lookup x=some c->X.env.cells.lookup y=some c->x=y
 has:∀ x,(X.env.kindOf x=some .cell∨X.env.kindOf x=some .free)->∃ c,X.env.cells.lookup x=some c
 cab:∀ x c,X.fn x=true->X.env.cells.lookup x=some c->X.sj.heap.objs.size<=c
 hd:X.calm=true->X.A.handled=none
 frames:X.A.frames=some X.stack
 stk:X.stack=X.outer∨(X.stack=X.env::X.outer/\X.env.frame=some X.env.locals)
 exf:∀ b∈X.ex,b≠X.env.locals/\∀ x c,X.env.cells.lookup x=some c->c≠b
 bs:∀ b o,X.base.get? b=some o->X.sj.heap.get? b=some o/\X.Ha b=none
 bsz:X.base.objs.size<=X.sj.heap.objs.size
 noex:∀ b o,X.base.get? b=some o->b∉X.ex
 exfs:∀ b∈X.ex,b∉X.fs
 funs:X.sj.heap.FunFrames X.base X.outer
 frf:∀ b∈X.fs,X.Ha b=none
structure Inv (X:Cx) (pins:List (Addr×Obj)) (σ:List (Option V)) (H:Hp) (s:Shared):Prop where
 ok:X.Ok
 os:s.os=X.sj.os
 bare:AllBare s.gens
 base:Un X.fs X.ex X.Ha H X.sj.heap s.heap
 loc:∃ m,s.heap.Ns X.env.locals m/\∀ (i:Nat) (x:Str) (v:V),X.N[i]?=some x->σ[i]?=some (some v)->Vis X.env.scope x->∃ u,zcb v u/\zHm X.env s.heap m x u
 cell:∀ x c,X.env.cells.lookup x=some c->∃ v,s.heap.IsCell c v
 free:H X.env.locals=none
 freeC:∀ x c,X.env.cells.lookup x=some c->H c=none
 pin:∀ p∈X.pn++pins,s.heap.get? p.1=some p.2/\H p.1=none/\p.1≠X.env.locals/\p.1∉X.fs/\∀ v,p.2.data≠.cell v
 hok:HOk X.prog X.w H s.heap
 len:σ.length=X.N.length
section
variable {X:Cx}{pins:List (Addr×Obj)}{σ:List (Option V)}{H H':Hp}{s:Shared}{h':Heap}
theorem Cx.Ok.nofr (ok:X.Ok){b:Addr}{o:Obj}(e:X.base.get? b=some o):b∉X.fs:=fun hb=>by
 have:=(ok.funs.mem hb).1;rw[e] at this;cases this
theorem Inv.bs (I:Inv X pins σ H s):∀ b o,X.base.get? b=some o->s.heap.get? b=some o/\H b=none:=fun b o e =>
 ⟨I.base.keep b o (I.ok.bs b o e).1 (I.ok.bs b o e).2 (I.ok.nofr e) (I.ok.noex b o e),I.base.free b o (I.ok.bs b o e).1 (I.ok.bs b o e).2 (I.ok.noex b o e)⟩
theorem Inv.bk (I:Inv X pins σ H s):∀ b o,X.base.get? b=some o->s.heap.get? b=some o:=fun b o e=>(I.bs b o e).1
theorem Inv.mod (I:Inv X pins σ H s):Mod X.K X.mg X.base:=I.ok.mod
theorem Inv.kIn (I:Inv X pins σ H s):X.K.In s.heap:=I.ok.mod.kin.keeps I.bk
theorem Inv.lt (I:Inv X pins σ H s):X.env.locals < s.heap.objs.size:=let ⟨_,hn,_⟩:=I.loc;hn.lt
theorem Inv.sz (I:Inv X pins σ H s):X.sj.heap.objs.size<=s.heap.objs.size:=sat I.ok.above (scs I.lt)
theorem Inv.nofs (I:Inv X pins σ H s){a:Addr}(h:s.heap.objs.size<=a):a∉X.fs:=fun hb=>by
 obtain⟨_,o,ho,_⟩:=I.ok.funs.mem hb;exact absurd (sae (sap ho) (sat I.sz h)) (sb3 _)
theorem Inv.cne (I:Inv X pins σ H s):∀ x c,X.env.cells.lookup x=some c->c≠X.env.locals:=fun x c e z=>by
 obtain⟨v,o,ho,hd⟩:=I.cell x c e;obtain⟨m,⟨o',es,ep,ho',hd',_⟩,_⟩:=I.loc;rw[z,ho'] at ho;cases ho;rw[hd'] at hd;cases hd
theorem Inv.funs (I:Inv X pins σ H s):s.heap.FunFrames X.base X.outer:=by
 have all:∀ (l:List Env),(∀ b∈frs l,b∈X.fs)->X.sj.heap.FunFrames X.base l->s.heap.FunFrames X.base l:=by
  intro l
  induction l with
  | nil=>intro _ _;trivial
  | cons env r ih =>
   intro hs hl;obtain⟨hk,⟨L,o,hf,hn,ho,hd⟩,hr⟩:=hl;have hL:L∈X.fs:=hs L (by unfold frs;rw[sbX,hf];exact sax);obtain⟨sl,e⟩:=I.base.slot L o ho (I.ok.frf L hL) hL fun z=>I.ok.exfs L z hL;exact⟨hk,⟨L,_,hf,hn,e,hd⟩,ih (fun b hb=>hs b (by unfold frs;rw[sbX,hf];exact sak _ hb)) hr⟩
 exact all X.outer (fun _ hb=>hb) I.ok.funs
theorem Inv.stack (I:Inv X pins σ H s):s.heap.FunFrames X.base X.stack:=by
 rcases I.ok.stk with e | ⟨e,hf⟩
 .rw[e];exact I.funs
 .rw[e]
  obtain⟨m,hn,_⟩:=I.loc;refine .cons (by rw[I.ok.kind];decide) hf hn ?_ I.funs;exact sci (sat I.ok.bsz I.ok.above)
theorem Inv.stkSub (I:Inv X pins σ H s):∀ b∈frs X.stack,b∈X.env.locals::X.fs:=fun b hb=>by
 rcases I.ok.stk with e | ⟨e,hf⟩
 .rw[e] at hb;exact sak _ hb
 .rw[e] at hb
  unfold frs at hb;rw[sbX,hf] at hb;exact hb
theorem Inv.stkFree (I:Inv X pins σ H s):∀ b∈frs X.stack,H b=none:=fun b hb=>by
 rcases sam.mp (I.stkSub b hb) with e | hb
 .rw[e];exact I.free
 .obtain⟨_,o,ho,_⟩:=I.ok.funs.mem hb
  exact I.base.free b o ho (I.ok.frf b hb) fun z=>I.ok.exfs b z hb
theorem Inv.step {g':Array GenState}{t':Nat}{d':Drawn}{ch:List Addr}(I:Inv X pins σ H s)
  (hch:∀ b∈ch,(b∈X.ex∨X.sj.heap.objs.size<=b)/\b≠X.env.locals/\(∀ x c,X.env.cells.lookup x=some c->c≠b)/\∀ p∈X.pn++pins,p.1≠b)
  (keep:∀ b o,b≠X.env.locals->b∉X.fs->b∉ch->s.heap.get? b=some o->H b=none->h'.get? b=some o)
  (slot:∀ b o,b≠X.env.locals->b∈X.fs->b∉ch->s.heap.get? b=some o->H b=none->∃ sl,h'.get? b=some { o with slots:=sl })(free:∀ b o,b∉ch->s.heap.get? b=some o->H b=none->H' b=none)
  (there:∀ b o,b∉ch->s.heap.get? b=some o->∃ o',h'.get? b=some o')
  (tups:∀ b xs,H b=some (.tup xs)->H' b=some (.tup xs))(frzs:∀ b o u,H b=some (.frz o u)->H' b=some (.frz o u))(tbls:∀ b ps,H b=some (.tbl ps)->∃ more,H' b=some (.tbl (ps++more)))
  (ns:∀ m,s.heap.Ns X.env.locals m->h'.Ns X.env.locals m)(hok:HOk X.prog X.w H' h')(hg:AllBare g') :
  Inv X pins σ H' { s with heap:=h',gens:=g',drawn:=d',toks:=t' }:=by
 have neL:∀ b o,X.sj.heap.get? b=some o->b≠X.env.locals:=fun b o e=>saE (sae (sap e) I.ok.above);have neC:∀ b o,X.sj.heap.get? b=some o->b∉X.ex->b∉ch:=fun b o e hx hb=>by
  rcases(hch b hb).1 with z | z
  .exact hx z
  .exact absurd (sae (sap e) z) (sb3 _)
 have cellK:∀ x c,X.env.cells.lookup x=some c->∀ v,s.heap.IsCell c v->h'.IsCell c v:=fun x c e v ⟨o,ho,hd⟩=>by
  have nch:c∉ch:=fun z=>(hch c z).2.2.1 x c e rfl
  by_cases hc:c∈X.fs
  .obtain⟨sl,q⟩:=slot c o (I.cne x c e) hc nch ho (I.freeC x c e)
   exact⟨_,q,hd⟩
  .exact⟨o,keep c o (I.cne x c e) hc nch ho (I.freeC x c e),hd⟩
 refine⟨I.ok,I.os,hg,⟨fun b o e n hb hx=>?_,fun b o e n hb hx=>?_,fun b o e n hx=>?_,fun b o e hx=>?_,fun b xs e=>tups b xs (I.base.tups b xs e),fun b o xs e=>frzs b o xs (I.base.frzs b o xs e),fun b ps e=>?_⟩,?_,fun x c e=>?_,?_,fun x c e=>?_,fun p hp=>?_,hok,I.len⟩
 .exact keep b o (neL b o e) hb (neC b o e hx) (I.base.keep b o e n hb hx) (I.base.free b o e n hx)
 .obtain⟨sl,e1⟩:=I.base.slot b o e n hb hx
  obtain⟨sl',e2⟩:=slot b _ (neL b o e) hb (neC b o e hx) e1 (I.base.free b o e n hx);exact⟨sl',e2⟩
 .obtain⟨o',e1⟩:=I.base.there b o e hx
  exact free b o' (neC b o e hx) e1 (I.base.free b o e n hx)
 .obtain⟨o',e1⟩:=I.base.there b o e hx
  exact there b o' (neC b o e hx) e1
 .obtain⟨m1,e1⟩:=I.base.tbls b ps e
  obtain⟨m2,e2⟩:=tbls b _ e1;exact⟨m1++m2,by rw[e2,scW]⟩
 .obtain⟨m,hn,hl⟩:=I.loc
  refine⟨m,ns m hn,fun i x v e1 e2 e3=>?_⟩;obtain⟨u,r,l⟩:=hl i x v e1 e2 e3;refine⟨u,r,?_⟩;rcases l with l | ⟨k,c,e,z⟩
  .exact .inl l
  .exact .inr ⟨k,c,e,cellK x c e _ z⟩
 .obtain⟨v,z⟩:=I.cell x c e
  exact⟨v,cellK x c e v z⟩
 .obtain⟨m,⟨o,_,_,ho,_⟩,_⟩:=I.loc
  exact free _ o (fun z=>(hch _ z).2.1 rfl) ho I.free
 .obtain⟨v,o,ho,hd⟩:=I.cell x c e
  exact free c o (fun z=>(hch c z).2.2.1 x c e rfl) ho (I.freeC x c e)
 .obtain⟨e,n,ne,nf,d⟩:=I.pin p hp
  have nch:p.1∉ch:=fun z=>(hch p.1 z).2.2.2 p hp rfl;exact⟨keep p.1 p.2 ne nf nch e n,free p.1 p.2 nch e n,ne,nf,d⟩
theorem Inv.un {t':Nat}(I:Inv X pins σ H s)(u:Un X.fs [] H H' s.heap h')(hok:HOk X.prog X.w H' h'):Inv X pins σ H' { s with heap:=h',toks:=t' }:=by
 obtain⟨m,⟨o,es,ep,ho,r⟩,_⟩:=id I.loc;obtain⟨sl,hL⟩:=u.any ho I.free (by simp);exact I.step (g':=s.gens) (d':=s.drawn) (ch:=[]) (fun _ z=>nomatch z) (fun b o _ hb _ e n=>u.keep b o e n hb (by simp)) (fun b o _ hb _ e n=>u.slot b o e n hb (by simp)) (fun b o _ e n=>u.free b o e n (by simp)) (fun b o _ e=>u.there b o e (by simp)) u.tups u.frzs u.tbls (fun m' hm=>by
  obtain⟨o',es',ep',ho',r'⟩:=hm;rw[ho] at ho';cases ho';exact⟨_,es',ep',hL,r'⟩) hok I.bare
theorem Inv.call {g':Array GenState}{t':Nat}{d':Drawn}{ch:List Addr}(I:Inv X pins σ H s)(u:Un (frs X.stack) ch H H' s.heap h')(hok:HOk X.prog X.w H' h')(hg:AllBare g')
  (hch:∀ b∈ch,(b∈X.ex∨X.sj.heap.objs.size<=b)/\b≠X.env.locals/\(∀ x c,X.env.cells.lookup x=some c->c≠b)/\∀ p∈X.pn++pins,p.1≠b) :
  Inv X pins σ H' { s with heap:=h',gens:=g',drawn:=d',toks:=t' }:=by
 obtain⟨m,⟨o,es,ep,ho,r⟩,_⟩:=id I.loc;obtain⟨sl,hL⟩:=u.any ho I.free fun z=>(hch _ z).2.1 rfl;exact I.step (ch:=ch) hch (fun b o hL hb hc e n=>u.keep b o e n (fun z=>(sam.mp (I.stkSub b z)).elim hL hb) hc) (fun b o _ _ hc e n=>u.any e n hc) (fun b o hc e n=>u.free b o e n hc) (fun b o hc e=>u.there b o e hc) u.tups u.frzs u.tbls (fun m' hm=>by
  obtain⟨o',es',ep',ho',r'⟩:=hm;rw[ho] at ho';cases ho';exact⟨_,es',ep',hL,r'⟩) hok hg
theorem Inv.turned {t':Nat}{it:Addr}(I:Inv X pins σ H s)(k:∀ b o,b≠it->s.heap.get? b=some o->h'.get? b=some o)(hn:H it=none)(hL:it≠X.env.locals)
  (h1:it∈X.ex∨X.sj.heap.objs.size<=it)(h2:∀ x c,X.env.cells.lookup x=some c->c≠it)(h3:∀ p∈X.pn++pins,p.1≠it):Inv X pins σ H { s with heap:=h',toks:=t' }:=by
 have nit:∀ b u,H b=some u->b≠it:=fun b u e z=>by rw[z,hn] at e;cases e
 refine I.step (g':=s.gens) (d':=s.drawn) (ch:=[it]) (fun b hb=>?_) (fun b o _ _ hc e _=>k b o (fun z=>hc (by simp [z])) e) (fun b o _ _ hc e _=>⟨o.slots,k b o (fun z=>hc (by simp [z])) e⟩) (fun _ _ _ _ n=>n)
  (fun b o hc e=>⟨o,k b o (fun z=>hc (by simp [z])) e⟩) (fun _ _ e=>e) (fun _ _ _ e=>e) (fun b ps e=>⟨#[],by rw[e];simp⟩) (fun m hm=>?_) (fun b u e=>?_) I.bare
 .have e:b=it:=by simpa using hb
  subst e;exact⟨h1,hL,h2,h3⟩
 .obtain⟨o,es,ep,ho,r⟩:=hm
  exact⟨o,es,ep,k _ o (saT hL) ho,r⟩
 .refine(I.hok b u e).stay (fun c v hc q=>k c v ?_ q) (fun _ q=>q) fun _ _ q=>q
  rcases hc with z | z
  .rw[z];exact nit b u e
  .exact nit c _ z
theorem Inv.tok (I:Inv X pins σ H s)(t:Nat):Inv X pins σ H { s with toks:=t }:=I.un (h':=s.heap) (t':=t) Un.refl I.hok
theorem Inv.kept {t':Nat}(I:Inv X pins σ H s)(k:∀ b u,s.heap.get? b=some u->h'.get? b=some u):Inv X pins σ H { s with heap:=h',toks:=t' }:=I.un (Un.kept k) (I.hok.kept k)
theorem Inv.laid {a:Addr}{o:HO}{t':Nat}(I:Inv X pins σ H s)(k:∀ b u,s.heap.get? b=some u->h'.get? b=some u)(hp:s.heap.objs.size<=a)(new:zcp X.prog X.w (upd H a o) h' a o) :
  Inv X pins σ (upd H a o) { s with heap:=h',toks:=t' }:=I.un (Un.laid k hp (I.hok.fresh hp)) (I.hok.laid k hp new)
theorem Inv.write {x e:Addr}{o:HO}{t':Nat}(I:Inv X pins σ H s)(mu:Mut (H x))(he:e=x∨H e=some (.own x))(k:∀ b u,b≠e->s.heap.get? b=some u->h'.get? b=some u)(heo:∃ u,h'.get? e=some u)
  (new:zcp X.prog X.w (upd H x o) h' x o):Inv X pins σ (upd H x o) { s with heap:=h',toks:=t' }:=I.un (Un.write mu he k heo) (I.hok.write mu he k heo new)
theorem Inv.pins_of {pins':List (Addr×Obj)}(I:Inv X pins σ H s)(h:∀ p∈pins',s.heap.get? p.1=some p.2/\H p.1=none/\p.1≠X.env.locals/\p.1∉X.fs/\∀ v,p.2.data≠.cell v):Inv X pins' σ H s :=
 ⟨I.ok,I.os,I.bare,I.base,I.loc,I.cell,I.free,I.freeC,fun p hp=>(sbc.mp hp).elim (fun z=>I.pin p (List.mem_append_left _ z)) (h p),I.hok,I.len⟩
theorem zoS {N:List Str}(hN:N.Nodup){i j:Nat}{x:Str}(a:N[i]?=some x)(b:N[j]?=some x):i=j:=by
 obtain⟨h1,e1⟩:=sac.mp a;obtain⟨h2,e2⟩:=sac.mp b;exact(List.getElem_inj hN).mp (e1.trans e2.symm)
theorem zk9 {M:Model}{A:Around}{E:Value->Shared->Prop}{i:Nat}{x:Str}{v:V}{u:Value}{Q:Unit->Shared->Prop}(I:Inv X pins σ H s)(hN:X.N.Nodup)(hi:X.N[i]?=some x)(hx:Loc X.env.scope x)(r:zcb v u)
  (h:∀ s',Inv X pins (σ.set i (some v)) H s'->(∃ a,scI a s.heap s'.heap/\(a=X.env.locals∨X.env.cells.lookup x=some a))->Q () s')(hf:X.fn x=true∨X.env.scope.names.lookup x=some .local := by first | exact .inl rfl | exact .inr rfl | assumption):wpAny M A (storeName X.env x u) Q E s:=by
 obtain⟨m,hn,hl⟩:=id I.loc;have hcls:(X.env.scope.kind==.class||(X.env.scope.kind==.module&&X.env.locals != X.env.globals))=false:=by rw[I.ok.kind];rfl
 have hiσ:i < σ.length:=by rw[I.len];exact(sac.mp hi).1
 have cne:=I.cne;have tracked:∀ {a:Addr}{h':Heap},(∃ o,s.heap.get? a=some o/\H a=none)->scI a s.heap h'->HOk X.prog X.w H h':=fun {a h'} ha hs b ob e=>by
  obtain⟨_,_,hfree⟩:=ha;refine(I.hok b ob e).stay (fun c w' hc q=>(hs.2 c ?_).trans q) (fun _ q=>q) fun _ _ q=>q;rintro rfl;rcases hc with rfl | hc
  .rw[hfree] at e;cases e
  .rw[hfree] at hc;cases hc
 rcases hx with hk | hk
 .refine wpAny_storeName_local hk hn (fun h' hn' hs=>?_) hcls
  obtain⟨oL,_,_,hoL,_⟩:=id hn;refine h _ ⟨I.ok,I.os,I.bare,⟨fun b o e n hb hx=>?_,fun b o e n hb hx=>?_,I.base.free,fun b o e hx=>?_,I.base.tups,I.base.frzs,I.base.tbls⟩,⟨_,hn',fun j y v' e1 e2 e3=>?_⟩,fun y c e=>?_,I.free,I.freeC,fun p hp=>?_,tracked ⟨oL,hoL,I.free⟩ hs,by simpa using I.len⟩ ⟨_,hs,.inl rfl⟩
  .exact(hs.2 b (saE (sae (sap e) I.ok.above))).trans (I.base.keep b o e n hb hx)
  .obtain⟨sl,e1⟩:=I.base.slot b o e n hb hx
   exact⟨sl,(hs.2 b (saE (sae (sap e) I.ok.above))).trans e1⟩
  .obtain⟨o',e1⟩:=I.base.there b o e hx
   exact⟨o',(hs.2 b (saE (sae (sap e) I.ok.above))).trans e1⟩
  .by_cases hj:j=i
   .subst hj
    rw[hi] at e1;cases e1;rw[saF hiσ] at e2;cases e2;exact⟨u,r,.inl ⟨hk,by simp⟩⟩
   .rw[sah (saT hj)] at e2
    obtain⟨u',r',q⟩:=hl j y v' e1 e2 e3;refine⟨u',r',?_⟩;rcases q with⟨k,e⟩ | ⟨k,c,e,z⟩
    .refine .inl ⟨k,?_⟩
     have:y≠x:=fun e=>hj (zoS hN e1 (e▸hi));simp [this,e]
    .exact .inr ⟨k,c,e,z.sameBut hs (cne y c e)⟩
  .obtain⟨w',z⟩:=I.cell y c e
   exact⟨w',z.sameBut hs (cne y c e)⟩
  .obtain⟨e,n,ne,nf,d⟩:=I.pin p hp
   exact⟨(hs.2 p.1 ne).trans e,n,ne,nf,d⟩
 .have hfn:X.fn x=true:=by
   rcases hf with z | z
   .exact z
   .rw[z] at hk;cases hk
  obtain⟨c,hc⟩:=I.ok.has x (.inl hk);obtain⟨w',z⟩:=I.cell x c hc;refine wpAny_storeName_cell I.ok.kind hk hc z (fun h' hc' hs=>?_);obtain⟨oc,hoc,hocd⟩:=id z;refine h { s with heap:=h' } ⟨I.ok,I.os,I.bare,⟨fun b o e n hb hx=>?_,fun b o e n hb hx=>?_,I.base.free,fun b o e hx=>?_,I.base.tups,I.base.frzs,I.base.tbls⟩,⟨m,hn.sameBut hs (saT (cne x c hc)),fun j y v' e1 e2 e3=>?_⟩,fun y c' e=>?_,I.free,I.freeC,fun p hp=>?_,tracked ⟨oc,hoc,I.freeC x c hc⟩ hs,by simpa using I.len⟩ ⟨c,hs,.inr hc⟩
  .exact(hs.2 b (saE (sae (sap e) (I.ok.cab x c hfn hc)))).trans (I.base.keep b o e n hb hx)
  .obtain⟨sl,e1⟩:=I.base.slot b o e n hb hx
   exact⟨sl,(hs.2 b (saE (sae (sap e) (I.ok.cab x c hfn hc)))).trans e1⟩
  .obtain⟨o',e1⟩:=I.base.there b o e hx
   exact⟨o',(hs.2 b (saE (sae (sap e) (I.ok.cab x c hfn hc)))).trans e1⟩
  .by_cases hj:j=i
   .subst hj
    rw[hi] at e1;cases e1;rw[saF hiσ] at e2;cases e2;exact⟨u,r,.inr ⟨.inl hk,c,hc,hc'⟩⟩
   .rw[sah (saT hj)] at e2
    obtain⟨u',r',q⟩:=hl j y v' e1 e2 e3;refine⟨u',r',?_⟩;rcases q with q | ⟨k,c',e,z'⟩
    .exact .inl q
    .refine .inr ⟨k,c',e,z'.sameBut hs ?_⟩
     rintro rfl;exact hj (zoS hN e1 (I.ok.inj _ _ _ e hc▸hi))
  .by_cases hcc:c'=c
   .subst hcc;exact⟨_,hc'⟩
   .obtain⟨w2,z2⟩:=I.cell y c' e
    exact⟨w2,z2.sameBut hs hcc⟩
  .obtain⟨e,n,ne,nf,d⟩:=I.pin p hp
   refine⟨(hs.2 p.1 ?_).trans e,n,ne,nf,d⟩;intro q;rw[q,hoc] at e;have q':oc=p.2:=saS e;exact d w' (by rw[← q'];exact hocd)
theorem zhs {M:Model}{A:Around}{E:Value->Shared->Prop}{i:Nat}{x:Str}{v:V}{u:Value}{Q:Unit->Shared->Prop}(I:Inv X pins σ H s)(hN:X.N.Nodup)(hi:X.N[i]?=some x)(hx:Loc X.env.scope x)(r:zcb v u)
  (h:∀ s',Inv X pins (σ.set i (some v)) H s'->Q () s')(hf:X.fn x=true∨X.env.scope.names.lookup x=some .local := by first | exact .inl rfl | exact .inr rfl | assumption):wpAny M A (storeName X.env x u) Q E s :=
 zk9 I hN hi hx r (fun s' I' _=>h s' I') hf
theorem Inv.call' {s':Shared}{ch:List Addr}(I:Inv X pins σ H s)(ho:s'.os=s.os)(u:Un (frs X.stack) ch H H' s.heap s'.heap)(hok:HOk X.prog X.w H' s'.heap)(hg:AllBare s'.gens)
  (hch:∀ b∈ch,(b∈X.ex∨X.sj.heap.objs.size<=b)/\b≠X.env.locals/\(∀ x c,X.env.cells.lookup x=some c->c≠b)/\∀ p∈X.pn++pins,p.1≠b):Inv X pins σ H' s':=by
 obtain⟨h',g',d',t',o'⟩:=s';have e:o'=s.os:=ho;subst e;exact I.call (g':=g') (t':=t') (d':=d') u hok hg hch
end
abbrev XK:=Value->Option Addr->Hp->Prop
abbrev St:=List (Option V)
abbrev VK:=V->Hp->Prop
abbrev TE:=St->Hp->VK->Prop
abbrev TT:=St->Hp->(Bool->Hp->Prop)->Prop
abbrev TA:=St->Hp->(List V->Hp->Prop)->Prop
structure zjM where
 nx:St->Hp->Prop
 rt:VK
 bk:St->Hp->Prop:=fun _ _=>False
 ct:St->Hp->Prop:=fun _ _=>False
abbrev TS:=zjM->St->Hp->Prop
noncomputable def EP (X:Cx) (pins:List (Addr×Obj)) (σ:St) (Q:VK) (u:Value) (s':Shared):Prop:=∃ v H',Inv X pins σ H' s'/\zcb v u/\Q v H'
noncomputable def TP (X:Cx) (pins:List (Addr×Obj)) (σ:St) (Q:Bool->Hp->Prop) (b:Bool) (s':Shared):Prop:=∃ H',Inv X pins σ H' s'/\Q b H'
noncomputable def AP (X:Cx) (pins:List (Addr×Obj)) (σ:St) (Q:List V->Hp->Prop) (us:List Value) (s':Shared):Prop:=∃ vs H',Inv X pins σ H' s'/\zbT vs us/\Q vs H'
noncomputable def SP (X:Cx) (pins:List (Addr×Obj)) (D:zjM) (f:Flow) (s':Shared):Prop :=
 match f with
 | .next=>∃ σ' H',Inv X pins σ' H' s'/\D.nx σ' H'
 | .brk=>∃ σ' H',Inv X pins σ' H' s'/\D.bk σ' H'
 | .cont=>∃ σ' H',Inv X pins σ' H' s'/\D.ct σ' H'
 | .ret u=>∃ v σ' H',Inv X pins σ' H' s'/\zcb v u/\D.rt v H'
noncomputable def PE (X:Cx) (e:Expr) (t:TE):Prop :=
 ∀ (pins:List (Addr×Obj)) (s:Shared) (σ:St) (H:Hp) (Q:VK),Inv X pins σ H s->t σ H Q->wpAny (model X.prog X.w) X.A (eval e X.env) (EP X pins σ Q) X.xe s
noncomputable def PT (X:Cx) (e:Expr) (t:TT):Prop :=
 ∀ (pins:List (Addr×Obj)) (s:Shared) (σ:St) (H:Hp) (Q:Bool->Hp->Prop),Inv X pins σ H s->t σ H Q->wpAny (model X.prog X.w) X.A (isTrue e X.env (eval e X.env)) (TP X pins σ Q) X.xe s
noncomputable def PW (X:Cx) (e:Expr) (t:TT):Prop :=
 ∀ (whole:Sem Value) (pins:List (Addr×Obj)) (s:Shared) (σ:St) (H:Hp) (Q:Bool->Hp->Prop),Inv X pins σ H s->t σ H Q->wpAny (model X.prog X.w) X.A (isTrue e X.env whole) (TP X pins σ Q) X.xe s
theorem PW.pt {X:Cx}{e:Expr}{t:TT}(h:PW X e t):PT X e t:=h _
noncomputable def PA (X:Cx) (es:List Expr) (t:TA):Prop :=
 ∀ (pos:Pos) (pins:List (Addr×Obj)) (s:Shared) (σ:St) (H:Hp) (Q:List V->Hp->Prop),Inv X pins σ H s->t σ H Q->wpAny (model X.prog X.w) X.A (spliced (backTo pos (starEach es X.env))) (AP X pins σ Q) X.xe s
noncomputable def PS (X:Cx) (st:Stmt) (t:TS):Prop :=
 ∀ (pins:List (Addr×Obj)) (s:Shared) (σ:St) (H:Hp) (D:zjM),Inv X pins σ H s->t D σ H->wpAny (model X.prog X.w) X.A (exec st X.env) (SP X pins D) X.xe s
noncomputable def PSs (X:Cx) (st:List Stmt) (t:TS):Prop :=
 ∀ (pins:List (Addr×Obj)) (s:Shared) (σ:St) (H:Hp) (D:zjM),Inv X pins σ H s->t D σ H->wpAny (model X.prog X.w) X.A (execs st X.env) (SP X pins D) X.xe s
theorem thn {α:Type}{t:Sem α}{Q Q':α->Shared->Prop}{M:Model}{A:Around}{E:Value->Shared->Prop}{s:Shared}(h:wpAny M A t Q E s)(hQ:∀ a s,Q a s->Q' a s):wpAny M A t Q' E s:=sa8 h hQ fun _ _ x=>x
section
variable {X:Cx}
theorem bin {a b:Expr}{ta tb:TE}(ha:PE X a ta)(hb:PE X b tb){pins:List (Addr×Obj)}{s:Shared}{σ:St}{H:Hp}{R:V->V->Hp->Prop}(I:Inv X pins σ H s)(h:ta σ H fun x H1=>tb σ H1 fun y H2=>R x y H2)
  {α:Type}{Q:α->Shared->Prop}{f:Value->Value->Sem α}
  (hf:∀ v u s2 x y H2,Inv X pins σ H2 s2->zcb x v->zcb y u->R x y H2->wpAny (model X.prog X.w) X.A (f v u) Q X.xe s2) :
  wpAny (model X.prog X.w) X.A (eval a X.env) (fun v sf=>wpAny (model X.prog X.w) X.A (eval b X.env) (fun u si=>wpAny (model X.prog X.w) X.A (f v u) Q X.xe si) X.xe sf) X.xe s:=by
 refine thn (ha pins s σ H _ I h) fun v s1 ⟨x,H1,I1,r1,q1⟩=>?_;refine thn (hb pins s1 σ H1 _ I1 q1) fun u s2 ⟨y,H2,I2,r2,q2⟩=>?_;exact hf v u s2 x y H2 I2 r1 r2 q2
def zHp (i:Nat):TE:=fun σ H Q=>∃ v,σ[i]?=some (some v)/\Q v H
def tC (v:V):TE:=fun _ H Q=>Q v H
theorem zir {i:Nat}{x:Str}{pos:Pos}(hN:X.N[i]?=some x)(hv:Vis X.env.scope x)(hd:(x==("__debug__" : Str))=false:=by decide)(hcd:(x==("__classdict__" : Str))=false:=by decide):PE X (.Name x pos) (zHp i):=by
 intro pins s σ H Q I h;obtain⟨v,e,h⟩:=h;obtain⟨m,hn,hl⟩:=I.loc;obtain⟨u,r,l⟩:=hl i x v hN e hv;have fin:EP X pins σ Q u s:=⟨v,H,I,r,h⟩
 rcases l with⟨hk,hm⟩ | ⟨hk,c,hc,hcell⟩
 .exact wpAny_Name (wpAny_loadName_local I.ok.kind hk hn hm fin) hd
 .rcases hk with hk | hk
  .exact wpAny_Name (wpAny_loadName_cell I.ok.kind hk hc hcell fin) hd
  .exact wpAny_Name (wpAny_loadName_free I.ok.kind hk hc hcell fin hcd) hd
theorem zD7 {i j pos}:PE X (.Constant (.int i) j pos) (tC (.int i)):=fun _ _ _ H _ I h=>wpAny_Constant_int ⟨.int i,H,I.tok _,⟨_,rfl⟩,h⟩
theorem zGf {b j pos}:PE X (.Constant (.bool b) j pos) (tC (.bl b)):=fun _ _ _ H _ I h=>Constant_bool ⟨.bl b,H,I,rfl,h⟩
theorem zD5 {j pos}:PE X (.Constant .none j pos) (tC .non):=fun _ _ _ H _ I h=>Constant_none ⟨.non,H,I,rfl,h⟩
theorem zD2 {x j pos}:PE X (.Constant (.str x) j pos) (tC (.str x)):=fun _ _ _ H _ I h=>Calls.Constant_str ⟨.str x,H,I.tok _,⟨_,rfl⟩,h⟩
def Gl (X:Cx)(x:Str):Prop:=X.env.kindOf x=some .globalImplicit
theorem zjy {E:Value->Shared->Prop}{pins:List (Addr×Obj)}{s:Shared}{σ:St}{H:Hp}{x:Str}{u:Value}{pos:Pos}{Q:Value->Shared->Prop}(I:Inv X pins σ H s)(hg:Gl X x)(hm:X.mg x=some u)(h:Q u s)
  (hd:(x==("__debug__" : Str))=false:=by decide):wpAny (model X.prog X.w) X.A (eval (.Name x pos) X.env) Q E s :=
 Calls.Name_function_global I.ok.kind hg (Calls.loadGlobal_global (by rw[I.ok.glob];exact I.mod.glob.keeps I.bk) hm h) hd
theorem znO {E:Value->Shared->Prop}{pins:List (Addr×Obj)}{s:Shared}{σ:St}{H:Hp}{x:Str}{u:Value}{pos:Pos}{Q:Value->Shared->Prop}(I:Inv X pins σ H s)(hg:Gl X x)(hm:X.mg x=none)(hv:bootBuiltins x=some u)(h:Q u s)
  (hn:x≠"__name__":=by decide)(hd:(x==("__debug__" : Str))=false:=by decide):wpAny (model X.prog X.w) X.A (eval (.Name x pos) X.env) Q E s:=by
 obtain⟨mb,h1,h2⟩:=I.mod.blt;exact Calls.Name_function_global I.ok.kind hg (Calls.loadGlobal_builtin (by rw[I.ok.glob];exact I.mod.glob.keeps I.bk) hm (by rw[I.ok.blt];exact h1.keeps I.bk) ((h2 x hn).trans hv) h) hd
theorem zsm {x:Str}{v:V}{u:Value}{pos:Pos}(hg:Gl X x)(hm:X.mg x=some u)(r:zcb v u)(hd:(x==("__debug__" : Str))=false:=by decide):PE X (.Name x pos) (tC v) :=
 fun _ _ _ H _ I h=>zjy I hg hm ⟨v,H,I,r,h⟩ hd
theorem zwa {x:Str}{v:V}{u:Value}{pos:Pos}(hg:Gl X x)(hm:X.mg x=none)(hv:bootBuiltins x=some u)(r:zcb v u)(hn:x≠"__name__":=by decide)(hd:(x==("__debug__" : Str))=false:=by decide):PE X (.Name x pos) (tC v) :=
 fun _ _ _ H _ I h=>znO I hg hm hv ⟨v,H,I,r,h⟩ hn hd
variable {a b:Expr}{ta tb:TE}{pos:Pos}
noncomputable def PC (X:Cx) (op:CmpOp) (a b:Expr) (t:TE):Prop :=
 ∀ (pins:List (Addr×Obj)) (s:Shared) (σ:St) (H:Hp) (Q:VK),Inv X pins σ H s->t σ H Q ->
  wpAny (model X.prog X.w) X.A (eval a X.env) (fun v sf=>wpAny (model X.prog X.w) X.A (eval b X.env) (fun u si=>wpAny (model X.prog X.w) X.A (compareOp op v u) (EP X pins σ Q) X.xe si) X.xe sf) X.xe s
theorem ztw (b:Expr){op:CmpOp}(h:op≠.In)(h2:op≠.NotIn):behindInMarks op b=false:=by
 have e1:(op==CmpOp.In)=false:=by cases op<;>first | rfl | exact absurd rfl h
 have e2:(op==CmpOp.NotIn)=false:=by cases op<;>first | rfl | exact absurd rfl h2
 cases b<;>simp [behindInMarks,e1,e2]
def tB (t:TE):TT:=fun σ H Q=>t σ H fun x H1=>∃ c,x=.bl c/\Q c H1
theorem zGY {op:CmpOp}{t:TE}(h:PC X op a b t)(h1:behindInMarks op b=false:=by first | exact ztw _ (by decide) (by decide) | rfl):PT X (.Compare a [op] [b] pos) (tB t):=by
 intro pins s σ H Q I hw;refine wpAny_isTrue_Compare1 (thn (h pins s σ H _ I hw) fun v s1 h1=>thn h1 fun u s2 h2=>thn h2 fun c s3 ⟨x,H1,I1,r1,q1⟩=>?_) h1;obtain⟨d,rfl,q⟩:=q1;cases r1;exact sa3 ⟨H1,I1,q⟩
theorem zDR {e:Expr}{t:TE}(h:PE X e t)(he:∀ whole,isTrue e X.env whole=(do let v ← whole;standAt e.pos;holding [v] (truthy v)):=by intro _;rfl):PT X e (tB t):=by
 intro pins s σ H Q I hw;refine isTrue_plain (thn (h pins s σ H _ I hw) fun v s1 ⟨x,H1,I1,r1,q1⟩=>?_) (he _);obtain⟨d,rfl,q⟩:=q1;cases r1;exact sa3 ⟨H1,I1,q⟩
variable {tA tB':TT}{rest:List Expr}
def zHA (t u:TT):TT:=fun σ H Q=>t σ H fun c H1=>if c=true then u σ H1 Q else Q false H1
def tOr (t u:TT):TT:=fun σ H Q=>t σ H fun c H1=>if c=true then Q true H1 else u σ H1 Q
def zHv (t:TT):TT:=fun σ H Q=>t σ H fun c H1=>Q (!c) H1
theorem zBH (ha:PT X a tA):PW X (.BoolOp .And [a] pos) tA:=by
 intro wh pins s σ H Q I h;refine isTrue_and (thn (ha pins s σ H Q I h) fun c s1 e=>?_);cases c with
 | true=>exact isTrue_and_nil e
 | false=>exact e
theorem zDM (ha:PT X a tA):PW X (.BoolOp .Or [a] pos) tA:=by
 intro wh pins s σ H Q I h;refine isTrue_or (thn (ha pins s σ H Q I h) fun c s1 e=>?_);cases c with
 | false=>exact isTrue_or_nil e
 | true=>exact e
theorem zDN (ha:PT X a tA)(hb:PW X (.BoolOp .And (b::rest) pos) tB'):PW X (.BoolOp .And (a::b::rest) pos) (zHA tA tB'):=by
 intro wh pins s σ H Q I h;refine isTrue_and (thn (ha pins s σ H _ I h) fun c s1 ⟨H1,I1,q1⟩=>?_);cases c with
 | true=>exact hb wh pins s1 σ H1 Q I1 q1
 | false=>exact⟨H1,I1,q1⟩
theorem zF6 (ha:PT X a tA)(hb:PW X (.BoolOp .Or (b::rest) pos) tB'):PW X (.BoolOp .Or (a::b::rest) pos) (tOr tA tB'):=by
 intro wh pins s σ H Q I h;refine isTrue_or (thn (ha pins s σ H _ I h) fun c s1 ⟨H1,I1,q1⟩=>?_);cases c with
 | true=>exact⟨H1,I1,q1⟩
 | false=>exact hb wh pins s1 σ H1 Q I1 q1
theorem zDS (ha:PT X a tA):PT X (.UnaryOp .Not a pos) (zHv tA):=by
 intro pins s σ H Q I h;exact isTrue_not (ha pins s σ H (fun c H1=>Q (!c) H1) I h)
noncomputable def zFU (ta tb:TE):TE:=fun σ H Q=>ta σ H fun x H1=>∃ c,x=.bl c/\if c=true then tb σ H1 Q else Q (.bl false) H1
noncomputable def zHu (ta tb:TE):TE:=fun σ H Q=>ta σ H fun x H1=>∃ c,x=.bl c/\if c=true then Q (.bl true) H1 else tb σ H1 Q
def zFO (ta:TE):TE:=fun σ H Q=>ta σ H fun x H1=>∃ c,x=.bl c/\Q (.bl (!c)) H1
theorem zD3 {op}{t:TE}(h:PE X a t):PE X (.BoolOp op [a] pos) t:=fun pins s σ H Q I hw=>BoolOp_one (h pins s σ H Q I hw)
theorem zD8 (ha:PE X a ta)(hb:PE X (.BoolOp .And (b::rest) pos) tb):PE X (.BoolOp .And (a::b::rest) pos) (zFU ta tb):=by
 intro pins s σ H Q I h;refine BoolOp_and (thn (ha pins s σ H _ I h) fun v s1 ⟨x,H1,I1,r1,q1⟩=>?_);obtain⟨c,rfl,q1⟩:=q1;cases r1;refine sa3 ?_;cases c with
 | true=>exact hb pins s1 σ H1 Q I1 q1
 | false=>exact⟨.bl false,H1,I1,rfl,q1⟩
theorem zGe (ha:PE X a ta)(hb:PE X (.BoolOp .Or (b::rest) pos) tb):PE X (.BoolOp .Or (a::b::rest) pos) (zHu ta tb):=by
 intro pins s σ H Q I h;refine BoolOp_or (thn (ha pins s σ H _ I h) fun v s1 ⟨x,H1,I1,r1,q1⟩=>?_);obtain⟨c,rfl,q1⟩:=q1;cases r1;refine sa3 ?_;cases c with
 | false=>exact hb pins s1 σ H1 Q I1 q1
 | true=>exact⟨.bl true,H1,I1,rfl,q1⟩
theorem zD4 (ha:PE X a ta):PE X (.UnaryOp .Not a pos) (zFO ta):=by
 intro pins s σ H Q I h;refine UnaryOp_ (thn (ha pins s σ H _ I h) fun v s1 ⟨x,H1,I1,r1,q1⟩=>?_);obtain⟨c,rfl,q1⟩:=q1;cases r1;exact not_of (sa3 ⟨.bl (!c),H1,I1,rfl,q1⟩)
def tIf (t:TT)(ta tb:TE):TE:=fun σ H Q=>t σ H fun c H1=>if c=true then ta σ H1 Q else tb σ H1 Q
theorem zy9 {c:Expr}(hc:PT X c tA)(ha:PE X a ta)(hb:PE X b tb):PE X (.IfExp c a b pos) (tIf tA ta tb):=by
 intro pins s σ H Q I h;refine wpAny_IfExp (thn (hc pins s σ H _ I h) fun d s1 ⟨H1,I1,q1⟩=>?_);cases d with
 | true=>exact ha pins s1 σ H1 Q I1 q1
 | false=>exact hb pins s1 σ H1 Q I1 q1
end
noncomputable def SqL (K:sab) (H:Hp) (a:Addr) (xs:List V):Prop :=
 Rd H a (.lst xs) ∨
  ∃ (o:Obj) (its:Array Value) (n:Nat),K.lookup a=some o/\o.cls=.type "list"/\o.dict=none/\o.data=.seq its n/\its.size<=sizeLine/\zbT xs its.toList
noncomputable def SqT (K:sab) (H:Hp) (a:Addr) (xs:List V):Prop :=
 Rd H a (.tup xs) ∨
  ∃ (o:Obj) (its:Array Value) (n:Nat),K.lookup a=some o/\o.cls=.type "tuple"/\o.data=.seq its n/\its.size<=sizeLine/\zbT xs its.toList
noncomputable def zHX:Value->Option V
 | .none=>some .non
 | .bool b=>some (.bl b)
 | .int i _=>some (.int i)
 | .str x _=>some (.str x)
 | .bytes b _=>some (.byt b)
 | .float b _=>some (.flt b)
 | .ref a=>some (.ref a)
 | .type n=>some (.ty n)
 | _=>none
theorem zcb.abs {x:V}{u:Value}(r:zcb x u):zHX u=some x:=by
 cases x with
 | non=>cases r;rfl
 | bl _=>cases r;rfl
 | int _=>obtain⟨t,rfl⟩:=r;rfl
 | str _=>obtain⟨t,rfl⟩:=r;rfl
 | byt _=>obtain⟨t,rfl⟩:=r;rfl
 | flt _=>obtain⟨t,rfl⟩:=r;rfl
 | ref _=>cases r;rfl
 | ty _=>cases r;rfl
theorem zcb.inj {x y:V}{u:Value}(r:zcb x u)(q:zcb y u):x=y:=saS (r.abs.symm.trans q.abs)
theorem zbT.inj:∀ {xs ys:List V}{us:List Value},zbT xs us->zbT ys us->xs=ys
 | _,_,_,.nil,.nil=>rfl
 | _,_,_,.cons r t,.cons r' t'=>by rw[r.inj r',zbT.inj t t']
section
variable {X:Cx}{pins:List (Addr×Obj)}{σ:St}{H:Hp}{s:Shared}{a:Addr}{xs ys:List V}
theorem SqL.of {K:sab}(h:H a=some (.lst xs)):SqL K H a xs:=.inl (.inl h)
theorem SqT.of {K:sab}(h:H a=some (.tup xs)):SqT K H a xs:=.inl (.inl h)
theorem Inv.list (I:Inv X pins σ H s)(h:SqL X.K H a xs):∃ its:List Value,zbT xs its/\PlainL s.heap a its.toArray/\xs.length<=sizeLine:=by
 rcases h with h | ⟨o,its,n,hk,hc,hd,hs,hz,r⟩
 .obtain⟨z,its,n,r,e⟩:=h.ok I.hok
  exact⟨its,r,⟨_,n,e,rfl,rfl,rfl⟩,z⟩
 .refine⟨its.toList,r,⟨o,n,I.kIn a o hk,hc,hd,by simpa using hs⟩,?_⟩
  have e:=r.length;simp only[scO] at e;omega
theorem Inv.tuple (I:Inv X pins σ H s)(h:SqT X.K H a xs):∃ its:List Value,zbT xs its/\IsTup s.heap a its.toArray/\xs.length<=sizeLine:=by
 rcases h with h | ⟨o,its,n,hk,hc,hs,hz,r⟩
 .obtain⟨z,its,r,p⟩:=h.ok I.hok
  exact⟨its,r,p,z⟩
 .refine⟨its.toList,r,⟨o,I.kIn a o hk,hc,n,by simpa using hs⟩,?_⟩
  have e:=r.length;simp only[scO] at e;omega
theorem Inv.list_inj (I:Inv X pins σ H s)(h:SqL X.K H a xs)(h':SqL X.K H a ys):xs=ys:=by
 obtain⟨its,r,⟨o,n,e,_,_,d⟩,_⟩:=I.list h;obtain⟨its',r',⟨o',n',e',_,_,d'⟩,_⟩:=I.list h';rw[e] at e';cases e';rw[d] at d';injection d' with d1 _;have:its=its':=by simpa using congrArg Array.toList d1
 subst this;exact r.inj r'
theorem Inv.tuple_inj (I:Inv X pins σ H s)(h:SqT X.K H a xs)(h':SqT X.K H a ys):xs=ys:=by
 obtain⟨its,r,⟨o,e,_,n,d⟩,_⟩:=I.tuple h;obtain⟨its',r',⟨o',e',_,n',d'⟩,_⟩:=I.tuple h';rw[e] at e';cases e';rw[d] at d';injection d' with d1 _;have:its=its':=by simpa using congrArg Array.toList d1
 subst this;exact r.inj r'
end
abbrev Cx.wish (X:Cx)(E:Value->Shared->Prop):Cx:={ X with xe:=E }
abbrev Cx.nox (X:Cx):Cx:=X.wish fun _ _=>False
theorem Cx.Ok.wish {X:Cx}(ok:X.Ok)(E:Value->Shared->Prop):(X.wish E).Ok :=
 ⟨ok.mod,ok.kind,ok.glob,ok.blt,ok.above,ok.inj,ok.has,ok.cab,ok.hd,ok.frames,ok.stk,ok.exf,ok.bs,ok.bsz,ok.noex,ok.exfs,ok.funs,ok.frf⟩
theorem Cx.Ok.unwish {X:Cx}{E:Value->Shared->Prop}(ok:(X.wish E).Ok):X.Ok :=
 ⟨ok.mod,ok.kind,ok.glob,ok.blt,ok.above,ok.inj,ok.has,ok.cab,ok.hd,ok.frames,ok.stk,ok.exf,ok.bs,ok.bsz,ok.noex,ok.exfs,ok.funs,ok.frf⟩
section
variable {X:Cx}{pins:List (Addr×Obj)}{σ:St}{H:Hp}{s:Shared}{E:Value->Shared->Prop}
theorem Inv.wish (I:Inv X pins σ H s)(E:Value->Shared->Prop):Inv (X.wish E) pins σ H s:=⟨I.ok.wish E,I.os,I.bare,I.base,I.loc,I.cell,I.free,I.freeC,I.pin,I.hok,I.len⟩
theorem Inv.unwish (I:Inv (X.wish E) pins σ H s):Inv X pins σ H s:=⟨I.ok.unwish,I.os,I.bare,I.base,I.loc,I.cell,I.free,I.freeC,I.pin,I.hok,I.len⟩
theorem SP.unwish {D:zjM}{f:Flow}{s':Shared}(h:SP (X.wish E) pins D f s'):SP X pins D f s':=by
 cases f with
 | next=>obtain⟨σ',H',I,q⟩:=h;exact⟨σ',H',I.unwish,q⟩
 | brk=>obtain⟨σ',H',I,q⟩:=h;exact⟨σ',H',I.unwish,q⟩
 | cont=>obtain⟨σ',H',I,q⟩:=h;exact⟨σ',H',I.unwish,q⟩
 | ret u=>obtain⟨v,σ',H',I,r,q⟩:=h;exact⟨v,σ',H',I.unwish,r,q⟩
theorem PSs.nox {st:List Stmt}{t:TS}(h:PSs X.nox st t):PSs X st t:=fun pins s σ H D I hw =>
 sa8 (h pins s σ H D (I.wish _) hw) (fun _ _ q=>q.unwish) fun _ _ z=>sbb z
end
section
variable {X:Cx}{st:Stmt}{rest:List Stmt}{t u:TS}{e:Expr}{te:TE}{pos:Pos}
def zFP:TS:=fun D σ H=>D.nx σ H
def zHr (t u:TS):TS:=fun D σ H=>t { D with nx:=u D } σ H
theorem zoI:PSs X [] zFP:=fun _ _ σ H _ I h=>wpAny_execs_nil ⟨σ,H,I,h⟩
theorem zfX (h1:PS X st t)(h2:PSs X rest u):PSs X (st::rest) (zHr t u):=by
 intro pins s σ H D I h;refine wpAny_execs_cons (thn (h1 pins s σ H { D with nx:=u D } I h) fun f s1 q=>?_);cases f with
 | next =>
  obtain⟨σ',H',I',q⟩:=q;exact h2 pins s1 σ' H' D I' q
 | ret v=>exact q
 | brk=>exact q
 | cont=>exact q
theorem Inv.quiet {pins:List (Addr×Obj)}{σ:St}{H:Hp}{s:Shared}(I:Inv X pins σ H s):interactive X.env=false:=by simp [interactive,I.ok.kind]
def zFR (te:TE):TS:=fun D σ H=>te σ H fun _ H1=>D.nx σ H1
theorem zoJ (he:PE X e te)(hs:swapsWith e none pos.line X.env=pure false:=by rfl):PS X (.Expr e pos) (zFR te):=by
 intro pins s σ H D I h;exact wpAny_Expr_any (thn (he pins s σ H _ I h) fun v s1 ⟨x,H1,I1,r1,q1⟩=>⟨σ,H1,I1,q1⟩) I.quiet hs
def zHs (te:TE):TS:=fun D σ H=>te σ H D.rt
theorem ztn (he:PE X e te):PS X (.Return (some e) pos) (zHs te):=by
 intro pins s σ H D I h;exact wpAny_Return_some (thn (he pins s σ H _ I h) fun v s1 ⟨x,H1,I1,r1,q1⟩=>⟨x,σ,H1,I1,r1,q1⟩)
def zHy (c:TT)(t u:TS):TS:=fun D σ H=>c σ H fun b H1=>if b=true then t D σ H1 else u D σ H1
theorem zDU {c:Expr}{a b:List Stmt}{tc:TT}(hc:PT X c tc)(ha:PSs X a t)(hb:PSs X b u):PS X (.If c a b pos) (zHy tc t u):=by
 intro pins s σ H D I h;refine wpAny_If (thn (hc pins s σ H _ I h) fun d s1 ⟨H1,I1,q1⟩=>?_);cases d with
 | true=>exact ha pins s1 σ H1 D I1 q1
 | false=>exact hb pins s1 σ H1 D I1 q1
def zDm:TS:=fun _ _ _=>False
theorem zy6:PS X st zDm:=fun _ _ _ _ _ _ h=>h.elim
end
abbrev TG:=V->St->Hp->(St->Hp->Prop)->Prop
abbrev TGs:=List V->St->Hp->(St->Hp->Prop)->Prop
noncomputable def PG (X:Cx) (target:Expr) (t:TG):Prop :=
 ∀ (pins:List (Addr×Obj)) (s:Shared) (σ:St) (H:Hp) (v:V) (u:Value) (Q:St->Hp->Prop),Inv X pins σ H s->zcb v u->t v σ H Q ->
  wpAny (model X.prog X.w) X.A (assign target X.env u) (fun _ s'=>∃ σ' H',Inv X pins σ' H' s'/\Q σ' H') X.xe s
noncomputable def PGs (X:Cx) (ts:List Expr) (t:TGs):Prop :=
 ∀ (pins:List (Addr×Obj)) (s:Shared) (σ:St) (H:Hp) (vs:List V) (us:List Value) (Q:St->Hp->Prop),Inv X pins σ H s->zbT vs us->t vs σ H Q ->
  wpAny (model X.prog X.w) X.A (assignInOrder ((assignEach ts X.env).map (·.2)) us) (fun _ s'=>∃ σ' H',Inv X pins σ' H' s'/\Q σ' H') X.xe s
abbrev zGI:=V->V->V->Hp->(Hp->Prop)->Prop
noncomputable def zHj (X:Cx) (t:zGI):Prop :=
 ∀ (pins:List (Addr×Obj)) (s:Shared) (σ:St) (H:Hp) (o i v:V) (ov iv u:Value) (Q:Hp->Prop),Inv X pins σ H s->zcb o ov->zcb i iv->zcb v u->t o i v H Q ->
  wpAny (model X.prog X.w) X.A (setItem ov iv u) (fun _ s'=>∃ H',Inv X pins σ H' s'/\Q H') X.xe s
section
variable {X:Cx}{pos:Pos}
def zzC (i:Nat):TG:=fun v σ H Q=>Q (σ.set i (some v)) H
theorem zv6 {i:Nat}{x:Str}(hN:X.N.Nodup)(hi:X.N[i]?=some x)(hx:Loc X.env.scope x)(hf:X.fn x=true∨X.env.scope.names.lookup x=some .local := by first | exact .inl rfl | exact .inr rfl | assumption):PG X (.Name x pos) (zzC i):=by
 intro pins s σ H v u Q I r h;exact wpAny_assign_Name (zhs I hN hi hx r (fun s' I'=>⟨_,H,I',h⟩) hf)
def zHT:TGs:=fun vs σ H Q=>vs=[]/\Q σ H
def zGq (t:TG)(u:TGs):TGs:=fun vs σ H Q=>∃ v r,vs=v::r/\t v σ H fun σ' H'=>u r σ' H' Q
theorem zBO:PGs X [] zHT:=by
 intro pins s σ H vs us Q I r h;obtain⟨e,h⟩:=h;subst e;cases r;exact assignInOrder_nil ⟨σ,H,I,h⟩
theorem zy8 {e:Expr}{es:List Expr}{t:TG}{u:TGs}(h1:PG X e t)(h2:PGs X es u)
  (hs:(assignEach (e::es) X.env).map (·.2)=assign e X.env::(assignEach es X.env).map (·.2):=by rfl):PGs X (e::es) (zGq t u):=by
 intro pins s σ H vs us Q I r h;obtain⟨v,vr,e1,h⟩:=h;subst e1;cases r with
 | cons r rr =>
  rw[hs];refine assignInOrder_cons (thn (h1 pins s σ H _ _ _ I r h) fun _ s1 ⟨σ1,H1,I1,q1⟩=>?_);exact h2 pins s1 σ1 H1 _ _ Q I1 rr q1
noncomputable def zHR (K:sab) (n:Nat) (t:TGs):TG:=fun v σ H Q=>∃ a xs,v=.ref a/\SqT K H a xs/\xs.length=n/\t xs σ H Q
theorem zD0 {es:List Expr}{k:Nat}{t:TGs}{n:Nat}(hc:X.calm=true)(h:PGs X es t)
  (hn:(assignEach es X.env).length=n:=by rfl)(hst:(assignEach es X.env).findIdx? (·.1)=none:=by rfl):PG X (.Tuple es k pos) (zHR X.K n t):=by
 intro pins s σ H v u Q I r hw;obtain⟨a,xs,e1,hq,hl,hw⟩:=hw;subst e1;cases r;obtain⟨its,rv,ht,hz⟩:=I.tuple hq;refine assign_Tuple_tuple (I.ok.hd hc) ht (by simp [hn,← hl,rv.length]) hst fun h' hx=>?_;have I1:Inv X pins σ H { s with heap:=h' }:=I.kept (t':=s.toks) fun b o e=>hx b o (saE (sap e)) e;exact h pins _ σ H xs _ Q I1 (by simpa using rv) hw
noncomputable def zHS (to ti:TE) (t:zGI):TG:=fun v σ H Q=>to σ H fun o H1=>ti σ H1 fun i H2=>t o i v H2 fun H3=>Q σ H3
theorem zAv {o i:Expr}{to ti:TE}{t:zGI}(ho:PE X o to)(hi:PE X i ti)(hs:zHj X t)
  (ha:∀ v,assign (.Subscript o i pos) X.env v=(do
   let ov ← holding [v] (eval o X.env)
   let iv ← holding [v,ov] (eval i X.env)
   standAt pos
   holding [v,ov,iv] (setItem ov iv v)
   release [v,ov,iv] []):=by intro _;rfl):PG X (.Subscript o i pos) (zHS to ti t):=by
 intro pins s σ H v u Q I r h;rw[ha];refine sad (sbl (thn (ho pins s σ H _ I h) fun ov s1 ⟨x,H1,I1,r1,q1⟩=>?_));refine sad (sbl (thn (hi pins s1 σ H1 _ I1 q1) fun iv s2 ⟨y,H2,I2,r2,q2⟩=>?_));refine sad (wpAny_standAt (sad (sbl (thn (hs pins s2 σ H2 x y v ov iv u _ I2 r1 r2 r q2) fun _ s3 ⟨H3,I3,q3⟩=>?_))));exact wpAny_release ⟨σ,H3,I3,q3⟩
def zFr (te:TE)(g:TG):TS:=fun D σ H=>te σ H fun x H1=>g x σ H1 D.nx
theorem zAu {tg e:Expr}{te:TE}{g:TG}(he:PE X e te)(hg:PG X tg g)(hs:swapsWithSole [tg] e pos.line X.env=pure false:=by rfl)(hw:swappedStores [tg] e X.env=pure none:=by rfl)
  (h1:(assignEach [tg] X.env).map (·.2)=[assign tg X.env]:=by rfl):PS X (.Assign [tg] e pos) (zFr te g):=by
 intro pins s σ H D I h;refine wpAny_Assign_stores (thn (he pins s σ H _ I h) fun v s1 ⟨x,H1,I1,r1,q1⟩=>?_) hs hw;rw[h1];exact thn (hg pins s1 σ H1 x v _ I1 r1 q1) fun _ s2 q=>q
theorem ztm {i:Nat}{x:Str}{e:Expr}{te:TE}{pos':Pos}(hN:X.N.Nodup)(hi:X.N[i]?=some x)(hx:Loc X.env.scope x)(he:PE X e te)(hs:swapsWith e (some (.Name x pos')) pos.line X.env=pure false:=by rfl)(hf:X.fn x=true∨X.env.scope.names.lookup x=some .local := by first | exact .inl rfl | exact .inr rfl | assumption) :
  PS X (.Assign [.Name x pos'] e pos) (zFr te (zzC i)):=by
 intro pins s σ H D I h;refine wpAny_Assign_Name (thn (he pins s σ H _ I h) fun v s1 ⟨y,H1,I1,r1,q1⟩=>?_) hs;exact zhs I1 hN hi hx r1 (fun s2 I2=>⟨_,H1,I2,q1⟩) hf
noncomputable def zHt (i j:Nat) (ta:TA):TS:=fun D σ H=>ta σ H fun vs H1=>∃ v w,vs=[v,w]/\D.nx ((σ.set i (some v)).set j (some w)) H1
theorem zDT {i j:Nat}{x y:Str}{a b:Expr}{ta:TA}{px py pt:Pos}{kt k2 pt2}(hc:X.calm=true)(hN:X.N.Nodup)(hi:X.N[i]?=some x)(hj:X.N[j]?=some y)(hij:i≠j)
  (hx:X.env.scope.names.lookup x=some .local)(hy:X.env.scope.names.lookup y=some .local)(ha:PA X [a,b] ta)
  (hw:swappedStores [.Tuple [.Name x px,.Name y py] kt pt] (.Tuple [a,b] k2 pt2) X.env=pure (some [x,y]))
  (hs:swapsWithSole [.Tuple [.Name x px,.Name y py] kt pt] (.Tuple [a,b] k2 pt2) pos.line X.env=pure false:=by rfl) :
  PS X (.Assign [.Tuple [.Name x px,.Name y py] kt pt] (.Tuple [a,b] k2 pt2) pos) (zHt i j ta):=by
 intro pins s σ H D I h;rw[exec_Assign_arm];refine sad (wpAny_standAt ?_);rw[hs];refine sad (saB ?_);rw[if_neg (by decide)];refine sad (Tuple_ (thn (ha _ pins s σ H _ I h) fun us s1 ⟨vs,H1,I1,r1,q1⟩=>?_));obtain⟨v,w,e1,q1⟩:=q1;subst e1;obtain⟨u1,u2,rfl,rv,rw'⟩:∃ u1 u2,us=[u1,u2]/\zcb v u1/\zcb w u2:=by
  cases r1 with
  | cons p q =>
   cases q with
   | cons p' q' =>
    cases q';exact⟨_,_,rfl,p,p'⟩
 refine wpAny_newObj_type ?_ (by show 2<=sizeLine;decide);have I2:Inv X pins σ H1 { s1 with heap:=s1.heap.push { cls:=.type "tuple",data:=.seq [u1,u2].toArray } }:=I1.kept (t':=s1.toks) fun b o e=>saf _ e;rw[hw];refine sad (saB ?_);show wpAny (model X.prog X.w) X.A (do rule "assign.swapped-stores";let items ← unpackItems (.ref s1.heap.objs.size) 2 none;assignInOrder [fun v=>bindName X.env y v,fun v=>bindName X.env x v] items.reverse;pure Flow.next) _ _ _;refine sad (wpAny_rule (sad (unpackItems_tuple (items:=#[u1,u2]) (I.ok.hd hc) (IsTup.new s1.heap _) fun h' hx'=>?_)));have I3:=I2.kept (h':=h') (t':=s1.toks) fun b o e=>hx' b o (saE (sap e)) e;show wpAny _ _ (assignInOrder [fun v=>bindName X.env y v,fun v=>bindName X.env x v] [u2,u1] >>= fun _=>pure Flow.next) _ _ _;refine sad (assignInOrder_cons (wpAny_bindName (zhs I3 hN hj (.inl hy) rw' (fun s2 I4=>?_) (.inr hy))));refine assignInOrder_cons (wpAny_bindName (zhs I4 hN hi (.inl hx) rv (fun s3 I5=>assignInOrder_nil (saB ?_)) (.inr hx)));rw[List.set_comm _ _ (saT hij)] at I5;exact⟨_,H1,I5,q1⟩
end
section
variable {X:Cx}{pos:Pos}
noncomputable def zDk (c:TT) (tb:TS):TS:=fun D σ H=>∃ W:Nat->St->Hp->Prop,(∃ m,W m σ H)/\∀ m σ H,W m σ H ->
 c σ H fun b H1=>if b=true then ∃ N:St->Hp->Prop,(∀ σ' H',N σ' H'->∃ m',m' < m/\W m' σ' H')/\tb { D with nx:=N,ct:=N,bk:=D.nx } σ H1 else D.nx σ H1
theorem zy5 {c:Expr}{body:List Stmt}{tc:TT}{tb:TS}(hp:PassesOwn (model X.prog X.w) X.A X.env X.xe)(hc:PT X c tc)(hb:PSs X body tb):PS X (.While c body [] pos) (zDk tc tb):=by
 intro pins s σ H D I h;obtain⟨W,⟨m0,w0⟩,turn⟩:=h;refine wpAny_While (codeAny_whileLoop (fun n s'=>∃ σ' H',Inv X pins σ' H' s'/\W n σ' H') ?_ m0 ⟨σ,H,I,w0⟩);rintro n s1 ⟨σ1,H1,I1,w1⟩;refine wpAny_passesOwn hp (thn (hc pins s1 σ1 H1 _ I1 (turn n σ1 H1 w1)) fun b s2 ⟨H2,I2,q2⟩=>?_);cases b with
 | true =>
  obtain⟨N,hN,q2⟩:=q2;rw[if_pos rfl];refine wpAny_passesOwn hp (thn (hb pins s2 σ1 H2 _ I2 q2) fun f s3 q3=>?_);cases f with
  | next =>
   obtain⟨σ3,H3,I3,n3⟩:=q3;obtain⟨m',hm,w3⟩:=hN σ3 H3 n3;exact⟨m',hm,σ3,H3,I3,w3⟩
  | cont =>
   obtain⟨σ3,H3,I3,n3⟩:=q3;obtain⟨m',hm,w3⟩:=hN σ3 H3 n3;exact⟨m',hm,σ3,H3,I3,w3⟩
  | brk=>exact q3
  | ret v=>exact q3
 | false =>
  rw[if_neg sa7];exact wpAny_execs_nil ⟨σ1,H2,I2,q2⟩
end
structure It where
 go:Nat->Hp->Prop
 yld:Nat->Hp->V->Hp->Prop
 stop:Nat->Hp->Prop
noncomputable def zuo (X:Cx) (pins:List (Addr×Obj)) (H:Hp) (b:Addr):Prop :=
 H b=none/\b≠X.env.locals/\b∉X.fs/\(b∈X.ex∨X.sj.heap.objs.size<=b)/\(∀ x c,X.env.cells.lookup x=some c->c≠b)/\∀ p∈X.pn++pins,p.1≠b
theorem Inv.fpOk {X:Cx}{pins:List (Addr×Obj)}{σ:St}{H H':Hp}{s:Shared}{b:Addr}(I:Inv X pins σ H s)(hb:s.heap.objs.size<=b)(hn:H' b=none):zuo X pins H' b:=by
 refine⟨hn,Nat.ne_of_gt (sae I.lt hb),I.nofs hb,.inr (sat I.sz hb),fun x c e z=>?_,fun p hp z=>?_⟩
 .obtain⟨v,q⟩:=I.cell x c e
  exact absurd (sae q.lt (by rw[z];exact hb)) (sb3 _)
 .exact absurd (sae (sap (I.pin p hp).1) (by rw[z];exact hb)) (sb3 _)
structure zA3 (P:Program) (w:World) (K:sab) (tg:Expr) (J:It) (fp:List Addr) (it:Addr) (tn:Nat->Heap->Prop):Prop where
 mem:it∈fp
 obj:∀ i h,tn i h->∀ b∈fp,∃ o,h.get? b=some o/\∀ v,o.data≠.cell v
 keep:∀ i h h',tn i h->(∀ b∈fp,∀ o,h.get? b=some o->h'.get? b=some o)->tn i h'
 item:∀ (X:Cx),X.prog=P->X.w=w->X.K=K->X.calm=true->∀ (i:Nat) (pins:List (Addr×Obj)) (s:Shared) (σ:St) (H:Hp) (E:Value->Shared->Prop),Inv X pins σ H s->(∀ b∈fp,zuo X pins H b)->tn i s.heap->J.go i H ->
  wpAny (model P w) X.A (pyNext (.ref it)) (fun r s1=>∃ u,r=some u /\
   wpAny (model P w) X.A (letOwnedTupleGo tg (.ref it) u) (fun _ s2=>∃ x H',Inv X pins σ H' s2/\zcb x u/\J.yld i H x H'/\tn (i+1) s2.heap/\∀ b∈fp,H' b=none) E s1) E s
 done:∀ (X:Cx),X.prog=P->X.w=w->X.K=K->X.calm=true->∀ (i:Nat) (pins:List (Addr×Obj)) (s:Shared) (σ:St) (H:Hp) (E:Value->Shared->Prop),Inv X pins σ H s->(∀ b∈fp,zuo X pins H b)->tn i s.heap->J.stop i H ->
  wpAny (model P w) X.A (pyNext (.ref it)) (fun r s1=>r=none/\Inv X pins σ H s1) E s
 self:∀ (A:Around) (i:Nat) (s:Shared) (Q:Value->Shared->Prop) (E:Value->Shared->Prop),tn i s.heap->Q (.ref it) s->wpAny (model P w) A (pyIter (.ref it)) Q E s
abbrev TI:=St->Hp->(It->Hp->Prop)->Prop
noncomputable def PIE (X:Cx) (pins:List (Addr×Obj)) (σ:St) (tg:Expr) (R:It->Hp->Prop) (itv:Value) (s2:Shared):Prop :=
 ∃ (it:Addr) (fp:List Addr) (tn:Nat->Heap->Prop) (J:It) (H':Hp),itv=.ref it/\Inv X pins σ H' s2/\zA3 X.prog X.w X.K tg J fp it tn/\tn 0 s2.heap/\(∀ b∈fp,zuo X pins H' b)/\R J H'
noncomputable def PI (X:Cx) (tg iter:Expr) (wi:TI):Prop :=
 ∀ (pins:List (Addr×Obj)) (s:Shared) (σ:St) (H:Hp) (R:It->Hp->Prop),Inv X pins σ H s->wi σ H R ->
  wpAny (model X.prog X.w) X.A (eval iter X.env) (fun v s1=>wpAny (model X.prog X.w) X.A (pyIter v) (PIE X pins σ tg R) X.xe s1) X.xe s
theorem zwP {M:Model}{A:Around}{E:Value->Shared->Prop}{s:Shared}{tg:Expr}{it:Addr}{u:Value}{o:Obj}{n:String}{vs:Array Value}{Q:Unit->Shared->Prop}(ho:s.heap.get? it=some o)(hc:o.cls=.type n)(hd:o.data=.fields vs)
  (hn:["enumerate","zip","dict_itemiterator","dict_reverseitemiterator","odict_iterator","itertools.zip_longest","itertools.pairwise"].contains n=false)(hQ:Q () s):wpAny M A (letOwnedTupleGo tg (.ref it) u) Q E s:=by
 unfold letOwnedTupleGo;cases tg<;>first
  | exact saB hQ
  | (cases u<;>first
    | exact saB hQ
    | (refine sad (wpAny_load ho ?_);rw[hc,hd];show wpAny M A (if(["enumerate","zip","dict_itemiterator","dict_reverseitemiterator","odict_iterator","itertools.zip_longest","itertools.pairwise"].contains n&&vs[0]?==some (rawInt _))=true then _ else _) Q E s;rw[if_neg (by intro h;rw[hn,scd] at h;cases h)];exact saB hQ))
noncomputable def Itl (K:sab) (a:Addr):It :=
 ⟨fun i H=>∃ xs x,SqL K H a xs/\xs[i]?=some x,fun i H x H'=>H'=H/\∀ xs,SqL K H a xs->xs[i]?=some x,fun i H=>∃ xs,SqL K H a xs/\xs.length<=i⟩
noncomputable def Itt (K:sab) (a:Addr):It :=
 ⟨fun i H=>∃ xs x,SqT K H a xs/\xs[i]?=some x,fun i H x H'=>H'=H/\∀ xs,SqT K H a xs->xs[i]?=some x,fun i H=>∃ xs,SqT K H a xs/\xs.length<=i⟩
def Itr (lo:Int)(n:Nat):It:=⟨fun i _=>i < n,fun i H x H'=>H'=H/\x=.int (lo+i),fun i _=>n<=i⟩
theorem zvA {P:Program}{w:World}{K:sab}{tg:Expr}(a it:Addr):zA3 P w K tg (Itl K a) [it] it (fun i h=>h.IsListIter it a i) where
 mem:=by simp
 obj:=fun i h st b hb=>by
  have e:b=it:=by simpa using hb
  subst e;obtain⟨o,e,c,d⟩:=st;exact⟨o,e,fun v z=>by rw[d] at z;cases z⟩
 keep:=fun i h h' st k=>st.at fun o e=>k it (by simp) o e
 item:=by
  intro X hP hw hK hc i pins s σ H E I hf st hg;subst hP hw hK;obtain⟨xs,x,hq,hx⟩:=hg;obtain⟨its,rv,p,hz⟩:=I.list hq;obtain⟨u,hu,ru⟩:=rv.get hx;obtain⟨f0,f1,f2,f3,f4,f5⟩:=hf it (by simp);refine wpAny_pyNext_list_item st p.isList (x:=u) (by simpa using hu) fun h' st' sb=>?_;have I1:Inv X pins σ H { s with heap:=h' }:=I.turned (t':=s.toks) (fun b o hb e=>(sb.2 b hb).trans e) f0 f1 f3 f4 f5;obtain⟨o,e,c,d⟩:=id st';exact⟨u,rfl,zwP (s:={ s with heap:=h' }) e c d (by decide) ⟨x,H,I1,ru,⟨rfl,fun ys hy=>by rw[I.list_inj hy hq];exact hx⟩,st',fun b hb=>(hf b hb).1⟩⟩
 done:=by
  intro X hP hw hK hc i pins s σ H E I hf st hg;subst hP hw hK;obtain⟨xs,hq,hx⟩:=hg;obtain⟨its,rv,p,hz⟩:=I.list hq;obtain⟨f0,f1,f2,f3,f4,f5⟩:=hf it (by simp);have hl:=rv.length;exact wpAny_pyNext_list_end (I.ok.hd hc) st p.isList (by simp;omega) fun h' eb=>⟨rfl,I.turned (t':=s.toks) (fun b o hb e=>eb b o hb e) f0 f1 f3 f4 f5⟩
 self:=fun _ _ _ _ _ st h=>wpAny_pyIter_listiter st h
theorem zur {P:Program}{w:World}{K:sab}{tg:Expr}(a it:Addr):zA3 P w K tg (Itt K a) [it] it (fun i h=>h.IsTupleIter it a i) where
 mem:=by simp
 obj:=fun i h st b hb=>by
  have e:b=it:=by simpa using hb
  subst e;obtain⟨o,e,c,d⟩:=st;exact⟨o,e,fun v z=>by rw[d] at z;cases z⟩
 keep:=fun i h h' st k=>st.at fun o e=>k it (by simp) o e
 item:=by
  intro X hP hw hK hc i pins s σ H E I hf st hg;subst hP hw hK;obtain⟨xs,x,hq,hx⟩:=hg;obtain⟨its,rv,p,hz⟩:=I.tuple hq;obtain⟨u,hu,ru⟩:=rv.get hx;obtain⟨f0,f1,f2,f3,f4,f5⟩:=hf it (by simp);refine wpAny_pyNext_tuple_item st (show s.heap.IsTuple a its.toArray from p) (x:=u) (by simpa using hu) fun h' st' sb=>?_;have I1:Inv X pins σ H { s with heap:=h' }:=I.turned (t':=s.toks) (fun b o hb e=>(sb.2 b hb).trans e) f0 f1 f3 f4 f5;obtain⟨o,e,c,d⟩:=id st';exact⟨u,rfl,zwP (s:={ s with heap:=h' }) e c d (by decide) ⟨x,H,I1,ru,⟨rfl,fun ys hy=>by rw[I.tuple_inj hy hq];exact hx⟩,st',fun b hb=>(hf b hb).1⟩⟩
 done:=by
  intro X hP hw hK hc i pins s σ H E I hf st hg;subst hP hw hK;obtain⟨xs,hq,hx⟩:=hg;obtain⟨its,rv,p,hz⟩:=I.tuple hq;obtain⟨f0,f1,f2,f3,f4,f5⟩:=hf it (by simp);have hl:=rv.length;exact wpAny_pyNext_tuple_end (I.ok.hd hc) st (show s.heap.IsTuple a its.toArray from p) (by simp;omega) fun h' eb=>⟨rfl,I.turned (t':=s.toks) (fun b o hb e=>eb b o hb e) f0 f1 f3 f4 f5⟩
 self:=fun _ _ _ _ _ st h=>wpAny_pyIter_tupleiter st h
theorem zus {P:Program}{w:World}{K:sab}{tg:Expr}(it:Addr)(lo:Int)(n:Nat):zA3 P w K tg (Itr lo n) [it] it (fun i h=>IsRangeIter h it (lo+(i:Nat)*1) ((n:Int)-(i:Nat)) 1) where
 mem:=by simp
 obj:=fun i h st b hb=>by
  have e:b=it:=by simpa using hb
  subst e;exact⟨_,st,fun v z=>by
   have z':Data.fields _=Data.cell v:=z;cases z'⟩
 keep:=fun i h h' st k=>k it (by simp) _ st
 item:=by
  intro X hP hw hK hc i pins s σ H E I hf st hg;subst hP hw hK;obtain⟨f0,f1,f2,f3,f4,f5⟩:=hf it (by simp);have W:=Walks.range (prog:=X.prog) (w:=X.w) (I.ok.hd hc) it lo 1 n;refine W.item i s _ _ hg st fun v h' tk hv st' kk=>?_;obtain⟨t,rfl⟩:=hv;have I1:Inv X pins σ H { s with heap:=h',toks:=tk }:=I.turned (fun b o hb e=>kk b o (by simpa using hb) e) f0 f1 f3 f4 f5;refine⟨_,rfl,zwP (s:={ s with heap:=h',toks:=tk }) (n:="range_iterator") st' rfl rfl (by decide) ⟨.int (lo+i),H,I1,⟨t,?_⟩,⟨rfl,rfl⟩,st',fun b hb=>(hf b hb).1⟩⟩;rw[Int.mul_one]
 done:=by
  intro X hP hw hK hc i pins s σ H E I hf st hg;subst hP hw hK;obtain⟨f0,f1,f2,f3,f4,f5⟩:=hf it (by simp);exact wpAny_pyNext_range_end (I.ok.hd hc) st (by have:n<=i:=hg;omega) fun h' eb=>⟨rfl,I.turned (t':=s.toks) (fun b o hb e=>eb b o hb e) f0 f1 f3 f4 f5⟩
 self:=fun _ _ _ _ _ st h=>wpAny_pyIter_rangeiter st h
section
variable {X:Cx}{tg:Expr}
noncomputable def zGo (K:sab) (tl:TE):TI:=fun σ H R=>tl σ H fun x H1=>∃ a,x=.ref a/\(∃ xs,SqL K H1 a xs)/\R (Itl K a) H1
noncomputable def zHP (K:sab) (tl:TE):TI:=fun σ H R=>tl σ H fun x H1=>∃ a,x=.ref a/\(∃ xs,SqT K H1 a xs)/\R (Itt K a) H1
theorem zv5 {l:Expr}{tl:TE}(hl:PE X l tl):PI X tg l (zGo X.K tl):=by
 intro pins s σ H R I h;refine thn (hl pins s σ H _ I h) fun v s1 ⟨x,H1,I1,r1,q1⟩=>?_;obtain⟨a,e,⟨xs,hq⟩,q⟩:=q1;subst e;cases r1;obtain⟨its,rv,p,hz⟩:=I1.list hq;refine wpAny_pyIter_list p.isList ?_;refine⟨s1.heap.objs.size,[s1.heap.objs.size],_,_,H1,rfl,I1.kept (t':=s1.toks) fun b o e=>saf _ e,zvA a _,⟨_,saX _ rfl,rfl,rfl⟩,fun b hb=>?_,q⟩;have e:b=s1.heap.objs.size:=by simpa using hb
 subst e;exact I1.fpOk (saq _) (I1.hok.fresh (saq _))
theorem zDY {l:Expr}{tl:TE}(hl:PE X l tl):PI X tg l (zHP X.K tl):=by
 intro pins s σ H R I h;refine thn (hl pins s σ H _ I h) fun v s1 ⟨x,H1,I1,r1,q1⟩=>?_;obtain⟨a,e,⟨xs,hq⟩,q⟩:=q1;subst e;cases r1;obtain⟨its,rv,p,hz⟩:=I1.tuple hq;refine wpAny_pyIter_tuple (show s1.heap.IsTuple a its.toArray from p) ?_;refine⟨s1.heap.objs.size,[s1.heap.objs.size],_,_,H1,rfl,I1.kept (t':=s1.toks) fun b o e=>saf _ e,zur a _,⟨_,saX _ rfl,rfl,rfl⟩,fun b hb=>?_,q⟩;have e:b=s1.heap.objs.size:=by simpa using hb
 subst e;exact I1.fpOk (saq _) (I1.hok.fresh (saq _))
theorem zy1 {pins:List (Addr×Obj)}{σ:St}{H:Hp}{s:Shared}{R:It->Hp->Prop}{E:Value->Shared->Prop}{lo hi:Int}{t u v:Tok}{tk:Nat}(I:Inv X pins σ H s)(h1:-(2 ^ 62)<=lo)(h2:lo < 2 ^ 62)(h3:-(2 ^ 62)<=hi)(h4:hi < 2 ^ 62)
  (q:R (Itr lo (hi-lo).toNat) H):wpAny (model X.prog X.w) X.A (pyIter (.ref s.heap.objs.size)) (PIE X pins σ tg R) E { s with heap:=s.heap.push { cls:=.type "range",data:=.fields #[.int lo t,.int hi u,.int 1 v] },toks:=tk }:=by
 refine wpAny_pyIter_range (IsRange.new ..) (small_one h1 h2 h3 h4) ?_;have I1:Inv X pins σ H { s with heap:=s.heap.push { cls:=.type "range",data:=.fields #[.int lo t,.int hi u,.int 1 v] },toks:=tk }:=I.kept fun b o e=>saf _ e;refine⟨(s.heap.push { cls:=.type "range",data:=.fields #[.int lo t,.int hi u,.int 1 v] }).objs.size,[(s.heap.push { cls:=.type "range",data:=.fields #[.int lo t,.int hi u,.int 1 v] }).objs.size],_,_,H,rfl,
  I1.kept (t':=tk) fun b o e=>saf _ e,zus _ lo (hi-lo).toNat,?_,fun b hb=>?_,q⟩
 .have e1:lo+((0:Nat):Int)*1=lo:=by simp
  have e2:(((hi-lo).toNat:Nat):Int)-((0:Nat):Int)=Builtin.Range.rangeSize lo hi 1:=by rw[rangeSize_one];split<;>omega
  show IsRangeIter _ _ (lo+((0:Nat):Int)*1) ((((hi-lo).toNat:Nat):Int)-((0:Nat):Int)) 1;rw[e1,e2];exact saX _ rfl
 .have e:b=(s.heap.push { cls:=.type "range",data:=.fields #[.int lo t,.int hi u,.int 1 v] }).objs.size:=by simpa using hb
  subst e;exact I1.fpOk (saq _) (I1.hok.fresh (saq _))
noncomputable def zGn (ta:TA):TI:=fun σ H R=>ta σ H fun vs H1=>∃ j:Int,vs=[.int j]/\-(2 ^ 62)<=j/\j < 2 ^ 62/\R (Itr 0 j.toNat) H1
theorem zlr {a:Expr}{ta:TA}{p pos:Pos}(hg:Gl X "range")(hm:X.mg "range"=none)(ha:PA X [a] ta)(hs:starEach [a] X.env=[(false,eval a X.env)]:=by rfl):PI X tg (.Call (.Name "range" p) [a] [] pos) (zGn ta):=by
 intro pins s σ H R I h;refine Call_ (znO I hg hm boot_range (sbK (thn (ha pos pins s σ H _ I h) fun us s1 ⟨vs,H1,I1,r1,q1⟩=>?_) hs rfl));obtain⟨j,e,q1,q2,q⟩:=q1;subst e;cases r1 with
 | cons r rr =>
  cases rr;obtain⟨t,rfl⟩:=r;exact call_range_1 (zy1 I1 (by omega) (by omega) q1 q2 (by simpa using q))
noncomputable def zHz (wi:TI) (g:TG) (tb:TS):TS:=fun D σ H=>wi σ H fun J H1=>∃ W:Nat->Nat->St->Hp->Prop,(∃ m,W 0 m σ H1)/\∀ i m σ H,W i m σ H ->
 (J.stop i H/\D.nx σ H)∨(J.go i H/\∃ N:St->Hp->Prop,(∀ σ' H',N σ' H'->∃ m',m' < m/\W (i+1) m' σ' H')/\∀ x H',J.yld i H x H'->g x σ H' fun σ2 H2=>tb { D with nx:=N,ct:=N,bk:=D.nx } σ2 H2)
def zqc (fp:List Addr)(h:Heap):List (Addr×Obj):=fp.filterMap fun b=>(h.get? b).map fun o=>(b,o)
theorem zhu {fp:List Addr}{h:Heap}{b:Addr}{o:Obj}(hb:b∈fp)(e:h.get? b=some o):(b,o)∈zqc fp h:=sbA.mpr ⟨b,hb,by rw[e];rfl⟩
theorem zwl {fp:List Addr}{h:Heap}{p:Addr×Obj}(hp:p∈zqc fp h):p.1∈fp/\h.get? p.1=some p.2:=by
 obtain⟨b,hb,e⟩:=sbA.mp hp;cases q:h.get? b with
 | none=>rw[q] at e;cases e
 | some o =>
  rw[q] at e;have e':(b,o)=p:=saS e;subst e';exact⟨hb,q⟩
theorem Inv.pinned {pins:List (Addr×Obj)}{σ:St}{H:Hp}{s:Shared}{fp:List Addr}(I:Inv X pins σ H s)(hf:∀ b∈fp,zuo X pins H b)(ho:∀ b∈fp,∃ o,s.heap.get? b=some o/\∀ v,o.data≠.cell v):Inv X (pins++zqc fp s.heap) σ H s :=
 I.pins_of fun p hp=>(sbc.mp hp).elim (fun z=>I.pin p (saY _ z)) fun z=>by
  obtain⟨hb,e⟩:=zwl z;obtain⟨f0,f1,f2,_⟩:=hf p.1 hb;obtain⟨o,e',d⟩:=ho p.1 hb;rw[e] at e';cases e';exact⟨e,f0,f1,f2,d⟩
theorem Inv.unpinned {pins pl:List (Addr×Obj)}{σ:St}{H:Hp}{s:Shared}(I:Inv X (pins++pl) σ H s):Inv X pins σ H s:=I.pins_of fun p hp=>I.pin p (saY _ (List.mem_append_left _ hp))
theorem zto {iter:Expr}{body:List Stmt}{wi:TI}{g:TG}{tb:TS}{pos:Pos}(hp:PassesOwn (model X.prog X.w) X.A X.env X.xe)(hc:X.calm=true)(hi:PI X tg iter wi)(hg:PG X tg g)(hb:PSs X body tb)
  (hs:∀ x,foldedSetIterable iter X.env x=pure x:=by intro _;rfl):PS X (.For tg iter body [] pos) (zHz wi g tb):=by
 intro pins s σ H D I h;refine wpAny_For (thn (hi pins s σ H _ I h) fun v s1 h1=>thn h1 fun itv s2 h2=>?_) hs;obtain⟨it,fp,tn,J,H2,e,I2,T,st2,f2,W,⟨m0,w0⟩,turn⟩:=h2;subst e;have stat:∀ {H':Hp},(∀ b∈fp,H' b=none)->∀ b∈fp,zuo X pins H' b:=fun hn b hb=>⟨hn b hb,(f2 b hb).2⟩
 refine codeAny_forLoop_any (fun n s'=>∃ i σ' H',Inv X pins σ' H' s'/\tn i s'.heap/\(∀ b∈fp,H' b=none)/\W i n σ' H') ?_ m0 ⟨0,σ,H2,I2,st2,fun b hb=>(f2 b hb).1,w0⟩;rintro n s3 ⟨i,σ3,H3,I3,st3,fr3,w3⟩;rcases turn i n σ3 H3 w3 with⟨stop,qn⟩ | ⟨go,N,hN,step⟩
 .refine wpAny_passesOwn hp (thn (T.done X rfl rfl rfl hc i pins s3 σ3 H3 X.xe I3 (stat fr3) st3 stop) fun r s4 ⟨hr,I4⟩=>?_)
  subst hr;exact wpAny_execs_nil ⟨σ3,H3,I4,qn⟩
 .refine wpAny_passesOwn hp (thn (T.item X rfl rfl rfl hc i pins s3 σ3 H3 X.xe I3 (stat fr3) st3 go) fun r s4 ⟨u,hr,h4⟩=>?_)
  subst hr;refine wpAny_passesOwn hp (thn h4 fun _ s5 ⟨x,H5,I5,r5,y5,st5,fr5⟩=>?_);have I5':=I5.pinned (stat fr5) (T.obj _ _ st5);refine wpAny_passesOwn hp (thn (hg _ s5 σ3 H5 x u _ I5' r5 (step x H5 y5)) fun _ s6 ⟨σ6,H6,I6,q6⟩=>?_);refine wpAny_passesOwn hp (thn (hb _ s6 σ6 H6 _ I6 q6) fun f s7 q7=>?_);have again:∀ {σ7:St}{H7:Hp},Inv X (pins++zqc fp s5.heap) σ7 H7 s7->N σ7 H7->∃ m,m < n/\∃ i σ' H',Inv X pins σ' H' s7/\tn i s7.heap/\(∀ b∈fp,H' b=none)/\W i m σ' H':=fun {σ7 H7} I7 n7=>by
   obtain⟨m',hm,w7⟩:=hN σ7 H7 n7;refine⟨m',hm,i+1,σ7,H7,I7.unpinned,T.keep _ _ _ st5 fun b hb o e=>(I7.pin (b,o) (saY _ (saY _ (zhu hb e)))).1,fun b hb=>?_,w7⟩;obtain⟨o,e,d⟩:=T.obj _ _ st5 b hb;exact(I7.pin (b,o) (saY _ (saY _ (zhu hb e)))).2.1
  cases f with
  | next=>obtain⟨σ7,H7,I7,n7⟩:=q7;exact again I7 n7
  | cont=>obtain⟨σ7,H7,I7,n7⟩:=q7;exact again I7 n7
  | brk=>obtain⟨σ7,H7,I7,q7⟩:=q7;exact⟨σ7,H7,I7.unpinned,q7⟩
  | ret v=>obtain⟨x7,σ7,H7,I7,r7,q7⟩:=q7;exact⟨x7,σ7,H7,I7.unpinned,r7,q7⟩
end
theorem zzE {K:sab}{a:Addr}{xs:List V}{g:TG}{tb:TS}{D:zjM}{σ:St}{H:Hp}(Pv:Nat->St->Hp->Prop)(h0:Pv 0 σ H)(hl:∀ i σ H,i<=xs.length->Pv i σ H->SqL K H a xs)
  (hs:∀ i x σ H,xs[i]?=some x->Pv i σ H->g x σ H fun σ2 H2=>tb { D with nx:=Pv (i+1),ct:=Pv (i+1),bk:=D.nx } σ2 H2)(hd:∀ σ H,Pv xs.length σ H->D.nx σ H) :
  ∃ W:Nat->Nat->St->Hp->Prop,(∃ m,W 0 m σ H)/\∀ i m σ H,W i m σ H ->
   ((Itl K a).stop i H/\D.nx σ H)∨((Itl K a).go i H/\∃ N:St->Hp->Prop,(∀ σ' H',N σ' H'->∃ m',m' < m/\W (i+1) m' σ' H')/\∀ x H',(Itl K a).yld i H x H'->g x σ H' fun σ2 H2=>tb { D with nx:=N,ct:=N,bk:=D.nx } σ2 H2):=by
 refine⟨fun i m σ H=>m=xs.length-i/\i<=xs.length/\Pv i σ H,⟨xs.length,by simp,sbE _,h0⟩,?_⟩;rintro i m σ H ⟨rfl,hi,p⟩;have q:=hl i σ H hi p
 by_cases hlt:i < xs.length
 .refine .inr ⟨⟨xs,xs[i],q,by simp [hlt]⟩,Pv (i+1),fun σ' H' p'=>⟨xs.length-(i+1),by omega,rfl,hlt,p'⟩,fun x H' y=>?_⟩
  obtain⟨e,y⟩:=y;subst e;exact hs i x σ _ (y xs q) p
 .have e:i=xs.length:=by omega
  subst e;exact .inl ⟨⟨xs,q,saq _⟩,hd σ H p⟩
theorem zwS {lo:Int}{n:Nat}{g:TG}{tb:TS}{D:zjM}{σ:St}{H:Hp}(Pv:Nat->St->Hp->Prop)(h0:Pv 0 σ H)
  (hs:∀ i σ H,i < n->Pv i σ H->g (.int (lo+i)) σ H fun σ2 H2=>tb { D with nx:=Pv (i+1),ct:=Pv (i+1),bk:=D.nx } σ2 H2)(hd:∀ σ H,Pv n σ H->D.nx σ H) :
  ∃ W:Nat->Nat->St->Hp->Prop,(∃ m,W 0 m σ H)/\∀ i m σ H,W i m σ H ->
   ((Itr lo n).stop i H/\D.nx σ H)∨((Itr lo n).go i H/\∃ N:St->Hp->Prop,(∀ σ' H',N σ' H'->∃ m',m' < m/\W (i+1) m' σ' H')/\∀ x H',(Itr lo n).yld i H x H'->g x σ H' fun σ2 H2=>tb { D with nx:=N,ct:=N,bk:=D.nx } σ2 H2):=by
 refine⟨fun i m σ H=>m=n-i/\i<=n/\Pv i σ H,⟨n,by simp,sbE _,h0⟩,?_⟩;rintro i m σ H ⟨rfl,hi,p⟩
 by_cases hlt:i < n
 .refine .inr ⟨hlt,Pv (i+1),fun σ' H' p'=>⟨n-(i+1),by omega,rfl,hlt,p'⟩,fun x H' y=>?_⟩
  obtain⟨e,y⟩:=y;subst e y;exact hs i σ _ hlt p
 .have e:i=n:=by omega
  subst e;exact .inl ⟨saq _,hd σ H p⟩
abbrev R2:=V->V->Hp->VK->Prop
noncomputable def OpR (X:Cx) (f:Value->Value->Sem Value) (r:R2):Prop :=
 ∀ (pins:List (Addr×Obj)) (s:Shared) (σ:St) (H:Hp) (x y:V) (v u:Value) (Q:VK),Inv X pins σ H s->zcb x v->zcb y u->r x y H Q ->
  wpAny (model X.prog X.w) X.A (f v u) (EP X pins σ Q) X.xe s
noncomputable def UnR (X:Cx) (f:Value->Sem Value) (r:V->Hp->VK->Prop):Prop :=
 ∀ (pins:List (Addr×Obj)) (s:Shared) (σ:St) (H:Hp) (x:V) (v:Value) (Q:VK),Inv X pins σ H s->zcb x v->r x H Q ->
  wpAny (model X.prog X.w) X.A (f v) (EP X pins σ Q) X.xe s
noncomputable def zhG (X:Cx) (f:Value) (r:List V->Hp->VK->Prop):Prop :=
 ∀ (pins:List (Addr×Obj)) (s:Shared) (σ:St) (H:Hp) (xs:List V) (us:List Value) (Q:VK),Inv X pins σ H s->zbT xs us->r xs H Q ->
  wpAny (model X.prog X.w) X.A (call f us) (EP X pins σ Q) X.xe s
noncomputable def zH0 (X:Cx) (r:V->Hp->(Bool->Hp->Prop)->Prop):Prop :=
 ∀ (pins:List (Addr×Obj)) (s:Shared) (σ:St) (H:Hp) (x:V) (v:Value) (Q:Bool->Hp->Prop),Inv X pins σ H s->zcb x v->r x H Q ->
  wpAny (model X.prog X.w) X.A (truthy v) (TP X pins σ Q) X.xe s
def tOp (r:R2)(ta tb:TE):TE:=fun σ H Q=>ta σ H fun x H1=>tb σ H1 fun y H2=>r x y H2 Q
def tUn (r:V->Hp->VK->Prop)(ta:TE):TE:=fun σ H Q=>ta σ H fun x H1=>r x H1 Q
noncomputable def rI (C:Int->Int->Prop) (g:Int->Int->V):R2:=fun x y H Q=>∃ i j,x=.int i/\y=.int j/\C i j/\Q (g i j) H
def rI0 (g:Int->Int->V):R2:=fun x y H Q=>∃ i j,x=.int i/\y=.int j/\Q (g i j) H
def rU (g:Int->V):V->Hp->VK->Prop:=fun x H Q=>∃ i,x=.int i/\Q (g i) H
section
variable {X:Cx}{a b c:Expr}{ta tb tc:TE}{pos:Pos}
theorem zGG (ha:PE X a ta)(hb:PE X b tb){pins:List (Addr×Obj)}{s:Shared}{σ:St}{H:Hp}{R:V->V->Hp->Prop}(I:Inv X pins σ H s)
  (h:ta σ H fun x H1=>tb σ H1 fun y H2=>R x y H2){Q:Value->Shared->Prop}{f:Value->Value->Sem Value}
  (hf:∀ v u s2 x y H2,Inv X pins σ H2 s2->zcb x v->zcb y u->R x y H2->wpAny (model X.prog X.w) X.A (f v u) Q X.xe s2) :
  wpAny (model X.prog X.w) X.A (eval a X.env) (fun v sf=>wpAny (model X.prog X.w) X.A (eval b X.env) (fun u si=>wpAny (model X.prog X.w) X.A (f v u) Q X.xe si) X.xe sf) X.xe s:=by
 refine thn (ha pins s σ H _ I h) fun v s1 ⟨x,H1,I1,r1,q1⟩=>?_;refine thn (hb pins s1 σ H1 _ I1 q1) fun u s2 ⟨y,H2,I2,r2,q2⟩=>?_;exact hf v u s2 x y H2 I2 r1 r2 q2
theorem zBQ {op:Operator}{r:R2}(ho:OpR X (binaryOp op) r)(ha:PE X a ta)(hb:PE X b tb):PE X (.BinOp a op b pos) (tOp r ta tb):=by
 intro pins s σ H Q I h;exact wpAny_BinOp (zGG ha hb I h fun v u s2 x y H2 I2 rx ry q=>ho pins s2 σ H2 x y v u Q I2 rx ry q)
theorem zGd {op:UnaryOp}{r:V->Hp->VK->Prop}(ho:UnR X (unaryOp op) r)(ha:PE X a ta):PE X (.UnaryOp op a pos) (tUn r ta):=by
 intro pins s σ H Q I h;exact UnaryOp_ (thn (ha pins s σ H _ I h) fun v s1 ⟨x,H1,I1,r1,q1⟩=>ho pins s1 σ H1 x v Q I1 r1 q1)
theorem opI {f:Value->Value->Sem Value}{C:Int->Int->Prop}{g:Int->Int->Int}
  (rule:∀ (i j:Int) (t u:Tok) (s:Shared) (Q:Value->Shared->Prop) (E:Value->Shared->Prop),C i j->Q (.int (g i j) s.toks) { s with toks:=s.toks+1 }->wpAny (model X.prog X.w) X.A (f (.int i t) (.int j u)) Q E s) :
  OpR X f (rI C fun i j=>.int (g i j)):=by
 intro pins s σ H x y v u Q I rx ry h;obtain⟨i,j,rfl,rfl,hc,q⟩:=h;obtain⟨t,rfl⟩:=rx;obtain⟨t',rfl⟩:=ry;exact rule i j t t' s _ _ hc ⟨.int (g i j),H,I.tok _,⟨_,rfl⟩,q⟩
theorem zG3 {f:Value->Value->Sem Value}{g:Int->Int->Int}
  (rule:∀ (i j:Int) (t u:Tok) (s:Shared) (Q:Value->Shared->Prop) (E:Value->Shared->Prop),Q (.int (g i j) s.toks) { s with toks:=s.toks+1 }->wpAny (model X.prog X.w) X.A (f (.int i t) (.int j u)) Q E s) :
  OpR X f (rI0 fun i j=>.int (g i j)):=by
 intro pins s σ H x y v u Q I rx ry h;obtain⟨i,j,rfl,rfl,q⟩:=h;obtain⟨t,rfl⟩:=rx;obtain⟨t',rfl⟩:=ry;exact rule i j t t' s _ _ ⟨.int (g i j),H,I.tok _,⟨_,rfl⟩,q⟩
theorem zFz {f:Value->Value->Sem Value}{g:Int->Int->Bool}
  (rule:∀ (i j:Int) (t u:Tok) (s:Shared) (Q:Value->Shared->Prop) (E:Value->Shared->Prop),Q (.bool (g i j)) s->wpAny (model X.prog X.w) X.A (f (.int i t) (.int j u)) Q E s) :
  OpR X f (rI0 fun i j=>.bl (g i j)):=by
 intro pins s σ H x y v u Q I rx ry h;obtain⟨i,j,rfl,rfl,q⟩:=h;obtain⟨t,rfl⟩:=rx;obtain⟨t',rfl⟩:=ry;exact rule i j t t' s _ _ ⟨.bl (g i j),H,I,rfl,q⟩
def zH3 (i j:Int):Prop:=0<=j/\j<=1000000/\i.natAbs < 2 ^ 64
def zHn (i j:Int):Prop:=(-(2 ^ 64) < i/\i < 2 ^ 64)∨(-(2 ^ 64) < j/\j < 2 ^ 64)
theorem zHn.ok {i j:Int}(h:zHn i j):IntMulOk i j:=by
 rcases h with⟨h1,h2⟩ | ⟨h1,h2⟩
 .exact .of_left (intBits_le_64 h1 h2)
 .exact .of_right (intBits_le_64 h1 h2)
theorem zAx:OpR X (binaryOp .Add) (rI0 fun i j=>.int (i+j)):=zG3 fun _ _ _ _ _ _ _ q=>add_int q
theorem zEc:OpR X (binaryOp .Sub) (rI0 fun i j=>.int (i-j)):=zG3 fun _ _ _ _ _ _ _ q=>sub_int q
theorem zwc:OpR X (binaryOp .Mod) (rI (fun _ j=>j≠0) fun i j=>.int (i.fmod j)):=opI fun _ _ _ _ _ _ _ hc q=>mod_int' hc q
theorem zEe:OpR X (binaryOp .Pow) (rI zH3 fun i j=>.int (i ^ j.toNat)):=opI fun _ _ _ _ _ _ _ hc q=>pow_int_small hc.1 hc.2.1 hc.2.2 q
theorem unI {f:Value->Sem Value}{g:Int->Int}
  (rule:∀ (i:Int) (t:Tok) (s:Shared) (Q:Value->Shared->Prop) (E:Value->Shared->Prop),Q (.int (g i) s.toks) { s with toks:=s.toks+1 }->wpAny (model X.prog X.w) X.A (f (.int i t)) Q E s) :
  UnR X f (rU fun i=>.int (g i)):=by
 intro pins s σ H x v Q I rx h;obtain⟨i,rfl,q⟩:=h;obtain⟨t,rfl⟩:=rx;exact rule i t s _ _ ⟨.int (g i),H,I.tok _,⟨_,rfl⟩,q⟩
theorem zDc:UnR X (unaryOp .USub) (rU fun i=>.int (-i)):=unI fun _ _ _ _ _ q=>neg_int q
end
section
variable {X:Cx}{a b c:Expr}{ta tb tc:TE}{pos:Pos}
theorem ztK {pins:List (Addr×Obj)}{σ:St}{H:Hp}{s:Shared}{Q:VK}{k k':Bool}(I:Inv X pins σ H s)(q:Q (.bl k) H)(e:k=k'):EP X pins σ Q (.bool k') s:=by
 subst e;exact⟨.bl k,H,I,rfl,q⟩
theorem zuD:OpR X (compareOp .Lt) (rI0 fun i j=>.bl (decide (i < j))):=zFz fun _ _ _ _ _ _ _ q=>lt_int q
theorem zuE:OpR X (compareOp .LtE) (rI0 fun i j=>.bl (decide (i<=j))):=zFz fun _ _ _ _ _ _ _ q=>le_int q
theorem zwe:OpR X (compareOp .Gt) (rI0 fun i j=>.bl (decide (j < i))):=zFz fun _ _ _ _ _ _ _ q=>gt_int q
theorem zzd:OpR X (compareOp .GtE) (rI0 fun i j=>.bl (decide (j<=i))):=zFz fun _ _ _ _ _ _ _ q=>ge_int q
theorem zwd:OpR X (compareOp .In) (fun x y H Q=>∃ i j,x=.str i/\y=.str j/\Q (.bl (!(sbH j i 0 j.length 1).isEmpty)) H):=by
 intro pins s σ H x y v u Q I rx ry h;obtain⟨i,j,rfl,rfl,q⟩:=h;obtain⟨t,rfl⟩:=rx;obtain⟨t',rfl⟩:=ry;exact in_str (ztK I q rfl)
theorem zjV:OpR X (compareOp .Is) (fun x y H Q=>y=.non/\Q (.bl (decide (x=.non))) H):=by
 intro pins s σ H x y v u Q I rx ry h;obtain⟨rfl,q⟩:=h;cases ry;refine is_none_gen (ztK I q ?_);cases x<;>first
  | (cases rx;rfl)
  | (obtain⟨t,rfl⟩:=rx;rfl)
theorem zsq:OpR X (compareOp .IsNot) (fun x y H Q=>y=.non/\Q (.bl (!decide (x=.non))) H):=by
 intro pins s σ H x y v u Q I rx ry h;obtain⟨rfl,q⟩:=h;cases ry;refine isnot_none_gen (ztK I q ?_);cases x<;>first
  | (cases rx;rfl)
  | (obtain⟨t,rfl⟩:=rx;rfl)
theorem OpR.or {f:Value->Value->Sem Value}{r r':R2}(h:OpR X f r)(h':OpR X f r'):OpR X f (fun x y H Q=>r x y H Q∨r' x y H Q):=by
 intro pins s σ H x y v u Q I rx ry q;rcases q with q | q
 .exact h pins s σ H x y v u Q I rx ry q
 .exact h' pins s σ H x y v u Q I rx ry q
theorem zv8 {op:CmpOp}{r:R2}(ho:OpR X (compareOp op) r)(ha:PE X a ta)(hb:PE X b tb)(hm:behindInMarks op b=false):PE X (.Compare a [op] [b] pos) (tOp r ta tb):=by
 intro pins s σ H Q I h;exact wpAny_Compare1 (zGG ha hb I h fun v u s2 x y H2 I2 rx ry q=>ho pins s2 σ H2 x y v u Q I2 rx ry q) hm
def zDl (t:TE):TT:=fun σ H Q=>t σ H fun x H'=>∃ k,x=.bl k/\Q k H'
theorem zvZ {op:CmpOp}{r:R2}(ho:OpR X (compareOp op) r)(ha:PE X a ta)(hb:PE X b tb)(hm:behindInMarks op b=false):PT X (.Compare a [op] [b] pos) (zDl (tOp r ta tb)):=by
 intro pins s σ H Q I h;refine wpAny_isTrue_Compare1 (thn (ha pins s σ H _ I h) fun v s1 ⟨x,H1,I1,r1,q1⟩=>thn (hb pins s1 σ H1 _ I1 q1) fun u s2 ⟨y,H2,I2,r2,q2⟩ =>
  thn (ho pins s2 σ H2 x y v u _ I2 r1 r2 q2) fun c s3 ⟨z,H3,I3,r3,k,e,q3⟩=>?_) hm
 subst e;cases r3;exact sa3 ⟨H3,I3,q3⟩
noncomputable def zvF (r r':R2) (ta tb tc:TE):TE:=fun σ H Q=>ta σ H fun x H1=>tb σ H1 fun y H2=>r x y H2 fun z H3=>∃ k,z=.bl k /\
 (if k=true then tc σ H3 fun w' H4=>r' y w' H4 Q else Q (.bl false) H3)
theorem zzb {op op':CmpOp}{r r':R2}(ho:OpR X (compareOp op) r)(ho':OpR X (compareOp op') r')(ha:PE X a ta)(hb:PE X b tb)(hc:PE X c tc)
  (hm:lastMarks [op,op'] [b,c]=false:=by with_unfolding_all rfl):PE X (.Compare a [op,op'] [b,c] pos) (zvF r r' ta tb tc):=by
 intro pins s σ H Q I h;refine Compare_chain (thn (ha pins s σ H _ I h) fun v s1 ⟨x,H1,I1,r1,q1⟩=>chain_link (thn (hb pins s1 σ H1 _ I1 q1) fun u s2 ⟨y,H2,I2,r2,q2⟩ =>
  thn (ho pins s2 σ H2 x y v u _ I2 r1 r2 q2) fun d s3 ⟨z,H3,I3,r3,k,e,q3⟩=>?_)) hm
 subst e;cases r3;refine sa3 ?_;cases k with
 | false=>exact ite_ff ⟨.bl false,H3,I3,rfl,q3⟩
 | true=>exact ite_tt (chain_last (thn (hc pins s3 σ H3 _ I3 q3) fun w' s4 ⟨z',H4,I4,r4,q4⟩=>ho' pins s4 σ H4 y z' u w' Q I4 r2 r4 q4))
theorem zy4 {op op':CmpOp}{r r':R2}(ho:OpR X (compareOp op) r)(ho':OpR X (compareOp op') r')(ha:PE X a ta)(hb:PE X b tb)(hc:PE X c tc)
  (hm:lastMarks [op,op'] [b,c]=false:=by with_unfolding_all rfl):PT X (.Compare a [op,op'] [b,c] pos) (zDl (zvF r r' ta tb tc)):=by
 intro pins s σ H Q I h;refine isTrue_chain (thn (ha pins s σ H _ I h) fun v s1 ⟨x,H1,I1,r1,q1⟩=>test_link (thn (hb pins s1 σ H1 _ I1 q1) fun u s2 ⟨y,H2,I2,r2,q2⟩ =>
  thn (ho pins s2 σ H2 x y v u _ I2 r1 r2 q2) fun d s3 ⟨z,H3,I3,r3,k,e,q3⟩=>?_)) hm
 subst e;cases r3;refine sa3 ?_;cases k with
 | false =>
  obtain⟨k',e',q'⟩:=q3;cases e';exact ite_ff ⟨H3,I3,q'⟩
 | true =>
  refine ite_tt (test_last (thn (hc pins s3 σ H3 _ I3 q3) fun w' s4 ⟨z',H4,I4,r4,q4⟩=>thn (ho' pins s4 σ H4 y z' u w' _ I4 r2 r4 q4) fun d' s5 ⟨z2,H5,I5,r5,k2,e2,q5⟩=>?_));subst e2;cases r5;exact sa3 ⟨H5,I5,q5⟩
noncomputable def zHZ (K:sab) (x:V) (H:Hp) (k:Bool):Prop :=
 match x with
 | .non=>k=false
 | .bl b=>k=b
 | .int i=>k=(i != 0)
 | .str y=>y.length<=sizeLine/\k=((y.length:Int) != 0)
 | .byt y=>y.size<=sizeLine/\k=((y.size:Int) != 0)
 | .ref p=>(∃ xs,SqL K H p xs/\k=!xs.isEmpty)∨(∃ xs,SqT K H p xs/\k=!xs.isEmpty)∨∃ kvs,H p=some (.dK kvs)/\k=!kvs.isEmpty
 | _=>False
theorem zuW {κ:Type}{kvs:List (κ×V)}{vs:List (κ×Value)}(r:KV kvs vs):(!vs.isEmpty)=!kvs.isEmpty:=by
 cases r<;>rfl
theorem znS {xs:List V}{its:List Value}(r:zbT xs its):(!its.toArray.isEmpty)=!xs.isEmpty:=by
 cases r<;>simp
theorem znN:(sizeLine:Nat) < 2 ^ 63:=by rw[sizeLine_eq];decide
theorem zGO:zH0 X (fun x H Q=>∃ k,zHZ X.K x H k/\Q k H):=by
 intro pins s σ H x v Q I rx h;obtain⟨k,e,q⟩:=h;have hl:=znN;have hs:sizeLine=16777216:=sizeLine_eq;cases x with
 | non =>
  cases rx;have e':k=false:=e;subst e';exact truthy_none ⟨H,I,q⟩
 | bl b =>
  cases rx;have e':k=b:=e;subst e';exact sa3 ⟨H,I,q⟩
 | int i =>
  obtain⟨t,rfl⟩:=rx;have e':k=(i != 0):=e;subst e';exact PySem.P.truthy_int ⟨H,I,q⟩
 | str y =>
  obtain⟨t,rfl⟩:=rx;obtain⟨hy,e'⟩:y.length<=sizeLine/\k=((y.length:Int) != 0):=e;subst e';exact PySem.P.truthy_str (by omega) ⟨H,I.tok _,q⟩
 | byt y =>
  obtain⟨t,rfl⟩:=rx;obtain⟨hy,e'⟩:y.size<=sizeLine/\k=((y.size:Int) != 0):=e;subst e';exact W.truthy_bytes (by omega) ⟨H,I.tok _,q⟩
 | ref p =>
  cases rx;have e':(∃ xs,SqL X.K H p xs/\k=!xs.isEmpty)∨(∃ xs,SqT X.K H p xs/\k=!xs.isEmpty)∨∃ kvs,H p=some (.dK kvs)/\k=!kvs.isEmpty:=e;rcases e' with⟨xs,hx,e'⟩ | ⟨xs,hx,e'⟩ | ⟨kvs,hx,e'⟩
  .subst e'
   obtain⟨its,r,pl,hz⟩:=I.list hx;have hlen:=r.length;exact wpAny_truthy_list pl.isList (by simp only[sao];omega) ⟨H,I.tok _,by rw[znS r];exact q⟩
  .subst e'
   obtain⟨its,r,pl,hz⟩:=I.tuple hx;have hlen:=r.length;exact truthy_tuple pl (by simp only[sao];omega) ⟨H,I.tok _,by rw[znS r];exact q⟩
  .subst e'
   obtain⟨hz,hS,vs,r,m⟩:kvs.length<=sizeLine/\(p==sysModules)=false/\∃ vs,KV kvs vs/\s.heap.DictOf (zlx X.prog X.w) p vs:=I.hok p _ hx;have hlen:kvs.length=vs.length:=Paired.length r;exact wpAny_truthy_dict hS m (by omega) ⟨H,I.tok _,by rw[zuW r];exact q⟩
 | _=>exact(show False from e).elim
theorem znK:OpR X (binaryOp .Add) (fun x y H Q=>∃ i j,x=.str i/\y=.str j/\i.length+j.length<=sizeLine/\Q (.str (i++j)) H):=by
 intro pins s σ H x y v u Q I rx ry h;obtain⟨i,j,rfl,rfl,hz,q⟩:=h;obtain⟨t,rfl⟩:=rx;obtain⟨t',rfl⟩:=ry;exact add_str (fun t' tk=>⟨.str (i++j),H,I.tok _,⟨_,rfl⟩,q⟩) hz
theorem zot {x:V}{us:List Value}(r:zbT [x] us):∃ u,us=[u]/\zcb x u:=by
 cases r with
 | cons r1 r2=>cases r2;exact⟨_,rfl,r1⟩
theorem zDa {x y:V}{us:List Value}(r:zbT [x,y] us):∃ u w',us=[u,w']/\zcb x u/\zcb y w':=by
 cases r with
 | cons r1 r2 =>
  cases r2 with
  | cons r3 r4=>cases r4;exact⟨_,_,rfl,r1,r3⟩
theorem zpt:zhG X (.builtin "abs") (fun xs H Q=>∃ i,xs=[.int i]/\Q (.int (if i < 0 then -i else i)) H):=by
 intro pins s σ H xs us Q I r h;obtain⟨i,rfl,q⟩:=h;obtain⟨u,rfl,t,rfl⟩:=zot r;exact call_abs_int fun u tk=>⟨.int (if i < 0 then -i else i),H,I.tok _,⟨_,rfl⟩,q⟩
theorem zyb (hc:X.calm=true):zhG X (.builtin "max") (fun xs H Q=>∃ i j,xs=[.int i,.int j]/\Q (.int (if j > i then j else i)) H):=by
 intro pins s σ H xs us Q I r h;obtain⟨i,j,rfl,q⟩:=h;obtain⟨u,w',rfl,⟨t,rfl⟩,⟨t',rfl⟩⟩:=zDa r;refine max_two_ints (I.ok.hd hc) fun h' tk k=>⟨_,H,I.kept k,?_,q⟩
 by_cases hj:j > i
 .rw[if_pos hj,if_pos hj];exact⟨_,rfl⟩
 .rw[if_neg hj,if_neg hj];exact⟨_,rfl⟩
theorem zya (hc:X.calm=true):zhG X (.builtin "min") (fun xs H Q=>∃ i j,xs=[.int i,.int j]/\Q (.int (if j < i then j else i)) H):=by
 intro pins s σ H xs us Q I r h;obtain⟨i,j,rfl,q⟩:=h;obtain⟨u,w',rfl,⟨t,rfl⟩,⟨t',rfl⟩⟩:=zDa r;refine min_two_ints (I.ok.hd hc) fun h' tk k=>⟨_,H,I.kept k,?_,q⟩
 by_cases hj:j < i
 .rw[if_pos hj,if_pos hj];exact⟨_,rfl⟩
 .rw[if_neg hj,if_neg hj];exact⟨_,rfl⟩
theorem zyd:zhG X (.type "int") (fun xs H Q=>(∃ i,xs=[.int i]/\Q (.int i) H)∨∃ k,xs=[.bl k]/\Q (.int (if k then 1 else 0)) H):=by
 intro pins s σ H xs us Q I r h;rcases h with⟨i,rfl,q⟩ | ⟨k,rfl,q⟩
 .obtain⟨u,rfl,t,rfl⟩:=zot r
  exact call_int_int ⟨.int i,H,I,⟨_,rfl⟩,q⟩
 .obtain⟨u,rfl,r1⟩:=zot r
  cases r1;exact call_int_bool ⟨.int (if k then 1 else 0),H,I.tok _,⟨_,rfl⟩,q⟩
noncomputable def zGL (K:sab) (x:V) (H:Hp) (n:Nat):Prop :=
 match x with
 | .str y=>y.length<=sizeLine/\n=y.length
 | .byt y=>y.size<=sizeLine/\n=y.size
 | .ref p=>(∃ xs,SqL K H p xs/\n=xs.length)∨∃ xs,SqT K H p xs/\n=xs.length
 | _=>False
theorem zaY:zhG X (.builtin "len") (fun xs H Q=>∃ x n,xs=[x]/\zGL X.K x H n/\Q (.int n) H):=by
 intro pins s σ H xs us Q I r h;obtain⟨x,n,rfl,e,q⟩:=h;obtain⟨u,rfl,rx⟩:=zot r;have hl:=znN;have hs:sizeLine=16777216:=sizeLine_eq;cases x with
 | str y =>
  obtain⟨t,rfl⟩:=rx;obtain⟨hy,e'⟩:y.length<=sizeLine/\n=y.length:=e;subst e';exact len_str (by omega) ⟨.int _,H,I.tok _,⟨_,rfl⟩,q⟩
 | byt y =>
  obtain⟨t,rfl⟩:=rx;obtain⟨hy,e'⟩:y.size<=sizeLine/\n=y.size:=e;subst e';exact W.len_bytes (by omega) ⟨.int _,H,I.tok _,⟨_,rfl⟩,q⟩
 | ref p =>
  cases rx;have e':(∃ xs,SqL X.K H p xs/\n=xs.length)∨∃ xs,SqT X.K H p xs/\n=xs.length:=e;rcases e' with⟨xs,hx,e'⟩ | ⟨xs,hx,e'⟩
  .subst e'
   obtain⟨its,r',pl,hz⟩:=I.list hx;have hlen:=r'.length;exact Calls.call_len_list pl.isList (by simp only[sao];omega) ⟨.int xs.length,H,I.tok _,⟨_,by simp only[sao];rw[hlen]⟩,q⟩
  .subst e'
   obtain⟨its,r',pl,hz⟩:=I.tuple hx;have hlen:=r'.length;exact len_tuple pl (by simp only[sao];omega) ⟨.int xs.length,H,I.tok _,⟨_,by simp only[sao];rw[hlen]⟩,q⟩
 | _=>exact(show False from e).elim
end
structure zGK (h:Heap) (x dx C:Addr) (mA:Str->Option Value):Prop where
 obj:h.get? x=some (W.instObj C dx)
 ns:h.Ns1 dx mA
 ne:dx≠x
theorem zql {h:Heap}{dx:Addr}{mA:Str->Option Value}(n:h.Ns1 dx mA):∃ od,h.get? dx=some od/\∀ name,W.lookIn name od=some (mA name):=by
 obtain⟨o,es,ep,ho,hd,hk,_,hm⟩:=n;refine⟨o,ho,fun name=>?_⟩;have e:=hm name;unfold nsFind findBy at e;rw[← Array.find?_toList] at e;unfold W.lookIn;rw[hd];dsimp only;split
 .rename_i y q
  rw[q] at e;exact congrArg some e
 .rename_i q
  rw[q] at e;have a:es.toList.any (·.refKey)=false:=by
   rw[List.any_eq_false];intro y hy;obtain⟨z,t,hkey⟩:=hk y (Array.mem_toList_iff.mp hy);simp [DictEntry.refKey,hkey]
  have a':¬ es.toList.any (·.refKey)=true:=by rw[a];exact sa7
  rw[if_neg a'];exact congrArg some e
theorem zGK.look {h:Heap}{x dx C:Addr}{mA:Str->Option Value}(I:zGK h x dx C mA):∃ od,W.InstAt h x (W.instObj C dx) C (some od)/\∀ name,W.lookIn name od=some (mA name) :=
 let ⟨od,ho,hl⟩:=zql I.ns
 ⟨od,⟨I.obj,rfl,rfl,ho⟩,hl⟩
section
variable {prog:Program}{w:World}{A:Around}{E:Value->Shared->Prop}{s:Shared}{K:sab}{x dx C f:Addr}{mA:Str->Option Value}{name:Str}{v:Value}
end
noncomputable def zuy (f:Str) (v:V):List (Str×V)->List (Str×V)
 | []=>[(f,v)]
 | (g,x)::r=>if g=f then(g,v)::r else(g,x)::zuy f v r
theorem zlC (f g:Str)(v:V):∀ fs:List (Str×V),(zuy f v fs).lookup g=if g=f then some v else fs.lookup g
 | []=>by
  show scn g [(f,v)]=_
  by_cases h:g=f
  .have hb:(g==f)=true:=beq_iff_eq.mpr h
   simp only[scn,hb,if_pos h]
  .have hb:(g==f)=false:=beq_eq_false_iff_ne.mpr h
   simp only[scn,hb,if_neg h]
 | (k,x)::r=>by
  have ih:=zlC f g v r;rw[show zuy f v ((k,x)::r)=(if k=f then(k,v)::r else(k,x)::zuy f v r) from rfl]
  by_cases hk:k=f
  .rw[if_pos hk]
   by_cases h:g=k
   .have hb:(g==k)=true:=beq_iff_eq.mpr h
    simp only[scn,hb,if_pos (h.trans hk)]
   .have hb:(g==k)=false:=beq_eq_false_iff_ne.mpr h
    simp only[scn,hb,if_neg (fun e:g=f=>h (e.trans hk.symm))]
  .rw[if_neg hk]
   by_cases h:g=k
   .have hb:(g==k)=true:=beq_iff_eq.mpr h
    simp only[scn,hb,if_neg (fun e:g=f=>hk (h.symm.trans e))]
   .have hb:(g==k)=false:=beq_eq_false_iff_ne.mpr h
    simp only[scn,hb];exact ih
theorem zlH (f:Str)(v:V):∀ fs:List (Str×V),f∈(zuy f v fs).map (·.1)/\∀ g,g∈fs.map (·.1)->g∈(zuy f v fs).map (·.1)
 | []=>⟨by simp [zuy],fun g h=>by simp at h⟩
 | (k,x)::r=>by
  obtain⟨i1,i2⟩:=zlH f v r;rw[show zuy f v ((k,x)::r)=(if k=f then(k,v)::r else(k,x)::zuy f v r) from rfl]
  by_cases hk:k=f
  .rw[if_pos hk]
   subst hk;exact⟨by simp,fun g h=>by simpa using h⟩
  .rw[if_neg hk]
   refine⟨?_,fun g h=>?_⟩
   .rw[saN]
    exact sak _ i1
   .rw[saN] at h ⊢
    rcases sam.mp h with e | e
    .exact sam.mpr (.inl e)
    .exact sak _ (i2 g e)
theorem zrY {v:V}{o:Option Value}(r:zC2 (some v) o):∃ u,o=some u/\zcb v u:=by
 cases o with
 | none=>exact(show False from r).elim
 | some u=>exact⟨u,rfl,r⟩
theorem zwO {v:V}{u:Value}(r:zcb v u):W.handedIn u=true:=by
 cases v with
 | non=>cases (show u=sbh from r);rfl
 | bl b=>cases (show u=sbi b from r);rfl
 | int i=>obtain⟨t,e⟩:=(show ∃ t,u=sby i t from r);cases e;rfl
 | str x=>obtain⟨t,e⟩:=(show ∃ t,u=sbx x t from r);cases e;rfl
 | byt b=>obtain⟨t,e⟩:=(show ∃ t,u=Value.bytes b t from r);cases e;rfl
 | flt b=>obtain⟨t,e⟩:=(show ∃ t,u=Value.float b t from r);cases e;rfl
 | ref a=>cases (show u=saI a from r);rfl
 | ty n=>cases (show u=Value.type n from r);rfl
section
variable {P:Program}{w:World}{H H':Hp}{h h':Heap}{a C dx:Addr}{fs fs':List (Str×V)}
theorem zwK (hok:HOk P w H h)(e:H a=some (.ins C dx fs)):∃ mA,zGK h a dx C mA/\(∀ f,zC2 (fs.lookup f) (mA f))/\scq mA (fs.map (·.1))/\fs.length<=1000/\H dx=some (.own a):=by
 obtain⟨d,z,ne,ob,mA,n,r,q⟩:=(show zcp P w H h a (.ins C dx fs) from hok a _ e)
 exact⟨mA,⟨ob,n,ne⟩,r,q,z,d⟩
end
structure Cls (K:sab) (C:Addr):Prop where
 pg:W.plainGet K C Str.empty=true
 hd:scm K C=true
 po:W.plainOver K C=true
 sa:sbO K (.ref C) "__setattr__"=some (some (.builtin "object.__setattr__"))
theorem Cls.get {K:sab}{C:Addr}(c:Cls K C)(f:Str):W.plainGet K C f=true:=c.pg
def zjb (K:sab)(C:Addr)(f:Str):Prop:=sbO K (.ref C) f=some none
section
variable {X:Cx}{pins:List (Addr×Obj)}{σ:St}{H:Hp}{s:Shared}{a C dx:Addr}{fs:List (Str×V)}{f:Str}{v:V}{A:Around}{E:Value->Shared->Prop}
theorem zCM {prog:Program}{w:World}{env:Env}{e:Expr}{f:Str}{pos:Pos}{s:Shared}{Q:Value->Shared->Prop}(hb:attributeBase e f env (eval e env)=eval e env)
  (h:wpAny (model prog w) A (eval e env) (fun o sf=>wpAny (model prog w) A (getAttr o f true) Q E sf) E s):wpAny (model prog w) A (eval (.Attribute e f pos) env) Q E s :=
 Attribute_any_ h (by rw[arm_eval_Attribute,hb])
end
section
variable {X:Cx}{o e value:Expr}{f:Str}{pos pos' tpos:Pos}{ta tv:TE}
end
section
variable {X:Cx}{pins:List (Addr×Obj)}{σ:St}{H:Hp}{s:Shared}{A:Around}{E:Value->Shared->Prop}{Q:Value->Shared->Prop}{c:Value}{b:Bool}
inductive zvt (K:sab) (H:Hp):V->Value->Prop where
 | non:zvt K H .non (.type "NoneType")
 | bl (x:Bool):zvt K H (.bl x) (.type "bool")
 | int (i:Int):zvt K H (.int i) (.type "int")
 | str (x:Str):zvt K H (.str x) (.type "str")
 | flt (x:UInt64):zvt K H (.flt x) (.type "float")
 | lst {a:Addr}{xs:List V}(e:H a=some (.lst xs)):zvt K H (.ref a) (.type "list")
 | frz {a:Addr}{o:Obj}{xs:List V}(e:H a=some (.frz o (.lst xs))):zvt K H (.ref a) (.type "list")
 | tup {a:Addr}{xs:List V}(e:H a=some (.tup xs)):zvt K H (.ref a) (.type "tuple")
 | dK {a:Addr}{kvs:List (Key×V)}(e:H a=some (.dK kvs)):zvt K H (.ref a) (.type "dict")
 | dT {a:Addr}{kvs:List (List Key×V)}(e:H a=some (.dT kvs)):zvt K H (.ref a) (.type "dict")
 | ins {a C dx:Addr}{fs:List (Str×V)}(e:H a=some (.ins C dx fs)) (cl:Cls K C) (ha:sbO K (.ref C) "__class__"=some (some (.builtin "object.__class__")))
   (hn:W.specialIn K (.builtin "object.__class__") "__get__"=some (some (.builtin "getset_descriptor.__get__"))) (htk:W.takesIn K (.builtin "object.__class__")=some true)
   (hm:scE K C (.type "object")=some true):zvt K H (.ref a) (.ref C)
theorem ziw {x:V}{u t:Value}(I:Inv X pins σ H s)(rx:zcb x u)(ty:zvt X.K H x t)(e:sc6 X.K t c=some b)(h:∀ tk,Q (.bool b) { s with toks:=tk }) :
  wpAny (model X.prog X.w) A (call (.builtin "isinstance") [u,c]) Q E s:=by
 cases ty with
 | non=>cases (show u=sbh from rx);exact sbm W.kitx_none I.kIn scl e (fun z=>nomatch z) h
 | bl y=>cases (show u=sbi y from rx);exact sbm W.kitx_bool I.kIn scl e (fun z=>nomatch z) h
 | int i=>obtain⟨t,q⟩:=(show ∃ t,u=sby i t from rx);cases q;exact sbm W.kitx_int I.kIn scl e (fun z=>nomatch z) h
 | str y=>obtain⟨t,q⟩:=(show ∃ t,u=sbx y t from rx);cases q;exact sbm W.kitx_str I.kIn scl e (fun z=>nomatch z) h
 | flt y=>obtain⟨t,q⟩:=(show ∃ t,u=Value.float y t from rx);cases q;exact sbm W.kitx_float I.kIn scl e (fun z=>nomatch z) h
 | @lst a xs ea =>
  cases (show u=saI a from rx);obtain⟨_,_,n,_,h1⟩:=(show zcp X.prog X.w H s.heap a (.lst xs) from I.hok a _ ea)
  exact sbm W.kitx_list I.kIn ⟨_,h1,rfl⟩ e (fun z=>nomatch z) h
 | @frz a ob xs ea =>
  cases (show u=saI a from rx);obtain⟨_,_,_,n,_,h1⟩:=(show zcp X.prog X.w H s.heap a (.frz ob (.lst xs)) from I.hok a _ ea)
  exact sbm W.kitx_list I.kIn ⟨_,h1,rfl⟩ e (fun z=>nomatch z) h
 | @tup a xs ea =>
  cases (show u=saI a from rx);obtain⟨_,_,_,p⟩:=(show zcp X.prog X.w H s.heap a (.tup xs) from I.hok a _ ea)
  obtain⟨o,h1,h2,_⟩:=p;exact sbm W.kitx_tuple I.kIn ⟨o,h1,h2⟩ e (fun z=>nomatch z) h
 | @dK a kvs ea =>
  cases (show u=saI a from rx);obtain⟨_,_,vs,_,p⟩:=(show zcp X.prog X.w H s.heap a (.dK kvs) from I.hok a _ ea)
  obtain⟨o,es,ep,h1,h2,_⟩:=p;exact sbm W.kitx_dict I.kIn ⟨o,h1,h2.1⟩ e (fun z=>nomatch z) h
 | @dT a kvs ea =>
  cases (show u=saI a from rx);obtain⟨_,_,xs,_,o,es,ep,h1,h2,_⟩:=(show zcp X.prog X.w H s.heap a (.dT kvs) from I.hok a _ ea)
  exact sbm W.kitx_dict I.kIn ⟨o,h1,h2.1⟩ e (fun z=>nomatch z) h
 | @ins a C dx fs ea cl ha hn htk hm =>
  cases (show u=saI a from rx);obtain⟨mA,O,_⟩:=zwK I.hok ea;obtain⟨od,J,_⟩:=O.look;exact sbm (W.kitx_own (cl.get _) cl.hd ha hn htk hm) I.kIn J e (fun z=>nomatch z) h
end
structure zfP (k:Nat) (A:Around):Prop where
 hd:A.handled=none
 dp:A.depth+3*k+5 < recursionLimit
 un:A.units+16*k+200 < cLine
 gd:A.guards=some []
theorem zfP.mono {j k:Nat}{A:Around}(r:zfP k A)(h:j<=k):zfP j A:=⟨r.hd,by have:=r.dp;omega,by have:=r.un;omega,r.gd⟩
theorem zfP.deeper {k:Nat}{A:Around}(r:zfP (k+1) A)(env:Env):zfP k (A.deeper env) :=
 ⟨r.hd,by have:=r.dp;show A.depth+1+3*k+5 < _;omega,by have:=r.un;show A.units+3+16*k+200 < _;omega,r.gd⟩
theorem zuL {A:Around}{C:Addr}{us:List Value}{kw:List (Str×Value)}:(A.under (.builtin "type.__call__" ⟨.ref C::us,kw⟩)).depth=A.depth+1:=by
 first | rfl | simp [sc3,Code.weight,Code.isCreation,Code.isGuard,Code.isCaller,Code.frames,Code.isFrame,guardIds]
theorem zuK {A:Around}{C:Addr}{us:List Value}{kw:List (Str×Value)}:(A.under (.builtin "type.__call__" ⟨.ref C::us,kw⟩)).units=A.units+1:=by
 first | rfl | simp [sc3,Code.cUnits,Code.frames,Code.isFrame]
theorem zfP.make {k:Nat}{A:Around}(r:zfP (k+1) A)(C:Addr)(us:List Value)(kw:List (Str×Value)):zfP k (A.under (.builtin "type.__call__" ⟨.ref C::us,kw⟩)) :=
 ⟨r.hd,by have:=r.dp;rw[zuL];omega,by have:=r.un;rw[zuK];omega,by have:=r.gd;simp [sc3,Code.guards,Code.isGuard,guardIds,pushGuards,this]⟩
theorem zfP.depth {k:Nat}{A:Around}(r:zfP k A):A.depth < recursionLimit:=by have:=r.dp;omega
theorem zfP.units {k:Nat}{A:Around}(r:zfP k A):A.units+64 < cLine:=by have:=r.un;omega
def zHw:TA:=fun _ H Q=>Q [] H
def zFS (ta:TE)(tr:TA):TA:=fun σ H Q=>ta σ H fun x H1=>tr σ H1 fun xs H2=>Q (x::xs) H2
section
variable {X:Cx}{e:Expr}{es:List Expr}{te:TE}{t:TA}{pos:Pos}
theorem ze7:PA X [] zHw:=fun _ _ _ _ H Q I h=>Calls.spliced_nil ⟨[],H,I,.nil,h⟩
theorem zbW (ha:PE X e te)(hr:PA X es t)(hs:starEach (e::es) X.env=(false,eval e X.env)::starEach es X.env:=by rfl):PA X (e::es) (zFS te t):=by
 intro pos pins s σ H Q I h;rw[hs];show wpAny _ _ (spliced ((false,eval e X.env)::backTo pos (starEach es X.env))) _ _ s;refine Calls.spliced_cons (thn (ha pins s σ H _ I h) fun u s1 ⟨x,H1,I1,r1,q1⟩=>?_);exact thn (hr pos pins s1 σ H1 _ I1 q1) fun us s2 ⟨xs,H2,I2,r2,q2⟩=>⟨x::xs,H2,I2,.cons r1 r2,q2⟩
noncomputable def zHq (t:TA):TE:=fun σ H Q=>t σ H fun xs H1=>xs.length<=sizeLine/\∀ p,H1 p=none->Q (.ref p) (upd H1 p (.tup xs))
noncomputable def zHx (t:TA):TE:=fun σ H Q=>t σ H fun xs H1=>xs.length<=sizeLine/\∀ p,H1 p=none->Q (.ref p) (upd H1 p (.lst xs))
theorem zAw {x1}(h:PA X es t):PE X (.Tuple es x1 pos) (zHq t):=by
 intro pins s σ H Q I hq;refine wpAny_Tuple_spliced (thn (h pos pins s σ H _ I hq) fun us s1 ⟨xs,H1,I1,r,z,q⟩=>⟨by rw[← r.length];exact z,?_⟩);have hf:H1 s1.heap.objs.size=none:=I1.hok.fresh (saq _);refine⟨.ref s1.heap.objs.size,upd H1 s1.heap.objs.size (.tup xs),I1.laid (t':=s1.toks) (fun b u e=>saf _ e) (saq _) ?_,rfl,q _ hf⟩;exact⟨z,us,r,⟨_,saX _ rfl,rfl,_,rfl⟩⟩
theorem zv7 (h:PA X es t):PE X (.List es pos) (zHx t):=by
 intro pins s σ H Q I hq;refine wpAny_List_spliced (thn (h pos pins s σ H _ I hq) fun us s1 ⟨xs,H1,I1,r,z,q⟩=>⟨by rw[← r.length];exact z,?_⟩);have hf:H1 s1.heap.objs.size=none:=I1.hok.fresh (saq _);refine⟨.ref s1.heap.objs.size,upd H1 s1.heap.objs.size (.lst xs),I1.laid (t':=s1.toks) (fun b u e=>saf _ e) (saq _) ?_,rfl,q _ hf⟩;exact⟨z,us,0,r,saX _ rfl⟩
end
abbrev Sp:=List V->Hp->VK->XK->Prop
abbrev CXT:=List Env->Hp->Shared->XK->Value->Shared->Prop
structure zA5 (P:Program) (w:World) (K:sab) (mg:Str->Option Value) (base:Heap) (A:Around) (outer:List Env) (s:Shared) (H:Hp):Prop where
 frames:A.frames=some outer
 mod:Mod K mg base
 bs:∀ b o,base.get? b=some o->s.heap.get? b=some o/\H b=none
 bsz:base.objs.size<=s.heap.objs.size
 funs:s.heap.FunFrames base outer
 frf:∀ b∈frs outer,H b=none
 hok:HOk P w H s.heap
 bare:AllBare s.gens
noncomputable def CE (outer:List Env) (P:Program) (w:World) (H:Hp) (s:Shared) (Q:VK) (u:Value) (s':Shared):Prop :=
 ∃ v H',s'.os=s.os/\AllBare s'.gens/\Un (frs outer) [] H H' s.heap s'.heap/\HOk P w H' s'.heap/\zcb v u/\Q v H'
noncomputable def CR (CX:CXT) (outer:List Env) (P:Program) (w:World) (H:Hp) (s:Shared) (Q:VK) (E:XK) (r:Result) (s':Shared):Prop :=
 match r with
 | .ok (.ret u)=>CE outer P w H s Q u s'
 | .ok _=>False
 | .error e=>CX outer H s E e s'
structure zbP (P:Program) (w:World) (K:sab) (mg:Str->Option Value) (base:Heap) (CX:CXT) (k:Nat) (f:Addr) (fd:FuncData) (ps:List Str) (sp:Sp):Prop where
 len:∀ vs H Q E,sp vs H Q E->vs.length=ps.length
 run:∀ (A:Around) (outer:List Env) (s:Shared) (H:Hp) (args:Args) (us:List Value) (vs:List V) (Q:VK) (E:XK),zfP k A->zA5 P w K mg base A outer s H->BindsTo s fd args (ps.zip us)->zbT vs us->sp vs H Q E ->
  codeAny (model P w) A (.call (.ref f) args) (CR CX outer P w H s Q E) s
theorem zbP.mono {P:Program}{w:World}{K:sab}{mg:Str->Option Value}{base:Heap}{CX:CXT}{j k:Nat}{f:Addr}{fd:FuncData}{ps:List Str}{sp:Sp}(F:zbP P w K mg base CX j f fd ps sp)(h:j<=k) :
  zbP P w K mg base CX k f fd ps sp:=⟨F.len,fun A outer s H args us vs Q E hr=>F.run A outer s H args us vs Q E (hr.mono h)⟩
theorem zA5.make {P:Program}{w:World}{K:sab}{mg:Str->Option Value}{base:Heap}{A:Around}{outer:List Env}{s:Shared}{H:Hp}(e:zA5 P w K mg base A outer s H)(C:Addr)(us:List Value)(kw:List (Str×Value)) :
  zA5 P w K mg base (A.under (.builtin "type.__call__" ⟨.ref C::us,kw⟩)) outer s H:=⟨by first | exact e.frames | (simpa [sc3,Code.envs,Code.isFrame,pushEnvs] using e.frames),e.mod,e.bs,e.bsz,e.funs,e.frf,e.hok,e.bare⟩
section
variable {X:Cx}{pins:List (Addr×Obj)}{σ:St}{H:Hp}{s s':Shared}
theorem Inv.env0 (I:Inv X pins σ H s):zA5 X.prog X.w X.K X.mg X.base X.A X.stack s H :=
 ⟨I.ok.frames,I.ok.mod,I.bs,sat I.ok.bsz I.sz,I.stack,I.stkFree,I.hok,I.bare⟩
theorem Inv.after {Q:VK}{u:Value}(I:Inv X pins σ H s)(h:CE X.stack X.prog X.w H s Q u s'):EP X pins σ Q u s':=by
 obtain⟨v,H',os,bare,un,hok,r,q⟩:=h;obtain⟨hh,g,d,t,os'⟩:=s';obtain rfl:os'=s.os:=os;exact⟨v,H',I.call (h':=hh) (g':=g) (d':=d) (t':=t) (ch:=[]) un hok bare (fun b z=>absurd z (by simp)),r,q⟩
end
def zFT (sp:Sp)(dvs:List V)(E:XK)(t:TA):TE:=fun σ H Q=>t σ H fun vs H1=>sp (vs++dvs) H1 Q E
noncomputable def zjc (K:sab) (fd:FuncData) (ps:List Str) (ds:List Value):Prop :=
 ∀ (s:Shared) (us:List Value),K.In s.heap->(us++ds).length=ps.length->BindsTo s fd ⟨us,[]⟩ (ps.zip (us++ds))
theorem zjc.all {K:sab}{fd:FuncData}{ps:List Str}(h:∀ us:List Value,us.length=ps.length->bindArgs fd ⟨us,[]⟩=pure (ps.zip us)):zjc K fd ps []:=fun s us _ hl=>by
 rw[saZ] at hl ⊢;exact .of_eq (h us hl)
noncomputable def zfR (CX:CXT) (X:Cx) (E:XK):Prop:=∀ (pins:List (Addr×Obj)) (σ:St) (H:Hp) (s:Shared) (e:Value) (s':Shared),Inv X pins σ H s->CX X.stack H s E e s'->X.xe e s'
section
variable {X:Cx}{CX:CXT}{k:Nat}{f C:Addr}{fd:FuncData}{ps:List Str}{sp:Sp}{dvs:List V}{ds:List Value}{E:XK}{x m:Str}{p pos apos:Pos}{e o:Expr}{es:List Expr}{ta:TE}{t:TA}
theorem zDE {pins:List (Addr×Obj)}{σ:St}{H:Hp}{s:Shared}{Q:VK}{us:List Value}{vs:List V}(F:zbP X.prog X.w X.K X.mg X.base CX k f fd ps sp)(hr:zfP k X.A)(hb:zjc X.K fd ps ds)(hd:zbT dvs ds)(hx:zfR CX X E)
  (I:Inv X pins σ H s)(r:zbT vs us)(h:sp (vs++dvs) H Q E):wpAny (model X.prog X.w) X.A (call (.ref f) us) (EP X pins σ Q) X.xe s:=by
 have r2:zbT (vs++dvs) (us++ds):=r.append hd;have hl:(us++ds).length=ps.length:=by rw[← r2.length];exact F.len _ _ _ _ h
 refine wpAny_call (codeAny_mono (F.run X.A X.stack s H ⟨us,[]⟩ (us++ds) (vs++dvs) Q E hr I.env0 (hb s us I.kIn hl) r2 h) fun r s' hq=>?_);cases r with
 | error e=>exact hx pins σ H s e s' I hq
 | ok fl =>
  cases fl with
  | ret u=>exact I.after hq
  | next=>exact sbb hq
  | brk=>exact sbb hq
  | cont=>exact sbb hq
theorem zoK (F:zbP X.prog X.w X.K X.mg X.base CX k f fd ps sp)(hr:zfP k X.A)(hg:Gl X x)(hm:X.mg x=some (.ref f))(hk:scj X.K (.ref f)=true)(hb:zjc X.K fd ps ds)(hd:zbT dvs ds)(hx:zfR CX X E)
  (ha:PA X (e::es) t)(hdb:(x==("__debug__" : Str))=false:=by decide)(he:starEach (e::es) X.env=(false,eval e X.env)::starEach es X.env:=by rfl)(hpl:(backTo pos (starEach es X.env)).any (·.1)=false:=by rfl) :
  PE X (.Call (.Name x p) (e::es) [] pos) (zFT sp dvs E t):=by
 intro pins s σ H Q I h;refine wpAny_Call_Name_kw (zjy I hg hm ?_ hdb);refine W.callWith_K (h₀:=X.base) I.ok.mod.kin hk (thn (ha pos pins s σ H _ I h) fun us s1 ⟨vs,H1,I1,r,q⟩=>⟨I1.kIn,?_⟩) he hpl;exact zDE F hr hb hd hx I1 r q
end
section
variable {X:Cx}{CX:CXT}{k:Nat}{f C:Addr}{fd:FuncData}{ps ks:List Str}{sp:Sp}{E:XK}{x m:Str}{p pos apos kpos:Pos}{e o:Expr}{es:List Expr}{kws:List Keyword}{te ta:TE}{t tk:TA}{nm:Option Str}
variable {g:List Value->List Value->List Value}{gV:List V->List V->List V}
end
structure zay (N P:List Str) (sc:Scope):Prop where
 kind:sc.kind=.function
 co:sc.isCoroutine=false
 gen:sc.isGenerator=false
 nd:N.Nodup
 pre:N.take P.length=P
 par:∀ x∈P,sc.names.lookup x=some .local ∨ sc.names.lookup x=some .cell
 nofree:∀ y∈sc.names,y.2≠.free
theorem zrM {kindOf:Str->Option NameKind}{x:Str}:∀ {binds:List (Str×Value)}{m:Str->Option Value},(∀ v,(x,v)∉binds)->bindL kindOf binds m x=m x
 | [],_,_=>rfl
 | (n,v)::r,m,h=>by
  unfold bindL;rw[zrM fun w hw=>h w (sak _ hw)];split
  .have:x≠n:=by rintro rfl;exact h v sax
   simp [this]
  .rfl
theorem zrO {kindOf:Str->Option NameKind}{x:Str}:∀ {binds:List (Str×Value)}{m:Str->Option Value},(∀ v,(x,v)∉binds)->bindC kindOf binds m x=m x
 | [],_,_=>rfl
 | (n,v)::r,m,h=>by
  unfold bindC;rw[zrO fun w hw=>h w (sak _ hw)];split
  .rfl
  .have:x≠n:=by rintro rfl;exact h v sax
   simp [this]
theorem zrN {kindOf:Str->Option NameKind}{x:Str}{v:Value}:∀ {P:List Str}{vs:List Value}{i:Nat}{m:Str->Option Value},P.Nodup->P[i]?=some x->vs[i]?=some v->kindOf x=some .local ->
  bindL kindOf (P.zip vs) m x=some v
 | [],_,_,_,_,h,_,_=>by simp at h
 | _::_,[],_,_,_,_,h,_=>by simp at h
 | p::P,w::vs,0,m,nd,h1,h2,hk=>by
  simp at h1 h2;subst h1;subst h2;show bindL kindOf ((p,w)::P.zip vs) m p=_;unfold bindL;rw[zrM fun v hv=>(sb7.mp nd).1 (sa2 hv).1,if_pos hk];simp
 | p::P,w::vs,i+1,m,nd,h1,h2,hk=>by
  show bindL kindOf ((p,w)::P.zip vs) m x=_;unfold bindL;exact zrN (i:=i) (sb7.mp nd).2 (by simpa using h1) (by simpa using h2) hk
theorem zrP {kindOf:Str->Option NameKind}{x:Str}{v:Value}:∀ {P:List Str}{vs:List Value}{i:Nat}{m:Str->Option Value},P.Nodup->P[i]?=some x->vs[i]?=some v->kindOf x≠some .local ->
  bindC kindOf (P.zip vs) m x=some v
 | [],_,_,_,_,h,_,_=>by simp at h
 | _::_,[],_,_,_,_,h,_=>by simp at h
 | p::P,w::vs,0,m,nd,h1,h2,hk=>by
  simp at h1 h2;subst h1;subst h2;show bindC kindOf ((p,w)::P.zip vs) m p=_;unfold bindC;rw[zrO fun v hv=>(sb7.mp nd).1 (sa2 hv).1,if_neg hk];simp
 | p::P,w::vs,i+1,m,nd,h1,h2,hk=>by
  show bindC kindOf ((p,w)::P.zip vs) m x=_;unfold bindC;exact zrP (i:=i) (sb7.mp nd).2 (by simpa using h1) (by simpa using h2) hk
def start (N:List Str)(vs:List V):St:=vs.map some++saj (N.length-vs.length) none
noncomputable def zk0 (CX:CXT) (P:Program) (w:World) (K:sab) (mg:Str->Option Value) (base:Heap) (N:List Str) (qual:Str) (scope:Scope) (f:Addr) (cd:Value) (A:Around) (outer:List Env) (s:Shared) (H:Hp) (E:XK):Cx where
 prog:=P
 w:=w
 K:=K
 mg:=mg
 base:=base
 A:=A.deeper (envOfC qual scope s.heap.objs.size f cd)
 N:=N
 sj:=s
 Ha:=H
 env:=envOfC qual scope s.heap.objs.size f cd
 outer:=outer
 stack:=envOfC qual scope s.heap.objs.size f cd::outer
 ex:=[]
 calm:=true
 fn:=fun _=>true
 pn:=[]
 xe:=fun e s'=>wpAny (model P w) (A.deeper (envOfC qual scope s.heap.objs.size f cd)) (leaving (envOfC qual scope s.heap.objs.size f cd) e) (fun _ s''=>CX outer H s E e s'') (fun e' s''=>CX outer H s E e' s'') s'
theorem zuh {sc:Scope}{n:Nat}{x:Str}(h:sc.names.lookup x=some .cell):∃ c,(cellsFrom n sc.names []).lookup x=some c:=by
 have q:=W.cellsFrom_some sc.names n [] (.inl h);exact scx.mp q
theorem zwI {CX:CXT}{P:Program}{w:World}{K:sab}{mg:Str->Option Value}{base:Heap}{N ps:List Str}{qual:Str}{scope:Scope}{f:Addr}{cd:Value}{A:Around}{outer:List Env}{s s1:Shared}{H:Hp}{E:XK}{us:List Value}{vs:List V}
  (S:zay N ps scope)(hd:A.handled=none)(e0:zA5 P w K mg base A outer s H)(hl:vs.length=ps.length)(r:zbT vs us)
  (x:InCallC s s.heap.objs.size (bindL (envOfC qual scope s.heap.objs.size f cd).kindOf (ps.zip us) fun _=>none) (cellsFrom (s.heap.objs.size+1) scope.names []) (bindC (envOfC qual scope s.heap.objs.size f cd).kindOf (ps.zip us) fun _=>none) s1) :
  Inv (zk0 CX P w K mg base N qual scope f cd A outer s H E) [] (start N vs) H s1:=by
 have hpl:ps.length<=N.length:=by have:=congrArg scB S.pre;rw[saQ] at this;omega
 obtain⟨h1,tk,rfl,hk⟩:=x.done;have noA:∀ b:Addr,b∉(zk0 CX P w K mg base N qual scope f cd A outer s H E).ex:=fun b z=>absurd (show b∈([]:List Addr) from z) (by simp);refine⟨⟨e0.mod,S.kind,rfl,rfl,saq _,fun y z c h1 h2=>?_,fun y hy=>?_,fun y c _ h=>?_,fun _=>hd,Around.frames_deeper e0.frames,.inr ⟨rfl,rfl⟩,fun b z=>absurd z (noA b),e0.bs,e0.bsz,fun b _ _=>noA b,fun b z=>absurd z (noA b),e0.funs,e0.frf⟩,
  rfl,e0.bare,Un.kept hk,⟨_,x.toInCall.ns,fun i y v h1 h2 h3=>?_⟩,fun y c h=>⟨_,x.cell y c h⟩,e0.hok.fresh (saq _),fun y c h=>?_,fun p hp=>absurd (show p∈([]:List (Addr×Obj)) from hp) (by simp),e0.hok.kept hk,?_⟩
 .exact name_of_addr x.apart (sbs h1) (sbs h2)
 .have hy:scope.names.lookup y=some .cell∨scope.names.lookup y=some .free:=hy
  rcases hy with hy | hy
  .exact zuh hy
  .exact absurd rfl (S.nofree _ (sbs hy))
 .exact scs (x.above y c (sbs h))
 .have hi:i < vs.length:=by
   unfold start at h2
   by_cases hi:i < vs.length
   .exact hi
   .rw[sar (by simpa using hi)] at h2
    rw[saw] at h2;split at h2<;>cases h2
  have ha:vs[i]?=some v:=by
   unfold start at h2;rw[san (by simpa using hi),sai] at h2;cases e:vs[i]? with
   | none=>rw[e] at h2;cases h2
   | some a=>rw[e] at h2;cases h2;rfl
  obtain⟨u,hu,rv⟩:=r.get ha;have hp:ps[i]?=some y:=by
   rw[← S.pre,List.getElem?_take_of_lt (by omega)];exact h1
  have ndP:ps.Nodup:=by rw[← S.pre];exact S.nd.sublist (List.take_sublist _ _)
  refine⟨u,rv,?_⟩;rcases S.par y (saH hp) with k | k
  .exact .inl ⟨k,zrN ndP hp hu k⟩
  .obtain⟨c,e⟩:=zuh (n:=s.heap.objs.size+1) k
   refine .inr ⟨.inl k,c,e,?_⟩;have q:=x.cell y c e;rw[zrP ndP hp hu (by show scope.names.lookup y≠_;rw[k];decide)] at q;exact q
 .exact e0.hok.fresh (scs (x.above y c (sbs h)))
 .unfold start
  show _=N.length;rw[saR,sag,saV];omega
theorem zEA {CX:CXT}{P:Program}{w:World}{K:sab}{mg:Str->Option Value}{base:Heap}{k:Nat}{f:Addr}{name qual:Str}{params:Arguments}{body:List Stmt}{scope:Scope}{dV kV doc pm cdv ct oc:Value}{an od:Option Addr}
  {osl:Array (Option Value)}{N ps:List Str}{sp:Sp}(lk:K.lookup f=some ⟨oc,od,.func (sbY name qual params body scope dV kV doc pm an cdv ct),osl⟩) (hcd:W.codeIn K cdv qual=true) (S:zay N ps scope)
  (len:∀ vs H Q E,sp vs H Q E->vs.length=ps.length)
  (hbody:∀ (A:Around) (outer:List Env) (s:Shared) (H:Hp) (vs:List V) (Q:VK) (E:XK),zfP k (A.deeper (envOfC qual scope s.heap.objs.size f cdv))->sp vs H Q E ->
   ∃ t,PSs (zk0 CX P w K mg base N qual scope f cdv A outer s H E) body t/\t { nx:=fun _ H'=>Q .non H',rt:=Q } (start N vs) H) :
  zbP P w K mg base CX (k+1) f (sbY name qual params body scope dV kV doc pm an cdv ct) ps sp:=by
 refine⟨len,fun A outer s H args us vs Q E hr e0 hb r hsp=>?_⟩;have hl:=len _ _ _ _ hsp;have KX:K.In s.heap:=e0.mod.kin.keeps fun b o e=>(e0.bs b o e).1;have lim:s.heap.NoLimit:=e0.mod.nolimit.keeps fun b o e=>(e0.bs b o e).1;have hkind:∀ y∈ps.zip us,scope.names.lookup y.1=some .local ∨ (scope.names.lookup y.1=some .cell/\((cellsFrom (s.heap.objs.size+1) scope.names []).lookup y.1).isSome=true):=fun⟨n,v⟩ hy=>by
  rcases S.par n (sa2 hy).1 with q | q
  .exact .inl q
  .exact .inr ⟨q,W.cellsFrom_some _ _ _ (.inl q)⟩
 refine codeAny_call_function hr.depth (KX _ _ lk) rfl S.co S.gen rfl (W.codeRec_of KX hcd) (hb _ _ _ _ ?_);refine wpAny_newFunctionEnv_cells S.kind hkind fun env he s1 x=>?_;subst he;refine⟨lim.keeps x.toInCall.keep,codeAny_func ?_⟩;obtain⟨t,ht,hq⟩:=hbody A outer s H vs Q E (hr.deeper _) hsp;have I:Inv (zk0 CX P w K mg base N qual scope f cdv A outer s H E) [] (start N vs) H s1:=zwI S hr.hd e0 hl r x;refine sa8 (ht [] s1 (start N vs) H _ I hq) (fun fl s' hs=>?_) fun e s' hs=>hs;have fin:∀ {σ':St}{H':Hp}{v:V}{u:Value},Inv (zk0 CX P w K mg base N qual scope f cdv A outer s H E) [] σ' H' s'->zcb v u->Q v H'->CE outer P w H s Q u s' :=
  fun {σ' H' v u} J rv q=>⟨v,H',J.os,J.bare,J.base,J.hok,rv,q⟩
 cases fl with
 | ret u =>
  obtain⟨v,σ',H',J,rv,q⟩:=hs;exact fin J rv q
 | next =>
  obtain⟨σ',H',J,q⟩:=hs;exact fin (v:=V.non) (u:=sbh) J rfl q
 | brk =>
  obtain⟨_,_,_,q⟩:=hs;exact sbb q
 | cont =>
  obtain⟨_,_,_,q⟩:=hs;exact sbb q
section
variable {X:Cx}{x:Str}{p pos:Pos}{e:Expr}{es:List Expr}{t:TA}{id T:String}{r:List V->Hp->VK->Prop}
def tCB (r:List V->Hp->VK->Prop)(t:TA):TE:=fun σ H Q=>t σ H fun vs H1=>r vs H1 Q
theorem zkN (hc:zhG X (.builtin id) r)(hg:Gl X x)(hm:X.mg x=none)(hv:bootBuiltins x=some (.builtin id))(ha:PA X (e::es) t)(hn:x≠"__name__":=by decide)(hdb:(x==("__debug__" : Str))=false:=by decide)
  (he:starEach (e::es) X.env=(false,eval e X.env)::starEach es X.env:=by rfl)(hpl:(backTo pos (starEach es X.env)).any (·.1)=false:=by rfl):PE X (.Call (.Name x p) (e::es) [] pos) (tCB r t):=by
 intro pins s σ H Q I h;refine wpAny_Call_Name_kw (znO I hg hm hv ?_ hn hdb);exact PyProof.Rows.callWith_builtin1 (thn (ha pos pins s σ H _ I h) fun us s1 ⟨vs,H1,I1,r1,q1⟩=>hc pins s1 σ H1 vs us Q I1 r1 q1) he hpl
theorem zv9 (hc:zhG X (.type T) r)(hg:Gl X x)(hm:X.mg x=none)(hv:bootBuiltins x=some (.type T))(ha:PA X (e::es) t)(hn:x≠"__name__":=by decide)(hdb:(x==("__debug__" : Str))=false:=by decide)
  (he:starEach (e::es) X.env=(false,eval e X.env)::starEach es X.env:=by rfl)(hpl:(backTo pos (starEach es X.env)).any (·.1)=false:=by rfl):PE X (.Call (.Name x p) (e::es) [] pos) (tCB r t):=by
 intro pins s σ H Q I h;refine wpAny_Call_Name_kw (znO I hg hm hv ?_ hn hdb);exact sbK (thn (ha pos pins s σ H _ I h) fun us s1 ⟨vs,H1,I1,r1,q1⟩=>hc pins s1 σ H1 vs us Q I1 r1 q1) he hpl
end
end L2
namespace HT
open PySem PyProof.Rows
section
open PySem.SeqAt
open PySem.AutoSeq1 (wpAny_loadPart')
open PySem.MeetsSeq PySem.MeetsSeq2 PySem.MeetsSeq3
end
section
variable {prog:Program}{w:World}{A:Around}{E:Value->Shared->Prop}{s:Shared}
theorem cat_tup {t b:Addr}{vs ws:List Value}{Q:Value->Shared->Prop}(ht:IsTup s.heap t vs.toArray)(hb:IsTup s.heap b ws.toArray)(hv:vs≠[])
  (h1:ws=[]->Q (.ref t) s)(h2:ws≠[]->Q (.ref s.heap.objs.size) { s with heap:=s.heap.push { cls:=.type "tuple",data:=.seq (vs++ws).toArray } })
  (hsz:vs.length+ws.length<=sizeLine):wpAny (model prog w) A (binaryOp .Add (.ref t) (.ref b)) Q E s:=by
 obtain⟨⟨cls,dd,data,sl⟩,ho,hc,n,hd⟩:=id ht;obtain⟨⟨cls2,dd2,data2,sl2⟩,ho2,hc2,n2,hd2⟩:=id hb;simp only at hc hd hc2 hd2;subst hc hd hc2 hd2;have e:vs.toArray++ws.toArray=(vs++ws).toArray:=by simp
 by_cases hw:ws=[]
 .exact concat_meets ⟨_,ho,rfl⟩ ⟨_,ho2,rfl⟩ noFill_tuple_add seq_tuple_add PySem.F.slot_tuple_add PySem.F.entry_tuple_add (PySem.F.args_tuple_add_2 _ _)
   (tuple_addW1 t b vs.toArray ws.toArray n n2 dd dd2 sl sl2 (by simpa using hv) (by simp [hw])) ⟨ho,ho2,h1 hw⟩
 .refine concat_meets ⟨_,ho,rfl⟩ ⟨_,ho2,rfl⟩ noFill_tuple_add seq_tuple_add PySem.F.slot_tuple_add PySem.F.entry_tuple_add (PySem.F.args_tuple_add_2 _ _)
   (tuple_addW2 t b vs.toArray ws.toArray n n2 dd dd2 sl sl2 (by simpa using hv) (by simpa using hw) (by rw[sao,sao];exact hsz)) ⟨ho,ho2,?_⟩
  rw[e];exact h2 hw
noncomputable def sIx (n d:Nat):Option Int->Nat
 | none=>d
 | some v=>if v < 0 then(v+(n:Int)).toNat else min v.toNat n
theorem sIx_none (n d:Nat):sIx n d none=d:=rfl
theorem sIx_nat (n d k:Nat):sIx n d (some (k:Int))=min k n:=by
 show(if(k:Int) < 0 then((k:Int)+(n:Int)).toNat else min (k:Int).toNat n)=min k n;rw[if_neg (by omega),scY]
theorem zDB (n d:Nat)(hd:d<=n)(o:Option Int):sIx n d o<=n:=by
 cases o with
 | none=>exact hd
 | some v =>
  show(if v < 0 then(v+(n:Int)).toNat else min v.toNat n)<=n
  by_cases hv:v < 0
  .rw[if_pos hv];omega
  .rw[if_neg hv];exact Nat.min_le_right _ _
theorem zx6 (v:Int)(n d:Nat):(if v < 0 then max (v+(n:Int)) 0 else min v (n:Int))=((sIx n d (some v):Nat):Int):=by
 show(if v < 0 then max (v+(n:Int)) 0 else min v (n:Int))=(((if v < 0 then(v+(n:Int)).toNat else min v.toNat n):Nat):Int)
 by_cases hv:v < 0
 .simp only[if_pos hv];omega
 .simp only[if_neg hv];omega
theorem zvj (lo hi:Option Int)(n:Nat):scv lo hi 1 (n:Int)=(((sIx n 0 lo:Nat):Int),((sIx n n hi:Nat):Int)):=by
 have h1:¬ ((1:Int) < 0):=by omega
 unfold scv;simp only[h1,if_false];refine Prod.ext ?_ ?_
 .cases lo with
  | none=>rfl
  | some v=>exact zx6 v n 0
 .cases hi with
  | none=>rfl
  | some v=>exact zx6 v n n
theorem zuB (i j:Nat):sbR (i:Int) (j:Int) 1=j-i:=by
 unfold sbR;have h1:(1:Int) > 0:=by omega
 simp only[h1,if_true,Int.ediv_one];split<;>omega
theorem znC {v:Value}{o:Option Int}{Q:Option Int->Shared->Prop}(p:IsPart v o)(h:Q o s):wpAny (model prog w) A (Builtin.Slice.slicePartIndex v) Q E s:=by
 cases p with
 | none=>exact slicePart_none h
 | int i t=>exact slicePart_int h
theorem zkE {sl:Addr}{vl vu:Value}{lo hi:Option Int}{n:Nat}{Q:Int×Int×Nat->Shared->Prop}(hs:s.heap.IsSliceOf sl vl vu .none)(pl:IsPart vl lo)(pu:IsPart vu hi)
  (h:Q (((sIx n 0 lo:Nat):Int),1,sIx n n hi-sIx n 0 lo) s):wpAny (model prog w) A (Builtin.Slice.sliceApplied (.ref sl) (pure (n:Int))) Q E s:=by
 obtain⟨os,hos,hcs,hds⟩:=id hs;unfold Builtin.Slice.sliceApplied Builtin.Slice.sliceFields;refine sad (sad (wpAny_field hos hds (x:=vl) rfl (sad (wpAny_field hos hds (x:=vu) rfl (sad (wpAny_field hos hds (x:=.none) rfl (saB ?_)))))));refine sad (slicePart_none ?_);show wpAny _ _ (if((1:Int)==0)=true then _ else _) _ _ s;rw[if_neg (by decide)];refine sad (znC pl (sad (znC pu (sad (saB ?_)))));show wpAny _ _ (match scv lo hi 1 (n:Int) with | (lo,hi)=>pure (lo,(1:Int),sbR lo hi 1)) _ _ s;rw[zvj lo hi n];show wpAny _ _ (pure (((sIx n 0 lo:Nat):Int),(1:Int),sbR ((sIx n 0 lo:Nat):Int) ((sIx n n hi:Nat):Int) 1)) _ _ s;rw[zuB];exact saB h
theorem zy7 (xs:Array Value)(i k:Nat):((sbr k).filterMap fun(m:Nat)=>xs[((i:Int)+(m:Int)*1).toNat]?).toArray=((xs.toList.drop i).take k).toArray:=by
 have e:(fun(m:Nat)=>xs[((i:Int)+(m:Int)*1).toNat]?)=fun m=>xs[i+m]?:=by
  funext m;have:((i:Int)+(m:Int)*1).toNat=i+m:=by omega
  rw[this]
 rw[e];have:=pick_run xs i k;rw[List.filterMap_map] at this;have e2:((fun x=>xs[x]?)∘fun x=>i+x)=fun m=>xs[i+m]?:=rfl;rw[e2] at this;rw[this]
theorem getItem_tuple_cut {t sl:Addr}{items:Array Value}{vl vu:Value}{lo hi:Option Int}{Q:Value->Shared->Prop}(ht:IsTup s.heap t items)(hs:s.heap.IsSliceOf sl vl vu .none)(pl:IsPart vl lo)(pu:IsPart vu hi)
  (hw:¬ (sIx items.size 0 lo=0/\sIx items.size items.size hi=items.size))
  (h:Q (.ref s.heap.objs.size) { s with heap:=s.heap.push { cls:=.type "tuple",data:=.seq ((items.toList.drop (sIx items.size 0 lo)).take (sIx items.size items.size hi-sIx items.size 0 lo)).toArray } })
  (hsz:items.size<=sizeLine):wpAny (model prog w) A (getItem (.ref t) (.ref sl)) Q E s:=by
 have htake:sizeOk (.seq ((items.toList.drop (sIx items.size 0 lo)).take (sIx items.size items.size hi-sIx items.size 0 lo)).toArray):=by
  show((items.toList.drop (sIx items.size 0 lo)).take (sIx items.size items.size hi-sIx items.size 0 lo)).toArray.size<=sizeLine;rw[sao,saQ,sc4,scO];omega
 have hj:sIx items.size items.size hi<=items.size:=zDB _ _ (saq _) hi;obtain⟨os,hos,hcs,hds⟩:=id hs;have hTs:s.TypeIs (.ref sl) "slice":=⟨os,hos,hcs⟩
 unfold getItem
 try with_reducible refine sbl ?_
 first | refine sad (saB ?_) | skip
 refine sad (wpAny_sequenceKey ht.typeIs (by decide) ?_);refine sad (wpAny_callSpecial?_slot (name:=Str.ofString "__getitem__") ht.typeIs scc
  (wpAny_call_entry scc ht.typeIs entry_tuple_getitem ?_ (args_tuple_getitem _ _)))
 show wpAny _ _ (Builtin.Tuple.tupleItemsOf (.ref t) >>= _) _ _ s;refine sad (tupleItemsOf_ ht ?_);refine sad (wpAny_typeOf hTs ?_);rw[if_pos (by decide)];refine sad (zkE hs pl pu ?_);have hno:¬ ((((sIx items.size 0 lo:Nat):Int)==0&&(1:Int)==1&&(sIx items.size items.size hi-sIx items.size 0 lo)==items.size)=true):=by
  intro q;rw[saA,saA] at q;have q1:((sIx items.size 0 lo:Nat):Int)=0:=eq_of_beq q.1.1;have q2:sIx items.size items.size hi-sIx items.size 0 lo=items.size:=eq_of_beq q.2;exact hw ⟨by omega,by omega⟩
 show wpAny _ _ (if(((sIx items.size 0 lo:Nat):Int)==0&&(1:Int)==1&&(sIx items.size items.size hi-sIx items.size 0 lo)==items.size)=true then _ else _) _ _ s;rw[if_neg hno,zy7]
 first
  | exact sad (m:=sb2 _) (wpAny_newObj_type (saB ⟨_,rfl,saB h⟩) htake)
  | exact sad (m:=sb2 _) (wpAny_newObj_type (sad (saB (saB ⟨_,rfl,saB h⟩))) htake)
  | exact sad (sad (m:=sb2 _) (wpAny_newObj_type (saB (saB ⟨_,rfl,saB h⟩)) htake))
  | exact sad (sad (m:=sb2 _) (wpAny_newObj_type (saB ⟨_,rfl,saB h⟩) htake))
end
end HT
namespace L2
open PySem PySem.Spec PyProof.Rows
abbrev TO:=St->Hp->(Option Int->Hp->Prop)->Prop
noncomputable def PO (X:Cx) (e:Option Expr) (t:TO):Prop :=
 ∀ (pins:List (Addr×Obj)) (s:Shared) (σ:St) (H:Hp) (Q:Option Int->Hp->Prop),Inv X pins σ H s->t σ H Q ->
  wpAny (model X.prog X.w) X.A (evalPart e X.env) (fun u s'=>∃ o H',Inv X pins σ H' s'/\IsPart u o/\Q o H') X.xe s
def zBy:TO:=fun _ H Q=>Q none H
def zFN (t:TE):TO:=fun σ H Q=>t σ H fun x H1=>∃ i,x=.int i/\Q (some i) H1
section
variable {X:Cx}{e:Expr}{te:TE}{lo hi:Option Expr}{tl th:TO}{pos p2:Pos}
theorem zBJ:PO X none zBy:=by
 intro pins s σ H Q I h;rw[evalPart_none];exact saB ⟨none,H,I,.none,h⟩
theorem zBI (h:PE X e te):PO X (some e) (zFN te):=by
 intro pins s σ H Q I hw;rw[evalPart_some];refine thn (h pins s σ H _ I hw) fun u s1 ⟨x,H1,I1,r1,q1⟩=>?_;obtain⟨i,rfl,q⟩:=q1;obtain⟨t,rfl⟩:=r1;exact⟨some i,H1,I1,.int i t,q⟩
noncomputable def SlR (X:Cx) (r:V->Option Int->Option Int->Hp->VK->Prop):Prop :=
 ∀ (pins:List (Addr×Obj)) (s:Shared) (σ:St) (H:Hp) (x:V) (v vl vu:Value) (lo hi:Option Int) (sl:Addr) (Q:VK),Inv X pins σ H s->zcb x v->s.heap.IsSliceOf sl vl vu .none->IsPart vl lo->IsPart vu hi->r x lo hi H Q ->
  ∃ T id,typeLookup (.type T) "__getitem__"=pure (some (.builtin id))/\s.TypeIs v T/\wpAny (model X.prog X.w) X.A (getItem v (.ref sl)) (EP X pins σ Q) X.xe s
theorem SlR.or {r r':V->Option Int->Option Int->Hp->VK->Prop}(h:SlR X r)(h':SlR X r'):SlR X (fun x lo hi H Q=>r x lo hi H Q∨r' x lo hi H Q):=by
 intro pins s σ H x v vl vu lo hi sl Q I rx hs pl pu q;rcases q with q | q
 .exact h pins s σ H x v vl vu lo hi sl Q I rx hs pl pu q
 .exact h' pins s σ H x v vl vu lo hi sl Q I rx hs pl pu q
noncomputable def tSl (r:V->Option Int->Option Int->Hp->VK->Prop) (te:TE) (tl th:TO):TE:=fun σ H Q=>te σ H fun x H1=>tl σ H1 fun l H2=>th σ H2 fun u H3=>r x l u H3 Q
theorem ztq {r:V->Option Int->Option Int->Hp->VK->Prop}(hr:SlR X r)(he:PE X e te)(hl:PO X lo tl)(hu:PO X hi th):PE X (.Subscript e (.Slice lo hi none p2) pos) (tSl r te tl th):=by
 intro pins s σ H Q I h;refine Subscript_ (thn (he pins s σ H _ I h) fun v s1 ⟨x,H1,I1,r1,q1⟩=>?_);refine wpAny_Slice (thn (hl pins s1 σ H1 _ I1 q1) fun vl s2 ⟨l,H2,I2,pl,q2⟩=>thn (hu pins s2 σ H2 _ I2 q2) fun vu s3 ⟨u,H3,I3,pu,q3⟩=>?_);rw[evalPart_none];refine saB ?_;have I4:Inv X pins σ H3 { s3 with heap:=s3.heap.push { cls:=.type "slice",data:=.fields #[vl,vu,.none] } }:=I3.kept (t':=s3.toks) fun b ob q=>saf _ q;obtain⟨T,id,hT,ht,hg⟩:=hr pins { s3 with heap:=s3.heap.push { cls:=.type "slice",data:=.fields #[vl,vu,.none] } } σ H3 x v vl vu l u s3.heap.objs.size Q I4 r1 (Heap.IsSliceOf.new ..) pl pu q3;show wpAny (model X.prog X.w) X.A (subscriptTail e (.Slice lo hi none p2) v (.ref s3.heap.objs.size)) (EP X pins σ Q) X.xe { s3 with heap:=s3.heap.push { cls:=.type "slice",data:=.fields #[vl,vu,.none] } };exact tail_any (ops:=[.ref s3.heap.objs.size,v]) ht hT hg (by with_unfolding_all rfl)
noncomputable def zAZ (xs:List V) (lo hi:Option Int):List V:=(xs.drop (HT.sIx xs.length 0 lo)).take (HT.sIx xs.length xs.length hi-HT.sIx xs.length 0 lo)
theorem zmY (xs:List V)(lo hi:Option Int):(zAZ xs lo hi).length<=xs.length:=by
 unfold zAZ;rw[saQ,sc4];omega
noncomputable def zHC (K:sab):V->Option Int->Option Int->Hp->VK->Prop:=fun x lo hi H Q=>∃ a xs,x=.ref a/\SqT K H a xs /\
 ¬ (HT.sIx xs.length 0 lo=0/\HT.sIx xs.length xs.length hi=xs.length)/\∀ p,H p=none->Q (.ref p) (upd H p (.tup (zAZ xs lo hi)))
theorem zDs:SlR X (zHC X.K):=by
 intro pins s σ H x v vl vu lo hi sl Q I rx hs pl pu h;obtain⟨a,xs,rfl,hx,hw,q⟩:=h;cases rx;obtain⟨its,r,ht,hz⟩:=I.tuple hx;have hlen:its.toArray.size=xs.length:=by rw[sao];exact r.length.symm
 refine⟨"tuple",_,scc.lookup,ht.typeIs,?_⟩;refine HT.getItem_tuple_cut ht hs pl pu (by rw[hlen];exact hw) ?_ (by rw[hlen];exact hz);rw[hlen];refine⟨.ref s.heap.objs.size,_,I.laid (t':=s.toks) (o:=.tup (zAZ xs lo hi)) (fun b ob q=>saf _ q) (saq _) ?_,rfl,q _ (I.hok.fresh (saq _))⟩;exact⟨sat (zmY xs lo hi) hz,_,(r.drop (HT.sIx xs.length 0 lo)).take (HT.sIx xs.length xs.length hi-HT.sIx xs.length 0 lo),IsTup.new _ _⟩
noncomputable def zF5 (K:sab):R2:=fun x y H Q=>∃ a b xs ys,x=.ref a/\y=.ref b/\SqT K H a xs/\SqT K H b ys/\xs≠[]/\xs.length+ys.length<=sizeLine /\
 (ys=[]->Q (.ref a) H)/\(ys≠[]->∀ p,H p=none->Q (.ref p) (upd H p (.tup (xs++ys))))
theorem zbT.nil_iff {xs:List V}{us:List Value}(r:zbT xs us):us=[]↔xs=[]:=by
 cases r with
 | nil=>simp
 | cons _ _=>simp
theorem zwf:OpR X (binaryOp .Add) (zF5 X.K):=by
 intro pins s σ H x y v u Q I rx ry h;obtain⟨a,b,xs,ys,rfl,rfl,ha,hb,hx,hz,q1,q2⟩:=h;cases rx;cases ry;obtain⟨its,r1,p1,_⟩:=I.tuple ha;obtain⟨its2,r2,p2,_⟩:=I.tuple hb;refine HT.cat_tup p1 p2 (fun z=>hx (r1.nil_iff.mp z)) (fun z=>⟨.ref a,H,I,rfl,q1 (r2.nil_iff.mp z)⟩) (fun z=>?_) (by rw[← r1.length,← r2.length];exact hz);refine⟨.ref s.heap.objs.size,_,I.laid (t':=s.toks) (o:=.tup (xs++ys)) (fun b ob q=>saf _ q) (saq _) ?_,rfl,q2 (fun w=>z (r2.nil_iff.mpr w)) _ (I.hok.fresh (saq _))⟩;exact⟨by rw[saR];exact hz,_,r1.append r2,IsTup.new _ _⟩
end
noncomputable def ixN (n:Nat) (i:Int):Option Nat:=if 0<=i then(if i < n then some i.toNat else none) else if -(n:Int)<=i then some (i+n).toNat else none
def atI {α:Type}(xs:List α)(i:Int):Option α:=(ixN xs.length i).bind fun j=>xs[j]?
theorem zwG {n:Nat}{i:Int}{j:Nat}(h:ixN n i=some j):seqIndex? i n=some j/\j < n/\-(n:Int)<=i/\i < n:=by
 unfold ixN at h
 by_cases h0:0<=i
 .rw[if_pos h0] at h
  by_cases h1:i < n
  .rw[if_pos h1] at h
   have e:i.toNat=j:=saS h;exact⟨by rw[seqIndex_of h0 h1,e],by omega,by omega,h1⟩
  .rw[if_neg h1] at h;cases h
 .rw[if_neg h0] at h
  by_cases h1:-(n:Int)<=i
  .rw[if_pos h1] at h
   have e:(i+n).toNat=j:=saS h;exact⟨by rw[seqIndex_neg (by omega) h1,e],by omega,h1,by omega⟩
  .rw[if_neg h1] at h;cases h
theorem zs0 {α:Type}{xs:List α}{i:Int}{v:α}(h:atI xs i=some v):∃ j,seqIndex? i xs.length=some j/\xs[j]?=some v/\j < xs.length/\-(xs.length:Int)<=i/\i < xs.length:=by
 unfold atI at h;cases e:ixN xs.length i with
 | none=>rw[e] at h;cases h
 | some j =>
  rw[e] at h;obtain⟨h1,h2,h3,h4⟩:=zwG e;exact⟨j,h1,h,h2,h3,h4⟩
theorem zby {α:Type}{xs:List α}{j:Nat}{v:α}(h:xs[j]?=some v):atI xs (j:Int)=some v:=by
 have hj:j < xs.length:=(sac.mp h).1;have e:ixN xs.length (j:Int)=some j:=by
  unfold ixN;rw[if_pos (by omega),if_pos (by omega)];simp
 unfold atI;rw[e];exact h
def znm (b:Expr):Prop:=∀ o i,subscripted b false o i=operate [o,i] (getItem o i)
noncomputable def IxR (X:Cx) (r:R2):Prop :=
 ∀ (value slice:Expr) (pins:List (Addr×Obj)) (s:Shared) (σ:St) (H:Hp) (x y:V) (v u:Value) (Q:VK),Inv X pins σ H s->zcb x v->zcb y u->r x y H Q ->
  subscripted slice false v u=operate [v,u] (getItem v u)->wpAny (model X.prog X.w) X.A (subscriptTail value slice v u) (EP X pins σ Q) X.xe s
noncomputable def MtR (X:Cx) (id:String) (r:V->List V->Hp->VK->Prop):Prop :=
 ∀ (pins:List (Addr×Obj)) (s:Shared) (σ:St) (H:Hp) (x:V) (xs:List V) (v:Value) (us:List Value) (Q:VK),Inv X pins σ H s->zcb x v->zbT xs us->r x xs H Q ->
  wpAny (model X.prog X.w) X.A (call (.builtin id) (v::us)) (EP X pins σ Q) X.xe s
section
variable {X:Cx}{a b:Expr}{ta tb:TE}{pos:Pos}
theorem IxR.or {r r':R2}(h:IxR X r)(h':IxR X r'):IxR X (fun x y H Q=>r x y H Q∨r' x y H Q):=by
 intro value slice pins s σ H x y v u Q I rx ry q hs;rcases q with q | q
 .exact h value slice pins s σ H x y v u Q I rx ry q hs
 .exact h' value slice pins s σ H x y v u Q I rx ry q hs
theorem zD6 {r:R2}(hr:IxR X r)(ha:PE X a ta)(hb:PE X b tb)(hs:znm b):PE X (.Subscript a b pos) (tOp r ta tb):=by
 intro pins s σ H Q I h;exact Subscript_ (zGG ha hb I h fun v u s2 x y H2 I2 rx ry q=>hr a b pins s2 σ H2 x y v u Q I2 rx ry q (hs _ _))
noncomputable def zGV (K:sab):R2:=fun x y H Q=>∃ p xs i v,x=.ref p/\y=.int i/\SqL K H p xs/\atI xs i=some v/\Q v H
noncomputable def zGT (K:sab):R2:=fun x y H Q=>∃ p xs i v,x=.ref p/\y=.int i/\SqT K H p xs/\atI xs i=some v/\Q v H
noncomputable def zGU:R2:=fun x y H Q=>∃ z i c,x=.str z/\y=.int i/\z.length<=sizeLine/\atI z.cps.toList i=some c/\Q (.str ⟨#[c]⟩) H
theorem zCe:IxR X (zGV X.K):=by
 intro value slice pins s σ H x y v u Q I rx ry h hs;obtain⟨p,xs,i,z,rfl,rfl,hq,he,q⟩:=h;cases rx;obtain⟨t,rfl⟩:=ry;obtain⟨its,r,pl,hz⟩:=I.list hq;obtain⟨j,h1,h2,h3,h4,h5⟩:=zs0 he;obtain⟨w,ew,rw'⟩:=r.get h2;have hl:=r.length;have hn:=znN;have fin:EP X pins σ Q w s:=⟨z,H,I,rw',q⟩
 by_cases h0:0<=i
 .have hj:i.toNat=j:=by
   rw[seqIndex_of h0 h5] at h1;exact saS h1
  exact item_listR pl.isList h0 (by omega) (by rw[hj];simpa using ew) fin hs
 .have hj:(i+(its.toArray.size:Int)).toNat=j:=by
   rw[seqIndex_neg (by omega) h4] at h1;rw[sao,← hl];exact saS h1
  exact subscriptTail_builtinR (x:=w) pl.isList.typeIs slot_list_getitem.lookup
   (wpAny_getItem_list_neg (Q:=fun r s'=>r=w/\EP X pins σ Q r s') pl.isList (by omega) (by rw[sao]<;>omega) (by omega) (by rw[hj];simpa using ew) ⟨rfl,fin⟩) hs
theorem zEw:IxR X (zGT X.K):=by
 intro value slice pins s σ H x y v u Q I rx ry h hs;obtain⟨p,xs,i,z,rfl,rfl,hq,he,q⟩:=h;cases rx;obtain⟨t,rfl⟩:=ry;obtain⟨its,r,pl,hz⟩:=I.tuple hq;obtain⟨j,h1,h2,h3,h4,h5⟩:=zs0 he;obtain⟨w,ew,rw'⟩:=r.get h2;have hl:=r.length;have hn:=znN;have fin:EP X pins σ Q w s:=⟨z,H,I,rw',q⟩
 exact subscriptTail_builtinR (x:=w) pl.typeIs slot_tuple_getitem.lookup
  (getItem_tuple (j:=j) (Q:=fun r s'=>r=w/\EP X pins σ Q r s') pl (by omega) (by omega) (by rw[sao,← hl];exact h1) (by simpa using ew) ⟨rfl,fin⟩) hs
theorem zEx:IxR X zGU:=by
 intro value slice pins s σ H x y v u Q I rx ry h hs;obtain⟨z,i,c,rfl,rfl,hz,he,q⟩:=h;obtain⟨t,rfl⟩:=rx;obtain⟨t',rfl⟩:=ry;obtain⟨j,h1,h2,h3,h4,h5⟩:=zs0 he;have hl:z.cps.toList.length=z.length:=by simp [Str.length]
 rw[hl] at h1 h4 h5;have hn:=znN;exact tail_any (typeIs_str s z t) slot_str_getitem.lookup (getItem_str (c:=c) (by
  have e1:decide (i < -(2 ^ 63:Int))=false:=decide_eq_false (by omega);have e2:decide (i≥2 ^ 63)=false:=decide_eq_false (by omega);rw[e1,e2,Bool.or_false]) (by rw[h1];simpa using h2) ⟨.str ⟨#[c]⟩,H,I.tok _,⟨_,rfl⟩,q⟩) hs
def rIx (K:sab):R2:=fun x y H Q=>zGV K x y H Q∨zGT K x y H Q∨zGU x y H Q
theorem zAB:IxR X (rIx X.K):=zCe.or (zEw.or zEx)
theorem zuJ (its:List Value)(n j:Nat)(u:Value):scX (·.setIfInBounds j u) { cls:=.type "list",data:=.seq its.toArray n }={ cls:=.type "list",data:=.seq (its.set j u).toArray n }:=by
 simp [scX]
theorem Inv.lst {pins:List (Addr×Obj)}{σ:St}{H:Hp}{s:Shared}{p:Addr}{xs:List V}(I:Inv X pins σ H s)(h:H p=some (.lst xs)) :
  ∃ (its:List Value) (n:Nat),zbT xs its/\s.heap.get? p=some { cls:=.type "list",data:=.seq its.toArray n }/\xs.length<=sizeLine:=by
 obtain⟨z,its,n,r,e⟩:=I.hok p _ h;exact⟨its,n,r,e,z⟩
theorem Inv.lstUpd {pins:List (Addr×Obj)}{σ:St}{H:Hp}{s:Shared}{p:Addr}{xs ys:List V}{its its':List Value}{n n':Nat}{f:Obj->Obj}(I:Inv X pins σ H s)(h:H p=some (.lst xs))
  (ho:s.heap.get? p=some { cls:=.type "list",data:=.seq its.toArray n })(hf:f { cls:=.type "list",data:=.seq its.toArray n }={ cls:=.type "list",data:=.seq its'.toArray n' })(r:zbT ys its')(hz:ys.length<=sizeLine)(t:Nat) :
  Inv X pins σ (upd H p (.lst ys)) { s with heap:=s.heap.update p f,toks:=t }:=by
 have e:(s.heap.update p f).get? p=some { cls:=.type "list",data:=.seq its'.toArray n' }:=by
  rw[sbn f ho (by rw[hf]<;>rfl),hf]
 refine I.write (x:=p) (e:=p) (by rw[h];trivial) (.inl rfl) (fun b u hb q=>(sbf _ _ (saT hb)).trans q) ⟨_,e⟩ ?_;exact⟨hz,its',n',r,e⟩
noncomputable def zDJ:V->V->V->Hp->(Hp->Prop)->Prop:=fun o i v H Q=>∃ p xs k j,o=.ref p/\i=.int k/\H p=some (.lst xs)/\ixN xs.length k=some j/\Q (upd H p (.lst (xs.set j v)))
theorem zte:zHj X zDJ:=by
 intro pins s σ H o i v ov iv u Q I ro ri rv h;obtain⟨p,xs,k,j,rfl,rfl,hp,hj,q⟩:=h;cases ro;obtain⟨t,rfl⟩:=ri;obtain⟨its,n,r,ho,hz⟩:=I.lst hp;obtain⟨h1,h2,h3,h4⟩:=zwG hj;have hl:=r.length;have hn:=znN;have I':Inv X pins σ (upd H p (.lst (xs.set j v))) { s with heap:=s.heap.update p (scX (·.setIfInBounds j u)) } :=
  I.lstUpd hp ho (zuJ its n j u) (r.set rv j) (by rw[List.length_set];exact hz) s.toks
 by_cases h0:0<=k
 .have hk:k.toNat=j:=by
   rw[seqIndex_of h0 h4] at h1;exact saS h1
  exact W.ki_setAt ho h0 (by omega) (by rw[sao,← hl];exact h4) (by rw[hk];exact⟨_,I',q⟩)
 .have hk:(k+(its.toArray.size:Int)).toNat=j:=by
   rw[seqIndex_neg (by omega) h3] at h1;rw[sao,← hl];exact saS h1
  exact W.ki_setBack ho (by omega) (by rw[sao,← hl];exact h3) (by omega) (by rw[hk];exact⟨_,I',q⟩)
theorem zp1 (lo hi:Option Int)(n:Nat):(sliceBounds lo hi none n).1=((HT.sIx n 0 lo:Nat):Int)/\(sliceBounds lo hi none n).2.1=((HT.sIx n n hi:Nat):Int)/\(sliceBounds lo hi none n).2.2=1:=by
 refine⟨?_,?_,rfl⟩
 .cases lo with
  | none=>simp [sliceBounds,HT.sIx]
  | some i =>
   simp only[sliceBounds,HT.sIx,Option.getD_none,show(1:Int) > 0 by decide,if_true]
   by_cases h:i < 0
   .simp only[h,if_true]<;>omega
   .simp only[h,if_false]<;>omega
 .cases hi with
  | none=>simp [sliceBounds,HT.sIx]
  | some i =>
   simp only[sliceBounds,HT.sIx,Option.getD_none,show(1:Int) > 0 by decide,if_true]
   by_cases h:i < 0
   .simp only[h,if_true]<;>omega
   .simp only[h,if_false]<;>omega
theorem zoz (its:List Value)(lo hi:Option Int):slicePick its.toArray lo hi none=((its.drop (HT.sIx its.length 0 lo)).take (HT.sIx its.length its.length hi-HT.sIx its.length 0 lo)).toArray:=by
 obtain⟨h1,h2,h3⟩:=zp1 lo hi its.toArray.size;unfold slicePick;rw[h1,h2,h3];simp only[sliceRange_one,pick_run,sao]<;>rfl
noncomputable def zHE (K:sab):V->Option Int->Option Int->Hp->VK->Prop:=fun x lo hi H Q=>∃ a xs,x=.ref a/\SqL K H a xs/\∀ p,H p=none->Q (.ref p) (upd H p (.lst (zAZ xs lo hi)))
theorem zvK:SlR X (zHE X.K):=by
 intro pins s σ H x v vl vu lo hi sl Q I rx hs pl pu h;obtain⟨a,xs,rfl,hx,q⟩:=h;cases rx;obtain⟨its,r,ht,hz⟩:=I.list hx;have hlen:=r.length;refine⟨"list",_,slot_list_getitem.lookup,ht.isList.typeIs,?_⟩;refine wpAny_getItem_list_slice ht.isList hs pl pu .none (by simp) ?_ (by rw[sao]<;>omega);rw[zoz,← hlen];refine⟨.ref s.heap.objs.size,_,I.laid (t':=s.toks) (o:=.lst (zAZ xs lo hi)) (fun b ob q=>saf _ q) (saq _) ?_,rfl,q _ (I.hok.fresh (saq _))⟩;exact⟨sat (zmY xs lo hi) hz,_,0,(r.drop (HT.sIx xs.length 0 lo)).take (HT.sIx xs.length xs.length hi-HT.sIx xs.length 0 lo),saX _ rfl⟩
theorem zqd:OpR X (compareOp .NotIn) (fun x y H Q=>∃ i j,x=.str i/\y=.str j/\Q (.bl (!(!(sbH j i 0 j.length 1).isEmpty))) H):=by
 intro pins s σ H x y v u Q I rx ry h;obtain⟨i,j,rfl,rfl,q⟩:=h;obtain⟨t,rfl⟩:=rx;obtain⟨t',rfl⟩:=ry;exact notIn_str ⟨.bl _,H,I,rfl,q⟩
theorem zrH:zhG X (.type "list") (fun xs H Q=>∃ p ys,xs=[.ref p]/\(SqL X.K H p ys∨SqT X.K H p ys)/\∀ l,H l=none->Q (.ref l) (upd H l (.lst ys))):=by
 intro pins s σ H xs us Q I r h;obtain⟨p,ys,rfl,hq,q⟩:=h;obtain⟨u,rfl,rx⟩:=zot r;cases rx;have fin:∀ (its:List Value),zbT ys its->ys.length<=sizeLine->∀ (h':Heap) (c':Nat),(∀ b o',s.heap.get? b=some o'->h'.get? b=some o') ->
   h'.get? s.heap.objs.size=some { cls:=.type "list",dict:=none,data:=.seq its.toArray c',slots:=#[] }->EP X pins σ Q (.ref s.heap.objs.size) { s with heap:=h' }:=fun its r' hz h' c' kp e =>
  ⟨.ref s.heap.objs.size,_,I.laid (t':=s.toks) kp (saq _) (show zcp X.prog X.w _ h' _ (.lst ys) from⟨hz,its,c',r',e⟩),rfl,q _ (I.hok.fresh (saq _))⟩
 rcases hq with hq | hq
 .obtain⟨its,r',pl,hz⟩:=I.list hq
  have hlen:=r'.length;obtain⟨o,ho,hc,n,hd⟩:=pl.isList;exact call_list_seq p (.inl rfl) ho hc hd (fun h' c' kp e=>fin its r' hz h' c' kp e) (by simp only[sao]<;>omega)
 .obtain⟨its,r',pl,hz⟩:=I.tuple hq
  have hlen:=r'.length;obtain⟨o,ho,hc,n,hd⟩:=pl;exact call_list_seq p (.inr rfl) ho hc hd (fun h' c' kp e=>fin its r' hz h' c' kp e) (by simp only[sao]<;>omega)
theorem zpr:zhG X (.type "tuple") (fun xs H Q=>∃ p ys,xs=[.ref p]/\((SqL X.K H p ys/\∀ l,H l=none->Q (.ref l) (upd H l (.tup ys)))∨(SqT X.K H p ys/\Q (.ref p) H))):=by
 intro pins s σ H xs us Q I r h;obtain⟨p,ys,rfl,h⟩:=h;obtain⟨u,rfl,rx⟩:=zot r;cases rx;rcases h with⟨hq,q⟩ | ⟨hq,q⟩
 .obtain⟨its,r',pl,hz⟩:=I.list hq
  have hlen:=r'.length;refine call_tuple_list pl.isList (fun h' kp=>?_) (by simp only[sao]<;>omega);have I1:Inv X pins σ H { s with heap:=h' }:=I.kept (t':=s.toks) kp;have I2:Inv X pins σ (upd H h'.objs.size (.tup ys)) { s with heap:=h'.push { cls:=.type "tuple",data:=.seq its.toArray } } :=
   I1.laid (t':=s.toks) (fun b o e=>saf _ e) (saq _) (show zcp X.prog X.w _ _ _ (.tup ys) from⟨hz,its,r',IsTup.new _ _⟩)
  exact⟨.ref h'.objs.size,_,I2,rfl,q _ (I1.hok.fresh (saq _))⟩
 .obtain⟨its,r',pl,hz⟩:=I.tuple hq
  exact call_tuple_same pl ⟨.ref p,H,I,rfl,q⟩
noncomputable def tyV (K:sab) (T:String) (x:V) (H:Hp):Prop:=match x with
 | .str _=>T="str"
 | .int _=>T="int"
 | .ref p=>(T="list"/\∃ xs,SqL K H p xs)∨(T="tuple"/\∃ o,K.lookup p=some o/\o.cls=.type "tuple"/\o.dict=none) ∨
   (T="dict"/\((∃ kvs,H p=some (.dK kvs))∨∃ kvs,H p=some (.dT kvs)))∨(T="set"/\∃ S n,H p=some (.set S n))
 | _=>False
theorem zDd {pins:List (Addr×Obj)}{σ:St}{H:Hp}{s:Shared}{T:String}{x:V}{v:Value}(I:Inv X pins σ H s)(r:zcb x v)(ty:tyV X.K T x H) :
  s.TypeIs v T/\∀ a,v=.ref a->∃ ob,s.heap.get? a=some ob/\ob.dict=none:=by
 cases x with
 | str z =>
  obtain⟨t,rfl⟩:=r;cases (show T="str" from ty);exact⟨typeIs_str s z t,fun _ e=>nomatch e⟩
 | int i =>
  obtain⟨t,rfl⟩:=r;cases (show T="int" from ty);exact⟨typeIs_int s i t,fun _ e=>nomatch e⟩
 | ref p =>
  cases r;rcases ty with⟨rfl,xs,hq⟩ | ⟨rfl,o,hk,hc,hd⟩ | ⟨rfl,hk⟩ | ⟨rfl,S,n,hk⟩
  .obtain⟨its,_,pl,_⟩:=I.list hq
   refine⟨pl.isList.typeIs,fun a e=>?_⟩;cases e;obtain⟨o,n,e,c,hd,_⟩:=pl;exact⟨o,e,hd⟩
  .refine⟨⟨o,I.kIn p o hk,hc⟩,fun a e=>?_⟩
   cases e;exact⟨o,I.kIn _ o hk,hd⟩
  .have z:∃ o,s.heap.get? p=some o/\o.ExactDict:=by
    rcases hk with⟨kvs,hk⟩ | ⟨kvs,hk⟩
    .obtain⟨_,_,_,_,o,_,_,e,ex,_⟩:=I.hok p _ hk
     exact⟨o,e,ex⟩
    .obtain⟨_,_,_,_,o,_,_,e,ex,_⟩:=I.hok p _ hk
     exact⟨o,e,ex⟩
   obtain⟨o,e,ex⟩:=z;refine⟨⟨o,e,ex.1⟩,fun a e2=>?_⟩;cases e2;exact⟨o,e,ex.2.1⟩
  .obtain⟨o,_,_,_,e,ex,_⟩:=I.hok p _ hk
   refine⟨⟨o,e,ex.1⟩,fun a e2=>?_⟩;cases e2;exact⟨o,e,ex.2.1⟩
 | _=>exact sbb ty
noncomputable def tBM (K:sab) (T:String) (r:V->List V->Hp->VK->Prop) (to:TE) (t:TA):TE:=fun σ H Q=>to σ H fun x H1=>tyV K T x H1/\t σ H1 fun xs H2=>r x xs H2 Q
variable {o e:Expr}{es:List Expr}{to:TE}{t:TA}{name:Str}{apos cpos:Pos}{T id:String}{r:V->List V->Hp->VK->Prop}
theorem zBS (pa:PlainAttrs T)(slot:Slot T name id)(hty:typeOf (.builtin id)=pure (.type "method_descriptor"))(hm:MtR X id r)(ho:PE X o to)(ha:PA X (e::es) t)
  (hbase:attributeBase o name X.env (eval o X.env)=eval o X.env:=by rfl)
  (hfew:((backTo cpos (starEach (e::es) X.env)).all (fun x=>!x.1)&&(backToKw cpos (keywordEach [] X.env)).all (fun x=>x.1.isSome)
  &&decide ((e::es).length+([]:List Keyword).length+(if([]:List Keyword).isEmpty then 0 else 1) < 30))=true:=by rfl)
  (hline:(apos.endLine==cpos.line)=true:=by rfl) (hs:starEach (e::es) X.env=(false,eval e X.env)::starEach es X.env:=by rfl) (hplain:(backTo cpos (starEach es X.env)).any (·.1)=false:=by rfl) :
  PE X (.Call (.Attribute o name apos) (e::es) [] cpos) (tBM X.K T r to t):=by
 intro pins s σ H Q I h;refine wpAny_Call_method_late hbase hfew hline rfl (thn (ho pins s σ H _ I h) fun v s1 ⟨x,H1,I1,r1,ty,q1⟩=>?_);obtain⟨h1,h2⟩:=zDd I1 r1 ty;refine⟨T,id,pa,slot,hty,h1,h2,?_⟩;have hA:=ha cpos pins s1 σ H1 _ I1 q1;rw[hs] at hA ⊢;refine Calls.callWith_builtin (by show(false||(backTo cpos (starEach es X.env)).any (·.1))=false;rw[hplain]<;>rfl) (scJ ?_);exact thn hA fun us s2 ⟨vs,H2,I2,r2,q2⟩=>hm pins s2 σ H2 x vs v us Q I2 r1 r2 q2
end
noncomputable def MtM (X:Cx) (id:String) (r:V->List V->Hp->VK->Prop):Prop :=
 ∀ (pins:List (Addr×Obj)) (s:Shared) (σ:St) (H:Hp) (x:V) (xs:List V) (v:Value) (us:List Value) (Q:VK),Inv X pins σ H s->zcb x v->zbT xs us->r x xs H Q ->
  wpAny (model X.prog X.w) X.A (call (.builtin id) (v::us)) (EP X pins σ Q) X.xe s
theorem zbT.one:∀ {x:V}{us:List Value},zbT [x] us->∃ u,us=[u]/\zcb x u
 | _,_,.cons r .nil=>⟨_,rfl,r⟩
theorem zbT.dropLast {xs:List V}{us:List Value}(h:zbT xs us):zbT xs.dropLast us.dropLast:=by
 induction h with
 | nil=>exact .nil
 | cons r t ih =>
  cases t with
  | nil=>exact .nil
  | cons q t'=>exact .cons r ih
theorem zbT.rep {xs:List V}{us:List Value}(h:zbT xs us):∀ k:Nat,zbT (saj k xs).flatten (saj k us).flatten
 | 0=>.nil
 | k+1=>by
  rw[saO,saO,sbD,sbD];exact zbT.append h (zbT.rep h k)
theorem zCZ {α:Type}(l:List α):l.eraseIdx (l.length-1)=l.dropLast:=by
 induction l with
 | nil=>rfl
 | cons a r ih =>
  cases r with
  | nil=>rfl
  | cons b r =>
   have e:(a::b::r).length-1=((b::r).length-1)+1:=by
    have h1:(a::b::r).length=r.length+2:=rfl;have h2:(b::r).length=r.length+1:=rfl;omega
   rw[e,List.eraseIdx_cons_succ,ih]
   all_goals rfl
theorem zqB (its:List Value):∀ (k:Nat) (acc:List Value),
  List.foldl (fun x1 x2=>x1++x2) acc.toArray (saj k its.toArray)=(acc++(saj k its).flatten).toArray
 | 0,acc=>by simp
 | k+1,acc=>by
  have e:acc.toArray++its.toArray=(acc++its).toArray:=by simp
  have e2:(acc++its)++(saj k its).flatten=acc++(saj (k+1) its).flatten:=by
   rw[saO,sbD,List.append_assoc]
  rw[← e2,← zqB its k (acc++its),← e,saO,List.foldl_cons]
section
variable {X:Cx}{pins:List (Addr×Obj)}{σ:St}{H:Hp}{s:Shared}{l b:Addr}{xs ys zs:List V}
theorem Inv.lset {its its':List Value}{n:Nat}{f:Array Value->Array Value}{t':Nat}(I:Inv X pins σ H s)(hH:H l=some (.lst xs))
  (e:s.heap.get? l=some { cls:=.type "list",data:=.seq its.toArray n })(hf:f its.toArray=its'.toArray)(hv:zbT ys its')(hz:ys.length<=sizeLine) :
  Inv X pins σ (upd H l (.lst ys)) { s with heap:=s.heap.update l (scX f),toks:=t' }:=by
 have q:=PySem.IsL.update e f;rw[hf] at q;refine I.write (x:=l) (e:=l) (by rw[hH];exact trivial) (.inl rfl) (fun b' u hb hu=>(sbf s.heap (scX f) (saT hb)).trans hu) ⟨_,q⟩ ?_;exact⟨hz,its',_,hv,q⟩
theorem Inv.lnew {its:List Value}{t':Nat}(I:Inv X pins σ H s)(hv:zbT ys its)(hz:ys.length<=sizeLine) :
  Inv X pins σ (upd H s.heap.objs.size (.lst ys)) { s with heap:=s.heap.push { cls:=.type "list",data:=.seq its.toArray },toks:=t' } :=
 I.laid (fun _ _ q=>saf _ q) (saq _) ⟨hz,its,0,hv,saX _ rfl⟩
theorem Inv.fresh (I:Inv X pins σ H s):H s.heap.objs.size=none:=I.hok.fresh (saq _)
theorem Inv.lstM (I:Inv X pins σ H s)(hH:H l=some (.lst xs)):xs.length<=sizeLine/\∃ (its:List Value) (n:Nat),zbT xs its/\xs.length=its.length/\s.heap.get? l=some { cls:=.type "list",data:=.seq its.toArray n }:=by
 obtain⟨z,its,n,r,e⟩:=I.hok l _ hH;exact⟨z,its,n,r,r.length,e⟩
theorem zzh {n:Nat}(h:n<=sizeLine):scz n=false:=by
 unfold scz;exact decide_eq_false (by omega)
end
section
variable {X:Cx}
noncomputable def zBG:V->List V->Hp->VK->Prop:=fun x vs H Q=>∃ l xs y,x=.ref l/\vs=[y]/\H l=some (.lst xs)/\xs.length < sizeLine/\Q .non (upd H l (.lst (xs++[y])))
theorem zlw:MtM X "list.append" zBG:=by
 intro pins s σ H x vs v us Q I rx rv h;obtain⟨l,xs,y,rfl,rfl,hH,hz,q⟩:=h;cases rx;obtain⟨u,rfl,ru⟩:=rv.one;obtain⟨z,its,n,r,hl,e⟩:=I.lstM hH;refine call_meets F.slot_list_append ⟨_,e,rfl⟩ F.entry_list_append (F.args_list_append_2 _ _) (PySem.list_append l its.toArray n u (by rw[sao];omega)) ⟨e,?_⟩;refine⟨.non,_,I.lset (its':=its++[u]) hH e (by simp) (r.append (.cons ru .nil)) ?_,rfl,q⟩;rw[saR,List.length_singleton];omega
noncomputable def zH4:V->List V->Hp->VK->Prop:=fun x vs H Q=>∃ l xs y,x=.ref l/\vs=[]/\H l=some (.lst xs)/\xs[xs.length-1]?=some y/\Q y (upd H l (.lst xs.dropLast))
noncomputable def zHF:R2:=fun x y H Q=>∃ l k xs,x=.ref l/\y=.int k/\H l=some (.lst xs)/\-(2 ^ 63)<=k/\k < 2 ^ 63/\xs.length*k.toNat<=sizeLine /\
 ∀ p,H p=none->Q (.ref p) (upd H p (.lst (saj k.toNat xs).flatten))
theorem zCc {α:Type}(xs:List α)(k:Nat):(saj k xs).flatten.length=k*xs.length:=by
 induction k with
 | zero=>simp
 | succ k ih=>rw[saO,sbD,saR,ih,Nat.succ_mul,Nat.add_comm]
theorem zEd:OpR X (binaryOp .Mult) zHF:=by
 intro pins s σ H x y v u Q I rx ry h;obtain⟨l,k,xs,rfl,rfl,hH,h1,h2,hz,q⟩:=h;cases rx;obtain⟨t,rfl⟩:=ry;obtain⟨z,its,n,r,hl,e⟩:=I.lstM hH;have hlen:its.toArray.size*k.toNat<=sizeLine:=by rw[sao,← hl];exact hz
 have hcap:¬ its.toArray.size*k.toNat > (2 ^ 63-1) / 8:=by
  have:(sizeLine:Nat)<=(2 ^ 63-1) / 8:=by decide
  omega
 have hfit:¬ (!Builtin.List.listFitsIndex k)=true:=by
  rw[fitsIndex_both h1 h2];exact sa7
 have hlong:¬ scz (its.toArray.size*k.toNat)=true:=by
  rw[zzh hlen];exact sa7
 have hnew:List.foldl (fun x1 x2=>x1++x2) #[] (saj (if its.toArray.isEmpty=true then 0 else k.toNat) its.toArray)=(saj k.toNat its).flatten.toArray:=by
  have f0:∀ m:Nat,List.foldl (fun x1 x2=>x1++x2) #[] (saj m its.toArray)=(saj m its).flatten.toArray:=fun m=>by
   have:=zqB its m [];rw[sbL] at this;exact this
  rw[f0];cases its with
  | nil=>simp
  | cons a r'=>rw[if_neg (by simp)]
 refine wpAny_binaryOp_repeat_ref (T:="list") (U:="int") (by decide) ⟨_,e,rfl⟩ (fun s'=>typeIs_int s' k t) noFill_list_mul F.fills_int_mul F.slot_int_rmul repeat_list F.slot_int_index.lookup
  (call_meets F.slot_int_rmul (typeIs_int s k t) F.entry_int_rmul (F.args_int_rmul_2 _ _) (int___rmul___int_list k t l its.toArray n)
   ⟨e,rfl,⟨_,e,rfl⟩,call_meets F.slot_list_mul ⟨_,e,rfl⟩ F.entry_list_mul (F.args_list_mul_2 _ _) (AutoListH.list___mul___list_int_3 l its.toArray n k t hfit hcap hlong) ⟨e,?_⟩⟩)
 rw[hnew];exact⟨.ref _,_,I.lnew (t':=s.toks) (r.rep k.toNat) (by rw[zCc,Nat.mul_comm];exact hz),rfl,q _ I.fresh⟩
end
section
variable {prog:Program}{w:World}{A:Around}{E:Value->Shared->Prop}{s:Shared}
set_option maxRecDepth 100000 in
end
section
variable {X:Cx}
end
end L2
namespace Att
open PySem PySem.W PySem.Calls PyProof.Rows
theorem zlI {P:Params}{h:Heap}:∀ (ns:List Int) (vs:List Value),WellAll P h vs (ns.map WData.int)->IntsAre vs ns:=by
 intro ns
 induction ns with
 | nil =>
  intro vs w;rw[scg] at w;cases w;exact .nil
 | cons n ns ih =>
  intro vs w;rw[saN] at w;cases w with
  | cons a b =>
   cases a;exact .cons _ _ (ih _ b)
theorem zvL {l:OpenLaw}{n:Nat}(hn:l.most=some n){P:Params}{h:Heap}{args:List WData}{vals:List Value}
  (hpre:l.row.toRowW.claim.pre args=true)(hwl:WellAll P h vals args) :
  ∃ a vs ns,vals=[saI a]/\args=[WData.list (ns.map WData.int)]/\h.get? a=some { cls:=.type "list",data:=.seq vs.toArray }/\IntsAre vs ns/\ns.length<=n:=by
 have hsh:WShape.hasAll [] args [.list .int]=true:=(pre_splitW hpre).1;have hc:l.pre.holds [] { args:=args }=true:=(pre_splitW hpre).2;obtain⟨d,r,rfl,h1,h2⟩:=hasAllW_cons hsh;obtain rfl:=hasAllW_nil h2;obtain⟨xs,rfl,h3⟩:=hasW_list h1;obtain⟨ns,rfl⟩:=items_int h3;have hlen:ns.length<=n:=by
  unfold OpenLaw.pre at hc;have h4:(WTm.not (.lt (.lit (.int (n:Int))) (.len (.arg 0)))).holds [] { args:=[.list (ns.map .int)] }=true:=by
   have h4:=(holds_andW hc).1;rw[hn] at h4;exact h4
  have h5:=condW_of h4 (w_not (w_lt w_lit (w_len_list (w_arg rfl))));rw[sag] at h5;refine Nat.le_of_not_lt fun q=>?_;have q':(n:Int) < ((ns.length:Nat):Int):=by omega
  first
   | (rw[decide_eq_true q'] at h5;exact absurd h5 (by decide))
   | (simp at h5;omega)
 cases hwl with
 | cons w1 w2 =>
  cases w2;cases w1 with
  | list ho hall=>exact⟨_,_,ns,rfl,rfl,ho,zlI ns _ hall,hlen⟩
theorem zv1 (l:OpenLaw)(args:List WData):l.row.toRowW.claim.post args (.bool true) args=true :=
 postW_of (r:=l.row.toRowW) (X:=(true==true))
  (show WShape.has [] (.bool true) .bool=true by first | rfl | decide | simp [WShape.has,WShape.arms,WShape.armsAll])
  (show(WTm.eq .res (.lit (.bool true))).value [] { args:=args,res:=some (.bool true),after:=args }=some (.bool (true==true)) from w_eq_bool (w_res rfl) w_lit) rfl
theorem attach_call {l:OpenLaw}{n:Nat}{q:Program}{loose:List Str}{XP:(Str->Option Value)->Heap->Prop}{YP:World->Heap->Prop}{d:DefRec}
  (hn:l.most=some n)(hdf:d.params.defaults=[])
  (call:∀ (w:World) (sj sf:Shared) (mg mb:Str->Option Value) (fa:Addr) (o:Obj) (pm cd doc:Value) (a:Addr) (vs:List Value) (ns:List Int),
   Ground q loose [] XP w sj mg mb sf.heap->YP w sf.heap ->
   sf.heap.get? fa=some o->o.data=.func (docDef d.name d.params d.body d.scope pm cd doc)->sf.heap.CodeRec cd d.name->mg d.name=some (.ref fa) ->
   sf.heap.get? a=some { cls:=.type "list",data:=.seq vs.toArray }->IntsAre vs ns->ns.length<=n->sf.gens=#[] ->
   codeAny (model l.prog w) callerA (.call (.ref fa) ⟨[.ref a],[]⟩) (fun r s'=>r=.ok (.ret (.bool true))/\OldK sf.heap s'.heap/\s'.os=sf.os/\AllBare s'.gens) sf) :
  WalkO q loose XP YP l.row.toRowW d [] (fun f vs=>PySem.call f vs):=by
 intro w sj sf mg mb G Y fa o pm cd doc dV kV ho hd hcd hD hmg hg args vals as hpre hlay hrd hwl hlo;obtain rfl:dV=.none:=Dflts.none hD hdf;obtain rfl:kV=.none:=Dflts.noKw hD;obtain⟨a,vs,ns,rfl,rfl,hobj,hints,hlen⟩:=zvL hn hpre hwl;refine enter_call (codeAny_mono (call w sj sf mg mb fa o pm cd doc a vs ns G Y ho (fd_plain hd) hcd hmg hobj hints hlen hg) fun r s' hq=>?_);obtain⟨rfl,h2,h3,h4⟩:=hq;exact⟨.inl ⟨.bool true,.bool true,[],rfl,fun _=>rfl,.bool true,zv1 l _,fun _=>⟨scS.nil,fun _ hm=>(nomatch hm)⟩⟩,h2,h3,h4⟩
section
variable {prog:Program}{w:World}{A:Around}{E:Value->Shared->Prop}{s:Shared}{K:Frag}
end
end Att
namespace L2
open PySem PySem.Spec PyProof.Rows
theorem zpS:∀ {vs:List Value}{ns:List Int},IntsAre vs ns->zbT (ns.map V.int) vs
 | _,_,.nil=>.nil
 | _,_,.cons n t h=>.cons ⟨t,rfl⟩ (zpS h)
def zFE (H:Hp):Prop:=∀ b,H b=none∨∃ o xs,H b=some (.frz o (.lst xs))
theorem zzt {P:Program}{w:World}{K:sab}{mg mb:Str->Option Value}{CX:CXT}{k:Nat}{fa a:Addr}{fd:FuncData}{x:Str}{sp:Sp}{sf:Shared}{vs:List Value}{ns:List Int}
  (KX:K.In sf.heap)(hns:sf.heap.Ns mainGlobals mg)(hb:sf.heap.Ns builtinsNs mb)(hbb:∀ x:Str,x≠"__name__"->mb x=bootBuiltins x)(hlim:sf.heap.NoLimit)(hsm:∃ mm,sf.heap.Ns sysModules mm)(hg:sf.gens=#[])
  (ha:sf.heap.get? a=some { cls:=.type "list",data:=.seq vs.toArray })(hi:IntsAre vs ns)(hl:ns.length<=sizeLine)(hr:zfP k callerA)
  (F:∀ base:Heap,K.In base->base.Ns mainGlobals mg->zbP P w K mg base CX k fa fd [x] sp)(hbind:∀ (s:Shared) (u:Value),BindsTo s fd ⟨[u],[]⟩ [(x,u)])
  (hsp:∀ H:Hp,zFE H->SqL K H a (ns.map V.int)->sp [.ref a] H (fun v _=>v=.bl true) fun _ _ _=>False)
  (hCX:∀ H e s',CX [] H sf (fun _ _ _=>False) e s'->False) :
  codeAny (model P w) callerA (.call (.ref fa) ⟨[.ref a],[]⟩) (fun r s'=>r=.ok (.ret (.bool true))/\OldK sf.heap s'.heap/\s'.os=sf.os/\AllBare s'.gens) sf:=by
 have rv:=zpS hi;have lenV:=hi.length;have core:∀ H:Hp,zFE H->SqL K H a (ns.map V.int)->HOk P w H sf.heap->(∀ b,H b≠none->b=a)->(H a≠none->K.lookup a=none) ->
   codeAny (model P w) callerA (.call (.ref fa) ⟨[.ref a],[]⟩) (fun r s'=>r=.ok (.ret (.bool true))/\OldK sf.heap s'.heap/\s'.os=sf.os/\AllBare s'.gens) sf:=by
  intro H hO hS hok hA hK;have base_of:∀ {b:Addr}{o:Obj},sf.heap.get? b=some o->H b=none->(zzA sf.heap H).get? b=some o:=fun e n=>zzz e n;have noA:∀ {b:Addr}{o:Obj}{es:Array DictEntry}{ep:Nat},sf.heap.get? b=some o->o.data=.dict es ep->H b=none:=fun {b o es ep} e d=>by
   cases q:H b with
   | none=>rfl
   | some u =>
    have e':b=a:=hA b (by rw[q];simp);subst e';rw[ha] at e;cases e;have d':Data.seq vs.toArray _=Data.dict es ep:=d;cases d'
  have nsK:∀ {b:Addr}{m:Str->Option Value},sf.heap.Ns b m->(zzA sf.heap H).Ns b m:=fun {b m} ⟨o,es,ep,e,d,r⟩=>⟨o,es,ep,base_of e (noA e d),d,r⟩
  have hKb:K.In (zzA sf.heap H):=fun b o e=>base_of (KX b o e) (by
   cases q:H b with
   | none=>rfl
   | some u =>
    have e':b=a:=hA b (by rw[q];simp);subst e';rw[hK (by rw[q];simp)] at e;cases e)
  have hM:Mod K mg (zzA sf.heap H):=⟨hKb,nsK hns,⟨mb,nsK hb,hbb⟩,let ⟨mc,h1,h2⟩:=hlim;⟨mc,nsK h1,h2⟩,let ⟨mm,h1⟩:=hsm;⟨mm,nsK h1⟩⟩
  have e0:zA5 P w K mg (zzA sf.heap H) callerA [] sf H:=⟨rfl,hM,fun b o e=>zBX e,Nat.le_of_eq (zwN _ _),trivial,fun b hb=>absurd (show b∈([]:List Addr) from hb) (by simp),hok,.of_eq hg⟩
  refine codeAny_mono ((F _ hKb (nsK hns)).run callerA [] sf H ⟨[.ref a],[]⟩ [.ref a] [.ref a] _ _ hr e0 (hbind sf (.ref a)) (.cons rfl .nil) (hsp H hO hS)) fun r s' h=>?_;cases r with
  | error e=>exact(hCX H e s' h).elim
  | ok fl =>
   cases fl with
   | next=>exact sbb h
   | brk=>exact sbb h
   | cont=>exact sbb h
   | ret u =>
    obtain⟨v,H',os,bare,un,hok',r',q⟩:=h;have q':v=.bl true:=q;subst q';obtain rfl:u=sbi true:=r';refine⟨rfl,OldK.of_keep fun b o e=>?_,os,bare⟩;cases q:H b with
    | none=>exact un.keep b o e q (by intro z;exact absurd (show b∈([]:List Addr) from z) (by simp)) (by simp)
    | some u =>
     rcases hO b with z | ⟨ob,xs,z⟩
     .rw[q] at z;cases z
     .have z2:=un.frzs b ob _ z
      obtain⟨e1,_⟩:=hok b _ z;obtain⟨e2,_⟩:=hok' b _ z2;rw[e] at e1;cases e1;exact e2
 cases hk:K.lookup a with
 | some o =>
  have e:=KX a o hk;rw[ha] at e;cases e;refine core (fun _=>none) (fun _=>.inl rfl) (.inr ⟨_,vs.toArray,_,hk,rfl,rfl,rfl,by rw[sao,lenV];exact hl,by simpa using rv⟩) (fun b u z=>by have z':(none:Option HO)=some u:=z;cases z') (fun b z=>absurd rfl z) fun z=>absurd rfl z
 | none =>
  refine core (fun b=>if b=a then some (.frz { cls:=.type "list",data:=.seq vs.toArray } (.lst (ns.map V.int))) else none) (fun b=>?_) (.inl (.inr ⟨{ cls:=.type "list",data:=.seq vs.toArray },if_pos rfl⟩)) (fun b u z=>?_) (fun b z=>?_) fun _=>hk
  .by_cases hb:b=a
   .exact .inr ⟨_,_,if_pos hb⟩
   .exact .inl (if_neg hb)
  .by_cases hb:b=a
   .have z':=(if_pos hb).symm.trans z
    cases z';subst hb;exact⟨ha,by rw[sag];exact hl,vs,_,rv,ha⟩
   .have z':=(if_neg hb).symm.trans z
    cases z'
  .by_cases hb:b=a
   .exact hb
   .exact absurd (if_neg hb) z
abbrev KOf {K:sab}{h:Heap}(_:K.In h):sab:=K
theorem zBl {l:W.OpenLaw}{n k:Nat}{q:Program}{loose:List Str}{XP:(Str->Option Value)->Heap->Prop}{YP:World->Heap->Prop}{d:DefRec}{K:Params->sab}{CX:World->CXT}{sp:World->Sp}{x:Str}
  (hi:importsNone q=true)(hn:l.most=some n)(hn2:n<=sizeLine)(hdf:d.params.defaults=[])(hr:zfP k callerA)
  (hY:∀ (w:World) (h:Heap),YP w h->(K w.params).In h)
  (F:∀ (w:World) (mg:Str->Option Value) (fa:Addr) (h:Heap),(K w.params).In h->h.Ns mainGlobals mg->mg d.name=some (.ref fa) ->
   ∃ fd:FuncData,(∀ (s:Shared) (u:Value),BindsTo s fd ⟨[u],[]⟩ [(x,u)]) /\
    ∀ base:Heap,(K w.params).In base->base.Ns mainGlobals mg->zbP l.prog w (K w.params) mg base (CX w) k fa fd [x] (sp w))
  (hsp:∀ (w:World) (H:Hp) (a:Addr) (ns:List Int),ns.length<=n->zFE H->SqL (K w.params) H a (ns.map V.int)->sp w [.ref a] H (fun v _=>v=.bl true) fun _ _ _=>False)
  (hCX:∀ (w:World) (H:Hp) (s:Shared) (e:Value) (s':Shared),CX w [] H s (fun _ _ _=>False) e s'->False) :
  W.WalkO q loose XP YP l.row.toRowW d [] (fun f vs=>PySem.call f vs):=by
 refine Att.attach_call hn hdf fun w sj sf mg mb fa o pm cd doc a vs ns G Y ho hd hcd hmg hobj hints hlen hg=>?_;have KX:=hY w _ Y;obtain⟨fd,hb,hF⟩:=F w mg fa _ KX G.T.g hmg;exact zzt KX G.T.g G.T.b G.T.builtins G.T.nolimit (let ⟨mm,h1,_⟩:=(G.T.seer hi).mods;⟨mm,h1⟩) hg hobj hints (sat hlen hn2) hr hF hb (fun H hO hS=>hsp w H a ns hlen hO hS) fun H e s'=>hCX w H sf e s'
theorem walk_ofK {l:W.OpenLaw}{n k:Nat}{q:Program}{loose:List Str}{XP:(Str->Option Value)->Heap->Prop}{YP:World->Heap->Prop}{d:DefRec}{K:Params->sab}{CX:CXT}{sp:sab->Sp}{x:Str}
  (hi:importsNone q=true)(hn:l.most=some n)(hn2:n<=sizeLine)(hdf:d.params.defaults=[])(hr:zfP k callerA)
  (hY:∀ (w:World) (h:Heap),YP w h->(K w.params).In h)
  (F:∀ (w:World) (mg:Str->Option Value) (fa:Addr) (h:Heap),(K w.params).In h->h.Ns mainGlobals mg->mg d.name=some (.ref fa) ->
   ∃ fd:FuncData,(∀ (s:Shared) (u:Value),BindsTo s fd ⟨[u],[]⟩ [(x,u)]) /\
    ∀ base:Heap,(K w.params).In base->base.Ns mainGlobals mg->zbP l.prog w (K w.params) mg base CX k fa fd [x] (sp (K w.params)))
  (hsp:∀ (K:sab) (H:Hp) (a:Addr) (ns:List Int),ns.length<=n->zFE H->SqL K H a (ns.map V.int)->sp K [.ref a] H (fun v _=>v=.bl true) fun _ _ _=>False)
  (hCX:∀ (H:Hp) (s:Shared) (e:Value) (s':Shared),CX [] H s (fun _ _ _=>False) e s'->False) :
  W.WalkO q loose XP YP l.row.toRowW d [] (fun f vs=>PySem.call f vs) :=
 zBl (K:=K) (CX:=fun _=>CX) (sp:=fun w=>sp (K w.params)) hi hn hn2 hdf hr hY F (fun w H a ns h1 h2 h3=>hsp (K w.params) H a ns h1 h2 h3) fun _ H s e s'=>hCX H s e s'
noncomputable def zCi (s:Stmt) (j:Nat):Stmt:=match s with
 | .ClassDef _ _ _ body _ _ _ _ _ _ _=>body.getD j (.Pass ⟨0,0,0,0⟩)
 | _=>.Pass ⟨0,0,0,0⟩
noncomputable def defArgs (s:Stmt):Arguments:=match s with
 | .FunctionDef _ a _ _ _ _ _ _ _ _=>a
 | _=>{ posonlyargs:=[],args:=[],vararg:=none,kwonlyargs:=[],kw_defaults:=[],kwarg:=none,defaults:=[] }
def defBody (s:Stmt):List Stmt:=match s with
 | .FunctionDef _ _ b _ _ _ _ _ _ _=>b
 | _=>[]
noncomputable def defScope (s:Stmt):Scope:=match s with
 | .FunctionDef _ _ _ _ _ _ sc _ _ _=>sc
 | _=>{ kind:=.function,names:=[],isGenerator:=false,isCoroutine:=false }
abbrev CX0:CXT:=fun _ _ _ _ _ _=>False
abbrev E0:XK:=fun _ _ _=>False
theorem zaK {X:Cx}:zfR CX0 X E0:=fun _ _ _ _ _ _ _ h=>h.elim
structure Fun (K:sab) (x qual:Str) (st:Stmt) (f:Addr) (fd:FuncData):Prop where
 ex:∃ (oc:Value) (od:Option Addr) (kV doc pm:Value) (an:Option Addr) (cdv ct:Value) (osl:Array (Option Value)),
  fd=sbY x qual (defArgs st) (defBody st) (defScope st) .none kV doc pm an cdv ct/\K.lookup f=some ⟨oc,od,.func fd,osl⟩/\W.codeIn K cdv qual=true
 kp:scj K (.ref f)=true
section
variable {P:Program}{w:World}{K:sab}{mg:Str->Option Value}{base:Heap}
theorem Fun.ok {x qual:Str}{st:Stmt}{f:Addr}{fd:FuncData}{N ps:List Str}{k:Nat}{sp:Sp}(F:Fun K x qual st f fd)(S:zay N ps (defScope st))(len:∀ vs H Q E,sp vs H Q E->vs.length=ps.length)
  (hbody:∀ (cdv:Value) (A:Around) (outer:List Env) (s:Shared) (H:Hp) (vs:List V) (Q:VK) (E:XK),zfP k (A.deeper (envOfC qual (defScope st) s.heap.objs.size f cdv))->sp vs H Q E ->
   ∃ t,PSs (zk0 CX0 P w K mg base N qual (defScope st) f cdv A outer s H E).nox (defBody st) t/\t { nx:=fun _ H'=>Q .non H',rt:=Q } (start N vs) H):zbP P w K mg base CX0 (k+1) f fd ps sp:=by
 obtain⟨oc,od,kV,doc,pm,an,cdv,ct,osl,rfl,lk,hcd⟩:=F.ex;refine zEA lk hcd S len fun A outer s H vs Q E hr hsp=>?_;obtain⟨t,h,q⟩:=hbody cdv A outer s H vs Q E hr hsp;exact⟨t,h.nox,q⟩
theorem Fun.binds {x qual:Str}{st:Stmt}{f:Addr}{fd:FuncData}{ps:List Str}(F:Fun K x qual st f fd)
  (h:∀ (kV doc pm:Value) (an:Option Addr) (cdv ct:Value) (us:List Value),us.length=ps.length->bindArgs (sbY x qual (defArgs st) (defBody st) (defScope st) .none kV doc pm an cdv ct) ⟨us,[]⟩=pure (ps.zip us)):zjc K fd ps []:=by
 obtain⟨oc,od,kV,doc,pm,an,cdv,ct,osl,rfl,lk,hcd⟩:=F.ex;exact .all (h kV doc pm an cdv ct)
theorem ztG {x qual:Str}{st:Stmt}{f:Addr}{oc:Value}{od an:Option Addr}{osl:Array (Option Value)}{kV doc pm cdv ct:Value}(l:K.lookup f=some ⟨oc,od,.func (sbY x qual (defArgs st) (defBody st) (defScope st) .none kV doc pm an cdv ct),osl⟩)
  (c:W.codeIn K cdv qual=true)(k:scj K (.ref f)=true):Fun K x qual st f (sbY x qual (defArgs st) (defBody st) (defScope st) .none kV doc pm an cdv ct):=⟨⟨oc,od,kV,doc,pm,an,cdv,ct,osl,rfl,l,c⟩,k⟩
end
section
variable {X:Cx}
end
def zaJ (H H':Hp):Prop:=∀ b o,H b=some o->H' b=some o
theorem zaJ.refl (H:Hp):zaJ H H:=fun _ _ h=>h
theorem zaJ.trans {H H1 H2:Hp}(a:zaJ H H1)(b:zaJ H1 H2):zaJ H H2:=fun c o h=>b c o (a c o h)
theorem zaJ.free {H H':Hp}(e:zaJ H H'){l:Addr}(h:H' l=Option.none):H l=Option.none:=by
 cases q:H l with
 | none=>rfl
 | some o =>
  rw[e l o q] at h;cases h
end L2
namespace DL
open PySem PySem.Spec PySem.Calls PySem.W PyProof.Rows Builtin Builtin.ObjectAttr Builtin.Getset_descriptor
section
variable {prog:Program}{w:World}{A:Around}{E:Value->Shared->Prop}{h:Heap}{g:Array GenState}{d:Drawn}{t:Nat}{os:OsState}{a C:Addr}{o:Obj}{K:Frag}
structure zup (K:Frag) (C:Addr):Prop where
 cls:findIn K (.ref C) "__class__"=some (some (.builtin "object.__class__"))
 ga:findIn K (.ref C) "__getattribute__"=some (some (.builtin "BaseException.__getattribute__"))
 gt:findIn K (.ref C) "__getattr__"=some none
 ob:mroIn K C (.type "object")=some true
 be:subIn K (.ref C) (.type "BaseException")=some true
theorem zC9 {R:Result->Shared->Prop}{tp:Value}(X:K.In h)(Z:zup K C)(hx:h.get? a=some o)(hc:o.cls=.ref C)(hq:R (.ok (.ret (.ref C))) ⟨h,g,d,t,os⟩) :
  codeAny (model prog w) A (.call (.builtin "getset_descriptor.__get__") ⟨[.builtin "object.__class__",.ref a,tp],[]⟩) R ⟨h,g,d,t,os⟩:=by
 have L0:Looks (model prog w) h (typeOf (.ref a)) (.ref C):=hc▸(Looks.ld hx).andThen .now;have L1:=looks_mroIn (M:=model prog w) X Z.ob;refine codeAny_call_builtin KF.slot_gs.plain KF.entry_gs (KF.slot_gs.check _ _ _ _ _ _ _ _ KF.type_class (KF.args_gs _ _ _) ?_);unfold Builtin.«getset_descriptor.__get__» descrGet;rw[dga_obj];refine sad (saB ?_);unfold descrGetter descrCheckInstance descrNameAndClass isInstance;simp only[KF.owner_class]
 repeat lk
 refine⟨scU _ (by decide +kernel),codeAny_builtin KF.entry_class ?_⟩;unfold Builtin.«object.__class__» shownTypeOf
 repeat lk
 exact hq
theorem zs8 {M:Model}{nameV:Value}{Q:Unit->Shared->Prop}(X:K.In h)(Z:zup K C)(hx:h.get? a=some o)(hc:o.cls=.ref C)(hq:Q () ⟨h,g,d,t,os⟩):wpAny M A (checkBuiltinCall "BaseException.__getattribute__" ⟨[.ref a,nameV],[]⟩) Q E ⟨h,g,d,t,os⟩:=by
 have hk:builtinKind "BaseException.__getattribute__"=some .slot:=by decide +kernel
 have hsplit:splitId "BaseException.__getattribute__"=some ("BaseException","__getattribute__"):=by decide +kernel
 have ha:=F.args_bexc_ga (.ref a) nameV;have LS:Looks M h (isSubtype (.ref C) (.type "BaseException")) true:=looks_subIn X Z.be;simp only[checkBuiltinCall,hk,hsplit];refine sad ?_
 .unfold isInstance
  repeat (first | (with_reducible refine sbg hx ?_;rw[hc]) | (with_reducible refine LS.at ?_) | wp_step)
  exact hq
theorem zyB {tk:Tok}{Q:Fin->Shared->Prop}(X:K.In h)(Z:zup K C)(hx:h.get? a=some o)(hc:o.cls=.ref C)(hq:Q (.done (.ret (.ref C))) ⟨h,g,d,t,os⟩) :
  wpAny (model prog w) A (Builtin.«object.__getattribute__» ⟨[.ref a,.str "__class__" tk],[]⟩) Q E ⟨h,g,d,t,os⟩:=by
 have hT5:(⟨h,g,d,t,os⟩:Shared).TypeIs (.builtin "object.__class__") "getset_descriptor":=F.typeOf_object_class;have f5:=F.typeOf_object_class;have f6:=F.slot_gs_get.lookup;have f7:=F.slot_gs_set.lookup;have LC:Looks (model prog w) h (typeLookup (.ref C) "__class__") (some (.builtin "object.__class__")):=looks_findIn X Z.cls
 repeat (any_goals (first | assumption | (with_reducible refine sbg hx ?_;rw[hc]) | (with_reducible refine LC.at ?_) | wp_step))
 refine zC9 X Z hx hc ?_
 repeat (any_goals (first | assumption | wp_step))
theorem zBg {tk:Tok}{R:Result->Shared->Prop}(X:K.In h)(Z:zup K C)(hx:h.get? a=some o)(hc:o.cls=.ref C)(hq:R (.ok (.ret (.ref C))) ⟨h,g,d,t,os⟩) :
  codeAny (model prog w) A (.call (.builtin "BaseException.__getattribute__") ⟨[.ref a,.str "__class__" tk],[]⟩) R ⟨h,g,d,t,os⟩ :=
 codeAny_call_builtin scy.ga.plain F.entry_bexc_ga (zs8 X Z hx hc (zyB X Z hx hc hq))
theorem zFI {tk:Tok}{Q:Value->Shared->Prop}(X:K.In h)(Z:zup K C)(hx:h.get? a=some o)(hc:o.cls=.ref C)(hq:Q (.ref C) ⟨h,g,d,t,os⟩) :
  wpAny (model prog w) A (getAttrBy (.ref a) (.str "__class__" tk) false) Q E ⟨h,g,d,t,os⟩:=by
 have f3:=scy.ga.bind (.ref a);have hx2:(sbP "BaseException.__getattribute__"==sbP "object.__getattribute__")=false:=by decide +kernel
 have hx1:(onTheHeap (saI C)&&sbP "BaseException.__getattribute__"==sbP "object.__getattribute__")=false:=by rw[hx2];rfl
 have L1:Looks (model prog w) h (typeLookup (.ref C) "__getattribute__") (some (.builtin "BaseException.__getattribute__")):=looks_findIn X Z.ga;have L2:Looks (model prog w) h (typeLookup (.ref C) "__getattr__") none:=looks_findIn X Z.gt
 repeat (any_goals (first | assumption | (with_reducible refine sbg hx ?_;rw[hc]) | (with_reducible refine L1.at ?_) | (with_reducible refine L2.at ?_) | wp_step))
 refine zBg X Z hx hc ?_
 repeat (any_goals (first | assumption | wp_step))
theorem zBh {Q:Option Value->Shared->Prop}(X:K.In h)(Z:zup K C)(hx:h.get? a=some o)(hc:o.cls=.ref C)(hq:Q (some (.ref C)) ⟨h,g,d,t+1,os⟩):wpAny (model prog w) A (getAttr? (.ref a) "__class__") Q E ⟨h,g,d,t,os⟩:=by
 unfold getAttr? getAttrBy?
 repeat (any_goals (first | assumption | with_reducible apply zFI X Z hx hc | wp_step))
end
noncomputable def ExD (a C:Addr) (dc:Option Addr):Heap->Prop:=fun h=>∃ o vs,h.get? a=some o/\o.cls=.ref C/\o.data=.fields vs/\o.dict=dc
theorem zkS {K:Frag}{a C:Addr}{dc:Option Addr}(Z:zup K C)(hC:(clsIn K C).isSome=true):KitX K (.ref a) (.ref C) (ExD a C dc) where
 ty:=fun _ _ _ ⟨o,_,h1,h2,_⟩=>h2▸(Looks.ld h1).andThen .now
 it:=fun _ _ X _=>by
  obtain⟨cd,hcD⟩:=scx.mp hC;unfold clsIn at hcD;split at hcD
  .rename_i c' d' cd' sl' ho
   intro A' Q' E' s' k q;unfold isType loadHead;exact sad (wpAny_loadPart (k _ _ (X _ _ ho)) (saB q))
  .cases hcD
 ne:=fun h tp dd its n sl X htp=>by
  obtain⟨cd,hcD⟩:=scx.mp hC;refine Bool.eq_false_iff.mpr fun q=>?_;have e:C=tp:=saI.inj (beq_iff_eq.mp q);subst e;unfold clsIn at hcD;split at hcD
  .rename_i c' d' cd' sl' ho
   have z:=(X _ _ ho).symm.trans htp;cases z
  .cases hcD
 ca:=fun {_ _ _ _ _ s} X ⟨o,_,h1,h2,_⟩ k=>by
  obtain⟨h,g,d,t,os⟩:=s;exact zBh X Z h1 h2 k
theorem zup.isCls {K:Frag}{C:Addr}(Z:zup K C):(clsIn K C).isSome=true:=by
 obtain⟨cd,a,b⟩:=Option.bind_eq_some_iff.mp Z.ob;rw[a];rfl
def zhi:List String:=["NoneType","bool","int","str","tuple","list","dict"]
structure XC (K:Frag) (x:Str) (C:Addr):Prop where
 ns:nsIn K mainGlobals x=some (some (.ref C))
 ek:zup K C
 bt:∀ T∈zhi,kitOne K (.ref C) (.type T)=some false
end DL
namespace DL
open PySem PySem.Spec PyProof.Rows L2
theorem zny (o:Obj)(f:Array Value->Array Value):(o.mapFields f).dict=o.dict:=by unfold Obj.mapFields;split<;>rfl
def zr5 (h:Heap)(e:Addr)(dc:Option Addr):Prop:=∃ o,h.get? e=some o/\o.dict=dc
section
variable {M:Model}{A:Around}{E:Value->Shared->Prop}{s:Shared}{base:Heap}{env:sba}{outer l:List sba}{L e:Addr}{cls a0 fl:Value}{dc:Option Addr}{Q:Unit->Shared->Prop}
theorem ztL {oe:Obj}{vs:Array Value}{head:Value}{b0:Bool}(hfr:A.frames=some (env::outer))(hl:s.heap.FunFrames base (env::outer))(hf:env.frame=some L)(he:s.heap.get? e=some oe)(kb:base.StaysIn s.heap)(hen:base.get? e=none)(hd:oe.data=.fields vs)(hz:1 < vs.size)(h0:vs[0]?=some a0)
  (h:∀ h',Heap.NotedW base (env::outer) e oe.cls a0 (rawInt L) s.heap h'->zr5 h' e oe.dict->Q () { s with heap:=h' }) :
  wpAny M A (do
   let a ← frameOf env
   let pl ← entryPlaceOf L b0
   let b ← EntryCells.newEntry head a .none (rawInt L) .none pl
   setField (.ref e) 1 b) Q E s:=by
 have nf:e∉(env::outer).filterMap (·.frame):=fun hm=>by
  obtain⟨_,o,ho,q⟩:=hl.mem hm;rw[he] at ho;cases ho;exact q vs hd
 refine sad (wpAny_frameOf_fun hfr hl hf fun g ⟨_,same,slots⟩=>sad (wpAny_entryPlaceOf fun pl hpl=>?_));have ge:g.get? e=some oe:=(same e nf).trans he;have up:∀ (N:Obj) (f:Obj->Obj) (b:Addr) (o:Obj),b≠e->g.get? b=some o->((g.push N).update e f).get? b=some o:=fun N f b o hb q=>(sbf _ _ (saT hb)).trans (saf _ q);have ne:∀ b o,s.heap.get? b=some o->(∀ vs,o.data≠.fields vs)->b≠e:=fun b o q z c=>by subst c;rw[he] at q;cases q;exact z vs hd
 have kg:base.StaysIn g:=fun b o q=>(same b fun hm=>by rw[(hl.mem hm).1] at q;cases q).trans (kb b o q);unfold EntryCells.newEntry newFields;refine sad (wpAny_newObj_type ?_ (hpl.sizeOk5 _ _ _ _ _));have d3:=scR hd (·.setIfInBounds 1 (saI g.objs.size));have hTe:g.objs.size≠e:=Nat.ne_of_gt (sap ge);have at_e:∀ N:Obj,((g.push N).update e (Obj.mapFields (·.setIfInBounds 1 (saI g.objs.size)))).get? e=some (oe.mapFields (·.setIfInBounds 1 (saI g.objs.size))):=fun N=>sbn _ (saf _ ge) (Obj.isFreed_of_fields d3);refine wpAny_setField (saf _ ge) hd hz (h _ ⟨fun b o q=>up _ _ b o (fun c=>by subst c;rw[hen] at q;cases q) (kg b o q),hl.of_keeps fun b o q z=>?_,?_,fun b o q z=>?_⟩ ⟨_,at_e _,zny _ _⟩)
 .obtain⟨sl,x⟩:=slots b o q
  exact⟨_,up _ _ b _ (ne b o q z) x,rfl⟩
 .refine⟨_,_,g.objs.size,_,_,at_e _,⟨Obj.cls_mapFields _ _,?_⟩,d3,?_,kg.fresh,hTe,(sbf _ _ (saT hTe)).trans (saX g rfl),rfl,?_⟩
  .rw[Array.getElem?_setIfInBounds_ne (by decide)];exact h0
  .simp [hz]
  .first | (simp;done) | (rcases hpl with rfl | ⟨_,_,_,_,_,_,_,rfl⟩<;>simp)
 .obtain⟨sl,x⟩:=slots b o q
  exact⟨sl,up _ _ b _ (ne b o q z) x⟩
theorem zzF {oe:Obj}{vs:Array Value}(hfr:A.frames=some (env::outer))(hl:s.heap.FunFrames base (env::outer))(hf:env.frame=some L)(he:s.heap.get? e=some oe)(kb:base.StaysIn s.heap)(hen:base.get? e=none)(hd:oe.data=.fields vs)(h1:vs[1]?=some .none)(h0:vs[0]?=some a0)
  (h:∀ h',Heap.NotedW base (env::outer) e oe.cls a0 (rawInt L) s.heap h'->zr5 h' e oe.dict->Q () { s with heap:=h' }):wpAny M A (noteFrame (.ref e) env) Q E s:=by
 unfold noteFrame;simp only[hf];refine sad (wpAny_field he hd h1 ?_);rw[if_neg (by decide)];exact ztL hfr hl hf he kb hen hd (sbQ.mp h1).1 h0 h
theorem zwV (hfr:A.frames=some (env::outer))(hl:s.heap.FunFrames base (env::outer))(hf:env.frame=some L)(ht:s.heap.TracedW base e cls a0)(hc:zr5 s.heap e dc)(kb:base.StaysIn s.heap)(hen:base.get? e=none)
  (h:∀ h',Heap.NotedW base (env::outer) e cls a0 (rawInt L) s.heap h'->zr5 h' e dc->Q () { s with heap:=h' }):wpAny M A (noteFrame (.ref e) env) Q E s:=by
 obtain⟨oe,vs,T,oT,ts,he,⟨rfl,h0⟩,hd,h1,hnT,hTe,hT,dT,h3⟩:=ht;obtain⟨o',q,rfl⟩:=hc;rw[he] at q;cases q;have oth:∀ (f:Obj->Obj) (b:Addr),b≠T->(s.heap.update T f).get? b=s.heap.get? b:=fun f b hb=>sbf _ _ (saT hb);have ne:∀ b o,s.heap.get? b=some o->(∀ vs,o.data≠.fields vs)->b≠T:=fun b o q z c=>by subst c;rw[hT] at q;cases q;exact z ts dT
 unfold noteFrame;simp only[hf];refine sad (wpAny_field he hd h1 ?_);rw[if_pos (by simp)];refine sad (wpAny_field hT dT h3 ?_);rw[if_neg (by simp [rawInt])];refine sad (wpAny_setField hT dT (sbQ.mp h3).1 ?_);refine ztL hfr (hl.of_keeps fun b o q z=>⟨o,(oth _ b (ne b o q z)).trans q,rfl⟩) hf ((oth _ e (saT hTe)).trans he) (fun b o q=>(oth _ b fun c=>by subst c;rw[hnT] at q;cases q).trans (kb b o q)) hen hd (sbQ.mp h1).1 h0 fun h' ⟨x1,x2,x3,x4⟩ x5=>h h' ⟨x1,x2,x3,fun b o q z=>x4 b o ((oth _ b (ne b o q z)).trans q) z⟩ x5
theorem ziy (kb:base.StaysIn s.heap)(hl:s.heap.FunFrames base l)(ht:s.heap.TracedAtW base e cls a0 fl)(hc:zr5 s.heap e dc)
  (h:∀ h',base.StaysIn h'->h'.FunFrames base l->h'.TracedW base e cls a0->(∀ b o,s.heap.get? b=some o->(∀ vs,o.data≠.fields vs)->h'.get? b=some o)->zr5 h' e dc->Q () { s with heap:=h' }):wpAny M A (setFlight (.ref e) none) Q E s:=by
 obtain⟨oe,vs,T,oT,ts,he,hcl,hd,h1,hnT,hTe,hT,dT,h3⟩:=ht;have z3:3 < ts.size:=(sbQ.mp h3).1;have oth:∀ (f:Obj->Obj) (b:Addr),b≠T->(s.heap.update T f).get? b=s.heap.get? b:=fun f b hb=>sbf _ _ (saT hb);have ne:∀ b o,s.heap.get? b=some o->(∀ vs,o.data≠.fields vs)->b≠T:=fun b o q z c=>by subst c;rw[hT] at q;cases q;exact z ts dT
 unfold setFlight;refine sad (wpAny_field he hd h1 ?_);rw[if_pos (by simp)];obtain⟨o',q',rfl⟩:=hc;refine wpAny_setField hT dT z3 (h _ (fun b o q=>(oth _ b fun c=>by subst c;rw[hnT] at q;cases q).trans (kb b o q)) (hl.of_keeps fun b o q z=>⟨o,(oth _ b (ne b o q z)).trans q,rfl⟩) ?_ (fun b o q z=>(oth _ b (ne b o q z)).trans q) ⟨o',(oth _ e (saT hTe)).trans q',rfl⟩);exact⟨oe,vs,T,_,_,(oth _ e (saT hTe)).trans he,hcl,hd,h1,hnT,hTe,sbn _ hT (Obj.isFreed_of_fields (scR dT _)),scR dT _,by simp [z3]⟩
def zHk (h:Heap)(e:Addr)(ox:Option Addr):Prop:=∃ dc,zr5 h e dc/\(ox=none∨ox=dc)
theorem zu3 {oe:Obj}{vs:Array Value}(hfr:A.frames=some (env::outer))(hl:s.heap.FunFrames base (env::outer))(hf:env.frame=some L)(he:s.heap.get? e=some oe)(kb:base.StaysIn s.heap)(hen:base.get? e=none)(hd:oe.data=.fields vs)(h1:vs[1]?=some .none)(h0:vs[0]?=some a0)
  (h:∀ h',sbN base outer e oe.cls a0 h'->s.heap.UpToSlots h'->zr5 h' e oe.dict->Q () { s with heap:=h' }):wpAny M A (leaving env (.ref e)) Q E s:=by
 unfold leaving;refine sad (zzF hfr hl hf he kb hen hd h1 h0 fun g ⟨k1,k2,k3,k4⟩ dg=>?_);refine ziy (s:={ s with heap:=g }) k1 k2 k3 dg fun h' m1 ⟨_,_,m2⟩ m3 m4 dh=>h h' ⟨m1,hen,m2,m3⟩ (fun b o q z=>?_) dh;obtain⟨sl,x⟩:=k4 b o q z;exact⟨sl,m4 b _ x z⟩
theorem zwW (hfr:A.frames=some (env::outer))(hf:env.frame=some L)(hfl:sbN base (env::outer) e cls a0 s.heap)(hc:zr5 s.heap e dc)
  (h:∀ h',sbN base outer e cls a0 h'->s.heap.UpToSlots h'->zr5 h' e dc->Q () { s with heap:=h' }):wpAny M A (leaving env (.ref e)) Q E s:=by
 obtain⟨f1,f2,f3,f4⟩:=hfl;unfold leaving;refine sad (zwV hfr f3 hf f4 hc f1 f2 fun g ⟨k1,k2,k3,k4⟩ dg=>?_);refine ziy (s:={ s with heap:=g }) k1 k2 k3 dg fun h' m1 ⟨_,_,m2⟩ m3 m4 dh=>h h' ⟨m1,f2,m2,m3⟩ (fun b o q z=>?_) dh;obtain⟨sl,x⟩:=k4 b o q z;exact⟨sl,m4 b _ x z⟩
theorem zzG (hfr:A.frames=some (env::outer))(hf:env.frame=some L)(hfl:sbN base (env::outer) e cls a0 s.heap)(hc:zr5 s.heap e dc)
  (h:∀ h',Heap.HeldW base (env::outer) e cls a0 L h'->s.heap.UpToSlots h'->zr5 h' e dc->Q () { s with heap:=h' }):wpAny M A (noteFrame (.ref e) env) Q E s:=by
 obtain⟨f1,f2,f3,f4⟩:=hfl;exact zwV hfr f3 hf f4 hc f1 f2 fun g ⟨k1,k2,k3,k4⟩ dg=>h g ⟨k1,f2,k2,k3⟩ k4 dg
theorem zzH (hh:Heap.HeldW base l e cls a0 L s.heap)(hc:zr5 s.heap e dc)(h:∀ h',sbN base l e cls a0 h'->s.heap.UpToSlots h'->zr5 h' e dc->Q () { s with heap:=h' }):wpAny M A (setFlight (.ref e) none) Q E s:=by
 obtain⟨f1,f2,f3,f4⟩:=hh;exact ziy f1 f3 f4 hc fun h' k1 k2 k3 k4 k5=>h h' ⟨k1,f2,k2,k3⟩ (fun b o q z=>⟨o.slots,k4 b o q z⟩) k5
theorem zzI (hh:sbN base l e cls a0 s.heap)(hc:zr5 s.heap e dc)(h:∀ h',sbN base l e cls a0 h'->s.heap.UpToSlots h'->zr5 h' e dc->Q () { s with heap:=h' }):wpAny M A (setFlight (.ref e) none) Q E s:=by
 obtain⟨f1,f2,f3,f4⟩:=hh;exact ziy f1 f3 f4.at hc fun h' k1 k2 k3 k4 k5=>h h' ⟨k1,f2,k2,k3⟩ (fun b o q z=>⟨o.slots,k4 b o q z⟩) k5
end
def nst:Expr->Bool
 | .Starred _ _=>false
 | _=>true
theorem zaH {e:Expr}{es:List Expr}{env:sba}(h:nst e=true):starEach (e::es) env=(false,eval e env)::starEach es env:=by
 cases e<;>first | (rw[starEach];intros;contradiction) | rw[starEach] | (cases h)
theorem zd5 {e:Expr}{env:sba}(h:nst e=true):starEach [e] env=[(false,eval e env)]:=by
 rw[zaH h,starEach]
theorem za9 {env:sba}{pos:Pos}:∀ {es:List Expr},es.all nst=true->(backTo pos (starEach es env)).any (·.1)=false
 | [],_=>by rw[starEach];rfl
 | e::es,h=>by
  rw[sck,saA] at h;rw[zaH h.1];have:=za9 (env:=env) (pos:=pos) h.2;show(false||(backTo pos (starEach es env)).any (·.1))=false;rw[this];rfl
theorem zoZ {e:Expr}{env:sba}{pos:Pos}(h:nst e=true):((backTo pos (starEach [e] env)).all (fun x=>!x.1)&&(backToKw pos (keywordEach [] env)).all (fun x=>x.1.isSome)
  &&decide ([e].length+([]:List Keyword).length+(if([]:List Keyword).isEmpty then 0 else 1) < 30))=true:=by
 rw[zd5 h,keywordEach];rfl
inductive Kd where
 | ins (c:Str) (ks:List Str) | dint (ks:List Int) | exf (c:Str) (ks:List Str)
inductive D where
 | non | bl (b:Bool) | int (i:Int) | str (x:Str) | tup (xs:List D) | lst (xs:List D) | dic (ks:List Str) (xs:List D) | exc (x:Str) | ob (k:Kd) (xs:List D)
structure zH1 (K:sab) (ks:List Str) (C:Addr):Prop where
 cls:Cls K C
 no:∀ f∈ks,zjb K C f
 gc:sbO K (.ref C) "__class__"=some (some (.builtin "object.__class__"))
 gn:W.specialIn K (.builtin "object.__class__") "__get__"=some (some (.builtin "getset_descriptor.__get__"))
 tk:W.takesIn K (.builtin "object.__class__")=some true
 mo:scE K C (.type "object")=some true
 bt:∀ T∈zhi,sc6 K (.ref C) (.type T)=some false
noncomputable def zFo (K:sab) (H:Hp):Kd->Addr->List V->Prop
 | .ins c ks,a,vs=>∃ C dx,sa4 K mainGlobals c=some (some (.ref C))/\zH1 K ks C/\H a=some (.ins C dx (ks.zip vs))/\ks.length=vs.length
 | .dint ks,a,vs=>∃ kvs,Rd H a (.dK kvs)/\kvs=(ks.map scM).zip vs/\ks.length=vs.length
 | .exf c ks,a,vs=>∃ C dx fs,XC K c C/\Rd H a (.ext (ExD a C (some dx)))/\H dx=some (.xd fs)/\ks.length=vs.length/\∀ (i:Nat) (f:Str) (v:V),ks[i]?=some f->vs[i]?=some v->fs.lookup f=some v
structure Exn where
 cls:Str
 flds:List (Str×D)
inductive Res (α:Type) where
 | ok (a:α) | exn (x:Exn) | stuck
noncomputable def Res.bind {α β:Type}(r:Res α) (f:α->Res β):Res β:=match r with
 | .ok a=>f a
 | .exn x=>.exn x
 | .stuck=>.stuck
mutual
def Rep (K:sab)(H:Hp):D->V->Prop
 | .non,v=>v=.non
 | .bl b,v=>v=.bl b
 | .int i,v=>v=.int i
 | .str x,v=>v=.str x
 | .tup ds,v=>∃ a vs,v=.ref a/\SqT K H a vs/\Reps K H ds vs
 | .lst ds,v=>∃ a vs,v=.ref a/\SqL K H a vs/\Reps K H ds vs
 | .dic ks ds,v=>∃ a kvs vs,v=.ref a/\Rd H a (.dK kvs)/\kvs=(ks.map scA).zip vs/\ks.length=vs.length/\Reps K H ds vs
 | .exc x,v=>∃ a C dc,v=.ref a/\XC K x C/\Rd H a (.ext (ExD a C dc))
 | .ob k ds,v=>∃ a vs,v=.ref a/\zFo K H k a vs/\Reps K H ds vs
def Reps (K:sab)(H:Hp):List D->List V->Prop
 | [],vs=>vs=[]
 | d::ds,vs=>∃ v r,vs=v::r/\Rep K H d v/\Reps K H ds r
end
theorem zaJ.rd {H H':Hp}(e:zaJ H H'){a:Addr}{o:HO}(h:Rd H a o):Rd H' a o:=by
 rcases h with h | ⟨o',h⟩
 .exact .inl (e _ _ h)
 .exact .inr ⟨o',e _ _ h⟩
theorem zaJ.sqT {K:sab}{H H':Hp}(e:zaJ H H'){a:Addr}{xs:List V}(h:SqT K H a xs):SqT K H' a xs:=by
 rcases h with h | h
 .exact .inl (zaJ.rd e h)
 .exact .inr h
theorem zaJ.sqL {K:sab}{H H':Hp}(e:zaJ H H'){a:Addr}{xs:List V}(h:SqL K H a xs):SqL K H' a xs:=by
 rcases h with h | h
 .exact .inl (zaJ.rd e h)
 .exact .inr h
theorem zFo.mono {K:sab}{H H':Hp}(e:zaJ H H'):∀ {k:Kd}{a:Addr}{vs:List V},zFo K H k a vs->zFo K H' k a vs
 | .ins c ks,a,vs,⟨C,dx,h0,h1,h2,h3⟩=>⟨C,dx,h0,h1,e _ _ h2,h3⟩
 | .dint ks,a,vs,⟨kvs,h1,h2,h3⟩=>⟨kvs,zaJ.rd e h1,h2,h3⟩
 | .exf c ks,a,vs,⟨C,dx,fs,h1,h2,h3,h4⟩=>⟨C,dx,fs,h1,zaJ.rd e h2,e _ _ h3,h4⟩
mutual
theorem Rep.mono {K:sab}{H H':Hp}(e:zaJ H H'):∀ {d:D}{v:V},Rep K H d v->Rep K H' d v
 | .non,_,h=>by unfold Rep at h ⊢;exact h
 | .bl _,_,h=>by unfold Rep at h ⊢;exact h
 | .int _,_,h=>by unfold Rep at h ⊢;exact h
 | .str _,_,h=>by unfold Rep at h ⊢;exact h
 | .tup ds,_,h=>by
  unfold Rep at h ⊢;obtain⟨a,vs,e1,e2,e3⟩:=h;exact⟨a,vs,e1,zaJ.sqT e e2,Reps.mono e e3⟩
 | .lst ds,_,h=>by
  unfold Rep at h ⊢;obtain⟨a,vs,e1,e2,e3⟩:=h;exact⟨a,vs,e1,zaJ.sqL e e2,Reps.mono e e3⟩
 | .dic ks ds,_,h=>by
  unfold Rep at h ⊢;obtain⟨a,kvs,vs,e1,e2,e3,e4,e5⟩:=h;exact⟨a,kvs,vs,e1,zaJ.rd e e2,e3,e4,Reps.mono e e5⟩
 | .exc x,_,h=>by
  unfold Rep at h ⊢;obtain⟨a,C,dc,e1,e2,e3⟩:=h;exact⟨a,C,dc,e1,e2,zaJ.rd e e3⟩
 | .ob k ds,_,h=>by
  unfold Rep at h ⊢;obtain⟨a,vs,e1,e2,e3⟩:=h;exact⟨a,vs,e1,e2.mono e,Reps.mono e e3⟩
theorem Reps.mono {K:sab}{H H':Hp}(e:zaJ H H'):∀ {ds:List D}{vs:List V},Reps K H ds vs->Reps K H' ds vs
 | [],_,h=>by unfold Reps at h ⊢;exact h
 | d::ds,_,h=>by
  unfold Reps at h ⊢;obtain⟨v,r,e1,e2,e3⟩:=h;exact⟨v,r,e1,Rep.mono e e2,Reps.mono e e3⟩
end
section
variable {K:sab}{H:Hp}{v:V}{vs:List V}{d:D}{ds:List D}
theorem zaI:Rep K H .non v↔v=.non:=by unfold Rep;exact Iff.rfl
theorem zar {b}:Rep K H (.bl b) v↔v=.bl b:=by unfold Rep;exact Iff.rfl
theorem zak {i}:Rep K H (.int i) v↔v=.int i:=by unfold Rep;exact Iff.rfl
theorem Rep.str_iff {x}:Rep K H (.str x) v↔v=.str x:=by unfold Rep;exact Iff.rfl
theorem zaw:Rep K H (.tup ds) v↔∃ a vs,v=.ref a/\SqT K H a vs/\Reps K H ds vs:=by rw[Rep]
theorem zaq:Rep K H (.lst ds) v↔∃ a vs,v=.ref a/\SqL K H a vs/\Reps K H ds vs:=by rw[Rep]
theorem zd4 {x}:Rep K H (.exc x) v↔∃ a C dc,v=.ref a/\XC K x C/\Rd H a (.ext (ExD a C dc)):=by rw[Rep]
theorem zfQ {k}:Rep K H (.ob k ds) v↔∃ a vs,v=.ref a/\zFo K H k a vs/\Reps K H ds vs:=by rw[Rep]
theorem Rep.exf_exc {c:Str}{ks:List Str}(h:Rep K H (.ob (.exf c ks) ds) v):Rep K H (.exc c) v:=by
 obtain⟨a,vs,e,⟨C,dx,fs,h1,h2,_⟩,_⟩:=zfQ.mp h;exact zd4.mpr ⟨a,C,some dx,e,h1,h2⟩
theorem Reps.nil_iff:Reps K H [] vs↔vs=[]:=by unfold Reps;exact Iff.rfl
theorem zat:Reps K H (d::ds) vs↔∃ v r,vs=v::r/\Rep K H d v/\Reps K H ds r:=by rw[Reps]
theorem Reps.nil:Reps K H [] []:=Reps.nil_iff.mpr rfl
theorem Reps.cons (h:Rep K H d v)(h':Reps K H ds vs):Reps K H (d::ds) (v::vs):=zat.mpr ⟨_,_,rfl,h,h'⟩
end
theorem Reps.length {K:sab}{H:Hp}:∀ {ds:List D}{vs:List V},Reps K H ds vs->ds.length=vs.length
 | [],_,h=>by rw[Reps.nil_iff.mp h];rfl
 | d::ds,_,h=>by
  obtain⟨v,r,rfl,_,h⟩:=zat.mp h;simp [Reps.length h]
theorem Reps.get {K:sab}{H:Hp}:∀ {ds:List D}{vs:List V}{i:Nat}{d:D},Reps K H ds vs->ds[i]?=some d->∃ v,vs[i]?=some v/\Rep K H d v
 | [],_,_,_,h,e=>by simp at e
 | x::ds,_,0,d,h,e=>by
  obtain⟨v,r,rfl,h1,_⟩:=zat.mp h;simp at e;subst e;exact⟨v,rfl,h1⟩
 | x::ds,_,i+1,d,h,e=>by
  obtain⟨v,r,rfl,_,h2⟩:=zat.mp h;obtain⟨u,e1,e2⟩:=Reps.get (i:=i) h2 (by simpa using e);exact⟨u,by simpa using e1,e2⟩
theorem Reps.app {K:sab}{H:Hp}:∀ {ds es:List D}{vs us:List V},Reps K H ds vs->Reps K H es us->Reps K H (ds++es) (vs++us)
 | [],_,_,_,h,h'=>by rw[Reps.nil_iff.mp h];exact h'
 | d::ds,_,_,_,h,h'=>by
  obtain⟨v,r,rfl,h1,h2⟩:=zat.mp h;exact Reps.cons h1 (Reps.app h2 h')
theorem Reps.take {K:sab}{H:Hp}:∀ {ds:List D}{vs:List V}(n:Nat),Reps K H ds vs->Reps K H (ds.take n) (vs.take n)
 | _,_,0,_=>by simp;exact Reps.nil
 | [],_,n+1,h=>by rw[Reps.nil_iff.mp h];exact Reps.nil
 | d::ds,_,n+1,h=>by
  obtain⟨v,r,rfl,h1,h2⟩:=zat.mp h;exact Reps.cons h1 (Reps.take n h2)
theorem Reps.drop {K:sab}{H:Hp}:∀ {ds:List D}{vs:List V}(n:Nat),Reps K H ds vs->Reps K H (ds.drop n) (vs.drop n)
 | _,_,0,h=>by simpa using h
 | [],_,n+1,h=>by rw[Reps.nil_iff.mp h];exact Reps.nil
 | d::ds,_,n+1,h=>by
  obtain⟨v,r,rfl,h1,h2⟩:=zat.mp h;exact Reps.drop n h2
theorem Reps.set {K:sab}{H:Hp}{d:D}{v:V}(h:Rep K H d v):∀ {ds:List D}{vs:List V}(n:Nat),Reps K H ds vs->Reps K H (ds.set n d) (vs.set n v)
 | [],_,n,h'=>by rw[Reps.nil_iff.mp h'];exact Reps.nil
 | x::ds,_,0,h'=>by
  obtain⟨v,r,rfl,h1,h2⟩:=zat.mp h';exact Reps.cons h h2
 | x::ds,_,n+1,h'=>by
  obtain⟨v,r,rfl,h1,h2⟩:=zat.mp h';exact Reps.cons h1 (Reps.set h n h2)
theorem zrX {K:sab}{H:Hp}:∀ (ns:List Int),Reps K H (ns.map D.int) (ns.map V.int)
 | []=>Reps.nil
 | n::r=>Reps.cons (zak.mpr rfl) (zrX r)
structure zbK (H Ha H' Ha':Hp):Prop where
 s:zaJ H H'
 z:zaJ Ha Ha'
 sub:zaJ Ha' H'
 nw:∀ a,Ha' a≠none->Ha a=none->H a=none
theorem zbK.refl {H Ha:Hp}(h:zaJ Ha H):zbK H Ha H Ha:=⟨zaJ.refl _,zaJ.refl _,h,fun a h1 h2=>absurd h2 h1⟩
theorem zbK.trans {H Ha H1 H01 H2 H02:Hp}(a:zbK H Ha H1 H01)(b:zbK H1 H01 H2 H02):zbK H Ha H2 H02 :=
 ⟨a.s.trans b.s,a.z.trans b.z,b.sub,fun x h1 h2=>by
  cases q:H01 x with
  | none=>exact a.s.free (b.nw x h1 q)
  | some o=>exact a.nw x (by rw[q];simp) h2⟩
theorem zaD {H Ha:Hp}{p:Addr}{o:HO}(hs:zaJ Ha H)(hp:H p=none):zbK H Ha (upd H p o) (upd Ha p o) :=
 ⟨same_new hp o,same_new (hs.free hp) o,fun b u e=>by
  by_cases hb:b=p
  .subst hb;rw[zao] at e ⊢;exact e
  .rw[zan hb] at e ⊢;exact hs _ _ e,fun a h1 h2=>by
  by_cases hb:a=p
  .subst hb;exact hp
  .rw[zan hb] at h1;exact absurd h2 h1⟩
where
 same_new {H:Hp}{p:Addr}(h:H p=none) (o:HO):zaJ H (upd H p o):=fun b u q=>by rw[zan (zaP q h)];exact q
inductive Sl where
 | no | sh (d:D) | ow (d:D) | ox (j:Nat) (ds:List D) | pt (a:Addr)
abbrev Ev:=List Sl
noncomputable def Reads (K:sab) (Ha:Hp) (σ:L2.St) (ρ:Ev):Prop:=∀ (i:Nat) (d:D),ρ[i]?=some (.sh d)->∃ v,σ[i]?=some (some v)/\Rep K Ha d v
theorem Reads.mono {K:sab}{H H':Hp}{σ:L2.St}{ρ:Ev}(e:zaJ H H')(r:Reads K H σ ρ):Reads K H' σ ρ:=fun i d h =>
 let ⟨v,h1,h2⟩:=r i d h
 ⟨v,h1,h2.mono e⟩
noncomputable def ExR (K:sab) (H:Hp) (x:Exn) (C:Value) (ox:Option Addr):Prop :=
 (∃ c,C=.ref c/\XC K x.cls c)/\match ox with
  | none=>x.flds=[]
  | some a=>∃ fs,H a=some (.xd fs)/\∀ n d,x.flds.lookup n=some d->∃ v,fs.lookup n=some v/\Rep K H d v
noncomputable def post (K:sab) (E:XK) (H Ha:Hp) (r:Res D) (Q:VK):Prop:=match r with
 | .ok d=>∀ v H' Ha',zbK H Ha H' Ha'->Rep K Ha' d v->Q v H'
 | .exn x=>∀ C ox H' Ha',zbK H Ha H' Ha'->ExR K Ha' x C ox->E C ox H'
 | .stuck=>False
noncomputable def zuA (K:sab) (E:XK) (H Ha:Hp) (r:Res (List D)) (Q:List V->Hp->Prop):Prop:=match r with
 | .ok ds=>∀ vs H' Ha',zbK H Ha H' Ha'->Reps K Ha' ds vs->Q vs H'
 | .exn x=>∀ C ox H' Ha',zbK H Ha H' Ha'->ExR K Ha' x C ox->E C ox H'
 | .stuck=>False
noncomputable def zsk (K:sab) (E:XK) (H Ha:Hp) (r:Res D) (Q:Bool->Hp->Prop):Prop:=match r with
 | .ok (.bl b)=>∀ H' Ha',zbK H Ha H' Ha'->Q b H'
 | .ok _=>False
 | .exn x=>∀ C ox H' Ha',zbK H Ha H' Ha'->ExR K Ha' x C ox->E C ox H'
 | .stuck=>False
section
variable {K:sab}{E:XK}{H Ha H1 H01:Hp}
theorem post.grow {r:Res D}{Q:VK}(h:post K E H Ha r Q)(g:zbK H Ha H1 H01):post K E H1 H01 r Q:=by
 cases r with
 | ok d=>exact fun v H' Ha' g'=>h v H' Ha' (g.trans g')
 | exn x=>exact fun C ox H' Ha' g'=>h C ox H' Ha' (g.trans g')
 | stuck=>exact h
theorem zuA.grow {r:Res (List D)}{Q:List V->Hp->Prop}(h:zuA K E H Ha r Q)(g:zbK H Ha H1 H01):zuA K E H1 H01 r Q:=by
 cases r with
 | ok d=>exact fun v H' Ha' g'=>h v H' Ha' (g.trans g')
 | exn x=>exact fun C ox H' Ha' g'=>h C ox H' Ha' (g.trans g')
 | stuck=>exact h
theorem zsk.grow {r:Res D}{Q:Bool->Hp->Prop}(h:zsk K E H Ha r Q)(g:zbK H Ha H1 H01):zsk K E H1 H01 r Q:=by
 cases r with
 | ok d =>
  cases d with
  | bl b=>exact fun H' Ha' g'=>h H' Ha' (g.trans g')
  | _=>exact h
 | exn x=>exact fun C ox H' Ha' g'=>h C ox H' Ha' (g.trans g')
 | stuck=>exact h
end
noncomputable def tD (K:sab) (E:XK) (f:Ev->Res D):TE:=fun σ H Q=>∃ Ha ρ,zaJ Ha H/\Reads K Ha σ ρ/\post K E H Ha (f ρ) Q
noncomputable def tDA (K:sab) (E:XK) (f:Ev->Res (List D)):TA:=fun σ H Q=>∃ Ha ρ,zaJ Ha H/\Reads K Ha σ ρ/\zuA K E H Ha (f ρ) Q
noncomputable def tDT (K:sab) (E:XK) (f:Ev->Res D):TT:=fun σ H Q=>∃ Ha ρ,zaJ Ha H/\Reads K Ha σ ρ/\zsk K E H Ha (f ρ) Q
structure DE (X:Cx) (E:XK) (e:Expr) (f:Ev->Res D):Prop where
 o:PE X e (tD X.K E f)
structure DA (X:Cx) (E:XK) (es:List Expr) (f:Ev->Res (List D)):Prop where
 o:PA X es (tDA X.K E f)
structure DT (X:Cx) (E:XK) (e:Expr) (f:Ev->Res D):Prop where
 o:PT X e (tDT X.K E f)
structure DW (X:Cx) (E:XK) (e:Expr) (f:Ev->Res D):Prop where
 o:PW X e (tDT X.K E f)
section
variable {X:Cx}{E:XK}{e a b:Expr}{es:List Expr}{f g:Ev->Res D}{fa:Ev->Res (List D)}{pos:Pos}
theorem zaR {t t':TE}(h:PE X e t)(w:∀ σ H Q,t' σ H Q->t σ H Q):PE X e t':=fun pins s σ H Q I q=>h pins s σ H Q I (w σ H Q q)
theorem zoL {t t':TA}(h:PA X es t)(w:∀ σ H Q,t' σ H Q->t σ H Q):PA X es t':=fun pos pins s σ H Q I q=>h pos pins s σ H Q I (w σ H Q q)
theorem zib {t t':TT}(h:PT X e t)(w:∀ σ H Q,t' σ H Q->t σ H Q):PT X e t':=fun pins s σ H Q I q=>h pins s σ H Q I (w σ H Q q)
theorem zvX {t t':TT}(h:PW X e t)(w:∀ σ H Q,t' σ H Q->t σ H Q):PW X e t':=fun wh pins s σ H Q I q=>h wh pins s σ H Q I (w σ H Q q)
def zaf (i:Nat):Ev->Res D:=fun ρ=>match ρ[i]? with
 | some (.sh d)=>.ok d
 | _=>.stuck
def dC (d:D):Ev->Res D:=fun _=>.ok d
theorem zE3 {i:Nat}{x:Str}(hN:X.N[i]?=some x)(hv:Vis X.env.scope x)(hd:(x==("__debug__" : Str))=false:=by decide)(hcd:(x==("__classdict__" : Str))=false:=by decide):DE X E (.Name x pos) (zaf i):=by
 refine⟨?_⟩;refine zaR (zir hN hv hd hcd) fun σ H Q ⟨Ha,ρ,hs,hr,q⟩=>?_;unfold zaf at q;cases e:ρ[i]? with
 | none=>rw[e] at q;exact q.elim
 | some s =>
  rw[e] at q;cases s with
  | sh d =>
   obtain⟨v,e1,e2⟩:=hr i d e;exact⟨v,e1,q v H Ha (zbK.refl hs) e2⟩
  | no=>exact q.elim
  | ow d=>exact q.elim
  | ox j ds=>exact q.elim
  | pt a=>exact q.elim
theorem zae {i j}:DE X E (.Constant (.int i) j pos) (dC (.int i)):=⟨zaR zD7 fun σ H Q ⟨Ha,ρ,hs,hr,q⟩=>q _ H Ha (zbK.refl hs) (zak.mpr rfl)⟩
theorem zfn {i j}:DE X E (.Constant (.bool i) j pos) (dC (.bl i)):=⟨zaR zGf fun σ H Q ⟨Ha,ρ,hs,hr,q⟩=>q _ H Ha (zbK.refl hs) (zar.mpr rfl)⟩
theorem zcq {j}:DE X E (.Constant .none j pos) (dC .non):=⟨zaR zD5 fun σ H Q ⟨Ha,ρ,hs,hr,q⟩=>q _ H Ha (zbK.refl hs) (zaI.mpr rfl)⟩
theorem zev {x j}:DE X E (.Constant (.str x) j pos) (dC (.str x)):=⟨zaR zD2 fun σ H Q ⟨Ha,ρ,hs,hr,q⟩=>q _ H Ha (zbK.refl hs) (Rep.str_iff.mpr rfl)⟩
theorem zCA {x:Str}{v:V}{u:Value}{d:D}(hg:Gl X x)(hm:X.mg x=some u)(r:zcb v u)(hr:∀ H,Rep X.K H d v)(hd:(x==("__debug__" : Str))=false:=by decide):DE X E (.Name x pos) (dC d) :=
 ⟨zaR (zsm hg hm r hd) fun σ H Q ⟨Ha,ρ,hs,hr',q⟩=>q _ H Ha (zbK.refl hs) (hr Ha)⟩
noncomputable def zad (f g:Ev->Res D) (op:D->D->Res D):Ev->Res D:=fun ρ=>(f ρ).bind fun x=>(g ρ).bind fun y=>op x y
def zbo (f:Ev->Res D)(op:D->Res D):Ev->Res D:=fun ρ=>(f ρ).bind op
noncomputable def OpD (K:sab) (E:XK) (r:R2) (op:D->D->Res D):Prop:=∀ (x y:D) (v u:V) (H Ha:Hp) (Q:VK),zaJ Ha H->Rep K Ha x v->Rep K Ha y u->post K E H Ha (op x y) Q->r v u H Q
theorem zil {r:R2}{op:D->D->Res D}(ho:OpD X.K E r op)(σ:L2.St)(H:Hp)(Q:VK)(h:tD X.K E (zad f g op) σ H Q):tOp r (tD X.K E f) (tD X.K E g) σ H Q:=by
 obtain⟨Ha,ρ,hs,hr,q⟩:=h;refine⟨Ha,ρ,hs,hr,?_⟩;unfold zad at q;cases e1:f ρ with
 | stuck=>rw[e1] at q;exact q
 | exn x=>rw[e1] at q;exact q
 | ok x =>
  rw[e1] at q;intro v H1 H01 g1 r1;refine⟨H01,ρ,g1.sub,hr.mono g1.z,?_⟩;replace q:post X.K E H Ha ((g ρ).bind fun y=>op x y) Q:=q;replace q:=q.grow g1;cases e2:g ρ with
  | stuck=>rw[e2] at q;exact q
  | exn x=>rw[e2] at q;exact q
  | ok y =>
   rw[e2] at q;intro u H2 H02 g2 r2;exact ho x y v u H2 H02 Q g2.sub (r1.mono g2.z) r2 (post.grow (r:=op x y) q g2)
theorem zu8 {op:Operator}{r:R2}{o:D->D->Res D}(h:OpR X (binaryOp op) r)(ho:OpD X.K E r o)(ha:DE X E a f)(hb:DE X E b g):DE X E (.BinOp a op b pos) (zad f g o) :=
 ⟨zaR (zBQ h ha.o hb.o) (zil ho)⟩
theorem zdj {op:CmpOp}{r:R2}{o:D->D->Res D}(h:OpR X (compareOp op) r)(ho:OpD X.K E r o)(ha:DE X E a f)(hb:DE X E b g)(hm:behindInMarks op b=false):DE X E (.Compare a [op] [b] pos) (zad f g o) :=
 ⟨zaR (zv8 h ha.o hb.o hm) (zil ho)⟩
theorem zGC {r:R2}{o:D->D->Res D}(h:IxR X r)(ho:OpD X.K E r o)(ha:DE X E a f)(hb:DE X E b g)(hs:znm b):DE X E (.Subscript a b pos) (zad f g o) :=
 ⟨zaR (zD6 h ha.o hb.o hs) (zil ho)⟩
noncomputable def UnD (K:sab) (E:XK) (r:V->Hp->VK->Prop) (op:D->Res D):Prop:=∀ (x:D) (v:V) (H Ha:Hp) (Q:VK),zaJ Ha H->Rep K Ha x v->post K E H Ha (op x) Q->r v H Q
theorem zGB {op:UnaryOp}{r:V->Hp->VK->Prop}{o:D->Res D}(h:UnR X (unaryOp op) r)(ho:UnD X.K E r o)(ha:DE X E a f):DE X E (.UnaryOp op a pos) (zbo f o):=by
 refine⟨?_⟩;refine zaR (zGd h ha.o) fun σ H Q ⟨Ha,ρ,hs,hr,q⟩=>⟨Ha,ρ,hs,hr,?_⟩
 unfold zbo at q;cases e1:f ρ with
 | stuck=>rw[e1] at q;exact q
 | exn x=>rw[e1] at q;exact q
 | ok x =>
  rw[e1] at q;intro v H1 H01 g1 r1;exact ho x v H1 H01 Q g1.sub r1 (post.grow (r:=o x) q g1)
def zaz:Ev->Res (List D):=fun _=>.ok []
noncomputable def zab (f:Ev->Res D) (fa:Ev->Res (List D)):Ev->Res (List D):=fun ρ=>(f ρ).bind fun x=>(fa ρ).bind fun xs=>.ok (x::xs)
theorem zai:DA X E [] zaz:=⟨zoL ze7 fun σ H Q ⟨Ha,ρ,hs,hr,q⟩=>q [] H Ha (zbK.refl hs) Reps.nil⟩
theorem zaa (ha:DE X E e f)(hr:DA X E es fa)(hs:starEach (e::es) X.env=(false,eval e X.env)::starEach es X.env:=by exact zaH rfl):DA X E (e::es) (zab f fa):=by
 refine⟨?_⟩;refine zoL (zbW ha.o hr.o hs) fun σ H Q ⟨Ha,ρ,hs,hr,q⟩=>⟨Ha,ρ,hs,hr,?_⟩
 unfold zab at q;cases e1:f ρ with
 | stuck=>rw[e1] at q;exact q
 | exn x=>rw[e1] at q;exact q
 | ok x =>
  rw[e1] at q;intro v H1 H01 g1 r1;refine⟨H01,ρ,g1.sub,hr.mono g1.z,?_⟩;replace q:zuA X.K E H Ha ((fa ρ).bind fun xs=>.ok (x::xs)) Q:=q;replace q:=q.grow g1;cases e2:fa ρ with
  | stuck=>rw[e2] at q;exact q
  | exn x=>rw[e2] at q;exact q
  | ok xs =>
   rw[e2] at q;intro us H2 H02 g2 r2;exact q (v::us) H2 H02 g2 (Reps.cons (r1.mono g2.z) r2)
def line:Nat:=1000000
theorem zcw {n:Nat}(h:n<=line):n<=sizeLine:=sat h (by decide)
def zaj (fa:Ev->Res (List D))(m:List D->Res D):Ev->Res D:=fun ρ=>(fa ρ).bind m
def zeH:List D->Res D:=fun ds=>if ds.length<=line then .ok (.tup ds) else .stuck
def zfz:List D->Res D:=fun ds=>if ds.length<=line then .ok (.lst ds) else .stuck
theorem zi3 {m:List D->Res D}{r:List V->Hp->VK->Prop}(ho:∀ (ds:List D) (vs:List V) (H Ha:Hp) (Q:VK),zaJ Ha H->Reps X.K Ha ds vs->post X.K E H Ha (m ds) Q->r vs H Q)
  (σ:L2.St)(H:Hp)(Q:VK)(h:tD X.K E (zaj fa m) σ H Q):tDA X.K E fa σ H fun vs H1=>r vs H1 Q:=by
 obtain⟨Ha,ρ,hs,hr,q⟩:=h;refine⟨Ha,ρ,hs,hr,?_⟩;unfold zaj at q;cases e1:fa ρ with
 | stuck=>rw[e1] at q;exact q
 | exn x=>rw[e1] at q;exact q
 | ok x =>
  rw[e1] at q;intro v H1 H01 g1 r1;exact ho x v H1 H01 Q g1.sub r1 (post.grow (r:=m x) q g1)
theorem zbr {x1}(h:DA X E es fa):DE X E (.Tuple es x1 pos) (zaj fa zeH):=by
 refine⟨?_⟩;refine zaR (zAw h.o) (zi3 (r:=fun xs H1 Q=>xs.length<=sizeLine/\∀ p,H1 p=none->Q (.ref p) (upd H1 p (.tup xs))) fun ds vs H Ha Q hs hr q=>?_);unfold zeH at q
 by_cases hl:ds.length<=line
 .rw[if_pos hl] at q
  refine⟨by rw[← hr.length];exact zcw hl,fun p hp=>q _ _ _ (zaD hs hp) (zaw.mpr ⟨p,vs,rfl,SqT.of zao,hr.mono (zaD hs hp).z⟩)⟩
 .rw[if_neg hl] at q;exact q.elim
theorem zdi (h:DA X E es fa):DE X E (.List es pos) (zaj fa zfz):=by
 refine⟨?_⟩;refine zaR (zv7 h.o) (zi3 (r:=fun xs H1 Q=>xs.length<=sizeLine/\∀ p,H1 p=none->Q (.ref p) (upd H1 p (.lst xs))) fun ds vs H Ha Q hs hr q=>?_);unfold zfz at q
 by_cases hl:ds.length<=line
 .rw[if_pos hl] at q
  refine⟨by rw[← hr.length];exact zcw hl,fun p hp=>q _ _ _ (zaD hs hp) (zaq.mpr ⟨p,vs,rfl,SqL.of zao,hr.mono (zaD hs hp).z⟩)⟩
 .rw[if_neg hl] at q;exact q.elim
noncomputable def spD (K:sab) (n:Nat) (m:List D->Res D):Sp:=fun vs H Q E=>vs.length=n/\∃ Ha ds,zaJ Ha H/\Reps K Ha ds vs/\post K E H Ha (m ds) Q
theorem zCB {CX:CXT}{k n:Nat}{fn:Addr}{fd:FuncData}{ps:List Str}{m:List D->Res D}{x:Str}{p:Pos}(F:zbP X.prog X.w X.K X.mg X.base CX k fn fd ps (spD X.K n m))(hr:zfP k X.A)(hg:Gl X x)(hm:X.mg x=some (.ref fn))
  (hk:scj X.K (.ref fn)=true)(hb:zjc X.K fd ps [])(hx:zfR CX X E)(ha:DA X E (e::es) fa)(hn:(e::es).length=n:=by rfl)(hl:∀ ρ ds,fa ρ=.ok ds->ds.length=(e::es).length)
  (hdb:(x==("__debug__" : Str))=false:=by decide)(he:starEach (e::es) X.env=(false,eval e X.env)::starEach es X.env:=by exact zaH rfl)(hpl:(backTo pos (starEach es X.env)).any (·.1)=false:=by exact za9 rfl) :
  DE X E (.Call (.Name x p) (e::es) [] pos) (zaj fa m):=by
 refine⟨?_⟩;refine zaR (zoK F hr hg hm hk hb .nil hx ha.o hdb he hpl) fun σ H Q h=>?_;obtain⟨Ha,ρ,hs,hr,q⟩:=h;refine⟨Ha,ρ,hs,hr,?_⟩;unfold zaj at q;cases e1:fa ρ with
 | stuck=>rw[e1] at q;exact q
 | exn x=>rw[e1] at q;exact q
 | ok ds =>
  rw[e1] at q;intro v H1 H01 g1 r1;refine⟨?_,H01,ds,g1.sub,by simpa using r1,post.grow (r:=m ds) q g1⟩;have:=r1.length;have:=hl ρ ds e1;simp only[saZ];omega
theorem zAb {ρ:Ev}{ds:List D}(h:zaz ρ=.ok ds):ds.length=0:=by cases h;rfl
theorem zhp {ρ:Ev}{ds:List D}{n:Nat}(hr:∀ es,fa ρ=.ok es->es.length=n)(h:zab f fa ρ=.ok ds):ds.length=n+1:=by
 unfold zab at h;cases e1:f ρ with
 | stuck=>rw[e1] at h;cases h
 | exn x=>rw[e1] at h;cases h
 | ok x =>
  rw[e1] at h;replace h:((fa ρ).bind fun xs=>Res.ok (x::xs))=.ok ds:=h;cases e2:fa ρ with
  | stuck=>rw[e2] at h;cases h
  | exn x=>rw[e2] at h;cases h
  | ok xs =>
   rw[e2] at h;cases h;simp [hr xs e2]
noncomputable def zhH (X:Cx) (E:XK) (r:List V->Hp->VK->Prop) (m:List D->Res D):Prop:=∀ (ds:List D) (vs:List V) (H Ha:Hp) (Q:VK),zaJ Ha H->Reps X.K Ha ds vs->post X.K E H Ha (m ds) Q->r vs H Q
theorem zaM {id:String}{r:List V->Hp->VK->Prop}{m:List D->Res D}{x:Str}{p:Pos}(hc:zhG X (.builtin id) r)(hd:zhH X E r m)(hg:Gl X x)(hm:X.mg x=none)(hv:bootBuiltins x=some (.builtin id))(ha:DA X E (e::es) fa)(hn:x≠"__name__":=by decide)(hdb:(x==("__debug__" : Str))=false:=by decide)
  (he:starEach (e::es) X.env=(false,eval e X.env)::starEach es X.env:=by exact zaH rfl)(hpl:(backTo pos (starEach es X.env)).any (·.1)=false:=by exact za9 rfl):DE X E (.Call (.Name x p) (e::es) [] pos) (zaj fa m) :=
 ⟨zaR (zkN hc hg hm hv ha.o hn hdb he hpl) (zi3 hd)⟩
theorem zzT (h:PT X e (tB (tD X.K E f))):DT X E e f:=by
 refine⟨?_⟩;refine zib h fun σ H Q ⟨Ha,ρ,hs,hr,q⟩=>⟨Ha,ρ,hs,hr,?_⟩
 cases e1:f ρ with
 | stuck=>rw[e1] at q;exact q
 | exn x=>rw[e1] at q;exact q
 | ok d =>
  rw[e1] at q;intro v H1 H01 g1 r1;cases d with
  | bl b=>rw[zar.mp r1];exact⟨b,rfl,q H1 H01 g1⟩
  | _=>exact q.elim
theorem zaZ (h:DE X E e f)(he:∀ whole,isTrue e X.env whole=(do let v ← whole;standAt e.pos;holding [v] (truthy v)):=by intro _;rfl):DT X E e f:=zzT (zDR h.o he)
theorem za3 {op:CmpOp}{r:R2}{o:D->D->Res D}(h:OpR X (compareOp op) r)(ho:OpD X.K E r o)(ha:DE X E a f)(hb:DE X E b g)(hm:behindInMarks op b=false):DT X E (.Compare a [op] [b] pos) (zad f g o):=by
 refine⟨?_⟩;refine zib (zvZ h ha.o hb.o hm) fun σ H Q h=>?_;have w:tD X.K E (zad f g o) σ H fun x H'=>∃ k,x=.bl k/\Q k H':=by
  obtain⟨Ha,ρ,hs,hr,q⟩:=h;refine⟨Ha,ρ,hs,hr,?_⟩;cases e1:zad f g o ρ with
  | stuck=>rw[e1] at q;exact q
  | exn x=>rw[e1] at q;exact q
  | ok d =>
   rw[e1] at q;intro v H1 H01 g1 r1;cases d with
   | bl b=>rw[zar.mp r1];exact⟨b,rfl,q H1 H01 g1⟩
   | _=>exact q.elim
 exact zil ho σ H _ w
def zdQ (f:Ev->Res D):Ev->Res D:=zbo f fun x=>match x with
 | .bl b=>.ok (.bl (!b))
 | _=>.stuck
noncomputable def zmX (f g:Ev->Res D):Ev->Res D:=fun ρ=>(f ρ).bind fun x=>match x with
 | .bl true=>g ρ
 | .bl false=>.ok (.bl false)
 | _=>.stuck
noncomputable def dOr (f g:Ev->Res D):Ev->Res D:=fun ρ=>(f ρ).bind fun x=>match x with
 | .bl true=>.ok (.bl true)
 | .bl false=>g ρ
 | _=>.stuck
theorem zbc (ha:DT X E a f):DT X E (.UnaryOp .Not a pos) (zdQ f):=by
 refine⟨?_⟩;refine zib (zDS ha.o) fun σ H Q ⟨Ha,ρ,hs,hr,q⟩=>⟨Ha,ρ,hs,hr,?_⟩
 unfold zdQ zbo at q;cases e1:f ρ with
 | stuck=>rw[e1] at q;exact q
 | exn x=>rw[e1] at q;exact q
 | ok d =>
  rw[e1] at q;cases d with
  | bl b=>exact q
  | _=>exact q.elim
theorem zAT (ha:DE X E a f):DE X E (.UnaryOp .Not a pos) (zdQ f):=by
 refine⟨?_⟩;refine zaR (zD4 ha.o) fun σ H Q ⟨Ha,ρ,hs,hr,q⟩=>⟨Ha,ρ,hs,hr,?_⟩
 unfold zdQ zbo at q;cases e1:f ρ with
 | stuck=>rw[e1] at q;exact q
 | exn x=>rw[e1] at q;exact q
 | ok d =>
  rw[e1] at q;intro v H1 H01 g1 r1;cases d with
  | bl b=>rw[zar.mp r1];exact⟨b,rfl,q (.bl !b) H1 H01 g1 (zar.mpr rfl)⟩
  | _=>exact q.elim
variable {rest:List Expr}
theorem zn0 (ha:DT X E a f):DW X E (.BoolOp .And [a] pos) f:=⟨zBH ha.o⟩
theorem zaV (ha:DT X E a f):DW X E (.BoolOp .Or [a] pos) f:=⟨zDM ha.o⟩
theorem zxO (ha:DT X E a f)(hb:DW X E (.BoolOp .And (b::rest) pos) g):DW X E (.BoolOp .And (a::b::rest) pos) (zmX f g):=by
 refine⟨?_⟩;refine zvX (zDN ha.o hb.o) fun σ H Q ⟨Ha,ρ,hs,hr,q⟩=>⟨Ha,ρ,hs,hr,?_⟩
 unfold zmX at q;cases e1:f ρ with
 | stuck=>rw[e1] at q;exact q
 | exn x=>rw[e1] at q;exact q
 | ok d =>
  rw[e1] at q;cases d with
  | bl b =>
   cases b with
   | true=>exact fun H1 H01 g1=>⟨H01,ρ,g1.sub,hr.mono g1.z,zsk.grow (r:=g ρ) q g1⟩
   | false=>exact fun H1 H01 g1=>q H1 H01 g1
  | _=>exact q.elim
theorem zd1 (ha:DT X E a f)(hb:DW X E (.BoolOp .Or (b::rest) pos) g):DW X E (.BoolOp .Or (a::b::rest) pos) (dOr f g):=by
 refine⟨?_⟩;refine zvX (zF6 ha.o hb.o) fun σ H Q ⟨Ha,ρ,hs,hr,q⟩=>⟨Ha,ρ,hs,hr,?_⟩
 unfold dOr at q;cases e1:f ρ with
 | stuck=>rw[e1] at q;exact q
 | exn x=>rw[e1] at q;exact q
 | ok d =>
  rw[e1] at q;cases d with
  | bl b =>
   cases b with
   | false=>exact fun H1 H01 g1=>⟨H01,ρ,g1.sub,hr.mono g1.z,zsk.grow (r:=g ρ) q g1⟩
   | true=>exact fun H1 H01 g1=>q H1 H01 g1
  | _=>exact q.elim
theorem DW.dt (h:DW X E e f):DT X E e f:=⟨PW.pt h.o⟩
theorem zfJ {op}(h:DE X E a f):DE X E (.BoolOp op [a] pos) f:=⟨zD3 h.o⟩
theorem zgn (ha:DE X E a f)(hb:DE X E (.BoolOp .And (b::rest) pos) g):DE X E (.BoolOp .And (a::b::rest) pos) (zmX f g):=by
 refine⟨?_⟩;refine zaR (zD8 ha.o hb.o) fun σ H Q ⟨Ha,ρ,hs,hr,q⟩=>⟨Ha,ρ,hs,hr,?_⟩
 unfold zmX at q;cases e1:f ρ with
 | stuck=>rw[e1] at q;exact q
 | exn x=>rw[e1] at q;exact q
 | ok d =>
  rw[e1] at q;intro v H1 H01 g1 r1;cases d with
  | bl b =>
   rw[zar.mp r1];cases b with
   | true=>exact⟨true,rfl,H01,ρ,g1.sub,hr.mono g1.z,post.grow (r:=g ρ) q g1⟩
   | false=>exact⟨false,rfl,q (.bl false) H1 H01 g1 (zar.mpr rfl)⟩
  | _=>exact q.elim
theorem zE5 (ha:DE X E a f)(hb:DE X E (.BoolOp .Or (b::rest) pos) g):DE X E (.BoolOp .Or (a::b::rest) pos) (dOr f g):=by
 refine⟨?_⟩;refine zaR (zGe ha.o hb.o) fun σ H Q ⟨Ha,ρ,hs,hr,q⟩=>⟨Ha,ρ,hs,hr,?_⟩
 unfold dOr at q;cases e1:f ρ with
 | stuck=>rw[e1] at q;exact q
 | exn x=>rw[e1] at q;exact q
 | ok d =>
  rw[e1] at q;intro v H1 H01 g1 r1;cases d with
  | bl b =>
   rw[zar.mp r1];cases b with
   | false=>exact⟨false,rfl,H01,ρ,g1.sub,hr.mono g1.z,post.grow (r:=g ρ) q g1⟩
   | true=>exact⟨true,rfl,q (.bl true) H1 H01 g1 (zar.mpr rfl)⟩
  | _=>exact q.elim
noncomputable def dIf (c f g:Ev->Res D):Ev->Res D:=fun ρ=>(c ρ).bind fun x=>match x with
 | .bl true=>f ρ
 | .bl false=>g ρ
 | _=>.stuck
theorem zzY {c:Expr}{fc:Ev->Res D}(hc:DT X E c fc)(ha:DE X E a f)(hb:DE X E b g):DE X E (.IfExp c a b pos) (dIf fc f g):=by
 refine⟨?_⟩;refine zaR (zy9 hc.o ha.o hb.o) fun σ H Q ⟨Ha,ρ,hs,hr,q⟩=>⟨Ha,ρ,hs,hr,?_⟩
 unfold dIf at q;cases e1:fc ρ with
 | stuck=>rw[e1] at q;exact q
 | exn x=>rw[e1] at q;exact q
 | ok d =>
  rw[e1] at q;cases d with
  | bl b =>
   cases b with
   | true=>exact fun H1 H01 g1=>⟨H01,ρ,g1.sub,hr.mono g1.z,post.grow (r:=f ρ) q g1⟩
   | false=>exact fun H1 H01 g1=>⟨H01,ρ,g1.sub,hr.mono g1.z,post.grow (r:=g ρ) q g1⟩
  | _=>exact q.elim
end
noncomputable def zH2 (K:sab) (Ha H:Hp) (a:Addr) (d:D):Prop:=match d with
 | .lst ds=>∃ vs,H a=some (.lst vs)/\Reps K Ha ds vs
 | _=>False
noncomputable def OXr (K:sab) (He Ha H:Hp) (a:Addr) (j:Nat) (ds:List D) (p:Addr):Prop:=∃ vs es us,He a=none/\H a=some (.tup vs)/\He p=none/\Ha p=none/\ds[j]?=some (.lst es)/\vs[j]?=some (.ref p)/\H p=some (.lst us)/\Reps K Ha es us/\ds.length=vs.length/\∀ k d v,k≠j->ds[k]?=some d->vs[k]?=some v->Rep K Ha d v
noncomputable def OX (K:sab) (He Ha:Hp) (σ:L2.St) (H:Hp) (ρ:Ev):Prop:=(∀ (i j:Nat) (ds:List D),ρ[i]?=some (.ox j ds)->∃ a p,σ[i]?=some (some (.ref a))/\OXr K He Ha H a j ds p/\(∀ (k:Nat) (d:D),ρ[k]?=some (.ow d)->σ[k]?≠some (some (.ref p)))/\∀ (k j':Nat) (ds':List D),ρ[k]?=some (.ox j' ds')->k=i)/\∀ (i:Nat) (a:Addr),ρ[i]?=some (.pt a)->σ[i]?=some (some (.ref a))
theorem OX.upd {K:sab}{He Ha Ha' H H':Hp}{σ σ':L2.St}{ρ ρ':Ev}(h:OX K He Ha σ H ρ)
  (hk:∀ (j:Nat) (s:Sl),ρ'[j]?=some s->(ρ[j]?=some s/\σ'[j]?=σ[j]?)∨(∃ d,s=.sh d)∨s=.no∨∃ d q,s=.ow d/\σ'[j]?=some (some (.ref q))/\∀ (i j:Nat) (ds:List D) (a p:Addr),ρ[i]?=some (.ox j ds)->σ[i]?=some (some (.ref a))->OXr K He Ha H a j ds p->q≠p)
  (hz:zaJ Ha Ha')(ht:∀ a vs,He a=none->H a=some (.tup vs)->H' a=some (.tup vs))
  (hl:∀ p us,He p=none->Ha p=none->H p=some (.lst us)->(∀ (k:Nat) (d:D),ρ[k]?=some (.ow d)->σ[k]?≠some (some (.ref p)))->H' p=some (.lst us)/\Ha' p=none):OX K He Ha' σ' H' ρ':=by
 refine⟨fun i j ds e=>?_,fun i a e=>?_⟩
 rotate_left
 .rcases hk i _ e with h1 | ⟨d,h1⟩ | h1 | ⟨d,q,h1,_⟩
  .rw[h1.2];exact h.2 i a h1.1
  .cases h1
  .cases h1
  .cases h1
 have old:ρ[i]?=some (.ox j ds)/\σ'[i]?=σ[i]?:=by
  rcases hk i _ e with h1 | ⟨d,h1⟩ | h1 | ⟨d,q,h1,_⟩
  .exact h1
  .cases h1
  .cases h1
  .cases h1
 obtain⟨a,p,h1,h2,h3,h4⟩:=h.1 i j ds old.1;have h2':=h2;obtain⟨vs,es,us,r1,r2,r3,r4,r5,r6,r7,r8,r9,r10⟩:=h2;obtain⟨l1,l2⟩:=hl p us r3 r4 r7 h3;refine⟨a,p,old.2.trans h1,⟨vs,es,us,r1,ht a vs r1 r2,r3,l2,r5,r6,l1,r8.mono hz,r9,fun k d v hk e1 e2=>(r10 k d v hk e1 e2).mono hz⟩,fun k d ek z=>?_,fun k j' ds' ek=>?_⟩
 .rcases hk k _ ek with h1' | ⟨d',h1'⟩ | h1' | ⟨d',q,h1',h2'',h3'⟩
  .exact h3 k d h1'.1 (by rw[← h1'.2];exact z)
  .cases h1'
  .cases h1'
  .rw[h2''] at z
   cases z;exact h3' i j ds a p old.1 h1 h2' rfl
 .rcases hk k _ ek with h1' | ⟨d',h1'⟩ | h1' | ⟨d',q,h1',_⟩
  .exact h4 k j' ds' h1'.1
  .cases h1'
  .cases h1'
  .cases h1'
theorem OX.none {K:sab}{He Ha H:Hp}{σ:L2.St}{ρ:Ev}(h:∀ (i j:Nat) (ds:List D),ρ[i]?≠some (.ox j ds))(h':∀ (i:Nat) (a:Addr),ρ[i]?=some (.pt a)->σ[i]?=some (some (.ref a))):OX K He Ha σ H ρ:=⟨fun i j ds e=>absurd e (h i j ds),h'⟩
theorem zvT {K:sab}{H:Hp}:∀ {ds:List D}{vs:List V},ds.length=vs.length->(∀ (k:Nat) (d:D) (v:V),ds[k]?=some d->vs[k]?=some v->Rep K H d v)->Reps K H ds vs
 | [],[],_,_=>Reps.nil
 | d::ds,v::vs,hl,h=>Reps.cons (h 0 d v rfl rfl) (zvT (by simpa using hl) fun k d' v' e1 e2=>h (k+1) d' v' e1 e2)
structure SRx (K:sab) (He H0e Ha:Hp) (σ:L2.St) (H:Hp) (ρ:Ev):Prop where
 g:zbK He H0e H Ha
 rd:Reads K Ha σ ρ
 ow:∀ (i:Nat) (d:D),ρ[i]?=some (.ow d)->∃ a,σ[i]?=some (some (.ref a))/\He a=none/\Ha a=none/\zH2 K Ha H a d
 ap:∀ (i j:Nat) (d d':D),i≠j->ρ[i]?=some (.ow d)->ρ[j]?=some (.ow d')->σ[i]?≠σ[j]?
 ln:ρ.length=σ.length
 ex:OX K He Ha σ H ρ
inductive Fl where
 | nx (ρ:Ev) | rt (d:D) | bk (ρ:Ev) | ct (ρ:Ev)
noncomputable def zca (K:sab) (E:XK) (He H0e Ha:Hp) (r:Res Fl) (D:zjM):Prop:=match r with
 | .ok (.nx ρ)=>∀ σ H Ha',zaJ Ha Ha'->SRx K He H0e Ha' σ H ρ->D.nx σ H
 | .ok (.rt d)=>∀ v H Ha',zbK He H0e H Ha'->Rep K Ha' d v->D.rt v H
 | .ok (.bk ρ)=>∀ σ H Ha',zaJ Ha Ha'->SRx K He H0e Ha' σ H ρ->D.bk σ H
 | .ok (.ct ρ)=>∀ σ H Ha',zaJ Ha Ha'->SRx K He H0e Ha' σ H ρ->D.ct σ H
 | .exn x=>∀ C ox H Ha',zbK He H0e H Ha'->ExR K Ha' x C ox->E C ox H
 | .stuck=>False
theorem zca.grow {K:sab}{E:XK}{He H0e Ha Hb:Hp}{r:Res Fl}{D:zjM}(h:zca K E He H0e Ha r D)(s:zaJ Ha Hb):zca K E He H0e Hb r D:=by
 cases r with
 | ok f =>
  cases f with
  | nx ρ=>exact fun σ H Ha' s'=>h σ H Ha' (s.trans s')
  | rt d=>exact h
  | bk ρ=>exact fun σ H Ha' s'=>h σ H Ha' (s.trans s')
  | ct ρ=>exact fun σ H Ha' s'=>h σ H Ha' (s.trans s')
 | exn x=>exact h
 | stuck=>exact h
noncomputable def tS (K:sab) (E:XK) (He H0e:Hp) (g:Ev->Res Fl):TS:=fun D σ H=>∃ Ha ρ,SRx K He H0e Ha σ H ρ/\zca K E He H0e Ha (g ρ) D
structure DS (X:Cx) (E:XK) (He H0e:Hp) (st:Stmt) (g:Ev->Res Fl):Prop where
 o:PS X st (tS X.K E He H0e g)
structure DSs (X:Cx) (E:XK) (He H0e:Hp) (st:List Stmt) (g:Ev->Res Fl):Prop where
 o:PSs X st (tS X.K E He H0e g)
def shr (ρ:Ev):Ev:=ρ.map fun s=>match s with
 | .ow d=>.sh d
 | .ox _ ds=>.sh (.tup ds)
 | x=>x
def frz (He Ha H:Hp):Hp:=fun a=>match He a with
 | none=>H a
 | some _=>Ha a
section
variable {K:sab}{E:XK}{He H0e Ha H H1:Hp}{σ:L2.St}{ρ:Ev}
theorem SRx.same (h:SRx K He H0e Ha σ H ρ)(s:zaJ H H1):SRx K He H0e Ha σ H1 ρ :=
 ⟨⟨h.g.s.trans s,h.g.z,h.g.sub.trans s,h.g.nw⟩,h.rd,fun i d e=>by
  obtain⟨a,h1,h2,h3,h4⟩:=h.ow i d e;refine⟨a,h1,h2,h3,?_⟩;cases d with
  | lst ds=>obtain⟨vs,h5,h6⟩:=h4;exact⟨vs,s _ _ h5,h6⟩
  | _=>exact h4,h.ap,h.ln,h.ex.upd (fun j s' e=>.inl ⟨e,rfl⟩) (zaJ.refl _) (fun a vs _ e=>s _ _ e) fun p us _ h0 hp _=>⟨s _ _ hp,h0⟩⟩
theorem SRx.grow {H01:Hp}(h:SRx K He H0e Ha σ H ρ)(s:zbK H Ha H1 H01):SRx K He H0e H01 σ H1 ρ :=
 ⟨h.g.trans s,h.rd.mono s.z,fun i d e=>by
  obtain⟨a,h1,h2,h3,h4⟩:=h.ow i d e;have ha:H01 a=none:=by
   cases q:H01 a with
   | none=>rfl
   | some o =>
    have:=s.nw a (by rw[q];simp) h3;cases d with
    | lst ds=>obtain⟨vs,h5,_⟩:=h4;rw[h5] at this;cases this
    | _=>exact h4.elim
  refine⟨a,h1,h2,ha,?_⟩;cases d with
  | lst ds=>obtain⟨vs,h5,h6⟩:=h4;exact⟨vs,s.s _ _ h5,h6.mono s.z⟩
  | _=>exact h4,h.ap,h.ln,h.ex.upd (fun j s' e=>.inl ⟨e,rfl⟩) s.z (fun a vs _ e=>s.s _ _ e) fun p us _ h0 hp _=>⟨s.s _ _ hp,by
   cases q:H01 p with
   | none=>rfl
   | some o=>have:=s.nw p (by rw[q];simp) h0;rw[hp] at this;cases this⟩⟩
theorem SRx.frz_sub (h:SRx K He H0e Ha σ H ρ):zaJ Ha (frz He Ha H):=fun b o e=>by
 unfold frz;cases q:He b with
 | none=>exact h.g.sub _ _ e
 | some _=>exact e
theorem SRx.frz_le (h:SRx K He H0e Ha σ H ρ):zaJ (frz He Ha H) H:=fun b o e=>by
 unfold frz at e;cases q:He b with
 | none=>rw[q] at e;exact e
 | some _=>rw[q] at e;exact h.g.sub _ _ e
theorem SRx.frz_grow (h:SRx K He H0e Ha σ H ρ):zbK He H0e H (frz He Ha H) :=
 ⟨h.g.s,h.g.z.trans h.frz_sub,h.frz_le,fun a h1 h2=>by
  cases q:He a with
  | none=>rfl
  | some o =>
   unfold frz at h1;rw[q] at h1;have:=h.g.nw a h1 h2;rw[q] at this;cases this⟩
theorem SRx.looks (h:SRx K He H0e Ha σ H ρ):Reads K (frz He Ha H) σ (shr ρ):=fun i d e=>by
 unfold shr at e;rw[sai] at e;cases q:ρ[i]? with
 | none=>rw[q] at e;cases e
 | some s =>
  rw[q] at e;cases s with
  | no=>cases e
  | pt a=>cases e
  | sh d' =>
   cases e;obtain⟨v,h1,h2⟩:=h.rd i d q;exact⟨v,h1,h2.mono h.frz_sub⟩
  | ow d' =>
   cases e;obtain⟨a,h1,h2,h3,h4⟩:=h.ow i d q;refine⟨_,h1,?_⟩;cases d with
   | lst ds =>
    obtain⟨vs,h5,h6⟩:=h4;exact zaq.mpr ⟨a,vs,rfl,SqL.of (by unfold frz;rw[h2];exact h5),h6.mono h.frz_sub⟩
   | _=>exact h4.elim
  | ox j ds =>
   cases e;obtain⟨a,p,h1,⟨vs,es,us,r1,r2,r3,r4,r5,r6,r7,r8,r9,r10⟩,_⟩:=h.ex.1 i j ds q;refine⟨_,h1,zaw.mpr ⟨a,vs,rfl,SqT.of (by unfold frz;rw[r1];exact r2),zvT r9 fun k d v e1 e2=>?_⟩⟩
   by_cases hk:k=j
   .subst hk
    rw[r5] at e1;cases e1;rw[r6] at e2;cases e2;exact zaq.mpr ⟨p,us,rfl,SqL.of (by unfold frz;rw[r3];exact r7),r8.mono h.frz_sub⟩
   .exact(r10 k d v hk e1 e2).mono h.frz_sub
theorem SRx.put (h:SRx K He H0e Ha σ H ρ){i:Nat}{d:D}{v:V}(r:Rep K Ha d v):SRx K He H0e Ha (σ.set i (some v)) H (ρ.set i (.sh d)):=by
 have key:∀ (j:Nat) (s:Sl),(ρ.set i (.sh d))[j]?=some s->(j=i/\s=.sh d/\i < σ.length)∨(j≠i/\ρ[j]?=some s):=fun j s e=>by
  by_cases hj:i=j
  .subst hj
   rw[sb9] at e;cases q:ρ[i]? with
   | none=>rw[q] at e;cases e
   | some s' =>
    rw[q] at e;cases e;refine .inl ⟨rfl,rfl,?_⟩;rw[← h.ln];exact(sac.mp q).1
  .rw[sah hj] at e
   exact .inr ⟨fun z=>hj z.symm,e⟩
 refine⟨h.g,fun j d' e=>?_,fun j d' e=>?_,fun j k d1 d2 hn e1 e2=>?_,by simp [h.ln],h.ex.upd (fun j s e=>?_) (zaJ.refl _) (fun a vs _ e=>e) fun p us _ h0 hp _=>⟨hp,h0⟩⟩
 rotate_left 3
 .rcases key j _ e with⟨rfl,e',hl⟩ | ⟨hj,e'⟩
  .exact .inr (.inl ⟨d,e'⟩)
  .exact .inl ⟨e',by rw[sah (saT hj)]⟩
 .rcases key j _ e with⟨rfl,e',hl⟩ | ⟨hj,e'⟩
  .cases e'
   exact⟨v,by rw[saF hl],r⟩
  .obtain⟨v',h1,h2⟩:=h.rd j d' e'
   exact⟨v',by rw[sah (saT hj)];exact h1,h2⟩
 .rcases key j _ e with⟨rfl,e',hl⟩ | ⟨hj,e'⟩
  .cases e'
  .obtain⟨a,h1,h2⟩:=h.ow j d' e'
   exact⟨a,by rw[sah (saT hj)];exact h1,h2⟩
 .rcases key j _ e1 with⟨_,e',_⟩ | ⟨hj,e1'⟩
  .cases e'
  rcases key k _ e2 with⟨_,e',_⟩ | ⟨hk,e2'⟩
  .cases e'
  rw[sah (saT hj),sah (saT hk)];exact h.ap j k d1 d2 hn e1' e2'
theorem SRx.putOwn (h:SRx K He H0e Ha σ H ρ){i:Nat}{ds:List D}{vs:List V}{p:Addr}(hp:∀ (j:Nat) (a:Addr),σ[j]?=some (some (V.ref a))->a=p->∀ d:D,ρ[j]?≠some (Sl.ow d))(he:He p=none)(h0:Ha p=none)(hv:H p=some (.lst vs))(r:Reps K Ha ds vs)(hx:∀ (i j:Nat) (ds:List D) (a q:Addr),ρ[i]?=some (.ox j ds)->σ[i]?=some (some (.ref a))->OXr K He Ha H a j ds q->p≠q) :
  SRx K He H0e Ha (σ.set i (some (.ref p))) H (ρ.set i (.ow (.lst ds))):=by
 have key:∀ (j:Nat) (s:Sl),(ρ.set i (.ow (.lst ds)))[j]?=some s->(j=i/\s=.ow (.lst ds)/\i < σ.length)∨(j≠i/\ρ[j]?=some s):=fun j s e=>by
  by_cases hj:i=j
  .subst hj
   rw[sb9] at e;cases q:ρ[i]? with
   | none=>rw[q] at e;cases e
   | some s' =>
    rw[q] at e;cases e;refine .inl ⟨rfl,rfl,?_⟩;rw[← h.ln];exact(sac.mp q).1
  .rw[sah hj] at e
   exact .inr ⟨fun z=>hj z.symm,e⟩
 have other:∀ (k:Nat) (d2:D),k≠i->ρ[k]?=some (.ow d2)->some (some (V.ref p))≠σ[k]?:=fun k d2 hk e2 z=>by
  obtain⟨a,h1,_⟩:=h.ow k d2 e2;rw[h1] at z;cases z;exact hp k p h1 rfl d2 e2
 refine⟨h.g,fun j d' e=>?_,fun j d' e=>?_,fun j k d1 d2 hn e1 e2=>?_,by simp [h.ln],h.ex.upd (fun j s e=>?_) (zaJ.refl _) (fun a vs _ e=>e) fun p us _ h0 hp _=>⟨hp,h0⟩⟩
 rotate_left 3
 .rcases key j _ e with⟨rfl,e',hl⟩ | ⟨hj,e'⟩
  .exact .inr (.inr (.inr ⟨.lst ds,p,e',by rw[saF hl],hx⟩))
  .exact .inl ⟨e',by rw[sah (saT hj)]⟩
 .rcases key j _ e with⟨rfl,e',hl⟩ | ⟨hj,e'⟩
  .cases e'
  .obtain⟨v',h1,h2⟩:=h.rd j d' e'
   exact⟨v',by rw[sah (saT hj)];exact h1,h2⟩
 .rcases key j _ e with⟨rfl,e',hl⟩ | ⟨hj,e'⟩
  .cases e'
   exact⟨p,by rw[saF hl],he,h0,vs,hv,r⟩
  .obtain⟨a,h1,h2⟩:=h.ow j d' e'
   exact⟨a,by rw[sah (saT hj)];exact h1,h2⟩
 .rcases key j _ e1 with⟨rfl,_,hl⟩ | ⟨hj,e1'⟩
  .rcases key k _ e2 with⟨rfl,_,_⟩ | ⟨hk,e2'⟩
   .exact absurd rfl hn
   .rw[saF hl,sah (saT hk)]
    exact other k d2 hk e2'
  .rcases key k _ e2 with⟨rfl,_,hl⟩ | ⟨hk,e2'⟩
   .rw[saF hl,sah (saT hj)]
    exact fun z=>other j d1 hj e1' z.symm
   .rw[sah (saT hj),sah (saT hk)]
    exact h.ap j k d1 d2 hn e1' e2'
theorem SRx.fresh_x {H01:Hp}{p:Addr}(h:SRx K He H0e Ha σ H ρ)(s:zaJ H H1)(hp:H p=none):∀ (i j:Nat) (ds:List D) (a q:Addr),ρ[i]?=some (.ox j ds)->σ[i]?=some (some (.ref a))->OXr K He H01 H1 a j ds q->p≠q:=fun i j ds a q x1 x2 x3=>by
 obtain⟨a2,p2,y1,⟨vs2,_,us2,_,z3,_,_,_,z4,z5,_⟩,_⟩:=h.ex.1 i j ds x1;rw[x2] at y1;cases y1;obtain⟨vs1,_,_,_,z1,_,_,_,z2,_⟩:=x3;have:=s _ _ z3;rw[z1] at this;cases this;rw[z2] at z4;cases z4;intro z;subst z;rw[hp] at z5;cases z5
theorem SRx.write (h:SRx K He H0e Ha σ H ρ){i:Nat}{d:D}{p:Addr}{ds:List D}{vs:List V}(e:ρ[i]?=some (.ow d))(es:σ[i]?=some (some (.ref p)))(r:Reps K Ha ds vs) :
  SRx K He H0e Ha σ (upd H p (.lst vs)) (ρ.set i (.ow (.lst ds))):=by
 obtain⟨a,h1,h2,h3,h4⟩:=h.ow i d e;rw[h1] at es;cases es;have hil:i < ρ.length:=(sac.mp e).1;have key:∀ (j:Nat) (s:Sl),(ρ.set i (.ow (.lst ds)))[j]?=some s->(j=i/\s=.ow (.lst ds))∨(j≠i/\ρ[j]?=some s):=fun j s e=>by
  by_cases hj:i=j
  .subst hj
   rw[saF hil] at e;cases e;exact .inl ⟨rfl,rfl⟩
  .rw[sah hj] at e
   exact .inr ⟨fun z=>hj z.symm,e⟩
 refine⟨⟨fun b o eb=>?_,h.g.z,fun b o eb=>?_,h.g.nw⟩,fun j d' e'=>?_,fun j d' e'=>?_,fun j k d1 d2 hn e1 e2=>?_,by simp [h.ln],h.ex.upd (fun j s e'=>?_) (zaJ.refl _) (fun b us _ eb=>?_) fun q us _ q0 hq hd=>?_⟩
 rotate_left 5
 .rcases key j _ e' with⟨rfl,e''⟩ | ⟨hj,e''⟩
  .exact .inr (.inr (.inr ⟨.lst ds,p,e'',h1,fun i' j' ds' a' p' x1 x2 x3=>by
    obtain⟨a2,p2,y1,y2,y3,_⟩:=h.ex.1 i' j' ds' x1;rw[x2] at y1;cases y1;have:p2=p':=by
     obtain⟨vs1,_,_,_,z1,_,_,_,z2,_⟩:=x3;obtain⟨vs2,_,_,_,z3,_,_,_,z4,_⟩:=y2;rw[z1] at z3;cases z3;rw[z2] at z4;cases z4;rfl
    subst this;intro zz;subst zz;exact y3 j d e h1⟩))
  .exact .inl ⟨e'',rfl⟩
 .rw[zan (by
   intro z;subst z;cases d with
   | lst ds'=>obtain⟨vs',h5,_⟩:=h4;rw[h5] at eb;cases eb
   | _=>exact h4)];exact eb
 .have hq':q≠p:=by
   intro z;subst z;exact hd i d e h1
  exact⟨by rw[zan hq'];exact hq,q0⟩
 .rw[zan (by intro z;subst z;rw[h2] at eb;cases eb)];exact h.g.s _ _ eb
 .rw[zan (by intro z;subst z;rw[h3] at eb;cases eb)];exact h.g.sub _ _ eb
 .rcases key j _ e' with⟨rfl,e''⟩ | ⟨hj,e''⟩
  .cases e''
  .exact h.rd j d' e''
 .rcases key j _ e' with⟨rfl,e''⟩ | ⟨hj,e''⟩
  .cases e''
   exact⟨p,h1,h2,h3,vs,zao,r⟩
  .obtain⟨b,k1,k2,k3,k4⟩:=h.ow j d' e''
   refine⟨b,k1,k2,k3,?_⟩;have hb:b≠p:=by
    intro z;subst z;exact h.ap j i d' d hj e'' e (by rw[k1,h1])
   cases d' with
   | lst ds' =>
    obtain⟨vs',h5,h6⟩:=k4;exact⟨vs',by rw[zan hb];exact h5,h6⟩
   | _=>exact k4.elim
 .rcases key j _ e1 with⟨rfl,e1'⟩ | ⟨hj,e1'⟩
  .rcases key k _ e2 with⟨rfl,_⟩ | ⟨hk,e2'⟩
   .exact absurd rfl hn
   .exact h.ap j k d d2 hn e e2'
  .rcases key k _ e2 with⟨rfl,_⟩ | ⟨hk,e2'⟩
   .exact h.ap j k d1 d hn e1' e
   .exact h.ap j k d1 d2 hn e1' e2'
end
mutual
def zr2:D->Bool
 | .lst _=>false
 | .dic _ _=>false
 | .exc _=>false
 | .ob _ _=>false
 | .tup ds=>flats ds
 | _=>true
def flats:List D->Bool
 | []=>true
 | d::ds=>zr2 d&&flats ds
end
mutual
theorem Rep.flat_to {K:sab}{H H':Hp}(e:∀ a vs,Rd H a (.tup vs)->Rd H' a (.tup vs)):∀ {d:D}{v:V},zr2 d=true->Rep K H d v->Rep K H' d v
 | .non,_,_,h=>by unfold Rep at h ⊢;exact h
 | .bl _,_,_,h=>by unfold Rep at h ⊢;exact h
 | .int _,_,_,h=>by unfold Rep at h ⊢;exact h
 | .str _,_,_,h=>by unfold Rep at h ⊢;exact h
 | .tup ds,_,f,h=>by
  unfold zr2 at f;obtain⟨a,vs,e1,e2,e3⟩:=zaw.mp h;refine zaw.mpr ⟨a,vs,e1,?_,Reps.flat_to e f e3⟩;rcases e2 with e2 | e2
  .exact .inl (e _ _ e2)
  .exact .inr e2
 | .lst ds,_,f,h=>by unfold zr2 at f;cases f
 | .dic ks ds,_,f,h=>by unfold zr2 at f;cases f
 | .exc x,_,f,h=>by unfold zr2 at f;cases f
 | .ob k ds,_,f,h=>by unfold zr2 at f;cases f
theorem Reps.flat_to {K:sab}{H H':Hp}(e:∀ a vs,Rd H a (.tup vs)->Rd H' a (.tup vs)):∀ {ds:List D}{vs:List V},flats ds=true->Reps K H ds vs->Reps K H' ds vs
 | [],_,_,h=>by unfold Reps at h ⊢;exact h
 | d::ds,_,f,h=>by
  unfold flats at f;rw[saA] at f;obtain⟨v,r,e1,e2,e3⟩:=zat.mp h;exact zat.mpr ⟨v,r,e1,Rep.flat_to e f.1 e2,Reps.flat_to e f.2 e3⟩
end
noncomputable def zpy (Ha J:Hp):Hp:=fun a=>match Ha a with
 | some o=>some o
 | none=>match J a with
  | some (.tup vs)=>some (.tup vs)
  | some (.frz o (.tup vs))=>some (.frz o (.tup vs))
  | _=>none
section
variable {K:sab}{E:XK}{He H0e Ha H H1 J:Hp}{σ:L2.St}{ρ:Ev}
theorem zCQ (h:zaJ Ha J):∀ a o,zpy Ha J a=some o->J a=some o:=fun a o e=>by
 unfold zpy at e;cases q:Ha a with
 | some u=>rw[q] at e;cases e;exact h _ _ q
 | none =>
  rw[q] at e;cases q2:J a with
  | none=>rw[q2] at e;cases e
  | some u =>
   rw[q2] at e;cases u with
   | tup vs=>cases e;rfl
   | frz o u' =>
    cases u' with
    | tup vs=>cases e;rfl
    | _=>cases e
   | _=>cases e
theorem zCP (h:zaJ Ha J)(a:Addr)(vs:List V)(e:Rd J a (.tup vs)):Rd (zpy Ha J) a (.tup vs):=by
 rcases e with e | ⟨o,e⟩
 .refine .inl ?_
  unfold zpy;cases q:Ha a with
  | some u=>have:=h _ _ q;rw[e] at this;cases this;rfl
  | none=>rw[e]
 .refine .inr ⟨o,?_⟩
  unfold zpy;cases q:Ha a with
  | some u=>have:=h _ _ q;rw[e] at this;cases this;rfl
  | none=>rw[e]
theorem SRx.behind (h:SRx K He H0e Ha σ H ρ)(g:zbK H (frz He Ha H) H1 J):SRx K He H0e (zpy Ha J) σ H1 ρ:=by
 have hJ:zaJ Ha J:=h.frz_sub.trans g.z;have le:=zCQ (Ha:=Ha) (J:=J) hJ;have z:zaJ Ha (zpy Ha J):=fun b o e=>by unfold zpy;rw[e]
 refine⟨⟨h.g.s.trans g.s,h.g.z.trans z,fun b o e=>g.sub _ _ (le b o e),fun a h1 h2=>?_⟩,h.rd.mono z,fun i d e=>?_,h.ap,h.ln,h.ex.upd (fun j s e=>.inl ⟨e,rfl⟩) z (fun a vs _ e=>g.s _ _ e) fun p us hp h0 hl _=>⟨g.s _ _ hl,by
  have:frz He Ha H p=some (.lst us):=by unfold frz;rw[hp];exact hl
  have:=g.z _ _ this;unfold zpy;rw[h0,this]⟩⟩
 .cases q:zpy Ha J a with
  | none=>exact absurd q h1
  | some o =>
   have hj:=le a o q;exact(h.frz_grow.trans g).nw a (by rw[hj];simp) h2
 .obtain⟨a,k1,k2,k3,k4⟩:=h.ow i d e
  refine⟨a,k1,k2,?_,?_⟩
  .cases d with
   | lst ds =>
    obtain⟨vs,h5,_⟩:=k4;have:frz He Ha H a=some (.lst vs):=by unfold frz;rw[k2];exact h5
    have:=g.z _ _ this;unfold zpy;rw[k3,this]
   | _=>exact k4.elim
  .cases d with
   | lst ds=>obtain⟨vs,h5,h6⟩:=k4;exact⟨vs,g.s _ _ h5,h6.mono z⟩
   | _=>exact k4.elim
end
section
variable {X:Cx}{E:XK}{He H0e:Hp}{st:Stmt}{rest:List Stmt}{e a b:Expr}{es:List Expr}{f g:Ev->Res D}{fa:Ev->Res (List D)}{s t:Ev->Res Fl}{pos:Pos}
theorem zbt {t t':TS}(h:PS X st t)(w:∀ D σ H,t' D σ H->t D σ H):PS X st t':=fun pins s σ H D I q=>h pins s σ H D I (w D σ H q)
theorem zeA {t t':TS}(h:PSs X rest t)(w:∀ D σ H,t' D σ H->t D σ H):PSs X rest t':=fun pins s σ H D I q=>h pins s σ H D I (w D σ H q)
def zam:Ev->Res Fl:=fun ρ=>.ok (.nx ρ)
noncomputable def zax (s t:Ev->Res Fl):Ev->Res Fl:=fun ρ=>(s ρ).bind fun r=>match r with
 | .nx ρ'=>t ρ'
 | r=>.ok r
theorem zag:DSs X E He H0e [] zam:=⟨zeA zoI fun D σ H ⟨Ha,ρ,h,q⟩=>q σ H Ha (zaJ.refl _) h⟩
theorem zac (h1:DS X E He H0e st s)(h2:DSs X E He H0e rest t):DSs X E He H0e (st::rest) (zax s t):=by
 refine⟨?_⟩;refine zeA (zfX h1.o h2.o) fun D σ H ⟨Ha,ρ,h,q⟩=>⟨Ha,ρ,h,?_⟩
 unfold zax at q;cases e1:s ρ with
 | stuck=>rw[e1] at q;exact q
 | exn x=>rw[e1] at q;exact q
 | ok r =>
  rw[e1] at q;cases r with
  | nx ρ'=>exact fun σ' H' Ha' s' h'=>⟨Ha',ρ',h',zca.grow (r:=t ρ') q s'⟩
  | rt d=>exact q
  | bk ρ'=>exact q
  | ct ρ'=>exact q
def zdc:Ev->Res Fl:=fun _=>.stuck
theorem zb9:DS X E He H0e st zdc:=⟨zbt zy6 fun D σ H ⟨Ha,ρ,h,q⟩=>q⟩
theorem plain {K:sab}{Ha H:Hp}{σ:L2.St}{ρ:Ev}{k:D->Res Fl}{D':zjM}(h:SRx K He H0e Ha σ H ρ){r:Res D}{Q:VK}
  (q:zca K E He H0e Ha (r.bind k) D')(hk:∀ d v H' Ha',r=.ok d->zbK H Ha H' Ha'->Rep K Ha' d v->zca K E He H0e Ha' (k d) D'->Q v H'):post K E H Ha r Q:=by
 cases r with
 | stuck=>exact q
 | exn x=>exact fun C ox H' Ha' g ex=>q C ox H' Ha' (h.g.trans g) ex
 | ok d=>exact fun v H' Ha' g rp=>hk d v H' Ha' rfl g rp (zca.grow (r:=k d) q g.z)
theorem look {K:sab}{Ha H:Hp}{σ:L2.St}{ρ:Ev}{k:D->Res Fl}{D':zjM}(h:SRx K He H0e Ha σ H ρ){r:Res D}{Q:VK}
  (q:zca K E He H0e Ha (r.bind k) D')(hk:∀ d v H' J,r=.ok d->zbK H (frz He Ha H) H' J->Rep K J d v->zca K E He H0e Ha (k d) D'->Q v H'):post K E H (frz He Ha H) r Q:=by
 cases r with
 | stuck=>exact q
 | exn x=>exact fun C ox H' Ha' g ex=>q C ox H' Ha' (h.frz_grow.trans g) ex
 | ok d=>exact fun v H' J g rp=>hk d v H' J rfl g rp q
theorem zEo {K:sab}{Ha H:Hp}{σ:L2.St}{ρ:Ev}{k:Bool->Res Fl}{D':zjM}(h:SRx K He H0e Ha σ H ρ){r:Res D}{Q:Bool->Hp->Prop}
  (q:zca K E He H0e Ha (r.bind fun x=>match x with | .bl b=>k b | _=>.stuck) D')(hk:∀ b H',zaJ H H'->zca K E He H0e Ha (k b) D'->Q b H'):zsk K E H (frz He Ha H) r Q:=by
 cases r with
 | stuck=>exact q
 | exn x=>exact fun C ox H' Ha' g ex=>q C ox H' Ha' (h.frz_grow.trans g) ex
 | ok d =>
  cases d with
  | bl b=>exact fun H' J g=>hk b H' g.s q
  | _=>exact q.elim
def zcm (i:Nat)(f:Ev->Res D):Ev->Res Fl:=fun ρ=>(f ρ).bind fun d=>.ok (.nx (ρ.set i (.sh d)))
noncomputable def zFX (i:Nat) (f:Ev->Res D):Ev->Res Fl:=fun ρ=>(f (shr ρ)).bind fun d=>if zr2 d=true then .ok (.nx (ρ.set i (.sh d))) else .stuck
def zb8 (f:Ev->Res D):Ev->Res Fl:=fun ρ=>(f (shr ρ)).bind fun d=>.ok (.rt d)
def zkF (f:Ev->Res D):Ev->Res Fl:=fun ρ=>(f (shr ρ)).bind fun _=>.ok (.nx ρ)
noncomputable def sIf (c:Ev->Res D) (s t:Ev->Res Fl):Ev->Res Fl:=fun ρ=>(c (shr ρ)).bind fun x=>match x with
 | .bl b=>if b=true then s ρ else t ρ
 | _=>.stuck
theorem za7 {i:Nat}{x:Str}{pos':Pos}(hN:X.N.Nodup)(hi:X.N[i]?=some x)(hx:Loc X.env.scope x)(he:DE X E e f)(hs:swapsWith e (some (.Name x pos')) pos.line X.env=pure false:=by rfl)
  (hf:X.fn x=true∨X.env.scope.names.lookup x=some .local := by first | exact .inl rfl | exact .inr rfl | assumption):DS X E He H0e (.Assign [.Name x pos'] e pos) (zcm i f):=by
 refine⟨?_⟩;refine zbt (ztm hN hi hx he.o hs hf) fun D σ H ⟨Ha,ρ,h,q⟩=>⟨Ha,ρ,h.g.sub,h.rd,?_⟩
 refine plain h q fun d v H' Ha' _ g rp q'=>?_;exact q' _ H' Ha' (zaJ.refl _) ((h.grow g).put rp)
theorem zaN (he:DE X E e f):DS X E He H0e (.Return (some e) pos) (zb8 f):=by
 refine⟨?_⟩;refine zbt (ztn he.o) fun D σ H ⟨Ha,ρ,h,q⟩=>⟨frz He Ha H,shr ρ,h.frz_le,h.looks,?_⟩
 exact look h q fun d v H' J _ g rp q'=>q' v H' J (h.frz_grow.trans g) rp
def zFY:Ev->Res Fl:=fun _=>.ok (.rt .non)
theorem zg9 (he:DE X E e f)(hs:swapsWith e none pos.line X.env=pure false:=by rfl):DS X E He H0e (.Expr e pos) (zkF f):=by
 refine⟨?_⟩;refine zbt (zoJ he.o hs) fun D σ H ⟨Ha,ρ,h,q⟩=>⟨frz He Ha H,shr ρ,h.frz_le,h.looks,?_⟩
 exact look h q fun d v H' J _ g rp q'=>q' σ H' Ha (zaJ.refl _) (h.same g.s)
theorem zbx {c:Expr}{fc:Ev->Res D}{sa sb:List Stmt}(hc:DT X E c fc)(ha:DSs X E He H0e sa s)(hb:DSs X E He H0e sb t):DS X E He H0e (.If c sa sb pos) (sIf fc s t):=by
 refine⟨?_⟩;refine zbt (zDU hc.o ha.o hb.o) fun D σ H ⟨Ha,ρ,h,q⟩=>⟨frz He Ha H,shr ρ,h.frz_le,h.looks,?_⟩
 refine zEo (k:=fun b=>if b=true then s ρ else t ρ) h q fun b H' hs q'=>?_;cases b with
 | true=>rw[if_pos rfl] at q' ⊢;exact⟨Ha,ρ,h.same hs,q'⟩
 | false=>rw[if_neg sa7] at q' ⊢;exact⟨Ha,ρ,h.same hs,q'⟩
noncomputable def tF (K:sab) (E:XK) (f:Ev->Res D):TE:=fun σ H Q=>∃ Ha ρ,zaJ Ha H/\Reads K Ha σ ρ/\match f ρ with
 | .ok (.lst ds)=>∀ p vs H' Ha',zbK H Ha H' Ha'->H p=none->Ha' p=none->H' p=some (.lst vs)->Reps K Ha' ds vs->Q (.ref p) H'
 | .ok _=>False
 | .exn x=>∀ C ox H' Ha',zbK H Ha H' Ha'->ExR K Ha' x C ox->E C ox H'
 | .stuck=>False
structure DF (X:Cx) (E:XK) (e:Expr) (f:Ev->Res D):Prop where
 o:PE X e (tF X.K E f)
noncomputable def zth (i:Nat) (f:Ev->Res D):Ev->Res Fl:=fun ρ=>(f ρ).bind fun d=>match d with
 | .lst ds=>.ok (.nx (ρ.set i (.ow (.lst ds))))
 | _=>.stuck
theorem zmG {i:Nat}{x:Str}{pos':Pos}(hN:X.N.Nodup)(hi:X.N[i]?=some x)(hx:Loc X.env.scope x)(he:DF X E e f)(hs:swapsWith e (some (.Name x pos')) pos.line X.env=pure false:=by rfl)
  (hf:X.fn x=true∨X.env.scope.names.lookup x=some .local := by first | exact .inl rfl | exact .inr rfl | assumption):DS X E He H0e (.Assign [.Name x pos'] e pos) (zth i f):=by
 refine⟨?_⟩;refine zbt (ztm hN hi hx he.o hs hf) fun D σ H ⟨Ha,ρ,h,q⟩=>⟨Ha,ρ,h.g.sub,h.rd,?_⟩
 unfold zth at q;cases e1:f ρ with
 | stuck=>rw[e1] at q;exact q
 | exn x=>rw[e1] at q;exact fun C ox H' Ha' g ex=>q C ox H' Ha' (h.g.trans g) ex
 | ok d =>
  rw[e1] at q;cases d with
  | lst ds =>
   intro p vs H' Ha' g hp h0 hv rp;refine q _ H' Ha' g.z ((h.grow g).putOwn (fun j a ej ea d ed=>?_) (h.g.s.free hp) h0 hv rp (h.fresh_x g.s hp));subst ea;obtain⟨a',k1,_,_,k4⟩:=h.ow j d ed;rw[ej] at k1;cases k1;cases d with
   | lst ds'=>obtain⟨vs',h5,_⟩:=k4;rw[hp] at h5;cases h5
   | _=>exact k4.elim
  | _=>exact q.elim
theorem zmL (h:DA X E es fa):DF X E (.List es pos) (zaj fa zfz):=by
 refine⟨?_⟩;refine zaR (zv7 h.o) fun σ H Q h=>?_;obtain⟨Ha,ρ,hs,hr,q⟩:=h;refine⟨Ha,ρ,hs,hr,?_⟩;unfold zaj at q;cases e1:fa ρ with
 | stuck=>rw[e1] at q;exact q
 | exn x=>rw[e1] at q;exact q
 | ok ds =>
  rw[e1] at q;intro vs H1 H01 g1 r1;replace q:match zfz ds with
   | .ok (.lst ds)=>∀ p vs H' Ha',zbK H Ha H' Ha'->H p=none->Ha' p=none->H' p=some (.lst vs)->Reps X.K Ha' ds vs->Q (.ref p) H'
   | .ok _=>False
   | .exn x=>∀ C ox H' Ha',zbK H Ha H' Ha'->ExR X.K Ha' x C ox->E C ox H'
   | .stuck=>False:=q
  unfold zfz at q
  by_cases hl:ds.length<=line
  .rw[if_pos hl] at q
   refine⟨by rw[← r1.length];exact zcw hl,fun p hp=>?_⟩;have h0:H01 p=none:=g1.sub.free hp;refine q p vs _ H01 (g1.trans ⟨fun b o q=>by rw[zan (zaP q hp)];exact q,zaJ.refl _,fun b o q=>?_,fun a h1 h2=>absurd h2 h1⟩) (g1.s.free hp) h0 zao r1;rw[zan (by intro z;subst z;rw[h0] at q;cases q)];exact g1.sub _ _ q
  .rw[if_neg hl] at q;exact q.elim
noncomputable def zuC (ρ:Ev) (i:Nat) (k:List D->Res Fl):Res Fl:=match ρ[i]? with
 | some (.ow (.lst ds))=>k ds
 | _=>.stuck
noncomputable def zgW (i:Nat) (f:Ev->Res D):Ev->Res Fl:=fun ρ=>zuC ρ i fun ds=>(f ρ).bind fun d=>if ds.length < line then .ok (.nx (ρ.set i (.ow (.lst (ds++[d]))))) else .stuck
noncomputable def zyV (i:Nat) (f:Ev->Res D):Ev->Res Fl:=fun ρ=>zuC ρ i fun ds=>(f (shr ρ)).bind fun d=>if zr2 d=true/\ds.length < line then .ok (.nx (ρ.set i (.ow (.lst (ds++[d]))))) else .stuck
theorem ztr {K:sab}{Ha H:Hp}{σ:L2.St}{ρ:Ev}{i:Nat}{k:List D->Res Fl}{D':zjM}(h:SRx K He H0e Ha σ H ρ)(q:zca K E He H0e Ha (zuC ρ i k) D') :
  ∃ ds p vs,ρ[i]?=some (.ow (.lst ds))/\σ[i]?=some (some (.ref p))/\He p=none/\Ha p=none/\H p=some (.lst vs)/\Reps K Ha ds vs/\zca K E He H0e Ha (k ds) D':=by
 unfold zuC at q;cases e:ρ[i]? with
 | none=>rw[e] at q;exact q.elim
 | some s =>
  rw[e] at q;cases s with
  | no=>exact q.elim
  | sh d=>exact q.elim
  | ox j ds=>exact q.elim
  | pt a=>exact q.elim
  | ow d =>
   cases d with
   | lst ds =>
    obtain⟨p,h1,h2,h3,vs,h4,h5⟩:=h.ow i _ e;exact⟨ds,p,vs,rfl,h1,h2,h3,h4,h5,q⟩
   | _=>exact q.elim
theorem zmI {i:Nat}{x:Str}{p1 p2 p3:Pos}(hN:X.N[i]?=some x)(hv:Vis X.env.scope x)(he:DE X E e f)
  (hd:(x==("__debug__" : Str))=false:=by decide)(hcd:(x==("__classdict__" : Str))=false:=by decide)
  (hbase:attributeBase (.Name x p1) "append" X.env (eval (.Name x p1) X.env)=eval (.Name x p1) X.env:=by rfl)
  (hfew:((backTo p3 (starEach [e] X.env)).all (fun x=>!x.1)&&(backToKw p3 (keywordEach [] X.env)).all (fun x=>x.1.isSome)
  &&decide ([e].length+([]:List Keyword).length+(if([]:List Keyword).isEmpty then 0 else 1) < 30))=true:=by exact zoZ rfl)
  (hline:(p2.endLine==p3.line)=true:=by rfl) (hs:starEach [e] X.env=(false,eval e X.env)::starEach [] X.env:=by exact zaH rfl) (hplain:(backTo p3 (starEach [] X.env)).any (·.1)=false:=by exact za9 rfl)
  (hw:swapsWith (.Call (.Attribute (.Name x p1) "append" p2) [e] [] p3) none pos.line X.env=pure false:=by rfl) :
  DS X E He H0e (.Expr (.Call (.Attribute (.Name x p1) "append" p2) [e] [] p3) pos) (zgW i f):=by
 refine⟨?_⟩;refine zbt (zoJ (zBS PySem.F.plainAttrs_list PySem.F.slot_list_append PySem.F.type_list_append zlw (zir hN hv hd hcd) (zbW he.o ze7 hs) hbase hfew hline hs hplain) hw) fun D σ H ⟨Ha,ρ,h,q⟩=>?_;obtain⟨ds,p,vs,e1,e2,e3,e4,e5,e6,q⟩:=ztr h q;refine⟨.ref p,e2,.inl ⟨rfl,vs,SqL.of e5⟩,?_⟩;refine⟨Ha,ρ,h.g.sub,h.rd,plain h q fun d v H' Ha' _ g rp q'=>?_⟩
 by_cases hl:ds.length < line
 .rw[if_pos hl] at q'
  have e5':H' p=some (.lst vs):=g.s _ _ e5;refine⟨p,vs,v,rfl,rfl,e5',by rw[← e6.length];exact sae hl (by decide),?_⟩;exact q' σ _ Ha' (zaJ.refl _) ((h.grow g).write e1 e2 ((e6.mono g.z).app (Reps.cons rp Reps.nil)))
 .rw[if_neg hl] at q';exact q'.elim
noncomputable def putAt (ρ:Ev) (i:Nat) (ds:List D) (d:D) (j:D):Res Fl:=match j with
 | .int j=>match ixN ds.length j with
  | some n=>.ok (.nx (ρ.set i (.ow (.lst (ds.set n d)))))
  | none=>.stuck
 | _=>.stuck
noncomputable def zDA (i:Nat) (f k:Ev->Res D):Ev->Res Fl:=fun ρ=>zuC ρ i fun ds=>(f ρ).bind fun d=>(k ρ).bind fun j=>putAt ρ i ds d j
noncomputable def zFZ (i:Nat) (f k:Ev->Res D):Ev->Res Fl:=fun ρ=>zuC ρ i fun ds=>(f (shr ρ)).bind fun d=>(k (shr ρ)).bind fun j=>if zr2 d=true then putAt ρ i ds d j else .stuck
theorem zy2 {K:sab}{Ha H:Hp}{σ:L2.St}{ρ:Ev}{i:Nat}{D':zjM}{ds:List D}{d j:D}{p:Addr}{vs:List V}{v u:V}(h:SRx K He H0e Ha σ H ρ)(e1:ρ[i]?=some (.ow (.lst ds)))(e2:σ[i]?=some (some (.ref p)))(e5:H p=some (.lst vs))(e6:Reps K Ha ds vs)
  (rp:Rep K Ha d v)(rj:Rep K Ha j u)(q:zca K E He H0e Ha (putAt ρ i ds d j) D'):zDJ (.ref p) u v H fun H'=>D'.nx σ H':=by
 unfold putAt at q;cases j with
 | int n =>
  cases en:ixN ds.length n with
  | none=>simp only[en] at q;exact q.elim
  | some m =>
   simp only[en] at q;refine⟨p,vs,n,m,rfl,zak.mp rj,e5,by rw[← e6.length];exact en,?_⟩;exact q σ _ Ha (zaJ.refl _) (h.write e1 e2 (e6.set rp m))
 | _=>exact q.elim
section
variable {i:Nat}{x:Str}{p1 p2:Pos}{k:Ev->Res D}
theorem zEU (hN:X.N[i]?=some x)(hv:Vis X.env.scope x)(he:DE X E e f)(hk:DE X E b k)
  (hd:(x==("__debug__" : Str))=false:=by decide)(hcd:(x==("__classdict__" : Str))=false:=by decide)
  (ha:∀ v,assign (.Subscript (.Name x p1) b p2) X.env v=(do
   let ov ← holding [v] (eval (.Name x p1) X.env)
   let iv ← holding [v,ov] (eval b X.env)
   standAt p2
   holding [v,ov,iv] (setItem ov iv v)
   release [v,ov,iv] []):=by intro _;rfl)
  (hs:swapsWithSole [.Subscript (.Name x p1) b p2] e pos.line X.env=pure false:=by rfl) (hw:swappedStores [.Subscript (.Name x p1) b p2] e X.env=pure none:=by rfl)
  (h1:(assignEach [.Subscript (.Name x p1) b p2] X.env).map (·.2)=[assign (.Subscript (.Name x p1) b p2) X.env]:=by rfl) :
  DS X E He H0e (.Assign [.Subscript (.Name x p1) b p2] e pos) (zDA i f k):=by
 refine⟨?_⟩;refine zbt (zAu he.o (zAv (zir hN hv hd hcd) hk.o zte ha) hs hw h1) fun D σ H ⟨Ha,ρ,h,q⟩=>⟨Ha,ρ,h.g.sub,h.rd,?_⟩
 obtain⟨ds,p,vs,e1,e2,e3,e4,e5,e6,q⟩:=ztr h q;refine plain (k:=fun d=>(k ρ).bind fun j=>putAt ρ i ds d j) h q fun d v H1 H01 _ g1 r1 q1=>⟨.ref p,e2,?_⟩
 have h1':=h.grow g1;refine⟨H01,ρ,h1'.g.sub,h1'.rd,plain (k:=fun j=>putAt ρ i ds d j) h1' q1 fun j u H2 H02 _ g2 r2 q2=>?_⟩;exact zy2 (h1'.grow g2) e1 e2 (g2.s _ _ (g1.s _ _ e5)) ((e6.mono g1.z).mono g2.z) (r1.mono g2.z) r2 q2
end
noncomputable def zdO (tg:Ev->D->Res Ev) (body:Ev->Res Fl):List D->Ev->Res Fl
 | [],ρ=>.ok (.nx ρ)
 | d::r,ρ=>(tg ρ d).bind fun ρ1=>(body ρ1).bind fun x=>match x with
  | .nx ρ2=>zdO tg body r ρ2
  | .ct ρ2=>zdO tg body r ρ2
  | .bk ρ2=>.ok (.nx ρ2)
  | .rt d=>.ok (.rt d)
noncomputable def tG (K:sab) (He H0e:Hp) (tg:Ev->D->Res Ev):TG:=fun v σ H Q=>∃ Ha ρ d,SRx K He H0e Ha σ H ρ/\Rep K Ha d v/\match tg ρ d with
  | .ok ρ'=>∀ σ' H' Ha',zaJ Ha Ha'->SRx K He H0e Ha' σ' H' ρ'->Q σ' H'
  | _=>False
structure DG (X:Cx) (E:XK) (He H0e:Hp) (target:Expr) (tg:Ev->D->Res Ev):Prop where
 o:PG X target (tG X.K He H0e tg)
def zd0 (i:Nat):Ev->D->Res Ev:=fun ρ d=>.ok (ρ.set i (.sh d))
theorem zsl {tgt:Expr}{t t':TG}(h:PG X tgt t)(w:∀ v σ H Q,t' v σ H Q->t v σ H Q):PG X tgt t':=fun pins s σ H v u Q I r q=>h pins s σ H v u Q I r (w v σ H Q q)
theorem zb6 {i:Nat}{x:Str}(hN:X.N.Nodup)(hi:X.N[i]?=some x)(hx:Loc X.env.scope x)(hf:X.fn x=true∨X.env.scope.names.lookup x=some .local := by first | exact .inl rfl | exact .inr rfl | assumption):DG X E He H0e (.Name x pos) (zd0 i) :=
 ⟨zsl (zv6 hN hi hx hf) fun v σ H Q ⟨Ha,ρ,d,h,rp,q⟩=>q _ H Ha (zaJ.refl _) (h.put rp)⟩
noncomputable def zhE (K:sab) (E:XK) (He H0e Hb:Hp) (tg:Ev->D->Res Ev) (s:Ev->Res Fl) (ds:List D) (D':zjM) (i:Nat) (σ:L2.St) (H:Hp):Prop :=
 ∃ Ha ρ,zaJ Hb Ha/\SRx K He H0e Ha σ H ρ/\zca K E He H0e Ha (zdO tg s (ds.drop i) ρ) D'
theorem zhE.step {K:sab}{Hb:Hp}{tg:Ev->D->Res Ev}{ds:List D}{D':zjM}{i:Nat}{σ:L2.St}{H:Hp}{d:D}{v:V}(h:zhE K E He H0e Hb tg s ds D' i σ H)(hd:ds[i]?=some d)(rv:Rep K Hb d v)
  (he:∀ ρ,tg ρ d=.stuck∨∃ ρ',tg ρ d=.ok ρ') :
  tG K He H0e tg v σ H fun σ2 H2=>tS K E He H0e s { D' with nx:=zhE K E He H0e Hb tg s ds D' (i+1),ct:=zhE K E He H0e Hb tg s ds D' (i+1),bk:=D'.nx } σ2 H2:=by
 obtain⟨Ha,ρ,z,h,q⟩:=h;have hi:i < ds.length:=(sac.mp hd).1;have hdr:ds.drop i=d::ds.drop (i+1):=by
  rw[saL hi];rw[saa hi] at hd;cases hd;rfl
 rw[hdr] at q;refine⟨Ha,ρ,d,h,rv.mono z,?_⟩;unfold zdO at q;rcases he ρ with e1 | ⟨ρ1,e1⟩
 .rw[e1] at q;exact q.elim
 .rw[e1] at q ⊢
  intro σ' H' Ha' z' h';refine⟨Ha',ρ1,h',?_⟩;replace q:=zca.grow (r:=(s ρ1).bind fun x=>match x with
   | .nx ρ2=>zdO tg s (ds.drop (i+1)) ρ2
   | .ct ρ2=>zdO tg s (ds.drop (i+1)) ρ2
   | .bk ρ2=>.ok (.nx ρ2)
   | .rt d=>.ok (.rt d)) q z'
  cases e2:s ρ1 with
  | stuck=>rw[e2] at q;exact q
  | exn x=>rw[e2] at q;exact q
  | ok r =>
   rw[e2] at q;cases r with
   | nx ρ2=>exact fun σ3 H3 H03 z3 h3=>⟨H03,ρ2,(z.trans z').trans z3,h3,zca.grow (r:=zdO tg s (ds.drop (i+1)) ρ2) q z3⟩
   | ct ρ2=>exact fun σ3 H3 H03 z3 h3=>⟨H03,ρ2,(z.trans z').trans z3,h3,zca.grow (r:=zdO tg s (ds.drop (i+1)) ρ2) q z3⟩
   | bk ρ2=>exact q
   | rt d=>exact q
theorem zhE.done {K:sab}{Hb:Hp}{tg:Ev->D->Res Ev}{ds:List D}{D':zjM}{σ:L2.St}{H:Hp}(h:zhE K E He H0e Hb tg s ds D' ds.length σ H):D'.nx σ H:=by
 obtain⟨Ha,ρ,z,h,q⟩:=h;rw[sbU] at q;unfold zdO at q;exact q σ H Ha (zaJ.refl _) h
def zvm (tg:Ev->D->Res Ev):Prop:=∀ ρ d,tg ρ d=.stuck∨∃ ρ',tg ρ d=.ok ρ'
theorem zb0 {i:Nat}:zvm (zd0 i):=fun ρ d=>.inr ⟨_,rfl⟩
noncomputable def zvQ (f:Ev->Res D) (tg:Ev->D->Res Ev) (s:Ev->Res Fl):Ev->Res Fl:=fun ρ=>(f ρ).bind fun d=>match d with
 | .lst ds=>zdO tg s ds ρ
 | _=>.stuck
theorem zt9 {tgt iter:Expr}{body:List Stmt}{tg:Ev->D->Res Ev}(hp:PassesOwn (model X.prog X.w) X.A X.env X.xe)(hc:X.calm=true)(hi:DE X E iter f)(hg:DG X E He H0e tgt tg)(ht:zvm tg)(hb:DSs X E He H0e body s)
  (hs:∀ x,foldedSetIterable iter X.env x=pure x:=by intro _;rfl):DS X E He H0e (.For tgt iter body [] pos) (zvQ f tg s):=by
 refine⟨?_⟩;refine zbt (zto hp hc (zv5 hi.o) hg.o hb.o hs) fun D' σ H ⟨Ha,ρ,h,q⟩=>⟨Ha,ρ,h.g.sub,h.rd,?_⟩
 refine plain h q fun d v H1 H01 _ g rp q1=>?_;cases d with
 | lst ds =>
  obtain⟨a,vs,rfl,hv,hr⟩:=zaq.mp rp;refine⟨a,rfl,⟨vs,zaJ.sqL g.sub hv⟩,?_⟩;refine zzE (K:=X.K) (a:=a) (g:=tG X.K He H0e tg) (tb:=tS X.K E He H0e s) (D:=D') (xs:=vs) (zhE X.K E He H0e H01 tg s ds D') ⟨H01,ρ,zaJ.refl _,h.grow g,q1⟩ ?_ ?_ ?_
  .rintro i σ' H' _ ⟨Ha',ρ',z,h',_⟩
   exact zaJ.sqL (z.trans h'.g.sub) hv
  .intro i x σ' H' hx hI
   have hil:i < ds.length:=by rw[hr.length];exact(sac.mp hx).1
   obtain⟨u,e1,e2⟩:=hr.get (saa hil);rw[hx] at e1;cases e1;exact hI.step (saa hil) e2 fun ρ=>ht ρ _
  .intro σ' H' hI
   rw[← hr.length] at hI;exact hI.done
 | _=>exact q1.elim
def intsFrom (lo:Int)(n:Nat):List D:=(sbr n).map fun(k:Nat)=>D.int (lo+(k:Int))
noncomputable def zuw (f:Ev->Res D) (tg:Ev->D->Res Ev) (s:Ev->Res Fl):Ev->Res Fl:=fun ρ=>(f (shr ρ)).bind fun d=>match d with
 | .int j=>if -4611686018427387904<=j/\j < 4611686018427387904 then zdO tg s (intsFrom 0 j.toNat) ρ else .stuck
 | _=>.stuck
theorem zpi {tgt iter:Expr}{p pos2:Pos}{body:List Stmt}{tg:Ev->D->Res Ev}(hp:PassesOwn (model X.prog X.w) X.A X.env X.xe)(hc:X.calm=true)(hgl:Gl X "range")(hm:X.mg "range"=none)(hi:DE X E iter f)(hg:DG X E He H0e tgt tg)(ht:zvm tg)(hb:DSs X E He H0e body s)
  (hst:starEach [iter] X.env=[(false,eval iter X.env)]:=by exact zd5 rfl)(hs:∀ x,foldedSetIterable (.Call (.Name "range" p) [iter] [] pos2) X.env x=pure x:=by intro _;rfl):DS X E He H0e (.For tgt (.Call (.Name "range" p) [iter] [] pos2) body [] pos) (zuw f tg s):=by
 refine⟨?_⟩;refine zbt (zto hp hc (zlr hgl hm (zbW hi.o ze7 hst) hst) hg.o hb.o hs) fun D' σ H ⟨Ha,ρ,h,q⟩=>?_;refine⟨frz He Ha H,shr ρ,h.frz_le,h.looks,look h q fun d v H1 J _ g rp q1=>?_⟩;cases d with
 | int j =>
  rw[zak.mp rp];replace q1:zca X.K E He H0e Ha (if -4611686018427387904<=j/\j < 4611686018427387904 then zdO tg s (intsFrom 0 j.toNat) ρ else .stuck) D':=q1
  by_cases hj:-4611686018427387904<=j/\j < 4611686018427387904
  .rw[if_pos hj] at q1
   refine⟨j,rfl,by omega,by omega,?_⟩;have hlen:(intsFrom 0 j.toNat).length=j.toNat:=by unfold intsFrom;simp
   refine zwS (lo:=0) (n:=j.toNat) (g:=tG X.K He H0e tg) (tb:=tS X.K E He H0e s) (D:=D') (zhE X.K E He H0e Ha tg s (intsFrom 0 j.toNat) D') ⟨Ha,ρ,zaJ.refl _,h.same g.s,q1⟩ ?_ ?_
   .intro i σ' H' hlt hI
    refine hI.step (d:=.int (0+i)) ?_ (zak.mpr rfl) fun ρ=>ht ρ _;unfold intsFrom;simp [hlt]
   .intro σ' H' hI
    exact zhE.done (ds:=intsFrom 0 j.toNat) (by rw[hlen];exact hI)
  .rw[if_neg hj] at q1;exact q1.elim
 | _=>exact q1.elim
noncomputable def zcA (c:Ev->Res D) (s:Ev->Res Fl):Nat->Ev->Res Fl
 | 0,_=>.stuck
 | n+1,ρ=>(c (shr ρ)).bind fun x=>match x with
  | .bl b=>if b=true then(s ρ).bind fun x=>match x with
    | .nx ρ2=>zcA c s n ρ2
    | .ct ρ2=>zcA c s n ρ2
    | .bk ρ2=>.ok (.nx ρ2)
    | .rt d=>.ok (.rt d)
   else .ok (.nx ρ)
  | _=>.stuck
def zlk (fuel:Ev->Nat)(c:Ev->Res D)(s:Ev->Res Fl):Ev->Res Fl:=fun ρ=>zcA c s (fuel ρ) ρ
theorem zt8 (fuel:Ev->Nat){c:Expr}{body:List Stmt}{fc:Ev->Res D}(hp:PassesOwn (model X.prog X.w) X.A X.env X.xe)(hc:DT X E c fc)(hb:DSs X E He H0e body s):DS X E He H0e (.While c body [] pos) (zlk fuel fc s):=by
 refine⟨?_⟩;refine zbt (zy5 hp hc.o hb.o) fun D' σ H ⟨Ha,ρ,h,q⟩=>?_;refine⟨fun m σ H=>∃ Ha ρ,SRx X.K He H0e Ha σ H ρ/\zca X.K E He H0e Ha (zcA fc s m ρ) D',⟨fuel ρ,Ha,ρ,h,q⟩,?_⟩;rintro m σ1 H1 ⟨H01,ρ1,h1,q1⟩;cases m with
 | zero=>exact q1.elim
 | succ m =>
  refine⟨frz He H01 H1,shr ρ1,h1.frz_le,h1.looks,?_⟩;unfold zcA at q1;refine zEo (k:=fun b=>if b=true then(s ρ1).bind fun x=>match x with
    | .nx ρ2=>zcA fc s m ρ2
    | .ct ρ2=>zcA fc s m ρ2
    | .bk ρ2=>.ok (.nx ρ2)
    | .rt d=>.ok (.rt d)
   else .ok (.nx ρ1)) h1 q1 fun b H2 hs q2=>?_
  cases b with
  | false =>
   rw[if_neg sa7] at q2 ⊢;exact q2 σ1 H2 H01 (zaJ.refl _) (h1.same hs)
  | true =>
   rw[if_pos rfl] at q2 ⊢;refine⟨fun σ' H'=>∃ m',m' < m+1/\∃ Ha ρ,SRx X.K He H0e Ha σ' H' ρ/\zca X.K E He H0e Ha (zcA fc s m' ρ) D',fun σ' H' z=>z,H01,ρ1,h1.same hs,?_⟩;cases e2:s ρ1 with
   | stuck=>rw[e2] at q2;exact q2
   | exn x=>rw[e2] at q2;exact q2
   | ok r =>
    rw[e2] at q2;cases r with
    | nx ρ2=>exact fun σ3 H3 H03 z3 h3=>⟨m,sbS _,H03,ρ2,h3,zca.grow (r:=zcA fc s m ρ2) q2 z3⟩
    | ct ρ2=>exact fun σ3 H3 H03 z3 h3=>⟨m,sbS _,H03,ρ2,h3,zca.grow (r:=zcA fc s m ρ2) q2 z3⟩
    | bk ρ2=>exact q2
    | rt d=>exact q2
end
noncomputable def zdL (n:Nat) (s:Ev->Res Fl) (ds:List D):Res D:=(s (ds.map Sl.sh++saj (n-ds.length) .no)).bind fun r=>match r with
 | .nx _=>.ok .non
 | .rt d=>.ok d
 | _=>.stuck
theorem zh0 {K:sab}{Ha:Hp}{N:List Str}{ds:List D}{vs:List V}(h:Reps K Ha ds vs):Reads K Ha (start N vs) (ds.map Sl.sh++saj (N.length-ds.length) .no):=by
 intro i d e;have hl:=h.length
 by_cases hi:i < ds.length
 .rw[san (by simpa using hi),sai] at e
  cases q:ds[i]? with
  | none=>rw[q] at e;cases e
  | some d' =>
   rw[q] at e;cases e;obtain⟨v,h1,h2⟩:=h.get q;refine⟨v,?_,h2⟩;unfold L2.start;rw[san (by simp;omega),sai,h1];rfl
 .rw[sar (by simpa using hi),saw] at e
  split at e<;>cases e
theorem zla {ds:List D}{n:Nat}(i j:Nat)(es:List D):(ds.map Sl.sh++saj n Sl.no)[i]?≠some (.ox j es):=fun e=>by
 have:=saH e;rw[sbc] at this;rcases this with h | h
 .obtain⟨_,_,h⟩:=sa6.mp h;cases h
 .have:=List.eq_of_mem_replicate h;cases this
theorem zjd {ds:List D}{n:Nat}{σ:L2.St}(i:Nat)(a:Addr)(e:(ds.map Sl.sh++saj n Sl.no)[i]?=some (.pt a)):σ[i]?=some (some (.ref a)):=by
 have:=saH e;rw[sbc] at this;rcases this with h | h
 .obtain⟨_,_,h⟩:=sa6.mp h;cases h
 .have:=List.eq_of_mem_replicate h;cases this
theorem zaB {P:Program}{w:World}{K:sab}{mg:Str->Option Value}{base:Heap}{x qual:Str}{st:Stmt}{f:Addr}{fd:FuncData}{N ps:List Str}{k:Nat}{s:Ev->Res Fl}(F:Fun K x qual st f fd)(S:zay N ps (defScope st))
  (hbody:∀ (cdv:Value) (A:Around) (outer:List sba) (s0:Shared) (H Ha:Hp) (E:XK),zfP k (A.deeper (envOfC qual (defScope st) s0.heap.objs.size f cdv)) ->
   DSs (zk0 CX0 P w K mg base N qual (defScope st) f cdv A outer s0 H E).nox E H Ha (defBody st) s):zbP P w K mg base CX0 (k+1) f fd ps (spD K ps.length (zdL N.length s)):=by
 have hpl:ps.length<=N.length:=by have:=congrArg scB S.pre;rw[saQ] at this;omega
 refine F.ok S (fun vs H Q E h=>h.1) fun cdv A outer s0 H vs Q E hr h=>?_;obtain⟨hn,Ha,ds,hs,hv,q⟩:=h;refine⟨_,(hbody cdv A outer s0 H Ha E hr).o,Ha,ds.map Sl.sh++saj (N.length-ds.length) .no,?_,?_⟩
 .refine⟨zbK.refl hs,zh0 hv,fun i d e=>?_,fun i j d d' hij e=>?_,?_,OX.none zla zjd⟩
  .by_cases hi:i < ds.length
   .rw[san (by simpa using hi),sai] at e
    cases q:ds[i]? with
    | none=>rw[q] at e;cases e
    | some d'=>rw[q] at e;cases e
   .rw[sar (by simpa using hi),saw] at e
    split at e<;>cases e
  .by_cases hi:i < ds.length
   .rw[san (by simpa using hi),sai] at e
    cases q:ds[i]? with
    | none=>rw[q] at e;cases e
    | some d'=>rw[q] at e;cases e
   .rw[sar (by simpa using hi),saw] at e
    split at e<;>cases e
  .unfold L2.start
   have:=hv.length;simp only[saR,sag,saV];omega
 .unfold zdL at q
  cases e1:s (ds.map Sl.sh++saj (N.length-ds.length) .no) with
  | stuck=>rw[e1] at q;exact q
  | exn x=>rw[e1] at q;exact q
  | ok r =>
   rw[e1] at q;cases r with
   | nx ρ'=>exact fun σ' H' Ha' _ h'=>q .non H' Ha' h'.g (zaI.mpr rfl)
   | rt d=>exact fun v H' Ha' g rp=>q v H' Ha' g rp
   | bk ρ'=>exact q.elim
   | ct ρ'=>exact q.elim
mutual
def eqD:D->D->Bool
 | .non,.non=>true
 | .bl a,.bl b=>a==b
 | .bl a,.int b=>(if a then 1 else 0)==b
 | .int a,.bl b=>a==(if b then 1 else 0)
 | .int a,.int b=>a==b
 | .str a,.str b=>a==b
 | .tup xs,.tup ys=>eqDs xs ys
 | .lst xs,.lst ys=>eqDs xs ys
 | _,_=>false
def eqDs:List D->List D->Bool
 | [],[]=>true
 | x::xs,y::ys=>eqD x y&&eqDs xs ys
 | _,_=>false
end
noncomputable def zbU:Nat->D->Bool
 | _,.non=>true
 | _,.bl _=>true
 | _,.int _=>true
 | _,.str _=>true
 | n+1,.tup ds=>ds.all (zbU n)
 | n+1,.lst ds=>ds.all (zbU n)
 | _,_=>false
theorem zrp {ds:List D}(h:∀ d∈ds,eqD d d=true):eqDs ds ds=true:=by
 induction ds with
 | nil=>simp [eqDs]
 | cons d r ih =>
  unfold eqDs;rw[h d sax,ih fun x hx=>h x (sak _ hx)];rfl
theorem zkZ:∀ (n:Nat) (d:D),zbU n d=true->eqD d d=true
 | _,.non,_=>by simp [eqD]
 | _,.bl b,_=>by simp [eqD]
 | _,.int b,_=>by simp [eqD]
 | _,.str b,_=>by simp [eqD]
 | n+1,.tup ds,h=>by
  unfold zbU at h;unfold eqD;exact zrp fun d hd=>zkZ n d (saJ.mp h d hd)
 | n+1,.lst ds,h=>by
  unfold zbU at h;unfold eqD;exact zrp fun d hd=>zkZ n d (saJ.mp h d hd)
 | 0,.tup ds,h=>by unfold zbU at h;cases h
 | 0,.lst ds,h=>by unfold zbU at h;cases h
 | 0,.dic ks ds,h=>by unfold zbU at h;cases h
 | n+1,.dic ks ds,h=>by unfold zbU at h;cases h
 | 0,.exc x,h=>by unfold zbU at h;cases h
 | 0,.ob k x,h=>by unfold zbU at h;cases h
 | n+1,.ob k x,h=>by unfold zbU at h;cases h
 | n+1,.exc x,h=>by unfold zbU at h;cases h
theorem zCt {xs ys:List D}:eqD (.tup xs) (.tup ys)=eqDs xs ys:=by rw[eqD]
theorem zxq {xs ys:List D}:eqD (.lst xs) (.lst ys)=eqDs xs ys:=by rw[eqD]
theorem zjG:∀ (xs ys:List D),xs.length=ys.length->eqDs xs ys=(sbr xs.length).all fun j=>eqD (xs.getD j .non) (ys.getD j .non)
 | [],[],_=>by simp [eqDs]
 | x::xs,y::ys,h=>by
  have ih:=zjG xs ys (by simpa using h);unfold eqDs;rw[ih,sau,List.range_succ_eq_map,sck,sc2];rfl
 | [],_::_,h=>by simp at h
 | _::_,[],h=>by simp at h
theorem zpf:∀ (xs ys:List D),xs.length≠ys.length->eqDs xs ys=false
 | [],[],h=>absurd rfl h
 | x::xs,y::ys,h=>by
  unfold eqDs;rw[zpf xs ys (by simpa using h),Bool.and_false]
 | [],_::_,h=>by simp [eqDs]
 | _::_,[],h=>by simp [eqDs]
section
variable {X:Cx}{pins:List (Addr×Obj)}{σ:L2.St}{H:Hp}{s:Shared}
theorem zaU (I:Inv X pins σ H s){ds:List D}{v:V}{u:Value}(r:Rep X.K H (.tup ds) v)(rv:zcb v u):∃ a vs its,v=.ref a/\u=.ref a/\SqT X.K H a vs/\Reps X.K H ds vs/\zbT vs its/\IsTup s.heap a its.toArray/\ds.length=its.length:=by
 obtain⟨a,vs,rfl,h1,h2⟩:=zaw.mp r;obtain rfl:u=saI a:=rv;obtain⟨its,h3,h4,_⟩:=I.tuple h1;exact⟨a,vs,its,rfl,rfl,h1,h2,h3,h4,h2.length.trans h3.length⟩
theorem zaQ (I:Inv X pins σ H s){ds:List D}{v:V}{u:Value}(r:Rep X.K H (.lst ds) v)(rv:zcb v u):∃ a vs its,v=.ref a/\u=.ref a/\SqL X.K H a vs/\Reps X.K H ds vs/\zbT vs its/\s.heap.IsList a its.toArray/\ds.length=its.length:=by
 obtain⟨a,vs,rfl,h1,h2⟩:=zaq.mp r;obtain rfl:u=saI a:=rv;obtain⟨its,h3,h4,_⟩:=I.list h1;exact⟨a,vs,its,rfl,rfl,h1,h2,h3,h4.isList,h2.length.trans h3.length⟩
theorem zoG {n:Nat}(ih:∀ (d d':D) (v:V),zbU n d=true->zbU n d'=true->Rep X.K H d v->Rep X.K H d' v->d=d'):∀ (ds ds':List D) (vs:List V),ds.all (zbU n)=true->ds'.all (zbU n)=true->Reps X.K H ds vs->Reps X.K H ds' vs->ds=ds'
 | [],ds',vs,_,_,h,h'=>by
  rw[Reps.nil_iff.mp h] at h';cases ds' with
  | nil=>rfl
  | cons d r=>obtain⟨_,_,e,_⟩:=zat.mp h';cases e
 | d::ds,ds',vs,a,a',h,h'=>by
  obtain⟨v,r,rfl,h1,h2⟩:=zat.mp h;cases ds' with
  | nil=>cases Reps.nil_iff.mp h'
  | cons d' ds' =>
   obtain⟨v',r',e,h1',h2'⟩:=zat.mp h';cases e;rw[sck,saA] at a a';rw[ih d d' v a.1 a'.1 h1 h1',zoG ih ds ds' r a.2 a'.2 h2 h2']
theorem Rep.inj (I:Inv X pins σ H s):∀ (n:Nat) (d d':D) (v:V),zbU n d=true->zbU n d'=true->Rep X.K H d v->Rep X.K H d' v->d=d':=by
 have atom:∀ (n:Nat) (d d':D) (v:V),(∀ ds,d≠.tup ds)->(∀ ds,d≠.lst ds)->zbU n d=true->zbU n d'=true->Rep X.K H d v->Rep X.K H d' v->d=d':=by
  intro n d d' v n1 n2 s1 s2 h h';have nd:∀ m ks ds,zbU m (.dic ks ds)=true->False:=fun m ks ds h=>by cases m<;>(unfold zbU at h;cases h)
  have nx:∀ m x,zbU m (.exc x)=true->False:=fun m x h=>by cases m<;>(unfold zbU at h;cases h)
  have nb:∀ m k x,zbU m (.ob k x)=true->False:=fun m k x h=>by cases m<;>(unfold zbU at h;cases h)
  cases d with
  | tup ds=>exact absurd rfl (n1 ds)
  | lst ds=>exact absurd rfl (n2 ds)
  | dic ks ds=>exact(nd _ _ _ s1).elim
  | exc x=>exact(nx _ _ s1).elim
  | ob k x=>exact(nb _ _ _ s1).elim
  | non =>
   rw[zaI.mp h] at h';cases d' with
   | non=>rfl
   | bl b=>cases zar.mp h'
   | int b=>cases zak.mp h'
   | str b=>cases Rep.str_iff.mp h'
   | tup ds=>obtain⟨_,_,e,_⟩:=zaw.mp h';cases e
   | lst ds=>obtain⟨_,_,e,_⟩:=zaq.mp h';cases e
   | dic ks ds=>exact(nd _ _ _ s2).elim
   | exc x=>exact(nx _ _ s2).elim
   | ob k x=>exact(nb _ _ _ s2).elim
  | bl x =>
   rw[zar.mp h] at h';cases d' with
   | non=>cases zaI.mp h'
   | bl b=>cases zar.mp h';rfl
   | int b=>cases zak.mp h'
   | str b=>cases Rep.str_iff.mp h'
   | tup ds=>obtain⟨_,_,e,_⟩:=zaw.mp h';cases e
   | lst ds=>obtain⟨_,_,e,_⟩:=zaq.mp h';cases e
   | dic ks ds=>exact(nd _ _ _ s2).elim
   | exc x=>exact(nx _ _ s2).elim
   | ob k x=>exact(nb _ _ _ s2).elim
  | int x =>
   rw[zak.mp h] at h';cases d' with
   | non=>cases zaI.mp h'
   | bl b=>cases zar.mp h'
   | int b=>cases zak.mp h';rfl
   | str b=>cases Rep.str_iff.mp h'
   | tup ds=>obtain⟨_,_,e,_⟩:=zaw.mp h';cases e
   | lst ds=>obtain⟨_,_,e,_⟩:=zaq.mp h';cases e
   | dic ks ds=>exact(nd _ _ _ s2).elim
   | exc x=>exact(nx _ _ s2).elim
   | ob k x=>exact(nb _ _ _ s2).elim
  | str x =>
   rw[Rep.str_iff.mp h] at h';cases d' with
   | non=>cases zaI.mp h'
   | bl b=>cases zar.mp h'
   | int b=>cases zak.mp h'
   | str b=>cases Rep.str_iff.mp h';rfl
   | tup ds=>obtain⟨_,_,e,_⟩:=zaw.mp h';cases e
   | lst ds=>obtain⟨_,_,e,_⟩:=zaq.mp h';cases e
   | dic ks ds=>exact(nd _ _ _ s2).elim
   | exc x=>exact(nx _ _ s2).elim
   | ob k x=>exact(nb _ _ _ s2).elim
 intro n
 induction n with
 | zero =>
  intro d d' v s1 s2 h h';exact atom 0 d d' v (fun ds e=>by subst e;unfold zbU at s1;cases s1) (fun ds e=>by subst e;unfold zbU at s1;cases s1) s1 s2 h h'
 | succ n ih =>
  intro d d' v s1 s2 h h'
  by_cases t1:∃ ds,d=.tup ds
  .obtain⟨ds,rfl⟩:=t1
   by_cases t2:∃ ds',d'=.tup ds'
   .obtain⟨ds',rfl⟩:=t2
    obtain⟨a,vs,rfl,h1,h2⟩:=zaw.mp h;obtain⟨a',vs',e,h1',h2'⟩:=zaw.mp h';cases e;rw[I.tuple_inj h1' h1] at h2';unfold zbU at s1 s2;rw[zoG ih ds ds' vs s1 s2 h2 h2']
   .by_cases t3:∃ ds',d'=.lst ds'
    .obtain⟨ds',rfl⟩:=t3
     obtain⟨a0,_,ev,_,_⟩:=zaw.mp h;subst ev;obtain⟨a,vs,its,ea,_,h1,h2,h3,h4,_⟩:=zaU I h rfl;cases ea;obtain⟨a',vs',its',e,_,h1',h2',h3',h4',_⟩:=zaQ I h' rfl;cases e;exact absurd rfl (SeqAt.ne_of_list_tuple h4' h4)
    .exact(atom (n+1) d' _ v (fun ds e=>t2 ⟨ds,e⟩) (fun ds e=>t3 ⟨ds,e⟩) s2 s1 h' h).symm
  .by_cases t1':∃ ds,d=.lst ds
   .obtain⟨ds,rfl⟩:=t1'
    by_cases t2:∃ ds',d'=.lst ds'
    .obtain⟨ds',rfl⟩:=t2
     obtain⟨a,vs,rfl,h1,h2⟩:=zaq.mp h;obtain⟨a',vs',e,h1',h2'⟩:=zaq.mp h';cases e;rw[I.list_inj h1' h1] at h2';unfold zbU at s1 s2;rw[zoG ih ds ds' vs s1 s2 h2 h2']
    .by_cases t3:∃ ds',d'=.tup ds'
     .obtain⟨ds',rfl⟩:=t3
      obtain⟨a0,_,ev,_,_⟩:=zaq.mp h;subst ev;obtain⟨a,vs,its,ea,_,h1,h2,h3,h4,_⟩:=zaQ I h rfl;cases ea;obtain⟨a',vs',its',e,_,h1',h2',h3',h4',_⟩:=zaU I h' rfl;cases e;exact absurd rfl (SeqAt.ne_of_list_tuple h4 h4')
     .exact(atom (n+1) d' _ v (fun ds e=>t3 ⟨ds,e⟩) (fun ds e=>t2 ⟨ds,e⟩) s2 s1 h' h).symm
   .exact atom (n+1) d d' v (fun ds e=>t1 ⟨ds,e⟩) (fun ds e=>t1' ⟨ds,e⟩) s1 s2 h h'
theorem ztE {n:Nat}{A:Around}{xs ys:List D}{vs us:List V}{is js:List Value}
  (ih:∀ (x y:D) (v u:V) (a b:Value),zbU n x=true->zbU n y=true->Rep X.K H x v->Rep X.K H y u->zcb v a->zcb u b->saz A.in1 s a b (eqD x y))
  (sx:xs.all (zbU n)=true)(sy:ys.all (zbU n)=true)(rx:Reps X.K H xs vs)(ry:Reps X.K H ys us)(qx:zbT vs is)(qy:zbT us js) :
  ∀ j (h1:j < is.toArray.size) (h2:j < js.toArray.size),saz A.in1 s is.toArray[j] js.toArray[j] (eqD (xs.getD j .non) (ys.getD j .non)):=by
 intro j h1 h2;have lx:=rx.length;have ly:=ry.length;have kx:=qx.length;have ky:=qy.length;have h1':j < is.length:=by simpa using h1
 have h2':j < js.length:=by simpa using h2
 have hx:j < xs.length:=by omega
 have hy:j < ys.length:=by omega
 obtain⟨v,e1,r1⟩:=rx.get (saa hx);obtain⟨u,e2,r2⟩:=ry.get (saa hy);obtain⟨a,e3,r3⟩:=qx.get e1;obtain⟨b,e4,r4⟩:=qy.get e2;have ea:is.toArray[j]=a:=by
  rw[saa h1'] at e3;simpa using saS e3
 have eb:js.toArray[j]=b:=by
  rw[saa h2'] at e4;simpa using saS e4
 rw[ea,eb];have gx:xs.getD j .non=xs[j]:=by simp [List.getD,saa hx]
 have gy:ys.getD j .non=ys[j]:=by simp [List.getD,saa hy]
 rw[gx,gy];exact ih _ _ v u a b (saJ.mp sx _ (sbw hx)) (saJ.mp sy _ (sbw hy)) r1 r2 r3 r4
theorem ztj (I:Inv X pins σ H s){A:Around}(hu:A.units < cLine){x y:D}{v u:V}{a b:Value}(rx:Rep X.K H x v)(ry:Rep X.K H y u)(qx:zcb v a)(qy:zcb u b)
  (n1:∀ ds ds',¬ (x=.lst ds/\y=.lst ds'))(n2:∀ ds ds',¬ (x=.tup ds/\y=.tup ds'))(d1:∀ ks ds,x≠.dic ks ds)(d2:∀ ks ds,y≠.dic ks ds)(x1:∀ c,x≠.exc c)(x2:∀ c,y≠.exc c)(o1:∀ k c,x≠.ob k c)(o2:∀ k c,y≠.ob k c) :
  saD A s a b (eqD x y)/\saz A s a b (eqD x y)/\sav A s a b (!(eqD x y)):=by
 cases x with
 | non =>
  cases y with
  | non =>
   obtain rfl:=zaI.mp rx;obtain rfl:a=sbh:=qx;obtain rfl:=zaI.mp ry;obtain rfl:b=sbh:=qy;unfold eqD;exact⟨saD.none_none ,saz.same _,sav.none_none ⟩
  | bl y =>
   obtain rfl:=zaI.mp rx;obtain rfl:a=sbh:=qx;obtain rfl:=zar.mp ry;obtain rfl:b=sbi _:=qy;unfold eqD;exact⟨saD.none_bool _,saz.none_bool _,sav.none_bool _⟩
  | int y =>
   obtain rfl:=zaI.mp rx;obtain rfl:a=sbh:=qx;obtain rfl:=zak.mp ry;obtain⟨ty,rfl⟩:∃ t,b=sby _ t:=qy;unfold eqD;exact⟨saD.none_int _ _,saz.none_int _ _,sav.none_int _ _⟩
  | str y =>
   obtain rfl:=zaI.mp rx;obtain rfl:a=sbh:=qx;obtain rfl:=Rep.str_iff.mp ry;obtain⟨ty,rfl⟩:∃ t,b=sbx _ t:=qy;unfold eqD;exact⟨saD.none_str _ _,saz.none_str _ _,sav.none_str _ _⟩
  | lst y =>
   obtain rfl:=zaI.mp rx;obtain rfl:a=sbh:=qx;obtain⟨ly,_,_,rfl,rfl,_,_,_,hy,_⟩:=zaQ I ry qy;unfold eqD;exact⟨saD.none_list  hy hu,saz.none_list  hy hu,sav.none_list  hy hu⟩
  | tup y =>
   obtain rfl:=zaI.mp rx;obtain rfl:a=sbh:=qx;obtain⟨ly,_,_,rfl,rfl,_,_,_,hy,_⟩:=zaU I ry qy;unfold eqD;exact⟨saD.none_tuple  hy hu,saz.none_tuple  hy hu,sav.none_tuple  hy hu⟩
  | dic ks ds=>exact absurd rfl (d2 ks ds)
  | exc c=>exact absurd rfl (x2 c)
  | ob k c=>exact absurd rfl (o2 k c)
 | bl x =>
  cases y with
  | non =>
   obtain rfl:=zar.mp rx;obtain rfl:a=sbi _:=qx;obtain rfl:=zaI.mp ry;obtain rfl:b=sbh:=qy;unfold eqD;exact⟨saD.bool_none _,saz.bool_none _,sav.bool_none _⟩
  | bl y =>
   obtain rfl:=zar.mp rx;obtain rfl:a=sbi _:=qx;obtain rfl:=zar.mp ry;obtain rfl:b=sbi _:=qy;unfold eqD;exact⟨saD.bool_bool _ _,saz.bool_bool _ _,sav.bool_bool _ _⟩
  | int y =>
   obtain rfl:=zar.mp rx;obtain rfl:a=sbi _:=qx;obtain rfl:=zak.mp ry;obtain⟨ty,rfl⟩:∃ t,b=sby _ t:=qy;unfold eqD;exact⟨saD.bool_int _ _ _,saz.bool_int _ _ _,sav.bool_int _ _ _⟩
  | str y =>
   obtain rfl:=zar.mp rx;obtain rfl:a=sbi _:=qx;obtain rfl:=Rep.str_iff.mp ry;obtain⟨ty,rfl⟩:∃ t,b=sbx _ t:=qy;unfold eqD;exact⟨saD.bool_str _ _ _,saz.bool_str _ _ _,sav.bool_str _ _ _⟩
  | lst y =>
   obtain rfl:=zar.mp rx;obtain rfl:a=sbi _:=qx;obtain⟨ly,_,_,rfl,rfl,_,_,_,hy,_⟩:=zaQ I ry qy;unfold eqD;exact⟨saD.bool_list _ hy hu,saz.bool_list _ hy hu,sav.bool_list _ hy hu⟩
  | tup y =>
   obtain rfl:=zar.mp rx;obtain rfl:a=sbi _:=qx;obtain⟨ly,_,_,rfl,rfl,_,_,_,hy,_⟩:=zaU I ry qy;unfold eqD;exact⟨saD.bool_tuple _ hy hu,saz.bool_tuple _ hy hu,sav.bool_tuple _ hy hu⟩
  | dic ks ds=>exact absurd rfl (d2 ks ds)
  | exc c=>exact absurd rfl (x2 c)
  | ob k c=>exact absurd rfl (o2 k c)
 | int x =>
  cases y with
  | non =>
   obtain rfl:=zak.mp rx;obtain⟨tx,rfl⟩:∃ t,a=sby _ t:=qx;obtain rfl:=zaI.mp ry;obtain rfl:b=sbh:=qy;unfold eqD;exact⟨saD.int_none _ _,saz.int_none _ _,sav.int_none _ _⟩
  | bl y =>
   obtain rfl:=zak.mp rx;obtain⟨tx,rfl⟩:∃ t,a=sby _ t:=qx;obtain rfl:=zar.mp ry;obtain rfl:b=sbi _:=qy;unfold eqD;exact⟨saD.int_bool _ _ _,saz.int_bool _ _ _,sav.int_bool _ _ _⟩
  | int y =>
   obtain rfl:=zak.mp rx;obtain⟨tx,rfl⟩:∃ t,a=sby _ t:=qx;obtain rfl:=zak.mp ry;obtain⟨ty,rfl⟩:∃ t,b=sby _ t:=qy;unfold eqD;exact⟨saD.int_int _ _ _ _,saz.int_int _ _ _ _,sav.int_int _ _ _ _⟩
  | str y =>
   obtain rfl:=zak.mp rx;obtain⟨tx,rfl⟩:∃ t,a=sby _ t:=qx;obtain rfl:=Rep.str_iff.mp ry;obtain⟨ty,rfl⟩:∃ t,b=sbx _ t:=qy;unfold eqD;exact⟨saD.int_str _ _ _ _,saz.int_str _ _ _ _,sav.int_str _ _ _ _⟩
  | lst y =>
   obtain rfl:=zak.mp rx;obtain⟨tx,rfl⟩:∃ t,a=sby _ t:=qx;obtain⟨ly,_,_,rfl,rfl,_,_,_,hy,_⟩:=zaQ I ry qy;unfold eqD;exact⟨saD.int_list _ _ hy hu,saz.int_list _ _ hy hu,sav.int_list _ _ hy hu⟩
  | tup y =>
   obtain rfl:=zak.mp rx;obtain⟨tx,rfl⟩:∃ t,a=sby _ t:=qx;obtain⟨ly,_,_,rfl,rfl,_,_,_,hy,_⟩:=zaU I ry qy;unfold eqD;exact⟨saD.int_tuple _ _ hy hu,saz.int_tuple _ _ hy hu,sav.int_tuple _ _ hy hu⟩
  | dic ks ds=>exact absurd rfl (d2 ks ds)
  | exc c=>exact absurd rfl (x2 c)
  | ob k c=>exact absurd rfl (o2 k c)
 | str x =>
  cases y with
  | non =>
   obtain rfl:=Rep.str_iff.mp rx;obtain⟨tx,rfl⟩:∃ t,a=sbx _ t:=qx;obtain rfl:=zaI.mp ry;obtain rfl:b=sbh:=qy;unfold eqD;exact⟨saD.str_none _ _,saz.str_none _ _,sav.str_none _ _⟩
  | bl y =>
   obtain rfl:=Rep.str_iff.mp rx;obtain⟨tx,rfl⟩:∃ t,a=sbx _ t:=qx;obtain rfl:=zar.mp ry;obtain rfl:b=sbi _:=qy;unfold eqD;exact⟨saD.str_bool _ _ _,saz.str_bool _ _ _,sav.str_bool _ _ _⟩
  | int y =>
   obtain rfl:=Rep.str_iff.mp rx;obtain⟨tx,rfl⟩:∃ t,a=sbx _ t:=qx;obtain rfl:=zak.mp ry;obtain⟨ty,rfl⟩:∃ t,b=sby _ t:=qy;unfold eqD;exact⟨saD.str_int _ _ _ _,saz.str_int _ _ _ _,sav.str_int _ _ _ _⟩
  | str y =>
   obtain rfl:=Rep.str_iff.mp rx;obtain⟨tx,rfl⟩:∃ t,a=sbx _ t:=qx;obtain rfl:=Rep.str_iff.mp ry;obtain⟨ty,rfl⟩:∃ t,b=sbx _ t:=qy;unfold eqD;exact⟨saD.str_str _ _ _ _,saz.str_str _ _ _ _,sav.str_str _ _ _ _⟩
  | lst y =>
   obtain rfl:=Rep.str_iff.mp rx;obtain⟨tx,rfl⟩:∃ t,a=sbx _ t:=qx;obtain⟨ly,_,_,rfl,rfl,_,_,_,hy,_⟩:=zaQ I ry qy;unfold eqD;exact⟨saD.str_list _ _ hy hu,saz.str_list _ _ hy hu,sav.str_list _ _ hy hu⟩
  | tup y =>
   obtain rfl:=Rep.str_iff.mp rx;obtain⟨tx,rfl⟩:∃ t,a=sbx _ t:=qx;obtain⟨ly,_,_,rfl,rfl,_,_,_,hy,_⟩:=zaU I ry qy;unfold eqD;exact⟨saD.str_tuple _ _ hy hu,saz.str_tuple _ _ hy hu,sav.str_tuple _ _ hy hu⟩
  | dic ks ds=>exact absurd rfl (d2 ks ds)
  | exc c=>exact absurd rfl (x2 c)
  | ob k c=>exact absurd rfl (o2 k c)
 | lst x =>
  cases y with
  | non =>
   obtain⟨lx,_,_,rfl,rfl,_,_,_,hx,_⟩:=zaQ I rx qx;obtain rfl:=zaI.mp ry;obtain rfl:b=sbh:=qy;unfold eqD;exact⟨saD.list_none  hx hu,saz.list_none  hx hu,sav.list_none  hx hu⟩
  | bl y =>
   obtain⟨lx,_,_,rfl,rfl,_,_,_,hx,_⟩:=zaQ I rx qx;obtain rfl:=zar.mp ry;obtain rfl:b=sbi _:=qy;unfold eqD;exact⟨saD.list_bool _ hx hu,saz.list_bool _ hx hu,sav.list_bool _ hx hu⟩
  | int y =>
   obtain⟨lx,_,_,rfl,rfl,_,_,_,hx,_⟩:=zaQ I rx qx;obtain rfl:=zak.mp ry;obtain⟨ty,rfl⟩:∃ t,b=sby _ t:=qy;unfold eqD;exact⟨saD.list_int _ _ hx hu,saz.list_int _ _ hx hu,sav.list_int _ _ hx hu⟩
  | str y =>
   obtain⟨lx,_,_,rfl,rfl,_,_,_,hx,_⟩:=zaQ I rx qx;obtain rfl:=Rep.str_iff.mp ry;obtain⟨ty,rfl⟩:∃ t,b=sbx _ t:=qy;unfold eqD;exact⟨saD.list_str _ _ hx hu,saz.list_str _ _ hx hu,sav.list_str _ _ hx hu⟩
  | lst y =>
   exact absurd ⟨rfl,rfl⟩ (n1 x y)
  | tup y =>
   obtain⟨lx,_,_,rfl,rfl,_,_,_,hx,_⟩:=zaQ I rx qx;obtain⟨ly,_,_,rfl,rfl,_,_,_,hy,_⟩:=zaU I ry qy;unfold eqD;exact⟨saD.list_tuple  hx hy hu,saz.list_tuple  hx hy hu,sav.list_tuple  hx hy hu⟩
  | dic ks ds=>exact absurd rfl (d2 ks ds)
  | exc c=>exact absurd rfl (x2 c)
  | ob k c=>exact absurd rfl (o2 k c)
 | tup x =>
  cases y with
  | non =>
   obtain⟨lx,_,_,rfl,rfl,_,_,_,hx,_⟩:=zaU I rx qx;obtain rfl:=zaI.mp ry;obtain rfl:b=sbh:=qy;unfold eqD;exact⟨saD.tuple_none  hx hu,saz.tuple_none  hx hu,sav.tuple_none  hx hu⟩
  | bl y =>
   obtain⟨lx,_,_,rfl,rfl,_,_,_,hx,_⟩:=zaU I rx qx;obtain rfl:=zar.mp ry;obtain rfl:b=sbi _:=qy;unfold eqD;exact⟨saD.tuple_bool _ hx hu,saz.tuple_bool _ hx hu,sav.tuple_bool _ hx hu⟩
  | int y =>
   obtain⟨lx,_,_,rfl,rfl,_,_,_,hx,_⟩:=zaU I rx qx;obtain rfl:=zak.mp ry;obtain⟨ty,rfl⟩:∃ t,b=sby _ t:=qy;unfold eqD;exact⟨saD.tuple_int _ _ hx hu,saz.tuple_int _ _ hx hu,sav.tuple_int _ _ hx hu⟩
  | str y =>
   obtain⟨lx,_,_,rfl,rfl,_,_,_,hx,_⟩:=zaU I rx qx;obtain rfl:=Rep.str_iff.mp ry;obtain⟨ty,rfl⟩:∃ t,b=sbx _ t:=qy;unfold eqD;exact⟨saD.tuple_str _ _ hx hu,saz.tuple_str _ _ hx hu,sav.tuple_str _ _ hx hu⟩
  | lst y =>
   obtain⟨lx,_,_,rfl,rfl,_,_,_,hx,_⟩:=zaU I rx qx;obtain⟨ly,_,_,rfl,rfl,_,_,_,hy,_⟩:=zaQ I ry qy;unfold eqD;exact⟨saD.tuple_list  hx hy hu,saz.tuple_list  hx hy hu,sav.tuple_list  hx hy hu⟩
  | tup y =>
   exact absurd ⟨rfl,rfl⟩ (n2 x y)
  | dic ks ds=>exact absurd rfl (d2 ks ds)
  | exc c=>exact absurd rfl (x2 c)
  | ob k c=>exact absurd rfl (o2 k c)
 | dic ks ds=>exact absurd rfl (d1 ks ds)
 | exc c=>exact absurd rfl (x1 c)
 | ob k c=>exact absurd rfl (o1 k c)
theorem zF3 (I:Inv X pins σ H s):∀ (n:Nat) (A:Around),A.units+n < cLine->∀ (x y:D) (v u:V) (a b:Value),zbU n x=true->zbU n y=true->Rep X.K H x v->Rep X.K H y u->zcb v a->zcb u b ->
  saD A s a b (eqD x y)/\saz A s a b (eqD x y)/\sav A s a b (!(eqD x y)):=by
 have nd:∀ m ks ds,zbU m (.dic ks ds)=true->False:=fun m ks ds h=>by cases m<;>(unfold zbU at h;cases h)
 have nx:∀ m x,zbU m (.exc x)=true->False:=fun m x h=>by cases m<;>(unfold zbU at h;cases h)
 have nb:∀ m k x,zbU m (.ob k x)=true->False:=fun m k x h=>by cases m<;>(unfold zbU at h;cases h)
 intro n
 induction n with
 | zero =>
  intro A hu x y v u a b sx sy rx ry qa qb;refine ztj I (by omega) rx ry qa qb (fun ds ds' z=>?_) (fun ds ds' z=>?_) (fun ks ds z=>?_) (fun ks ds z=>?_) (fun c z=>nx _ _ (z▸sx)) (fun c z=>nx _ _ (z▸sy)) (fun k c z=>nb _ _ _ (z▸sx)) (fun k c z=>nb _ _ _ (z▸sy))
  .rw[z.1] at sx;unfold zbU at sx;cases sx
  .rw[z.1] at sx;unfold zbU at sx;cases sx
  .rw[z] at sx;exact nd _ _ _ sx
  .rw[z] at sy;exact nd _ _ _ sy
 | succ n ih =>
  intro A hu x y v u a b sx sy rx ry qa qb;have ih':∀ (x y:D) (v u:V) (a b:Value),zbU n x=true->zbU n y=true->Rep X.K H x v->Rep X.K H y u->zcb v a->zcb u b->saz A.in1 s a b (eqD x y) :=
   fun x y v u a b s1 s2 r1 r2 q1 q2=>(ih A.in1 (by show A.units+1+n < cLine;omega) x y v u a b s1 s2 r1 r2 q1 q2).2.1
  by_cases t1:∃ ds ds',x=.tup ds/\y=.tup ds'
  .obtain⟨xs,ys,rfl,rfl⟩:=t1
   obtain⟨l,vs,is,rfl,rfl,h1,h2,h3,h4,h5⟩:=zaU I rx qa;obtain⟨m,us,js,rfl,rfl,k1,k2,k3,k4,k5⟩:=zaU I ry qb;have hsx:=sx;have hsy:=sy;unfold zbU at sx sy;have each:=ztE (A:=A) ih' sx sy h2 k2 h3 k3;have eall:eqD (.tup xs) (.tup ys)=((sbr (min is.toArray.size js.toArray.size)).all (fun j=>eqD (xs.getD j .non) (ys.getD j .non))&&is.toArray.size==js.toArray.size):=by
    rw[zCt];simp only[sao,← h5,← k5]
    by_cases hl:xs.length=ys.length
    .rw[zjG xs ys hl,← hl,Nat.min_self,beq_self_eq_true,Bool.and_true]
    .rw[zpf xs ys hl,beq_eq_false_iff_ne.mpr hl,Bool.and_false]
   refine⟨?_,?_,?_⟩
   .rw[eall];exact saD.tuples h4 k4 (by omega) each
   .by_cases hlm:l=m
    .subst hlm
     rw[Rep.inj I (n+1) _ _ _ hsx hsy rx ry,zkZ (n+1) _ hsy];exact saz.same _
    .refine scQ hlm ?_
     rw[eall];exact saD.tuples h4 k4 (by omega) each
   .rw[eall];exact sav.tuples h4 k4 (by omega) each
  .by_cases t2:∃ ds ds',x=.lst ds/\y=.lst ds'
   .obtain⟨xs,ys,rfl,rfl⟩:=t2
    obtain⟨l,vs,is,rfl,rfl,h1,h2,h3,h4,h5⟩:=zaQ I rx qa;obtain⟨m,us,js,rfl,rfl,k1,k2,k3,k4,k5⟩:=zaQ I ry qb;have hsx:=sx;have hsy:=sy;unfold zbU at sx sy;have each:=ztE (A:=A) ih' sx sy h2 k2 h3 k3
    by_cases hl:xs.length=ys.length
    .have hsz:is.toArray.size=js.toArray.size:=by simp only[sao];omega
     have eall:eqD (.lst xs) (.lst ys)=(sbr is.toArray.size).all (fun j=>eqD (xs.getD j .non) (ys.getD j .non)):=by
      rw[zxq];simp only[sao,← h5];exact zjG xs ys hl
     refine⟨?_,?_,?_⟩
     .rw[eall];exact saD.lists h4 k4 hsz (by omega) each
     .by_cases hlm:l=m
      .subst hlm
       rw[Rep.inj I (n+1) _ _ _ hsx hsy rx ry,zkZ (n+1) _ hsy];exact saz.same _
      .refine scQ hlm ?_
       rw[eall];exact saD.lists h4 k4 hsz (by omega) each
     .rw[eall];exact sav.lists h4 k4 hsz (by omega) each
    .have hsz:(is.toArray.size != js.toArray.size)=true:=by simp only[sao,bne_iff_ne,ne_eq];omega
     have eall:eqD (.lst xs) (.lst ys)=false:=by rw[zxq];exact zpf xs ys hl
     rw[eall];refine⟨saD.lists_lengths h4 k4 hsz (by omega),?_,sav.lists_lengths h4 k4 hsz (by omega)⟩;refine scQ (fun e=>?_) (saD.lists_lengths h4 k4 hsz (by omega));subst e;have:=Rep.inj I (n+1) _ _ _ hsx hsy rx ry;cases this;exact hl rfl
   .exact ztj I (by omega) rx ry qa qb (fun ds ds' z=>t2 ⟨ds,ds',z⟩) (fun ds ds' z=>t1 ⟨ds,ds',z⟩) (fun ks ds z=>by rw[z] at sx;exact nd _ _ _ sx) (fun ks ds z=>by rw[z] at sy;exact nd _ _ _ sy) (fun c z=>nx _ _ (z▸sx)) (fun c z=>nx _ _ (z▸sy)) (fun k c z=>nb _ _ _ (z▸sx)) (fun k c z=>nb _ _ _ (z▸sy))
end
section
variable {X:Cx}{E:XK}
def dEq (x y:D):Res D:=if zbU 40 x=true/\zbU 40 y=true then .ok (.bl (eqD x y)) else .stuck
def dNe (x y:D):Res D:=if zbU 40 x=true/\zbU 40 y=true then .ok (.bl (!(eqD x y))) else .stuck
noncomputable def zGW (K:sab):R2:=fun v u H Q=>∃ x y,Rep K H x v/\Rep K H y u/\zbU 40 x=true/\zbU 40 y=true/\Q (.bl (eqD x y)) H
noncomputable def zGS (K:sab):R2:=fun v u H Q=>∃ x y,Rep K H x v/\Rep K H y u/\zbU 40 x=true/\zbU 40 y=true/\Q (.bl (!(eqD x y))) H
theorem zdt (hu:X.A.units+64 < cLine):OpR X (compareOp .Eq) (zGW X.K):=by
 intro pins s σ H x y v u Q I rx ry h;obtain⟨d,d',h1,h2,s1,s2,q⟩:=h;exact(zF3 I 40 X.A (by omega) d d' x y v u s1 s2 h1 h2 rx ry).1 _ _ _ _ ⟨.bl _,H,I,rfl,q⟩
theorem zgh (hu:X.A.units+64 < cLine):OpR X (compareOp .NotEq) (zGS X.K):=by
 intro pins s σ H x y v u Q I rx ry h;obtain⟨d,d',h1,h2,s1,s2,q⟩:=h;exact(zF3 I 40 X.A (by omega) d d' x y v u s1 s2 h1 h2 rx ry).2.2 _ _ _ _ ⟨.bl _,H,I,rfl,q⟩
theorem zf0:OpD X.K E (zGW X.K) dEq:=by
 intro x y v u H Ha Q hs r1 r2 q;unfold dEq at q
 by_cases c:zbU 40 x=true/\zbU 40 y=true
 .rw[if_pos c] at q
  exact⟨x,y,r1.mono hs,r2.mono hs,c.1,c.2,q _ H Ha (zbK.refl hs) (zar.mpr rfl)⟩
 .rw[if_neg c] at q;exact q.elim
theorem zkI:OpD X.K E (zGS X.K) dNe:=by
 intro x y v u H Ha Q hs r1 r2 q;unfold dNe at q
 by_cases c:zbU 40 x=true/\zbU 40 y=true
 .rw[if_pos c] at q
  exact⟨x,y,r1.mono hs,r2.mono hs,c.1,c.2,q _ H Ha (zbK.refl hs) (zar.mpr rfl)⟩
 .rw[if_neg c] at q;exact q.elim
open Classical in
noncomputable def zr3 (K:sab) (H:Hp) (ds:List D) (x:D) (u:Value):Bool :=
 if h:∃ d,d∈ds/\∃ v,Rep K H d v/\zcb v u then eqD h.choose x else false
theorem zxp {pins:List (Addr×Obj)}{σ:L2.St}{H:Hp}{s:Shared}(I:Inv X pins σ H s){ds:List D}{x d:D}{v:V}{u:Value}(sd:ds.all (zbU 40)=true)(hd:d∈ds)(r:Rep X.K H d v)(q:zcb v u):zr3 X.K H ds x u=eqD d x:=by
 have h:∃ d,d∈ds/\∃ v,Rep X.K H d v/\zcb v u:=⟨d,hd,v,r,q⟩
 unfold zr3;rw[dif_pos h];obtain⟨h1,v',h2,h3⟩:=h.choose_spec;have e:v'=v:=h3.inj q;subst e;rw[Rep.inj I 40 _ _ _ (saJ.mp sd _ h1) (saJ.mp sd _ hd) h2 r]
noncomputable def zBF (K:sab) (neg:Bool):R2:=fun v u H Q=>∃ x ds,Rep K H x v/\(Rep K H (.lst ds) u∨Rep K H (.tup ds) u)/\zbU 40 x=true/\ds.all (zbU 40)=true/\Q (.bl (if neg then !(ds.any fun d=>eqD d x) else ds.any fun d=>eqD d x)) H
theorem zi4 {pins:List (Addr×Obj)}{σ:L2.St}{H:Hp}{s:Shared}(I:Inv X pins σ H s){x:D}{es:List D}(se:es.all (zbU 40)=true):∀ {ds:List D}{vs:List V}{us:List Value},(∀ d∈ds,d∈es)->Reps X.K H ds vs->zbT vs us->us.any (zr3 X.K H es x)=ds.any fun d=>eqD d x
 | [],_,_,_,h,q=>by
  rw[Reps.nil_iff.mp h] at q;cases q;rfl
 | d::ds,_,_,hm,h,q=>by
  obtain⟨v,r,rfl,h1,h2⟩:=zat.mp h;cases q with
  | cons q1 q2 =>
   rw[List.any_cons,List.any_cons,zxp I se (hm d sax) h1 q1,zi4 I se (fun x hx=>hm x (sak _ hx)) h2 q2]
theorem zg8 {pins:List (Addr×Obj)}{σ:L2.St}{H:Hp}{s:Shared}(I:Inv X pins σ H s)(hu:X.A.units+64 < cLine){x:D}{v:V}{u:Value}(sx:zbU 40 x=true)(rx:Rep X.K H x v)(qx:zcb v u){es:List D}(se:es.all (zbU 40)=true):∀ {ds:List D}{vs:List V}{us:List Value},(∀ d∈ds,d∈es)->Reps X.K H ds vs->zbT vs us->∀ y∈us,saz X.A.in1 s y u (zr3 X.K H es x y)
 | [],_,_,_,h,q=>fun y hy=>by
  rw[Reps.nil_iff.mp h] at q;cases q;cases hy
 | d::ds,_,_,hm,h,q=>fun y hy=>by
  obtain⟨w,r,rfl,h1,h2⟩:=zat.mp h;cases q with
  | cons q1 q2 =>
   rcases sam.mp hy with rfl | hy
   .rw[zxp I se (hm d sax) h1 q1]
    exact(zF3 I 40 X.A.in1 (by show X.A.units+1+40 < cLine;omega) d x w v _ u (saJ.mp se _ (hm d sax)) sx h1 rx q1 qx).2.1
   .exact zg8 I hu sx rx qx se (fun x hx=>hm x (sak _ hx)) h2 q2 y hy
theorem zEf (hu:X.A.units+64 < cLine):OpR X (compareOp .In) (zBF X.K false):=by
 intro pins s σ H x y v u Q I rx ry h;obtain⟨d,ds,h1,h2,s1,s2,q⟩:=h;rcases h2 with h2 | h2
 .obtain⟨a,vs,its,rfl,rfl,k1,k2,k3,k4,k5⟩:=zaQ I h2 ry
  refine SeqAt.in_listAt (zr3 X.K H ds d) k4 (fun w hw=>zg8 I hu s1 h1 rx s2 (fun _ z=>z) k2 k3 w (by simpa using hw)) ⟨.bl _,H,I,rfl,?_⟩;rw[show its.toArray.any (zr3 X.K H ds d)=its.any (zr3 X.K H ds d) by simp,zi4 I s2 (fun _ z=>z) k2 k3];exact q
 .obtain⟨a,vs,its,rfl,rfl,k1,k2,k3,k4,k5⟩:=zaU I h2 ry
  refine SeqAt.in_tupleAt (zr3 X.K H ds d) k4 (fun w hw=>zg8 I hu s1 h1 rx s2 (fun _ z=>z) k2 k3 w (by simpa using hw)) ⟨.bl _,H,I,rfl,?_⟩;rw[show its.toArray.any (zr3 X.K H ds d)=its.any (zr3 X.K H ds d) by simp,zi4 I s2 (fun _ z=>z) k2 k3];exact q
theorem zwb (hu:X.A.units+64 < cLine):OpR X (compareOp .NotIn) (zBF X.K true):=by
 intro pins s σ H x y v u Q I rx ry h;obtain⟨d,ds,h1,h2,s1,s2,q⟩:=h;rcases h2 with h2 | h2
 .obtain⟨a,vs,its,rfl,rfl,k1,k2,k3,k4,k5⟩:=zaQ I h2 ry
  refine SeqAt.notIn_listAt (zr3 X.K H ds d) k4 (fun w hw=>zg8 I hu s1 h1 rx s2 (fun _ z=>z) k2 k3 w (by simpa using hw)) ⟨.bl _,H,I,rfl,?_⟩;rw[show its.toArray.any (zr3 X.K H ds d)=its.any (zr3 X.K H ds d) by simp,zi4 I s2 (fun _ z=>z) k2 k3];exact q
 .obtain⟨a,vs,its,rfl,rfl,k1,k2,k3,k4,k5⟩:=zaU I h2 ry
  refine SeqAt.notIn_tupleAt (zr3 X.K H ds d) k4 (fun w hw=>zg8 I hu s1 h1 rx s2 (fun _ z=>z) k2 k3 w (by simpa using hw)) ⟨.bl _,H,I,rfl,?_⟩;rw[show its.toArray.any (zr3 X.K H ds d)=its.any (zr3 X.K H ds d) by simp,zi4 I s2 (fun _ z=>z) k2 k3];exact q
def occ (i j:Str):Bool:=!(sbH j i 0 j.length 1).isEmpty
noncomputable def inD (x y:D):Option Bool:=match y with
 | .lst ds=>if zbU 40 x=true/\ds.all (zbU 40)=true then some (ds.any fun d=>eqD d x) else none
 | .tup ds=>if zbU 40 x=true/\ds.all (zbU 40)=true then some (ds.any fun d=>eqD d x) else none
 | .str j=>match x with
  | .str i=>some (occ i j)
  | _=>none
 | _=>none
def dIn (x y:D):Res D:=match inD x y with
 | some b=>.ok (.bl b)
 | none=>.stuck
def zhe (x y:D):Res D:=match inD x y with
 | some b=>.ok (.bl (!b))
 | none=>.stuck
noncomputable def zDL (neg:Bool):R2:=fun x y H Q=>∃ i j,x=.str i/\y=.str j/\Q (.bl (if neg then !(occ i j) else occ i j)) H
theorem zzc (hu:X.A.units+64 < cLine):OpR X (compareOp .In) (fun v u H Q=>zBF X.K false v u H Q∨zDL false v u H Q):=OpR.or (zEf hu) (by
 intro pins s σ H x y v u Q I rx ry h;obtain⟨i,j,rfl,rfl,q⟩:=h;exact zwd pins s σ H _ _ v u Q I rx ry ⟨i,j,rfl,rfl,q⟩)
theorem zkO (hu:X.A.units+64 < cLine):OpR X (compareOp .NotIn) (fun v u H Q=>zBF X.K true v u H Q∨zDL true v u H Q):=OpR.or (zwb hu) (by
 intro pins s σ H x y v u Q I rx ry h;obtain⟨i,j,rfl,rfl,q⟩:=h;exact zqd pins s σ H _ _ v u Q I rx ry ⟨i,j,rfl,rfl,q⟩)
theorem ztu {neg:Bool}{x y:D}{v u:V}{H Ha:Hp}{Q:VK}(hs:zaJ Ha H)(r1:Rep X.K Ha x v)(r2:Rep X.K Ha y u)
  (q:post X.K E H Ha (match inD x y with | some b=>.ok (.bl (if neg then !b else b)) | none=>.stuck) Q):zBF X.K neg v u H Q∨zDL neg v u H Q:=by
 cases y with
 | lst ds =>
  simp only[inD] at q
  by_cases c:zbU 40 x=true/\ds.all (zbU 40)=true
  .rw[if_pos c] at q
   exact .inl ⟨x,ds,r1.mono hs,.inl (r2.mono hs),c.1,c.2,q _ H Ha (zbK.refl hs) (zar.mpr rfl)⟩
  .rw[if_neg c] at q;exact q.elim
 | tup ds =>
  simp only[inD] at q
  by_cases c:zbU 40 x=true/\ds.all (zbU 40)=true
  .rw[if_pos c] at q
   exact .inl ⟨x,ds,r1.mono hs,.inr (r2.mono hs),c.1,c.2,q _ H Ha (zbK.refl hs) (zar.mpr rfl)⟩
  .rw[if_neg c] at q;exact q.elim
 | str j =>
  cases x with
  | str i=>exact .inr ⟨i,j,Rep.str_iff.mp r1,Rep.str_iff.mp r2,q _ H Ha (zbK.refl hs) (zar.mpr rfl)⟩
  | _=>exact q.elim
 | _=>exact q.elim
theorem zzf:OpD X.K E (fun v u H Q=>zBF X.K false v u H Q∨zDL false v u H Q) dIn:=fun x y v u H Ha Q hs r1 r2 q=>ztu (neg:=false) (E:=E) hs r1 r2 (by
 unfold dIn at q;cases e:inD x y with
 | none=>rw[e] at q;exact q
 | some b=>rw[e] at q;exact q)
theorem zkP:OpD X.K E (fun v u H Q=>zBF X.K true v u H Q∨zDL true v u H Q) zhe:=fun x y v u H Ha Q hs r1 r2 q=>ztu (neg:=true) (E:=E) hs r1 r2 (by
 unfold zhe at q;cases e:inD x y with
 | none=>rw[e] at q;exact q
 | some b=>rw[e] at q;exact q)
end
@[irreducible] def B9:Nat:=2 ^ 9000
@[irreducible] def B13:Nat:=2 ^ 13500
@[irreducible] def B60:Nat:=2 ^ 60000
theorem zCV:B9=2 ^ 9000:=by unfold B9;rfl
theorem zoq:B13=2 ^ 13500:=by unfold B13;rfl
theorem zop:B60=2 ^ 60000:=by unfold B60;rfl
theorem znM {n k:Nat}(h:n < 2 ^ k)(hk:0 < k):n.log2 < k:=by
 by_cases h0:n=0
 .rw[h0]
  have:Nat.log2 0=0:=by decide
  omega
 .exact(Nat.log2_lt h0).mpr h
theorem zGh {x y:Int}(h:y.natAbs < B9):sbJ x y=false:=by
 rw[zCV] at h;exact PyProof.noPylong_of_log2 (znM h (by omega))
theorem zEk {x y:Int}(h:x.natAbs < B13):sbJ x y=false:=by
 rw[zoq] at h;have hx:x.natAbs.log2 < 13500:=znM h (by omega);show(decide ((if y==0 then 0 else y.natAbs.log2 / 30+1) > 300)&&decide ((if x==0 then 0 else x.natAbs.log2 / 30+1) > (if y==0 then 0 else y.natAbs.log2 / 30+1)+150))=false;have k:(if x==0 then 0 else x.natAbs.log2 / 30+1)<=450:=by
  by_cases hx0:(x==0)=true
  .rw[if_pos hx0];omega
  .rw[if_neg hx0];omega
 by_cases c:(if y==0 then 0 else y.natAbs.log2 / 30+1) > 300
 .rw[Bool.and_eq_false_iff];right;exact decide_eq_false (by omega)
 .rw[Bool.and_eq_false_iff];left;exact decide_eq_false c
def zhC (i j:Int):Bool:=decide (j≠0)&&(decide (j.natAbs < B9)||decide (i.natAbs < B13))
def zfm (i j:Int):Bool:=decide (i.natAbs < B60)&&decide (j.natAbs < B60)
theorem zhC.ok {i j:Int}(h:zhC i j=true):j≠0/\sbJ i j=false:=by
 unfold zhC at h;rw[saA,Bool.or_eq_true] at h;refine⟨of_decide_eq_true h.1,?_⟩;rcases h.2 with h | h
 .exact zGh (of_decide_eq_true h)
 .exact zEk (of_decide_eq_true h)
theorem zfm.ok {i j:Int}(h:zfm i j=true):IntMulOk i j:=by
 unfold zfm at h;rw[saA] at h;have h1:=of_decide_eq_true h.1;have h2:=of_decide_eq_true h.2;rw[zop] at h1 h2;exact PyProof.Rows.mulOk_of_bits (m:=60000) (n:=60000) (PySem.intBits_le_iff.mpr h1) (PySem.intBits_le_iff.mpr h2) (by decide)
section
variable {X:Cx}{E:XK}{e a b c:Expr}{es:List Expr}{f g k:Ev->Res D}{fa:Ev->Res (List D)}{pos:Pos}
theorem za0 {K:sab}{H Ha:Hp}{d:D}{v:V}{Q:VK}(hs:zaJ Ha H)(q:post K E H Ha (.ok d) Q)(r:Rep K Ha d v):Q v H:=q v H Ha (zbK.refl hs) r
noncomputable def iop (c:Int->Int->Bool) (g:Int->Int->D) (x y:D):Res D:=match x,y with
 | .int i,.int j=>if c i j=true then .ok (g i j) else .stuck
 | _,_=>.stuck
theorem ztt {C:Int->Int->Prop}{c:Int->Int->Bool}{gv:Int->Int->V}{g:Int->Int->D}(hc:∀ i j,c i j=true->C i j)(hg:∀ K H i j,Rep K H (g i j) (gv i j)):OpD X.K E (rI C gv) (iop c g):=by
 intro x y v u H Ha Q hs r1 r2 q;unfold iop at q;cases x with
 | int i =>
  cases y with
  | int j =>
   by_cases h:c i j=true
   .simp only[if_pos h] at q
    exact⟨i,j,zak.mp r1,zak.mp r2,hc i j h,za0 hs q (hg _ _ i j)⟩
   .simp only[if_neg h] at q;exact q.elim
  | _=>exact q.elim
 | _=>exact q.elim
theorem zcv {gv:Int->Int->V}{g:Int->Int->D}(hg:∀ K H i j,Rep K H (g i j) (gv i j)):OpD X.K E (rI0 gv) (iop (fun _ _=>true) g):=by
 intro x y v u H Ha Q hs r1 r2 q;unfold iop at q;cases x with
 | int i =>
  cases y with
  | int j=>simp only[if_pos] at q;exact⟨i,j,zak.mp r1,zak.mp r2,za0 hs q (hg _ _ i j)⟩
  | _=>exact q.elim
 | _=>exact q.elim
theorem ri {K:sab}{H:Hp}(n:Int):Rep K H (.int n) (.int n):=zak.mpr rfl
theorem rb {K:sab}{H:Hp}(n:Bool):Rep K H (.bl n) (.bl n):=zar.mpr rfl
abbrev zu9:=iop (fun _ _=>true) fun i j=>.int (i-j)
abbrev zvb:=iop zhC fun i j=>.int (i.fdiv j)
abbrev zfL:=iop (fun _ j=>decide (j≠0)) fun i j=>.int (i.fmod j)
abbrev zug:=iop (fun i j=>decide (0<=j)&&decide (j<=1000000)&&decide (i.natAbs < 18446744073709551616)) fun i j=>.int (i ^ j.toNat)
abbrev dLt:=iop (fun _ _=>true) fun i j=>.bl (decide (i < j))
abbrev dLe:=iop (fun _ _=>true) fun i j=>.bl (decide (i<=j))
abbrev dGt:=iop (fun _ _=>true) fun i j=>.bl (decide (j < i))
abbrev dGe:=iop (fun _ _=>true) fun i j=>.bl (decide (j<=i))
theorem zBV:OpR X (binaryOp .Mult) (rI IntMulOk fun i j=>.int (i*j)):=opI fun _ _ _ _ _ _ _ hc q=>mul_int q hc
theorem zBW:OpR X (binaryOp .FloorDiv) (rI (fun i j=>j≠0/\sbJ i j=false) fun i j=>.int (i.fdiv j)):=opI fun _ _ _ _ _ _ _ hc q=>floordiv_int hc.1 q (.inl hc.2)
theorem zrs (ha:DE X E a f)(hb:DE X E b g):DE X E (.BinOp a .Sub b pos) (zad f g zu9):=zu8 zEc (zcv fun _ _ _ _=>ri _) ha hb
theorem zn3 (ha:DE X E a f)(hb:DE X E b g):DE X E (.BinOp a .FloorDiv b pos) (zad f g zvb):=zu8 zBW (ztt (fun _ _ h=>zhC.ok h) fun _ _ _ _=>ri _) ha hb
theorem zfK (ha:DE X E a f)(hb:DE X E b g):DE X E (.BinOp a .Mod b pos) (zad f g zfL):=zu8 zwc (ztt (fun _ _ h=>of_decide_eq_true h) fun _ _ _ _=>ri _) ha hb
theorem zuc (ha:DE X E a f)(hb:DE X E b g):DE X E (.BinOp a .Pow b pos) (zad f g zug):=zu8 zEe (ztt (fun i j h=>by
 rw[saA,saA] at h;exact⟨of_decide_eq_true h.1.1,of_decide_eq_true h.1.2,of_decide_eq_true h.2⟩) fun _ _ _ _=>ri _) ha hb
theorem nm {op:CmpOp}{b:Expr}(h1:op≠.In:=by decide)(h2:op≠.NotIn:=by decide):behindInMarks op b=false:=ztw _ h1 h2
def zC0 (x:D):Res D:=match x with
 | .int i=>.ok (.int (-i))
 | _=>.stuck
theorem zxS (ha:DE X E a f):DE X E (.UnaryOp .USub a pos) (zbo f zC0):=zGB zDc (by
 intro x v H Ha Q hs r q;cases x with
 | int i=>exact⟨i,zak.mp r,za0 hs q (ri _)⟩
 | _=>exact q.elim) ha
theorem zwg:OpR X (binaryOp .Add) (fun x y H Q=>∃ l b xs zs,x=.ref l/\y=.ref b/\SqL X.K H l xs/\SqL X.K H b zs/\xs.length+zs.length<=sizeLine/\∀ p,H p=none->Q (.ref p) (upd H p (.lst (xs++zs)))):=by
 intro pins s σ H x y v u Q I rx ry h;obtain⟨l,b,xs,zs,rfl,rfl,hH,hB,hz,q⟩:=h;cases rx;cases ry;obtain⟨its,r,pl,z⟩:=I.list hH;obtain⟨its2,r2,pl2,z2⟩:=I.list hB;obtain⟨⟨cls,dd,data,sl⟩,ho,hc,n,hd⟩:=pl.isList;obtain⟨⟨cls2,dd2,data2,sl2⟩,ho2,hc2,n2,hd2⟩:=pl2.isList;simp only at hc hd hc2 hd2;subst hc hd hc2 hd2;have e:its.toArray++its2.toArray=(its++its2).toArray:=by simp
 have l1:=r.length;have l2:=r2.length;refine concat_meets ⟨_,ho,rfl⟩ ⟨_,ho2,rfl⟩ noFill_list_add seq_list_add PySem.F.slot_list_add PySem.F.entry_list_add (PySem.F.args_list_add_2 _ _) (list_addW l b its.toArray its2.toArray n n2 dd dd2 sl sl2 (by simp only[sao];omega)) ⟨ho,ho2,?_⟩;rw[e];exact⟨.ref _,_,I.lnew (t':=s.toks) (r.append r2) (by rw[saR];omega),rfl,q _ I.fresh⟩
noncomputable def zd7 (x y:D):Res D:=match x,y with
 | .int i,.int j=>.ok (.int (i+j))
 | .str i,.str j=>if i.length+j.length<=line then .ok (.str (i++j)) else .stuck
 | .lst ds,.lst es=>if ds.length+es.length<=line then .ok (.lst (ds++es)) else .stuck
 | .tup ds,.tup es=>if ds.isEmpty=false/\ds.length+es.length<=line then .ok (.tup (ds++es)) else .stuck
 | _,_=>.stuck
theorem zcr (ha:DE X E a f)(hb:DE X E b g):DE X E (.BinOp a .Add b pos) (zad f g zd7):=zu8 (OpR.or zAx (OpR.or znK (OpR.or zwg zwf))) (by
 intro x y v u H Ha Q hs r1 r2 q;unfold zd7 at q;cases x with
 | int i =>
  cases y with
  | int j=>exact .inl ⟨i,j,zak.mp r1,zak.mp r2,za0 hs q (ri _)⟩
  | _=>exact q.elim
 | str i =>
  cases y with
  | str j =>
   by_cases h:i.length+j.length<=line
   .simp only[if_pos h] at q
    exact .inr (.inl ⟨i,j,Rep.str_iff.mp r1,Rep.str_iff.mp r2,zcw h,za0 hs q (Rep.str_iff.mpr rfl)⟩)
   .simp only[if_neg h] at q;exact q.elim
  | _=>exact q.elim
 | lst ds =>
  cases y with
  | lst es =>
   by_cases h:ds.length+es.length<=line
   .simp only[if_pos h] at q
    obtain⟨l,vs,rfl,h1,h2⟩:=zaq.mp r1;obtain⟨m,us,rfl,k1,k2⟩:=zaq.mp r2;refine .inr (.inr (.inl ⟨l,m,vs,us,rfl,rfl,zaJ.sqL hs h1,zaJ.sqL hs k1,by rw[← h2.length,← k2.length];exact zcw h,fun p hp=>?_⟩));exact q _ _ _ (zaD hs hp) (zaq.mpr ⟨p,_,rfl,SqL.of zao,(h2.app k2).mono (zaD hs hp).z⟩)
   .simp only[if_neg h] at q;exact q.elim
  | _=>exact q.elim
 | tup ds =>
  cases y with
  | tup es =>
   by_cases h:ds.isEmpty=false/\ds.length+es.length<=line
   .simp only[if_pos h] at q
    obtain⟨l,vs,rfl,h1,h2⟩:=zaw.mp r1;obtain⟨m,us,rfl,k1,k2⟩:=zaw.mp r2;refine .inr (.inr (.inr ⟨l,m,vs,us,rfl,rfl,zaJ.sqT hs h1,zaJ.sqT hs k1,fun z=>?_,by rw[← h2.length,← k2.length];exact zcw h.2,fun z=>?_,fun z p hp=>?_⟩))
    .have:=h2.length
     rw[z] at this;have e:ds=[]:=sbF.mp this;rw[e] at h;exact absurd h.1 (by decide)
    .have:=k2.length
     rw[z] at this;have e:es=[]:=sbF.mp this;rw[e,saZ] at q;exact za0 hs q r1
    .exact q _ _ _ (zaD hs hp) (zaw.mpr ⟨p,_,rfl,SqT.of zao,(h2.app k2).mono (zaD hs hp).z⟩)
   .simp only[if_neg h] at q;exact q.elim
  | _=>exact q.elim
 | _=>exact q.elim) ha hb
noncomputable def dIx (x y:D):Res D:=match y with
 | .int i=>match x with
  | .lst ds=>match atI ds i with
   | some d=>.ok d
   | none=>.stuck
  | .tup ds=>match atI ds i with
   | some d=>.ok d
   | none=>.stuck
  | .str z=>if z.length<=line then match atI z.cps.toList i with
   | some c=>.ok (.str ⟨#[c]⟩)
   | none=>.stuck else .stuck
  | _=>.stuck
 | _=>.stuck
theorem Reps.atI {K:sab}{H:Hp}{ds:List D}{vs:List V}{i:Int}{d:D}(h:Reps K H ds vs)(e:atI ds i=some d):∃ v,L2.atI vs i=some v/\Rep K H d v:=by
 unfold L2.atI at e ⊢;rw[← h.length];cases q:ixN ds.length i with
 | none=>rw[q] at e;cases e
 | some j =>
  rw[q] at e;exact h.get e
theorem zEi:OpD X.K E (rIx X.K) dIx:=by
 intro x y v u H Ha Q hs r1 r2 q;unfold dIx at q;cases y with
 | int i =>
  cases x with
  | lst ds =>
   obtain⟨l,vs,rfl,h1,h2⟩:=zaq.mp r1;cases e:atI ds i with
   | none=>simp only[e] at q;exact q.elim
   | some d =>
    simp only[e] at q;obtain⟨w,e1,e2⟩:=h2.atI e;exact .inl ⟨l,vs,i,w,rfl,zak.mp r2,zaJ.sqL hs h1,e1,za0 hs q e2⟩
  | tup ds =>
   obtain⟨l,vs,rfl,h1,h2⟩:=zaw.mp r1;cases e:atI ds i with
   | none=>simp only[e] at q;exact q.elim
   | some d =>
    simp only[e] at q;obtain⟨w,e1,e2⟩:=h2.atI e;exact .inr (.inl ⟨l,vs,i,w,rfl,zak.mp r2,zaJ.sqT hs h1,e1,za0 hs q e2⟩)
  | str z =>
   by_cases hz:z.length<=line
   .simp only[if_pos hz] at q
    cases e:atI z.cps.toList i with
    | none=>simp only[e] at q;exact q.elim
    | some c =>
     simp only[e] at q;exact .inr (.inr ⟨z,i,c,Rep.str_iff.mp r1,zak.mp r2,zcw hz,e,za0 hs q (Rep.str_iff.mpr rfl)⟩)
   .simp only[if_neg hz] at q;exact q.elim
  | _=>exact q.elim
 | _=>exact q.elim
theorem zah (ha:DE X E a f)(hb:DE X E b g)(hs:znm b:=by intro _ _;rfl):DE X E (.Subscript a b pos) (zad f g dIx):=zGC zAB zEi ha hb hs
def zfx:Ev->Res (Option Int):=fun _=>.ok none
noncomputable def zfl (f:Ev->Res D):Ev->Res (Option Int):=fun ρ=>(f ρ).bind fun x=>match x with
 | .int i=>.ok (some i)
 | _=>.stuck
noncomputable def tDO (K:sab) (E:XK) (f:Ev->Res (Option Int)):TO:=fun σ H Q=>∃ Ha ρ,zaJ Ha H/\Reads K Ha σ ρ/\match f ρ with
 | .ok o=>∀ H' Ha',zbK H Ha H' Ha'->Q o H'
 | .exn x=>∀ C ox H' Ha',zbK H Ha H' Ha'->ExR K Ha' x C ox->E C ox H'
 | .stuck=>False
structure DO (X:Cx) (E:XK) (e:Option Expr) (f:Ev->Res (Option Int)):Prop where
 o:PO X e (tDO X.K E f)
theorem zv2 {eo:Option Expr}{t t':TO}(h:PO X eo t)(w:∀ σ H Q,t' σ H Q->t σ H Q):PO X eo t':=fun pins s σ H Q I q=>h pins s σ H Q I (w σ H Q q)
theorem zga:DO X E none zfx:=⟨zv2 zBJ fun σ H Q ⟨Ha,ρ,hs,hr,q⟩=>q H Ha (zbK.refl hs)⟩
theorem zf9 (ha:DE X E a f):DO X E (some a) (zfl f):=by
 refine⟨?_⟩;refine zv2 (zBI ha.o) fun σ H Q ⟨Ha,ρ,hs,hr,q⟩=>⟨Ha,ρ,hs,hr,?_⟩
 unfold zfl at q;cases e1:f ρ with
 | stuck=>rw[e1] at q;exact q
 | exn x=>rw[e1] at q;exact q
 | ok d =>
  rw[e1] at q;intro v H1 H01 g1 r1;cases d with
  | int i=>exact⟨i,zak.mp r1,q H1 H01 g1⟩
  | _=>exact q.elim
noncomputable def zkK (xs:List D) (lo hi:Option Int):List D:=(xs.drop (HT.sIx xs.length 0 lo)).take (HT.sIx xs.length xs.length hi-HT.sIx xs.length 0 lo)
theorem Reps.cut {K:sab}{H:Hp}{ds:List D}{vs:List V}(h:Reps K H ds vs)(lo hi:Option Int):Reps K H (zkK ds lo hi) (zAZ vs lo hi):=by
 unfold zkK zAZ;rw[← h.length];exact(h.drop _).take _
theorem zse {r:V->Option Int->Option Int->Hp->VK->Prop}{lo hi:Ev->Res (Option Int)}{m:D->Option Int->Option Int->Res D}
  (ho:∀ x v l h H Ha Q,zaJ Ha H->Rep X.K Ha x v->post X.K E H Ha (m x l h) Q->r v l h H Q)(σ:L2.St)(H:Hp)(Q:VK)
  (h:tD X.K E (fun ρ=>(f ρ).bind fun x=>(lo ρ).bind fun l=>(hi ρ).bind fun h=>m x l h) σ H Q):tSl r (tD X.K E f) (tDO X.K E lo) (tDO X.K E hi) σ H Q:=by
 obtain⟨Ha,ρ,hs,hr,q⟩:=h;refine⟨Ha,ρ,hs,hr,?_⟩;replace q:post X.K E H Ha ((f ρ).bind fun x=>(lo ρ).bind fun l=>(hi ρ).bind fun h=>m x l h) Q:=q;cases e1:f ρ with
 | stuck=>rw[e1] at q;exact q
 | exn x=>rw[e1] at q;exact q
 | ok x =>
  rw[e1] at q;intro v H1 H01 g1 r1;refine⟨H01,ρ,g1.sub,hr.mono g1.z,?_⟩;replace q:post X.K E H Ha ((lo ρ).bind fun l=>(hi ρ).bind fun h=>m x l h) Q:=q;replace q:=q.grow g1;cases e2:lo ρ with
  | stuck=>rw[e2] at q;exact q
  | exn x=>rw[e2] at q;exact q
  | ok l =>
   rw[e2] at q;intro H2 H02 g2;refine⟨H02,ρ,g2.sub,(hr.mono g1.z).mono g2.z,?_⟩;replace q:post X.K E H1 H01 ((hi ρ).bind fun h=>m x l h) Q:=q;replace q:=q.grow g2;cases e3:hi ρ with
   | stuck=>rw[e3] at q;exact q
   | exn x=>rw[e3] at q;exact q
   | ok h =>
    rw[e3] at q;intro H3 H03 g3;exact ho x v l h H3 H03 Q g3.sub ((r1.mono g2.z).mono g3.z) (post.grow (r:=m x l h) q g3)
def m1 (m:D->Res D)(ds:List D):Res D:=match ds with
 | [x]=>m x
 | _=>.stuck
def m2 (m:D->D->Res D)(ds:List D):Res D:=match ds with
 | [x,y]=>m x y
 | _=>.stuck
theorem zrI {r:List V->Hp->VK->Prop}{m:D->Res D}(h:∀ x v H Ha Q,zaJ Ha H->Rep X.K Ha x v->post X.K E H Ha (m x) Q->r [v] H Q):zhH X E r (m1 m):=by
 intro ds vs H Ha Q hs hr q;unfold m1 at q
 match ds,hr,q with
 | [x],hr,q =>
  obtain⟨v,r',rfl,h1,h2⟩:=zat.mp hr;rw[Reps.nil_iff.mp h2];exact h x v H Ha Q hs h1 q
 | [],_,q=>exact q.elim
 | _::_::_,_,q=>exact q.elim
theorem zFe {r:List V->Hp->VK->Prop}{m:D->D->Res D}(h:∀ x y v u H Ha Q,zaJ Ha H->Rep X.K Ha x v->Rep X.K Ha y u->post X.K E H Ha (m x y) Q->r [v,u] H Q):zhH X E r (m2 m):=by
 intro ds vs H Ha Q hs hr q;unfold m2 at q
 match ds,hr,q with
 | [x,y],hr,q =>
  obtain⟨v,r',rfl,h1,h2⟩:=zat.mp hr;obtain⟨u,r'',rfl,h3,h4⟩:=zat.mp h2;rw[Reps.nil_iff.mp h4];exact h x y v u H Ha Q hs h1 h3 q
 | [],_,q=>exact q.elim
 | [_],_,q=>exact q.elim
 | _::_::_::_,_,q=>exact q.elim
def zC1 (x:D):Res D:=match x with
 | .int i=>.ok (.int (if i < 0 then -i else i))
 | _=>.stuck
noncomputable def zGE (x y:D):Res D:=match x,y with
 | .int i,.int j=>.ok (.int (if j > i then j else i))
 | _,_=>.stuck
noncomputable def zeJ (x:D):Res D:=match x with
 | .lst ds=>.ok (.int ds.length)
 | .tup ds=>.ok (.int ds.length)
 | .str z=>if z.length<=line then .ok (.int z.length) else .stuck
 | _=>.stuck
noncomputable def zmW (x:D):Res D:=match x with
 | .int i=>.ok (.int i)
 | .bl b=>.ok (.int (if b then 1 else 0))
 | _=>.stuck
def zx2 (x:D):Res D:=match x with
 | .lst ds=>.ok (.lst ds)
 | .tup ds=>.ok (.lst ds)
 | _=>.stuck
theorem zx9:zhH X E (fun xs H Q=>∃ i,xs=[.int i]/\Q (.int (if i < 0 then -i else i)) H) (m1 zC1):=zrI fun x v H Ha Q hs r q=>by
 cases x with
 | int i=>exact⟨i,by rw[zak.mp r],za0 hs q (ri _)⟩
 | _=>exact q.elim
theorem zFa:zhH X E (fun xs H Q=>∃ i j,xs=[.int i,.int j]/\Q (.int (if j > i then j else i)) H) (m2 zGE):=zFe fun x y v u H Ha Q hs r r' q=>by
 cases x with
 | int i =>
  cases y with
  | int j=>exact⟨i,j,by rw[zak.mp r,zak.mp r'],za0 hs q (ri _)⟩
  | _=>exact q.elim
 | _=>exact q.elim
theorem zbS:zhH X E (fun xs H Q=>∃ x n,xs=[x]/\zGL X.K x H n/\Q (.int n) H) (m1 zeJ):=zrI fun x v H Ha Q hs r q=>by
 cases x with
 | lst ds =>
  obtain⟨p,vs,rfl,h1,h2⟩:=zaq.mp r;refine⟨_,vs.length,rfl,.inl ⟨vs,zaJ.sqL hs h1,rfl⟩,?_⟩;rw[← h2.length];exact za0 hs q (ri _)
 | tup ds =>
  obtain⟨p,vs,rfl,h1,h2⟩:=zaw.mp r;refine⟨_,vs.length,rfl,.inr ⟨vs,zaJ.sqT hs h1,rfl⟩,?_⟩;rw[← h2.length];exact za0 hs q (ri _)
 | str z =>
  unfold zeJ at q
  by_cases hz:z.length<=line
  .simp only[if_pos hz] at q
   rw[Rep.str_iff.mp r];exact⟨_,z.length,rfl,⟨zcw hz,rfl⟩,za0 hs q (ri _)⟩
  .simp only[if_neg hz] at q;exact q.elim
 | _=>exact q.elim
theorem zFc:zhH X E (fun xs H Q=>(∃ i,xs=[.int i]/\Q (.int i) H)∨∃ k,xs=[.bl k]/\Q (.int (if k then 1 else 0)) H) (m1 zmW):=zrI fun x v H Ha Q hs r q=>by
 cases x with
 | int i=>exact .inl ⟨i,by rw[zak.mp r],za0 hs q (ri _)⟩
 | bl i=>exact .inr ⟨i,by rw[zar.mp r],za0 hs q (ri _)⟩
 | _=>exact q.elim
theorem zCI:zhH X E (fun xs H Q=>∃ p ys,xs=[.ref p]/\(SqL X.K H p ys∨SqT X.K H p ys)/\∀ l,H l=none->Q (.ref l) (upd H l (.lst ys))) (m1 zx2):=zrI fun x v H Ha Q hs r q=>by
 cases x with
 | lst ds =>
  obtain⟨p,vs,rfl,h1,h2⟩:=zaq.mp r;exact⟨p,vs,rfl,.inl (zaJ.sqL hs h1),fun n hn=>q _ _ _ (zaD hs hn) (zaq.mpr ⟨n,_,rfl,SqL.of zao,h2.mono (zaD hs hn).z⟩)⟩
 | tup ds =>
  obtain⟨p,vs,rfl,h1,h2⟩:=zaw.mp r;exact⟨p,vs,rfl,.inr (zaJ.sqT hs h1),fun n hn=>q _ _ _ (zaD hs hn) (zaq.mpr ⟨n,_,rfl,SqL.of zao,h2.mono (zaD hs hn).z⟩)⟩
 | _=>exact q.elim
theorem zpk {T:String}{r:List V->Hp->VK->Prop}{m:List D->Res D}{x:Str}{p:Pos}(hc:zhG X (.type T) r)(hd:zhH X E r m)(hg:Gl X x)(hm:X.mg x=none)(hv:bootBuiltins x=some (.type T))(ha:DA X E (e::es) fa)(hn:x≠"__name__":=by decide)(hdb:(x==("__debug__" : Str))=false:=by decide)
  (he:starEach (e::es) X.env=(false,eval e X.env)::starEach es X.env:=by exact zaH rfl)(hpl:(backTo pos (starEach es X.env)).any (·.1)=false:=by exact za9 rfl):DE X E (.Call (.Name x p) (e::es) [] pos) (zaj fa m) :=
 ⟨zaR (zv9 hc hg hm hv ha.o hn hdb he hpl) (zi3 hd)⟩
def zCh:D->Bool
 | .non=>true
 | _=>false
def zmV (x y:D):Res D:=match y with
 | .non=>.ok (.bl (zCh x))
 | _=>.stuck
def zhD (x y:D):Res D:=match y with
 | .non=>.ok (.bl (!(zCh x)))
 | _=>.stuck
theorem Rep.is_non {K:sab}{H:Hp}{x:D}{v:V}(r:Rep K H x v):decide (v=.non)=zCh x:=by
 cases x with
 | non=>rw[zaI.mp r];rfl
 | bl b=>rw[zar.mp r];rfl
 | int b=>rw[zak.mp r];rfl
 | str b=>rw[Rep.str_iff.mp r];rfl
 | tup ds=>obtain⟨_,_,e,_⟩:=zaw.mp r;rw[e];rfl
 | lst ds=>obtain⟨_,_,e,_⟩:=zaq.mp r;rw[e];rfl
 | dic ks ds=>rw[Rep] at r;obtain⟨_,_,_,e,_⟩:=r;rw[e];rfl
 | exc x=>obtain⟨_,_,_,e,_⟩:=zd4.mp r;rw[e];rfl
 | ob k x=>obtain⟨_,_,e,_⟩:=zfQ.mp r;rw[e];rfl
theorem zjZ:OpD X.K E (fun x y H Q=>y=.non/\Q (.bl (decide (x=.non))) H) zmV:=by
 intro x y v u H Ha Q hs r1 r2 q;unfold zmV at q;cases y with
 | non=>exact⟨zaI.mp r2,by rw[r1.is_non];exact za0 hs q (rb _)⟩
 | _=>exact q.elim
theorem zsw:OpD X.K E (fun x y H Q=>y=.non/\Q (.bl (!decide (x=.non))) H) zhD:=by
 intro x y v u H Ha Q hs r1 r2 q;unfold zhD at q;cases y with
 | non =>
  refine⟨zaI.mp r2,?_⟩;rw[r1.is_non];exact za0 hs q (rb _)
 | _=>exact q.elim
noncomputable def tyD:D->String
 | .non=>"NoneType"
 | .bl _=>"bool"
 | .int _=>"int"
 | .str _=>"str"
 | .tup _=>"tuple"
 | .lst _=>"list"
 | .dic _ _=>"dict"
 | .exc _=>"<exc>"
 | .ob (.ins _ _) _=>"<exc>"
 | .ob (.dint _) _=>"dict"
 | .ob (.exf _ _) _=>"<exc>"
def zcz (T:String)(x:D):Res D:=.ok (.bl (tyD x==T||(tyD x=="bool"&&T=="int")))
noncomputable def zr0 (K:sab) (T:String):Prop:=∀ S,S∈["NoneType","bool","int","str","tuple","list","dict"]->sc6 K (.type S) (.type T)=some (S==T||(S=="bool"&&T=="int"))
theorem zzu {pins:List (Addr×Obj)}{σ:L2.St}{H:Hp}{s:Shared}{A:Around}{Q:Value->Shared->Prop}{x:D}{v:V}{u:Value}{T:String}(I:Inv X pins σ H s)(r:Rep X.K H x v)(q:zcb v u)(hk:zr0 X.K T)(hT:T∈zhi)(h:∀ tk,Q (.bool (tyD x==T||(tyD x=="bool"&&T=="int"))) { s with toks:=tk }) :
  wpAny (model X.prog X.w) A (call (.builtin "isinstance") [u,.type T]) Q X.xe s:=by
 cases x with
 | non=>rw[zaI.mp r] at q;exact ziw I q .non (hk _ (by simp)) h
 | bl b=>rw[zar.mp r] at q;exact ziw I q (.bl b) (hk _ (by simp)) h
 | int b=>rw[zak.mp r] at q;exact ziw I q (.int b) (hk _ (by simp)) h
 | str b=>rw[Rep.str_iff.mp r] at q;exact ziw I q (.str b) (hk _ (by simp)) h
 | tup ds =>
  obtain⟨a,vs,its,rfl,rfl,h1,h2,h3,h4,_⟩:=zaU I r q;obtain⟨o,k1,k2,_⟩:=h4;exact sbm W.kitx_tuple I.kIn ⟨o,k1,k2⟩ (hk _ (by simp)) (fun z=>nomatch z) h
 | lst ds =>
  obtain⟨a,vs,its,rfl,rfl,h1,h2,h3,h4,_⟩:=zaQ I r q;obtain⟨o,k1,k2,_⟩:=h4;exact sbm W.kitx_list I.kIn ⟨o,k1,k2⟩ (hk _ (by simp)) (fun z=>nomatch z) h
 | dic ks ds =>
  rw[Rep] at r;obtain⟨a,kvs,vs,rfl,h1,h2,_⟩:=r;cases (show u=saI a from q);obtain⟨_,_,vs',_,p⟩:=h1.ok I.hok;obtain⟨o,es,ep,k1,k2,_⟩:=p;exact sbm W.kitx_dict I.kIn ⟨o,k1,k2.1⟩ (hk _ (by simp)) (fun z=>nomatch z) h
 | exc x =>
  obtain⟨a,C,dc,rfl,hc,h1⟩:=zd4.mp r;cases (show u=saI a from q);obtain⟨p,_,_⟩:=h1.ok I.hok;have e:(tyD (.exc x)==T||(tyD (.exc x)=="bool"&&T=="int"))=false:=by
   have:∀ T∈zhi,(tyD (.exc x)==T||(tyD (.exc x)=="bool"&&T=="int"))=false:=by show ∀ T∈zhi,("<exc>"==T||("<exc>"=="bool"&&T=="int"))=false;decide
   exact this T hT
  rw[e] at h;exact sbm (zkS hc.ek hc.ek.isCls) I.kIn p (hc.bt T hT) (fun z=>nomatch z) h
 | ob k xs =>
  obtain⟨a,vs,rfl,h1,_⟩:=zfQ.mp r;cases (show u=saI a from q);cases k with
  | exf c ks =>
   obtain⟨C,dx,fs,hc,h2,_⟩:=h1;obtain⟨p,_,_⟩:=h2.ok I.hok;have e:(tyD (.ob (.exf c ks) xs)==T||(tyD (.ob (.exf c ks) xs)=="bool"&&T=="int"))=false:=by
    have:∀ T∈zhi,("<exc>"==T||("<exc>"=="bool"&&T=="int"))=false:=by decide
    exact this T hT
   rw[e] at h;exact sbm (zkS hc.ek hc.ek.isCls) I.kIn p (hc.bt T hT) (fun z=>nomatch z) h
  | ins c ks =>
   obtain⟨C,dx,_,hc,h2,_⟩:=h1;obtain⟨mA,O,_⟩:=zwK I.hok h2;obtain⟨od,O',_⟩:=O.look;have e:(tyD (.ob (.ins c ks) xs)==T||(tyD (.ob (.ins c ks) xs)=="bool"&&T=="int"))=false:=by
    have:∀ T∈zhi,(tyD (.ob (.ins c ks) xs)==T||(tyD (.ob (.ins c ks) xs)=="bool"&&T=="int"))=false:=by show ∀ T∈zhi,("<exc>"==T||("<exc>"=="bool"&&T=="int"))=false;decide
    exact this T hT
   rw[e] at h;exact sbm (W.kitx_own (hc.cls.get _) hc.cls.hd hc.gc hc.gn hc.tk hc.mo) I.kIn O' (hc.bt T hT) (fun z=>nomatch z) h
  | dint ks =>
   obtain⟨kvs,h2,_⟩:=h1;obtain⟨_,_,vs',_,p⟩:=h2.ok I.hok;obtain⟨o,es,ep,k1,k2,_⟩:=p;exact sbm W.kitx_dict I.kIn ⟨o,k1,k2.1⟩ (hk _ (by simp)) (fun z=>nomatch z) h
theorem za8 {T:String}{x:Str}{p1 p2:Pos}(hk:zr0 X.K T)(hgi:Gl X "isinstance")(hmi:X.mg "isinstance"=none)(hg:Gl X x)(hm:X.mg x=none)(hv:bootBuiltins x=some (.type T))(ha:DE X E a f)
  (hn:x≠"__name__":=by decide)(hdb:(x==("__debug__" : Str))=false:=by decide)(hT:T∈zhi:=by decide)
  (he:starEach [a,.Name x p2] X.env=(false,eval a X.env)::starEach [.Name x p2] X.env:=by exact zaH rfl)(he2:starEach [.Name x p2] X.env=(false,eval (.Name x p2) X.env)::starEach [] X.env:=by exact zaH rfl)(hpl:(backTo pos (starEach [.Name x p2] X.env)).any (·.1)=false:=by exact za9 rfl) :
  DE X E (.Call (.Name "isinstance" p1) [a,.Name x p2] [] pos) (zbo f (zcz T)):=by
 refine⟨?_⟩;refine zaR (zkN (r:=fun vs H Q=>∃ d v,vs=[v,.ty T]/\Rep X.K H d v/\Q (.bl (tyD d==T||(tyD d=="bool"&&T=="int"))) H) ?_ hgi hmi PyProof.Rows.Boot.«isinstance» (zbW ha.o (zbW (zwa (v:=.ty T) hg hm hv rfl hn hdb) ze7 he2) he) (by decide) (by decide) he hpl) fun σ H Q ⟨Ha,ρ,hs,hr,q⟩=>⟨Ha,ρ,hs,hr,?_⟩
 .intro pins s σ H xs us Q I r h
  obtain⟨d,v,rfl,h1,q⟩:=h;cases r with
  | cons r1 r2 =>
   cases r2 with
   | cons r3 r4 =>
    cases r4;rename_i u1 u2;obtain rfl:u2=Value.type T:=r3;exact zzu I h1 r1 hk hT fun tk=>⟨.bl _,H,I.tok _,rfl,q⟩
 .unfold zbo at q
  cases e1:f ρ with
  | stuck=>rw[e1] at q;exact q
  | exn x=>rw[e1] at q;exact q
  | ok d =>
   rw[e1] at q;intro v H1 H01 g1 r1;exact⟨d,v,rfl,r1.mono g1.sub,q _ H1 H01 g1 (rb _)⟩
end
theorem zrr {prog:Program}{w:World}{A:Around}{E:Value->Shared->Prop}{it t:Addr}{items:Array Value}(hne:t≠it):∀ (n i:Nat) (s:Shared) (Q:List Value->Shared->Prop),s.heap.IsListIter it t i->s.heap.IsList t items->i+n<=items.size ->
  (∀ h',h'.IsListIter it t (i+n)->scI it s.heap h'->Q ((items.toList.drop i).take n) { s with heap:=h' })->wpAny (model prog w) A (draw (.ref it) n) Q E s
 | 0,i,s,Q,hit,_,_,hQ=>by
  show wpAny _ _ (pure []) Q E s;exact saB (by simpa using hQ s.heap hit (scI.refl ..))
 | n+1,i,s,Q,hit,ht,hle,hQ=>by
  have hlt:i < items.size:=by omega
  show wpAny _ _ (pyNext (.ref it) >>= _) Q E s;refine sad (wpAny_pyNext_list_item hit ht (x:=items[i]) (by simp [hlt]) fun hV hit₁ hs₁=>?_);have ht₁:hV.IsList t items:=by
   obtain⟨o,k1,k2⟩:=ht;exact⟨o,(hs₁.2 t hne).trans k1,k2⟩
  refine sad (sbl (zrr hne n (i+1) _ _ hit₁ ht₁ (by omega) fun hZ hit₂ hs₂=>saB ?_));have hd:items.toList.drop i=items[i]::items.toList.drop (i+1):=by simp [saL,hlt]
  have:=hQ hZ (by rw[show i+(n+1)=i+1+n by omega];exact hit₂) (hs₁.trans hs₂);rw[hd,List.take_succ_cons] at this;exact this
theorem zkB {prog:Program}{w:World}{A:Around}{E:Value->Shared->Prop}{s:Shared}{t:Addr}{items:Array Value}{Q:List Value->Shared->Prop}(hh:A.handled=none)(ht:s.heap.IsList t items)
  (hQ:∀ h',Heap.ExtBut s.heap.objs.size s.heap h'->Q items.toList { s with heap:=h' }):wpAny (model prog w) A (unpackItems (.ref t) items.size none) Q E s:=by
 have hlt:t≠s.heap.objs.size:=by obtain⟨o,ho,_⟩:=ht;exact saE (sap ho)
 unfold unpackItems;refine sad ?_
 .unfold notIterableAtAll
  refine sad (wpAny_specialOf ht.typeIs slot_list_iter.lookup ?_);refine saB ?_;simp only[sct,if_false];refine sad (sbl (wpAny_pyIter_list ht ?_));have ht0:(s.heap.push { cls:=.type "list_iterator",data:=.fields #[.ref t,.int 0 0] }).IsList t items:=by
   obtain⟨o,k1,k2⟩:=ht;exact⟨o,saf _ k1,k2⟩
  refine sad (sbl (zrr hlt items.size 0 _ _ ⟨_,saX _ rfl,rfl,rfl⟩ ht0 (by omega) fun hV hit₁ hs₁=>?_));have hall:List.take items.size (List.drop 0 items.toList)=items.toList:=by
   rw[sbq];exact List.take_of_length_le (by simp)
  rw[hall];rw[if_neg (by simp)];have ht₁:hV.IsList t items:=by
   obtain⟨o,k1,k2⟩:=ht0;exact⟨o,(hs₁.2 t hlt).trans k1,k2⟩
  refine sad (sbl (wpAny_pyNext_list_end hh hit₁ ht₁ (by simp) fun hZ he₂=>?_));simp only[Option.isSome_none,sct,if_false];refine saB (hQ hZ fun b o hb e=>he₂ b o hb (hs₁.extBut b o hb (saf _ e)))
def zBE (σ:L2.St):List Nat->List V->L2.St
 | i::is,v::vs=>zBE (σ.set i (some v)) is vs
 | _,_=>σ
def zda (ρ:Ev):List Nat->List D->Ev
 | i::is,d::ds=>zda (ρ.set i (.sh d)) is ds
 | _,_=>ρ
theorem SRx.putAll {K:sab}{He H0e Ha H:Hp}:∀ {is:List Nat}{ds:List D}{vs:List V}{σ:L2.St}{ρ:Ev},SRx K He H0e Ha σ H ρ->Reps K Ha ds vs->SRx K He H0e Ha (zBE σ is vs) H (zda ρ is ds)
 | [],_,_,_,_,h,_=>by unfold zBE zda;exact h
 | _::_,[],_,_,_,h,r=>by rw[Reps.nil_iff.mp r];unfold zBE zda;exact h
 | i::is,d::ds,_,_,_,h,r=>by
  obtain⟨v,vs,rfl,h1,h2⟩:=zat.mp r;unfold zBE zda;exact SRx.putAll (h.put h1) h2
section
variable {X:Cx}{E:XK}{He H0e:Hp}{e a b:Expr}{es:List Expr}{f g:Ev->Res D}{fa:Ev->Res (List D)}{pos:Pos}{is:List Nat}
def tVs (is:List Nat):TGs:=fun vs σ H Q=>vs.length=is.length/\Q (zBE σ is vs) H
theorem ztp {t t':TGs}(h:PGs X es t)(w:∀ vs σ H Q,t' vs σ H Q->t vs σ H Q):PGs X es t':=fun pins s σ H vs us Q I r q=>h pins s σ H vs us Q I r (w vs σ H Q q)
theorem zhb:PGs X [] (tVs []):=ztp zBO fun vs σ H Q ⟨h,q⟩=>by
 have e:vs=[]:=sbF.mp h;subst e;exact⟨rfl,q⟩
theorem zbF {i:Nat}{x:Str}{p:Pos}(hN:X.N.Nodup)(hi:X.N[i]?=some x)(hx:Loc X.env.scope x)(h:PGs X es (tVs is))(hf:X.fn x=true∨X.env.scope.names.lookup x=some .local := by first | exact .inl rfl | exact .inr rfl | assumption)
  (hs:(assignEach (.Name x p::es) X.env).map (·.2)=assign (.Name x p) X.env::(assignEach es X.env).map (·.2):=by rfl):PGs X (.Name x p::es) (tVs (i::is)) :=
 ztp (zy8 (zv6 hN hi hx hf) h hs) fun vs σ H Q ⟨h,q⟩=>by
  cases vs with
  | nil=>simp at h
  | cons v vs=>exact⟨v,vs,rfl,by simpa using h,q⟩
theorem zBP {k:Nat}{t:TGs}{n:Nat}(hc:X.calm=true)(h:PGs X es t)
  (hn:(assignEach es X.env).length=n:=by rfl)(hst:(assignEach es X.env).findIdx? (·.1)=none:=by rfl):PG X (.Tuple es k pos) (fun v σ H Q=>∃ a xs,v=.ref a/\SqL X.K H a xs/\xs.length=n/\t xs σ H Q):=by
 intro pins s σ H v u Q I r hw;obtain⟨a,xs,e1,hq,hl,hw⟩:=hw;subst e1;cases r;obtain⟨its,rv,ht,hz⟩:=I.list hq;rw[assign_Tuple];refine sad (wpAny_standAt ?_);unfold unpack;rw[hn,hst];have hsz:n=its.toArray.size:=by rw[sao,← rv.length,hl]
 rw[hsz];refine sad (sbl (zkB (I.ok.hd hc) ht.isList fun h' hx=>?_));have I1:Inv X pins σ H { s with heap:=h' }:=I.kept (t':=s.toks) fun b o e=>hx b o (saE (sap e)) e;exact h pins _ σ H xs _ Q I1 (by simpa using rv) hw
theorem zGb {tgt:Expr}{t t':TG}(h:PG X tgt t)(h':PG X tgt t'):PG X tgt (fun v σ H Q=>t v σ H Q∨t' v σ H Q):=fun pins s σ H v u Q I r q=>q.elim (h pins s σ H v u Q I r) (h' pins s σ H v u Q I r)
theorem zD1 {k:Nat}(hc:X.calm=true)(h:PGs X es (tVs is))(hn:(assignEach es X.env).length=is.length:=by rfl)(hst:(assignEach es X.env).findIdx? (·.1)=none:=by rfl) :
  PG X (.Tuple es k pos) (fun v σ H Q=>∃ a xs,v=.ref a/\(SqT X.K H a xs∨SqL X.K H a xs)/\xs.length=is.length/\Q (zBE σ is xs) H) :=
 zsl (zGb (zD0 hc h hn hst) (zBP hc h hn hst)) fun v σ H Q ⟨a,xs,e,hq,hl,q⟩=>hq.elim (fun z=>.inl ⟨a,xs,e,z,hl,hl,q⟩) fun z=>.inr ⟨a,xs,e,z,hl,hl,q⟩
noncomputable def zfj (n:Nat) (d:D):Option (List D):=match d with
 | .tup ds=>if ds.length=n then some ds else none
 | .lst ds=>if ds.length=n then some ds else none
 | _=>none
theorem zsp {K:sab}{H:Hp}{n:Nat}{d:D}{ds:List D}{v:V}(h:zfj n d=some ds)(r:Rep K H d v):∃ a vs,v=.ref a/\(SqT K H a vs∨SqL K H a vs)/\vs.length=n/\Reps K H ds vs:=by
 unfold zfj at h;cases d with
 | tup es =>
  by_cases c:es.length=n
  .simp only[if_pos c] at h;cases h
   obtain⟨a,vs,rfl,h1,h2⟩:=zaw.mp r;exact⟨a,vs,rfl,.inl h1,by rw[← h2.length];exact c,h2⟩
  .simp only[if_neg c] at h;cases h
 | lst es =>
  by_cases c:es.length=n
  .simp only[if_pos c] at h;cases h
   obtain⟨a,vs,rfl,h1,h2⟩:=zaq.mp r;exact⟨a,vs,rfl,.inr h1,by rw[← h2.length];exact c,h2⟩
  .simp only[if_neg c] at h;cases h
 | _=>cases h
theorem zyU {K:sab}{H H':Hp}{a:Addr}{vs:List V}(hs:zaJ H H')(h:SqT K H a vs∨SqL K H a vs):SqT K H' a vs∨SqL K H' a vs:=h.elim (fun z=>.inl (zaJ.sqT hs z)) fun z=>.inr (zaJ.sqL hs z)
noncomputable def zHB (is:List Nat) (f:Ev->Res D):Ev->Res Fl:=fun ρ=>(f ρ).bind fun d=>match zfj is.length d with
 | some ds=>.ok (.nx (zda ρ is ds))
 | none=>.stuck
noncomputable def zkJ (is:List Nat):Ev->D->Res Ev:=fun ρ d=>match zfj is.length d with
 | some ds=>.ok (zda ρ is ds)
 | none=>.stuck
theorem zfp:zvm (zkJ is):=fun ρ d=>by
 unfold zkJ;cases zfj is.length d with
 | none=>exact .inl rfl
 | some ds=>exact .inr ⟨_,rfl⟩
theorem zkf {k:Nat}(hc:X.calm=true)(h:PGs X es (tVs is))(hn:(assignEach es X.env).length=is.length:=by rfl)(hst:(assignEach es X.env).findIdx? (·.1)=none:=by rfl):DG X E He H0e (.Tuple es k pos) (zkJ is) :=
 ⟨zsl (zD1 hc h hn hst) fun v σ H Q ⟨Ha,ρ,d,h,rp,q⟩=>by
  unfold zkJ at q;cases e1:zfj is.length d with
  | none=>rw[e1] at q;exact q.elim
  | some ds =>
   rw[e1] at q;obtain⟨a,vs,rfl,k1,k2,k3⟩:=zsp e1 rp;exact⟨a,vs,rfl,zyU h.g.sub k1,k2,q _ H Ha (zaJ.refl _) (h.putAll k3)⟩⟩
noncomputable def zys (i j:Nat) (fa:Ev->Res (List D)):Ev->Res Fl:=fun ρ=>(fa ρ).bind fun ds=>match ds with
 | [x,y]=>.ok (.nx ((ρ.set i (.sh x)).set j (.sh y)))
 | _=>.stuck
theorem zEV {i j:Nat}{x y:Str}{px py pt pt2:Pos}{kt k2}(hc:X.calm=true)(hN:X.N.Nodup)(hi:X.N[i]?=some x)(hj:X.N[j]?=some y)(hij:i≠j)
  (hx:X.env.scope.names.lookup x=some .local)(hy:X.env.scope.names.lookup y=some .local)(ha:DA X E [a,b] fa)
  (hw:swappedStores [.Tuple [.Name x px,.Name y py] kt pt] (.Tuple [a,b] k2 pt2) X.env=pure (some [x,y]))
  (hs:swapsWithSole [.Tuple [.Name x px,.Name y py] kt pt] (.Tuple [a,b] k2 pt2) pos.line X.env=pure false:=by rfl) :
  DS X E He H0e (.Assign [.Tuple [.Name x px,.Name y py] kt pt] (.Tuple [a,b] k2 pt2) pos) (zys i j fa):=by
 refine⟨?_⟩;refine zbt (zDT hc hN hi hj hij hx hy ha.o hw hs) fun D σ H ⟨Ha,ρ,h,q⟩=>⟨Ha,ρ,h.g.sub,h.rd,?_⟩
 unfold zys at q;cases e1:fa ρ with
 | stuck=>rw[e1] at q;exact q
 | exn x=>rw[e1] at q;exact fun C ox H' Ha' g ex=>q C ox H' Ha' (h.g.trans g) ex
 | ok ds =>
  rw[e1] at q;intro vs H1 H01 g1 r1
  match ds,r1,q with
  | [x,y],r1,q =>
   obtain⟨v,r',rfl,h1,h2⟩:=zat.mp r1;obtain⟨u,r'',rfl,h3,h4⟩:=zat.mp h2;rw[Reps.nil_iff.mp h4];exact⟨v,u,rfl,q _ H1 H01 g1.z (((h.grow g1).put h1).put h3)⟩
  | [],_,q=>exact q.elim
  | [_],_,q=>exact q.elim
  | _::_::_::_,_,q=>exact q.elim
end
theorem znR {K:sab}:zr0 K "int":=by
 intro S hS;simp only[sam,sbT,or_false] at hS;rcases hS with rfl | rfl | rfl | rfl | rfl | rfl | rfl<;>first | rfl | decide +kernel
theorem zid {K:sab}:zr0 K "bool":=by
 intro S hS;simp only[sam,sbT,or_false] at hS;rcases hS with rfl | rfl | rfl | rfl | rfl | rfl | rfl<;>first | rfl | decide +kernel
theorem znQ {K:sab}:zr0 K "str":=by
 intro S hS;simp only[sam,sbT,or_false] at hS;rcases hS with rfl | rfl | rfl | rfl | rfl | rfl | rfl<;>first | rfl | decide +kernel
theorem zfb {K:sab}:zr0 K "tuple":=by
 intro S hS;simp only[sam,sbT,or_false] at hS;rcases hS with rfl | rfl | rfl | rfl | rfl | rfl | rfl<;>first | rfl | decide +kernel
theorem zc9 {K:sab}:zr0 K "list":=by
 intro S hS;simp only[sam,sbT,or_false] at hS;rcases hS with rfl | rfl | rfl | rfl | rfl | rfl | rfl<;>first | rfl | decide +kernel
theorem zsC {K:sab}:zr0 K "dict":=by
 intro S hS;simp only[sam,sbT,or_false] at hS;rcases hS with rfl | rfl | rfl | rfl | rfl | rfl | rfl<;>first | rfl | decide +kernel
section
variable {X:Cx}{E:XK}{He H0e:Hp}{e a b c:Expr}{f g h:Ev->Res D}{pos:Pos}
theorem dv (i:Nat){x:Str}(hN:X.N[i]?=some x:=by rfl)(hv:Vis X.env.scope x:=by first | exact sas rfl | exact Or.inr (sas rfl) | exact Or.inr (Or.inr rfl))(hd:(x==("__debug__" : Str))=false:=by decide)
  (hcd:(x==("__classdict__" : Str))=false:=by decide):DE X E (.Name x pos) (zaf i):=zE3 hN hv hd hcd
noncomputable def Kon (K:sab) (mg:Str->Option Value) (x:Str) (d:D):Prop:=∃ v u,mg x=some u/\zcb v u/\∀ H,Rep K H d v
theorem zaO {x:Str}{d:D}(k:Kon X.K X.mg x d)(hg:Gl X x)(hd:(x==("__debug__" : Str))=false:=by decide):DE X E (.Name x pos) (dC d):=by
 obtain⟨v,u,h1,h2,h3⟩:=k;exact zCA hg h1 h2 h3 hd
theorem zdZ {K:sab}{mg:Str->Option Value}{x:Str}{i:Int}{t:Tok}(h:mg x=some (.int i t)):Kon K mg x (.int i):=⟨.int i,_,h,⟨t,rfl⟩,fun _=>ri _⟩
theorem zCd {K:sab}{mg:Str->Option Value}{x:Str}{i:Str}{t:Tok}(h:mg x=some (.str i t)):Kon K mg x (.str i):=⟨.str i,_,h,⟨t,rfl⟩,fun _=>Rep.str_iff.mpr rfl⟩
theorem zwA {K:sab}{mg:Str->Option Value}{x:Str}{a:Addr}{od:Option Addr}{its:Array Value}{n:Nat}{sl:Array (Option Value)}{ds:List D}{vs:List V}(h:mg x=some (.ref a))(l:K.lookup a=some ⟨.type "tuple",od,.seq its n,sl⟩)
  (hv:zbT vs its.toList)(hz:its.size<=sizeLine)(hd:∀ H,Reps K H ds vs):Kon K mg x (.tup ds):=⟨.ref a,_,h,rfl,fun H=>zaw.mpr ⟨a,vs,rfl,.inr ⟨_,its,n,l,rfl,rfl,hz,hv⟩,hd H⟩⟩
noncomputable def zhT (op op':D->D->Res D) (f g h:Ev->Res D):Ev->Res D:=fun ρ=>(f ρ).bind fun x=>(g ρ).bind fun y=>(op x y).bind fun z=>match z with
 | .bl true=>(h ρ).bind fun w=>op' y w
 | .bl false=>.ok (.bl false)
 | _=>.stuck
noncomputable def zs4 (r:R2) (o:D->D->Res D):Prop:=∀ (K:sab) (x y:D) (v u:V) (H Ha:Hp) (Q:VK) (d:D),zaJ Ha H->Rep K Ha x v->Rep K Ha y u->o x y=.ok d->(∀ w,Rep K Ha d w->Q w H)->r v u H Q
theorem zfu {gv:Int->Int->V}{g:Int->Int->D}(hg:∀ K H i j,Rep K H (g i j) (gv i j)):zs4 (rI0 gv) (iop (fun _ _=>true) g):=by
 intro K x y v u H Ha Q d hs r1 r2 e q;unfold iop at e;cases x with
 | int i =>
  cases y with
  | int j=>simp only[if_pos] at e;cases e;exact⟨i,j,zak.mp r1,zak.mp r2,q _ (hg _ _ i j)⟩
  | _=>cases e
 | _=>cases e
def zs5 (o:D->D->Res D):Prop:=∀ x y,∀ z,o x y≠.exn z
theorem zm5 {r r':R2}{o o':D->D->Res D}(p:zs4 r o)(p':zs4 r' o')(n:zs5 o)(n':zs5 o')(σ:L2.St)(H:Hp)(Q:VK)(q:tD X.K E (zhT o o' f g h) σ H Q) :
  zvF r r' (tD X.K E f) (tD X.K E g) (tD X.K E h) σ H Q:=by
 obtain⟨Ha,ρ,hs,hr,q⟩:=q;refine⟨Ha,ρ,hs,hr,?_⟩;unfold zhT at q;cases e1:f ρ with
 | stuck=>rw[e1] at q;exact q
 | exn x=>rw[e1] at q;exact q
 | ok x =>
  rw[e1] at q;intro v H1 H01 g1 r1;refine⟨H01,ρ,g1.sub,hr.mono g1.z,?_⟩;replace q:=post.grow (r:=(g ρ).bind fun y=>(o x y).bind fun z=>match z with
   | .bl true=>(h ρ).bind fun w=>o' y w
   | .bl false=>.ok (.bl false)
   | _=>.stuck) q g1
  cases e2:g ρ with
  | stuck=>rw[e2] at q;exact q
  | exn x=>rw[e2] at q;exact q
  | ok y =>
   rw[e2] at q;intro u H2 H02 g2 r2;replace q:=post.grow (r:=(o x y).bind fun z=>match z with
    | .bl true=>(h ρ).bind fun w=>o' y w
    | .bl false=>.ok (.bl false)
    | _=>.stuck) q g2
   cases e3:o x y with
   | stuck=>rw[e3] at q;exact q.elim
   | exn z=>exact absurd e3 (n x y z)
   | ok z =>
    rw[e3] at q;refine p X.K x y v u H2 H02 _ z g2.sub (r1.mono g2.z) r2 e3 fun w rw'=>?_;cases z with
    | bl b =>
     rw[zar.mp rw'];refine⟨b,rfl,?_⟩;cases b with
     | false=>rw[if_neg sa7];exact q _ H2 H02 (zbK.refl g2.sub) (rb _)
     | true =>
      rw[if_pos rfl];refine⟨H02,ρ,g2.sub,(hr.mono g1.z).mono g2.z,?_⟩;replace q:post X.K E H2 H02 ((h ρ).bind fun w=>o' y w) Q:=q;cases e4:h ρ with
      | stuck=>rw[e4] at q;exact q
      | exn x=>rw[e4] at q;exact q
      | ok w2 =>
       rw[e4] at q;intro v3 H3 H03 g3 r3;replace q:=post.grow (r:=o' y w2) q g3;cases e5:o' y w2 with
       | stuck=>rw[e5] at q;exact q.elim
       | exn z=>exact absurd e5 (n' y w2 z)
       | ok d =>
        rw[e5] at q;exact p' X.K y w2 u v3 H3 H03 Q d g3.sub (r2.mono g3.z) r3 e5 fun w3 r5=>q w3 H3 H03 (zbK.refl g3.sub) r5
    | _=>exact q.elim
theorem zzZ {op op':CmpOp}{r r':R2}{o o':D->D->Res D}(ho:OpR X (compareOp op) r)(ho':OpR X (compareOp op') r')(p:zs4 r o)(p':zs4 r' o')(n:zs5 o)(n':zs5 o')(ha:DE X E a f)(hb:DE X E b g)(hc:DE X E c h)
  (hm:lastMarks [op,op'] [b,c]=false:=by with_unfolding_all rfl):DE X E (.Compare a [op,op'] [b,c] pos) (zhT o o' f g h):=⟨zaR (zzb ho ho' ha.o hb.o hc.o hm) (zm5 p p' n n')⟩
theorem zt7 {op op':CmpOp}{r r':R2}{o o':D->D->Res D}(ho:OpR X (compareOp op) r)(ho':OpR X (compareOp op') r')(p:zs4 r o)(p':zs4 r' o')(n:zs5 o)(n':zs5 o')(ha:DE X E a f)(hb:DE X E b g)(hc:DE X E c h)
  (hm:lastMarks [op,op'] [b,c]=false:=by with_unfolding_all rfl):DT X E (.Compare a [op,op'] [b,c] pos) (zhT o o' f g h):=by
 refine⟨?_⟩;refine zib (zy4 ho ho' ha.o hb.o hc.o hm) fun σ H Q q=>?_;have w:tD X.K E (zhT o o' f g h) σ H fun x H'=>∃ k,x=.bl k/\Q k H':=by
  obtain⟨Ha,ρ,hs,hr,q⟩:=q;refine⟨Ha,ρ,hs,hr,?_⟩;cases e1:zhT o o' f g h ρ with
  | stuck=>rw[e1] at q;exact q
  | exn x=>rw[e1] at q;exact q
  | ok d =>
   rw[e1] at q;intro v H1 H01 g1 r1;cases d with
   | bl b=>rw[zar.mp r1];exact⟨b,rfl,q H1 H01 g1⟩
   | _=>exact q.elim
 exact zm5 p p' n n' σ H _ w
theorem zfy {c:Int->Int->Bool}{g:Int->Int->D}:zs5 (iop c g):=by
 intro x y z;unfold iop;cases x<;>cases y<;>simp<;>split<;>simp
end
def zjz (i:Nat):Ev->Nat:=fun ρ=>match ρ[i]? with
 | some (.sh (.int j))=>j.natAbs+1
 | _=>0
section
variable {X:Cx}{E:XK}{a b:Expr}{f g:Ev->Res D}{pos:Pos}
noncomputable def zbZ (x y:D):Res D:=match x,y with
 | .int i,.int j=>if zfm i j=true then .ok (.int (i*j)) else .stuck
 | _,_=>.stuck
theorem zc0 (ha:DE X E a f)(hb:DE X E b g):DE X E (.BinOp a .Mult b pos) (zad f g zbZ):=zu8 zBV (by
 intro x y v u H Ha Q hs r1 r2 q;unfold zbZ at q;cases x with
 | int i =>
  cases y with
  | int j =>
   by_cases h:zfm i j=true
   .simp only[if_pos h] at q
    exact⟨i,j,zak.mp r1,zak.mp r2,zfm.ok h,za0 hs q (ri _)⟩
   .simp only[if_neg h] at q;exact q.elim
  | _=>exact q.elim
 | _=>exact q.elim) ha hb
end
def zGr (K:sab)(tg:Ev->D->Res Ev):TG:=fun v σ H Q=>∃ He H0e,tG K He H0e tg v σ H Q
theorem Reps.rep {K:sab}{H:Hp}{ds:List D}{vs:List V}(h:Reps K H ds vs):∀ k:Nat,Reps K H (saj k ds).flatten (saj k vs).flatten
 | 0=>by simp;exact Reps.nil
 | k+1=>by
  rw[saO,saO,sbD,sbD];exact h.app (Reps.rep h k)
section
variable {X:Cx}{E:XK}{a b:Expr}{f g:Ev->Res D}{pos:Pos}
noncomputable def zAW (x y:D):Res D:=match x,y with
 | .lst ds,.int k=>if ds.length*k.toNat<=line/\-9223372036854775808<=k/\k < 9223372036854775808 then .ok (.lst (saj k.toNat ds).flatten) else .stuck
 | _,_=>.stuck
noncomputable def zFx (f g:Ev->Res D):Ev->Res D:=fun ρ=>(f ρ).bind fun x=>match x with
 | .lst ds=>(g ρ).bind fun y=>zAW (.lst ds) y
 | _=>.stuck
theorem zE4 (ha:DF X E a f)(hb:DE X E b g):DE X E (.BinOp a .Mult b pos) (zFx f g):=by
 refine⟨?_⟩;refine zaR (zBQ zEd ha.o hb.o) fun σ H Q ⟨Ha,ρ,hs,hr,q⟩=>⟨Ha,ρ,hs,hr,?_⟩
 unfold zFx at q;cases e1:f ρ with
 | stuck=>rw[e1] at q;exact q
 | exn x=>rw[e1] at q;exact q
 | ok x =>
  rw[e1] at q;cases x with
  | lst ds =>
   replace q:post X.K E H Ha ((g ρ).bind fun y=>zAW (.lst ds) y) Q:=q;intro p vs H1 H01 g1 hp h0 hv rp;refine⟨H01,ρ,g1.sub,hr.mono g1.z,?_⟩;replace q:=q.grow g1;cases e2:g ρ with
   | stuck=>rw[e2] at q;exact q
   | exn x=>rw[e2] at q;exact q
   | ok y =>
    rw[e2] at q;intro u H2 H02 g2 r2;replace q:=post.grow (r:=zAW (.lst ds) y) q g2;cases y with
    | int k =>
     unfold zAW at q
     by_cases c:ds.length*k.toNat<=line/\-9223372036854775808<=k/\k < 9223372036854775808
     .simp only[if_pos c] at q
      refine⟨p,k,vs,rfl,zak.mp r2,g2.s _ _ hv,by omega,by omega,by rw[← rp.length];exact zcw c.1,fun n hn=>?_⟩;exact q _ _ _ (zaD g2.sub hn) (zaq.mpr ⟨n,_,rfl,SqL.of zao,((rp.mono g2.z).rep _).mono (zaD g2.sub hn).z⟩)
     .simp only[if_neg c] at q;exact q.elim
    | _=>exact q.elim
  | _=>exact q.elim
def zx1 (x:D):Res D:=match x with
 | .lst ds=>.ok (.tup ds)
 | .tup ds=>.ok (.tup ds)
 | _=>.stuck
theorem zz5:zhH X E (fun xs H Q=>∃ p ys,xs=[.ref p]/\((SqL X.K H p ys/\∀ l,H l=none->Q (.ref l) (upd H l (.tup ys)))∨(SqT X.K H p ys/\Q (.ref p) H))) (m1 zx1):=zrI fun x v H Ha Q hs r q=>by
 cases x with
 | lst ds =>
  obtain⟨p,vs,rfl,h1,h2⟩:=zaq.mp r;exact⟨p,vs,rfl,.inl ⟨zaJ.sqL hs h1,fun n hn=>q _ _ _ (zaD hs hn) (zaw.mpr ⟨n,_,rfl,SqT.of zao,h2.mono (zaD hs hn).z⟩)⟩⟩
 | tup ds =>
  obtain⟨p,vs,e,h1,h2⟩:=zaw.mp r;subst e;exact⟨p,vs,rfl,.inr ⟨zaJ.sqT hs h1,za0 hs q r⟩⟩
 | _=>exact q.elim
end
def zhJ:List D->Option (List Str)
 | []=>some []
 | .str x::r=>(zhJ r).map (x::·)
 | _=>none
theorem ztc {K:sab}{H:Hp}:∀ {ds:List D}{ys:List Str}{vs:List V}{us:List Value},zhJ ds=some ys->Reps K H ds vs->zbT vs us->StrsAre us ys
 | [],ys,vs,us,h,r,q=>by
  cases h;rw[Reps.nil_iff.mp r] at q;cases q;exact .nil
 | d::ds,ys,vs,us,h,r,q=>by
  obtain⟨v,r',rfl,h1,h2⟩:=zat.mp r;cases q with
  | cons q1 q2 =>
   cases d with
   | str x =>
    unfold zhJ at h;cases e:zhJ ds with
    | none=>rw[e] at h;cases h
    | some zs =>
     rw[e] at h;cases h;rw[Rep.str_iff.mp h1] at q1;obtain⟨t,rfl⟩:=q1;exact .cons _ _ (ztc e h2 q2)
   | _=>cases h
section
variable {X:Cx}{E:XK}{o e:Expr}{fo:Ev->Res D}{fa:Ev->Res (List D)}
noncomputable def zg2 (z:Str) (ys:List Str):Bool:=decide (z.length<=16)&&decide ((ys.map (·.length)).sum+ys.length<=1048576)
noncomputable def zF4 (K:sab):V->List V->Hp->VK->Prop:=fun x xs H Q=>∃ z p ds ys,x=.str z/\xs=[.ref p]/\Rep K H (.lst ds) (.ref p)/\zhJ ds=some ys/\zg2 z ys=true/\Q (.str (Txt.join z ys)) H
theorem zB1:MtR X "str.join" (zF4 X.K):=by
 intro pins s σ H x xs v us Q I rx rs h;obtain⟨z,p,ds,ys,rfl,rfl,hr,hy,hf,q⟩:=h;obtain⟨t,rfl⟩:=rx;obtain⟨u,rfl,ru⟩:=rs.one;obtain⟨a,vs,its,ea,rfl,h1,h2,h3,h4,_⟩:=zaQ I hr ru;unfold zg2 at hf;rw[saA] at hf;exact join_listW h4 (by simpa using ztc hy h2 h3) (of_decide_eq_true hf.1) (of_decide_eq_true hf.2) fun t' k=>⟨.str (Txt.join z ys),H,I.tok _,⟨_,rfl⟩,q⟩
noncomputable def zoX (z:Str) (xs:List D):Res D:=match xs with
 | [.lst ds]=>match zhJ ds with
  | some ys=>if zg2 z ys=true then .ok (.str (Txt.join z ys)) else .stuck
  | none=>.stuck
 | _=>.stuck
noncomputable def zva (fo:Ev->Res D) (fa:Ev->Res (List D)):Ev->Res D:=fun ρ=>(fo ρ).bind fun x=>match x with
 | .str z=>(fa ρ).bind fun xs=>zoX z xs
 | _=>.stuck
theorem zCy {apos cpos:Pos}(ho:DE X E o fo)(ha:DA X E [e] fa)
  (hbase:attributeBase o "join" X.env (eval o X.env)=eval o X.env:=by rfl)
  (hfew:((backTo cpos (starEach [e] X.env)).all (fun x=>!x.1)&&(backToKw cpos (keywordEach [] X.env)).all (fun x=>x.1.isSome)
  &&decide ([e].length+([]:List Keyword).length+(if([]:List Keyword).isEmpty then 0 else 1) < 30))=true:=by exact zoZ rfl)
  (hline:(apos.endLine==cpos.line)=true:=by rfl) (hs:starEach [e] X.env=(false,eval e X.env)::starEach [] X.env:=by exact zaH rfl) (hplain:(backTo cpos (starEach [] X.env)).any (·.1)=false:=by exact za9 rfl) :
  DE X E (.Call (.Attribute o "join" apos) [e] [] cpos) (zva fo fa):=by
 refine⟨?_⟩;refine zaR (zBS PySem.F.plainAttrs_str PySem.F.slot_str_join PySem.F.type_str_join zB1 ho.o ha.o hbase hfew hline hs hplain) fun σ H Q ⟨Ha,ρ,hs,hr,q⟩=>⟨Ha,ρ,hs,hr,?_⟩
 unfold zva at q;cases e1:fo ρ with
 | stuck=>rw[e1] at q;exact q
 | exn x=>rw[e1] at q;exact q
 | ok x =>
  rw[e1] at q;intro v H1 H01 g1 r1;cases x with
  | str z =>
   rw[Rep.str_iff.mp r1];refine⟨rfl,H01,ρ,g1.sub,hr.mono g1.z,?_⟩;replace q:=post.grow (r:=(fa ρ).bind fun xs=>zoX z xs) q g1;cases e2:fa ρ with
   | stuck=>rw[e2] at q;exact q
   | exn x=>rw[e2] at q;exact q
   | ok xs =>
    rw[e2] at q;intro us H2 H02 g2 r2;replace q:=post.grow (r:=zoX z xs) q g2;unfold zoX at q
    match xs,r2,q with
    | [.lst ds],r2,q =>
     obtain⟨w,r',rfl,k1,k2⟩:=zat.mp r2;rw[Reps.nil_iff.mp k2];obtain⟨p,vs,rfl,k3,k4⟩:=zaq.mp k1;cases e3:zhJ ds with
     | none=>simp only[e3] at q;exact q.elim
     | some ys =>
      simp only[e3] at q
      by_cases c:zg2 z ys=true
      .rw[if_pos c] at q
       exact⟨z,p,ds,ys,rfl,rfl,k1.mono g2.sub,e3,c,za0 g2.sub q (Rep.str_iff.mpr rfl)⟩
      .rw[if_neg c] at q;exact q.elim
    | [],_,q=>exact q.elim
    | d1::_::_,_,q=>cases d1<;>exact sbb q
    | [.non],_,q=>exact q.elim
    | [.bl _],_,q=>exact q.elim
    | [.int _],_,q=>exact q.elim
    | [.str _],_,q=>exact q.elim
    | [.tup _],_,q=>exact q.elim
    | [.dic _ _],_,q=>exact q.elim
    | [.exc _],_,q=>exact q.elim
    | [.ob _ _],_,q=>exact q.elim
  | _=>exact q.elim
end
section
variable {X:Cx}{E:XK}{a:Expr}{f:Ev->Res D}{pos:Pos}
noncomputable def zHD:V->Option Int->Option Int->Hp->VK->Prop:=fun x lo hi H Q=>∃ z,x=.str z/\z.length<=sizeLine/\Q (.str (Txt.slice z lo hi)) H
theorem zDt:SlR X zHD:=by
 intro pins s σ H x v vl vu lo hi sl Q I rx hs pl pu h;obtain⟨z,rfl,hz,q⟩:=h;obtain⟨t,rfl⟩:=rx;have fin:∀ t' k,EP X pins σ Q (.str (Txt.slice z lo hi) t') { s with toks:=k }:=fun t' k=>⟨.str (Txt.slice z lo hi),H,I.tok _,⟨_,rfl⟩,q⟩
 refine⟨"str",_,PySem.F.slot_str_getitem.lookup,typeIs_str s z t,?_⟩;cases pl with
 | none =>
  cases pu with
  | none=>exact wpAny_getItem_str_slice (l:=none) (u:=none) (st:=none) hs rfl (post_val_or_str ⟨sat (sc0 z _ _) hz,fin⟩)
  | int j uj=>exact wpAny_getItem_str_slice (l:=none) (u:=some (j,uj)) (st:=none) hs rfl (post_val_or_str ⟨sat (sc0 z _ _) hz,fin⟩)
 | int i ui =>
  cases pu with
  | none=>exact wpAny_getItem_str_slice (l:=some (i,ui)) (u:=none) (st:=none) hs rfl (post_val_or_str ⟨sat (sc0 z _ _) hz,fin⟩)
  | int j uj=>exact wpAny_getItem_str_slice (l:=some (i,ui)) (u:=some (j,uj)) (st:=none) hs rfl (post_val_or_str ⟨sat (sc0 z _ _) hz,fin⟩)
noncomputable def zp2 (x:D) (l h:Option Int):Res D:=match x with
 | .lst ds=>.ok (.lst (zkK ds l h))
 | .str z=>if z.length<=line then .ok (.str (Txt.slice z l h)) else .stuck
 | .tup ds=>if HT.sIx ds.length 0 l=0/\HT.sIx ds.length ds.length h=ds.length then .stuck else .ok (.tup (zkK ds l h))
 | _=>.stuck
noncomputable def zyt (f:Ev->Res D) (lo hi:Ev->Res (Option Int)):Ev->Res D:=fun ρ=>(f ρ).bind fun x=>(lo ρ).bind fun l=>(hi ρ).bind fun h=>zp2 x l h
theorem ze0 {lo hi:Option Expr}{p2:Pos}{fl fh:Ev->Res (Option Int)}(ha:DE X E a f)(hl:DO X E lo fl)(hh:DO X E hi fh):DE X E (.Subscript a (.Slice lo hi none p2) pos) (zyt f fl fh) :=
 ⟨zaR (ztq (SlR.or zvK (SlR.or zDt zDs)) ha.o hl.o hh.o) (zse (m:=zp2) fun x v l h H Ha Q hs r q=>by
  cases x with
  | lst ds =>
   obtain⟨p,vs,rfl,h1,h2⟩:=zaq.mp r;exact .inl ⟨p,vs,rfl,zaJ.sqL hs h1,fun n hn=>q _ _ _ (zaD hs hn) (zaq.mpr ⟨n,_,rfl,SqL.of zao,(h2.cut l h).mono (zaD hs hn).z⟩)⟩
  | str z =>
   unfold zp2 at q
   by_cases c:z.length<=line
   .simp only[if_pos c] at q
    exact .inr (.inl ⟨z,Rep.str_iff.mp r,zcw c,za0 hs q (Rep.str_iff.mpr rfl)⟩)
   .simp only[if_neg c] at q;exact q.elim
  | tup ds =>
   unfold zp2 at q
   by_cases c:HT.sIx ds.length 0 l=0/\HT.sIx ds.length ds.length h=ds.length
   .simp only[if_pos c] at q;exact q.elim
   .simp only[if_neg c] at q
    obtain⟨p,vs,rfl,h1,h2⟩:=zaw.mp r;exact .inr (.inr ⟨p,vs,rfl,zaJ.sqT hs h1,by rw[← h2.length];exact c,fun n hn=>q _ _ _ (zaD hs hn) (zaw.mpr ⟨n,_,rfl,SqT.of zao,(h2.cut l h).mono (zaD hs hn).z⟩)⟩)
  | _=>exact q.elim)⟩
end
noncomputable def Its (z:Str):It:=⟨fun i _=>i < z.cps.size,fun i H x H'=>H'=H/\∃ c,z.cps[i]?=some c/\x=.str ⟨#[c]⟩,fun i _=>z.cps.size<=i⟩
theorem zut {P:Program}{w:World}{K:sab}{tg:Expr}(z:Str)(t:Tok)(it:Addr):zA3 P w K tg (Its z) [it] it (fun i h=>h.IsStrIter it "str_ascii_iterator" z t i) where
 mem:=by simp
 obj:=fun i h st b hb=>by
  have e:b=it:=by simpa using hb
  subst e;obtain⟨o,e,c,d⟩:=st;exact⟨o,e,fun v z=>by rw[d] at z;cases z⟩
 keep:=fun i h h' st k=>let ⟨o,ho,r⟩:=st;⟨o,k it (by simp) o ho,r⟩
 item:=by
  intro X hP hw hK hc i pins s σ H E I hf st hg;subst hP hw hK;have hg':i < z.cps.size:=hg;obtain⟨f0,f1,f2,f3,f4,f5⟩:=hf it (by simp);refine wpAny_pyNext_ascii_item st (c:=z.cps[i]) (by simp [hg']) fun h' st' sb=>?_;have I1:Inv X pins σ H { s with heap:=h',toks:=s.toks+1 }:=I.turned (t':=s.toks+1) (fun b o hb e=>(sb.2 b hb).trans e) f0 f1 f3 f4 f5;obtain⟨o,e,c,d⟩:=id st';exact⟨_,rfl,zwP (s:={ s with heap:=h',toks:=s.toks+1 }) e c d (by decide) ⟨.str ⟨#[z.cps[i]]⟩,H,I1,⟨_,rfl⟩,⟨rfl,_,by simp [hg'],rfl⟩,st',fun b hb=>(hf b hb).1⟩⟩
 done:=by
  intro X hP hw hK hc i pins s σ H E I hf st hg;subst hP hw hK;have hg':z.cps.size<=i:=hg;obtain⟨f0,f1,f2,f3,f4,f5⟩:=hf it (by simp);exact wpAny_pyNext_ascii_end (I.ok.hd hc) st (by simp [hg']) fun h' eb=>⟨rfl,I.turned (t':=s.toks) (fun b o hb e=>eb b o hb e) f0 f1 f3 f4 f5⟩
 self:=fun _ _ _ _ _ st h=>wpAny_pyIter_striter_ascii st h
theorem zvz {P:Program}{w:World}{K:sab}{tg:Expr}(z:Str)(t:Tok)(it:Addr):zA3 P w K tg (Its z) [it] it (fun i h=>h.IsStrIter it "str_iterator" z t i) where
 mem:=by simp
 obj:=fun i h st b hb=>by
  have e:b=it:=by simpa using hb
  subst e;obtain⟨o,e,c,d⟩:=st;exact⟨o,e,fun v z=>by rw[d] at z;cases z⟩
 keep:=fun i h h' st k=>let ⟨o,ho,r⟩:=st;⟨o,k it (by simp) o ho,r⟩
 item:=by
  intro X hP hw hK hc i pins s σ H E I hf st hg;subst hP hw hK;have hg':i < z.cps.size:=hg;obtain⟨f0,f1,f2,f3,f4,f5⟩:=hf it (by simp);refine wpAny_pyNext_wide_item st (c:=z.cps[i]) (by simp [hg']) fun h' st' sb=>?_;have I1:Inv X pins σ H { s with heap:=h',toks:=s.toks+1 }:=I.turned (t':=s.toks+1) (fun b o hb e=>(sb.2 b hb).trans e) f0 f1 f3 f4 f5;obtain⟨o,e,c,d⟩:=id st';exact⟨_,rfl,zwP (s:={ s with heap:=h',toks:=s.toks+1 }) e c d (by decide) ⟨.str ⟨#[z.cps[i]]⟩,H,I1,⟨_,rfl⟩,⟨rfl,_,by simp [hg'],rfl⟩,st',fun b hb=>(hf b hb).1⟩⟩
 done:=by
  intro X hP hw hK hc i pins s σ H E I hf st hg;subst hP hw hK;have hg':z.cps.size<=i:=hg;obtain⟨f0,f1,f2,f3,f4,f5⟩:=hf it (by simp);exact wpAny_pyNext_wide_end (I.ok.hd hc) st (by simp [hg']) fun h' eb=>⟨rfl,I.turned (t':=s.toks) (fun b o hb e=>eb b o hb e) f0 f1 f3 f4 f5⟩
 self:=fun _ _ _ _ _ st h=>wpAny_pyIter_striter_wide st h
def zHQ (tl:TE):TI:=fun σ H R=>tl σ H fun x H1=>∃ z,x=.str z/\R (Its z) H1
theorem zDZ {X:Cx}{tg l:Expr}{tl:TE}(hl:PE X l tl):PI X tg l (zHQ tl):=by
 intro pins s σ H R I h;refine thn (hl pins s σ H _ I h) fun v s1 ⟨x,H1,I1,r1,q1⟩=>?_;obtain⟨z,rfl,q⟩:=q1;obtain⟨t,rfl⟩:=r1;have fpo:∀ b∈[s1.heap.objs.size],zuo X pins H1 b:=fun b hb=>by
  have e:b=s1.heap.objs.size:=by simpa using hb
  subst e;exact I1.fpOk (saq _) (I1.hok.fresh (saq _))
 cases ha:z.cps.all (· < 128) with
 | false=>exact wpAny_pyIter_wide ha ⟨s1.heap.objs.size,[s1.heap.objs.size],_,_,H1,rfl,I1.kept (t':=s1.toks) fun b o e=>saf _ e,zvz z t _,⟨_,saX _ rfl,rfl,rfl⟩,fpo,q⟩
 | true=>exact wpAny_pyIter_ascii ha ⟨s1.heap.objs.size,[s1.heap.objs.size],_,_,H1,rfl,I1.kept (t':=s1.toks) fun b o e=>saf _ e,zut z t _,⟨_,saX _ rfl,rfl,rfl⟩,fpo,q⟩
def zjP (z:Str):List D:=z.cps.toList.map fun c=>.str ⟨#[c]⟩
theorem zje (z:Str):(zjP z).length=z.cps.size:=by unfold zjP;simp
section
variable {X:Cx}{E:XK}{He H0e:Hp}{f:Ev->Res D}{s:Ev->Res Fl}{pos:Pos}
end
section
variable {X:Cx}{E:XK}
noncomputable def zGX (K:sab):List V->Hp->VK->Prop:=fun xs H Q=>∃ (p:Addr) (bs:List Bool),xs=[.ref p]/\SqL K H p (bs.map V.bl)/\Q (.bl (bs.all id)) H
theorem zrU:∀ bs:List Bool,(sbr bs.length).all (fun i=>bs.getD i false)=bs.all id
 | []=>rfl
 | b::r=>by
  rw[sau,List.range_succ_eq_map,sck,sc2,sck,← zrU r];rfl
theorem zps (hc:X.calm=true):zhG X (.builtin "all") (zGX X.K):=by
 intro pins s σ H xs us Q I r h;obtain⟨p,bs,rfl,hq,q⟩:=h;obtain⟨u,rfl,rx⟩:=zot r;cases rx;obtain⟨its,rv,pl,hz⟩:=I.list hq;have hlen:=rv.length;rw[sag] at hlen;have hne:p≠s.heap.objs.size:=saE pl.lt;refine call_all_walk (wpAny_pyIter_list pl.isList ?_);have pl2:(s.heap.push { cls:=.type "list_iterator",data:=.fields #[.ref p,.int 0 0] }).IsList p its.toArray:=by
  obtain⟨o,k1,k2⟩:=pl.isList;exact⟨o,saf _ k1,k2⟩
 refine⟨s.heap.objs.size,_,_,_,_,_,fun i=>bs.getD i false,rfl,Walks.list (A:=X.A.in1) (I.ok.hd hc) s.heap.objs.size p hne its.toArray,⟨⟨_,saX _ rfl,rfl,rfl⟩,pl2⟩,?_,fun h' tk hk=>?_⟩
 .intro i v s' Q' E' hv hQ
  have hv':its[i]?=some v:=by simpa using hv
  have hi:i < its.length:=(sac.mp hv').1;obtain⟨w,e1,e2⟩:=rv.get (show(bs.map V.bl)[i]?=some (V.bl (bs.getD i false)) by
   rw[sai,saa (by omega)];simp [List.getD,saa (show i < bs.length by omega)])
  rw[hv'] at e1;cases e1;obtain rfl:v=sbi _:=e2;exact sa3 hQ
 .have hall:(sbr its.toArray.size).all (fun i=>bs.getD i false)=bs.all id:=by
   rw[sao,← hlen];exact zrU bs
  rw[hall];exact⟨.bl _,H,I.kept (t':=tk) (fun b o e=>hk b o (by simp only[List.mem_singleton];exact saE (sap e)) (saf _ e)),rfl,q⟩
def ze3:List D->Option (List Bool)
 | []=>some []
 | .bl b::r=>(ze3 r).map (b::·)
 | _=>none
theorem zrL {K:sab}{H:Hp}:∀ {ds:List D}{bs:List Bool}{vs:List V},ze3 ds=some bs->Reps K H ds vs->vs=bs.map V.bl
 | [],bs,vs,h,r=>by cases h;exact Reps.nil_iff.mp r
 | d::ds,bs,vs,h,r=>by
  obtain⟨v,r',rfl,h1,h2⟩:=zat.mp r;cases d with
  | bl x =>
   unfold ze3 at h;cases e:ze3 ds with
   | none=>rw[e] at h;cases h
   | some zs =>
    rw[e] at h;cases h;rw[zar.mp h1,zrL e h2];rfl
  | _=>cases h
noncomputable def zAX (x:D):Res D:=match x with
 | .lst ds=>match ze3 ds with
  | some bs=>.ok (.bl (bs.all id))
  | none=>.stuck
 | _=>.stuck
theorem zx8:zhH X E (zGX X.K) (m1 zAX):=zrI fun x v H Ha Q hs r q=>by
 cases x with
 | lst ds =>
  unfold zAX at q;obtain⟨p,vs,rfl,h1,h2⟩:=zaq.mp r;cases e:ze3 ds with
  | none=>simp only[e] at q;exact q.elim
  | some bs =>
   simp only[e] at q;exact⟨p,bs,rfl,by rw[← zrL e h2];exact zaJ.sqL hs h1,za0 hs q (rb _)⟩
 | _=>exact q.elim
end
end DL
namespace L2
open PySem PySem.Spec PyProof.Rows
section
variable {κ:Type}[DecidableEq κ]
noncomputable def zF7 (kvs:List (κ×V)) (k:κ) (v:V):List (κ×V) :=
 if(kvs.any fun kv=>decide (kv.1=k))=true then kvs.map (fun kv=>if kv.1=k then(kv.1,v) else kv) else kvs++[(k,v)]
def zCu (kvs:List (κ×V))(k:κ):List (κ×V):=kvs.filter fun kv=>decide (kv.1≠k)
theorem KV.length {kvs:List (κ×V)}{vs:List (κ×Value)}(r:KV kvs vs):kvs.length=vs.length:=Paired.length r
end
section
variable {P:Program}{w:World}{H:Hp}{h:Heap}{a:Addr}
theorem zF2 {u:HO}(ok:HOk P w H h)(e:Rd H a u):zcp P w H h a u:=e.ok ok
theorem zGz {kvs:List (Key×V)}(ok:HOk P w H h)(e:Rd H a (.dK kvs)):kvs.length<=sizeLine/\(a==sysModules)=false/\∃ vs,KV kvs vs/\h.DictOf (zlx P w) a vs :=
 show zcp P w H h a (.dK kvs) from zF2 ok e
end
section
variable {X:Cx}{pins:List (Addr×Obj)}{σ:St}{H:Hp}{s:Shared}{a:Addr}{y v:V}{u r:Value}{o:Option V}{A:Around}{E:Value->Shared->Prop}
theorem Inv.big (I:Inv X pins σ H s):sysModules < s.heap.objs.size:=by
 have h:mainGlobals < s.heap.objs.size:=(I.mod.glob.keeps I.bk).lt;exact scF (by decide) h
end
section
variable {X:Cx}{pins:List (Addr×Obj)}{σ:St}{H:Hp}{s:Shared}{a:Addr}{kvs:List (Key×V)}{k:Key}{u:Value}{A:Around}{E:Value->Shared->Prop}
theorem zGD {Q:Value->Shared->Prop}(I:Inv X pins σ H s)(e:Rd H a (.dK kvs))(h:∀ t s',Inv X pins σ H s'->Q (.int kvs.length t) s'):wpAny (model X.prog X.w) A (call (.builtin "len") [.ref a]) Q E s:=by
 obtain⟨z,hd,vs,rel,dd⟩:=zGz I.hok e;refine call_len_dict hd dd (by rw[← rel.length];rw[sizeLine_eq] at z;omega) ?_;rw[← rel.length];exact h _ _ (I.tok _)
end
section
variable {X:Cx}{o i e value:Expr}{pos pos' tpos:Pos}{td ty tv:TE}
end
theorem zzW {P:Program}{w:World}{H:Hp}(h:Heap)(hb:sysModules < h.objs.size):zcp P w H (h.push { cls:=.type "dict",data:=.dict #[] }) h.objs.size (.dK []) :=
 ⟨sbE _,beq_eq_false_iff_ne.mpr (saT (saE hb)),[],.nil,Heap.DictOf.new h⟩
def zDn:TE:=fun _ H Q=>∀ p,H p=none->Q (.ref p) (upd H p (.dK []))
section
variable {X:Cx}{pos:Pos}
theorem zza:PE X (.Dict [] [] pos) zDn:=fun pins s σ H Q I h =>
 wpAny_Dict_empty ⟨.ref s.heap.objs.size,_,I.laid (a:=s.heap.objs.size) (o:=.dK []) (t':=s.toks) (fun _ _ q=>saf _ q) (saq _) (zzW s.heap I.big),rfl,h _ (I.hok.fresh (saq _))⟩
end
section
variable {X:Cx}{pins:List (Addr×Obj)}{σ:St}{H:Hp}{s:Shared}{a:Addr}{y d:V}{u r:Value}{o:Option V}{A:Around}{E:Value->Shared->Prop}
end
section
variable {X:Cx}{o e f:Expr}{apos cpos:Pos}{td ty tx:TE}
end
section
variable {X:Cx}{pins:List (Addr×Obj)}{σ:St}{H:Hp}{s:Shared}{a:Addr}{kvs:List (Key×V)}{A:Around}{E:Value->Shared->Prop}
end
section
variable {X:Cx}{pins:List (Addr×Obj)}{σ:St}{H:Hp}{s:Shared}{a:Addr}{y:V}{u:Value}{A:Around}{E:Value->Shared->Prop}
end
end L2
namespace DL
open PySem PySem.Spec PyProof.Rows L2
theorem zs3 {K:sab}{H:Hp}{ks:List Str}{ds:List D}{v:V}:Rep K H (.dic ks ds) v↔∃ a kvs vs,v=.ref a/\Rd H a (.dK kvs)/\kvs=(ks.map scA).zip vs/\ks.length=vs.length/\Reps K H ds vs:=by rw[Rep]
section
variable {X:Cx}{E:XK}{e:Expr}{f:Ev->Res D}{pos p1:Pos}
theorem zxW:DE X E (.Dict [] [] pos) (dC (.dic [] [])):=by
 refine⟨?_⟩;refine zaR zza fun σ H Q ⟨Ha,ρ,hs,hr,q⟩ p hp=>?_;exact q _ _ _ (zaD hs hp) (zs3.mpr ⟨p,[],[],rfl,.inl zao,rfl,rfl,Reps.nil⟩)
def dOne (x:Str)(d:D):Res D:=.ok (.dic [x] [d])
end
noncomputable def zm4 (cells:List (Str×Addr)):List (Str×NameKind)->List (Str×Addr)->List (Str×Addr)
 | [],acc=>acc
 | (n,k)::r,acc=>if(k==sbz)=true then zm4 cells r ((n,(cells.lookup n).getD 0)::acc) else zm4 cells r acc
theorem ziV {scope:Scope}{env:sba}(h:∀ x∈scope.names,x.2=.free->∃ c,env.cells.lookup x.1=some c):closureFor scope env=pure (zm4 env.cells scope.names []):=by
 simp only[closureFor];have key:∀ (names:List (Str×NameKind)) (acc:List (Str×Addr)),(∀ x∈names,x.2=.free->∃ c,env.cells.lookup x.1=some c) ->
   (forIn names acc fun(x:Str×NameKind) (z:List (Str×Addr)) =>
      if(x.snd==sbz)=true then do
       let y ← cellOf env x.fst
       pure (sca ((x.fst,y)::z))
      else(pure (sca z):Sem _))=pure (zm4 env.cells names acc):=by
  intro names
  induction names with
  | nil=>intro acc _;rfl
  | cons x r ih =>
   intro acc hh;obtain⟨n,k⟩:=x;rw[List.forIn_cons]
   by_cases hk:(k==sbz)=true
   .obtain⟨c,hc⟩:=hh (n,k) sax (by simpa using hk)
    have hcell:cellOf env n=pure c:=by unfold cellOf;rw[show env.cells.lookup n=some c from hc]
    simp only[hk,if_true];rw[hcell];have:=ih ((n,c)::acc) (fun y hy=>hh y (sak _ hy));rw[show zm4 env.cells ((n,k)::r) acc=zm4 env.cells r ((n,c)::acc) by
     show(if(k==sbz)=true then _ else _)=_;rw[if_pos hk,show env.cells.lookup n=some c from hc];rfl]
    rw[← this];rfl
   .have:=ih acc (fun y hy=>hh y (sak _ hy))
    rw[if_neg hk];rw[show zm4 env.cells ((n,k)::r) acc=zm4 env.cells r acc by
     show(if(k==sbz)=true then _ else _)=_;rw[if_neg hk]]
    rw[← this];rfl
 rw[key _ _ h];rfl
theorem zpo {cells:List (Str×Addr)}:∀ {names:List (Str×NameKind)}{acc:List (Str×Addr)}{x:Str}{c:Addr},(∀ y∈names,y.2=.free->∃ c,cells.lookup y.1=some c) ->
  (zm4 cells names acc).lookup x=some c->acc.lookup x=some c∨cells.lookup x=some c
 | [],acc,x,c,_,h=>.inl h
 | (n,k)::r,acc,x,c,hh,h=>by
  unfold zm4 at h
  by_cases hk:(k==sbz)=true
  .rw[if_pos hk] at h
   obtain⟨d,hd⟩:=hh (n,k) sax (by simpa using hk);rcases zpo (fun y hy=>hh y (sak _ hy)) h with h | h
   .rw[sbe] at h
    cases e:x==n with
    | true =>
     rw[e] at h;rw[show cells.lookup n=some d from hd] at h;cases h;rw[eq_of_beq e];exact .inr hd
    | false=>rw[e] at h;exact .inl h
   .exact .inr h
  .rw[if_neg hk] at h
   exact zpo (fun y hy=>hh y (sak _ hy)) h
theorem zlD {α:Type}{x:Str}:∀ {l:List (Str×α)},(∃ v,(x,v)∈l)->∃ v,l.lookup x=some v
 | [],⟨v,h⟩=>by cases h
 | (n,w)::r,⟨v,h⟩=>by
  rw[sbe];cases e:x==n with
  | true=>exact⟨w,rfl⟩
  | false =>
   rcases sam.mp h with h | h
   .cases h;simp at e
   .exact zlD ⟨v,h⟩
theorem zpq {cells:List (Str×Addr)}{x:Str}{c:Addr}:∀ {names:List (Str×NameKind)}{acc:List (Str×Addr)},(x,c)∈acc->(x,c)∈zm4 cells names acc
 | [],acc,h=>h
 | (n,k)::r,acc,h=>by
  unfold zm4
  by_cases hk:(k==sbz)=true
  .rw[if_pos hk];exact zpq (sak _ h)
  .rw[if_neg hk];exact zpq h
theorem zpp {cells:List (Str×Addr)}{x:Str}:∀ {names:List (Str×NameKind)}{acc:List (Str×Addr)},(x,sbz)∈names->∃ c,(zm4 cells names acc).lookup x=some c:=by
 intro names
 induction names with
 | nil=>intro acc h;cases h
 | cons y r ih =>
  intro acc h;obtain⟨n,k⟩:=y;unfold zm4;rcases sam.mp h with h | h
  .cases h
   rw[if_pos (by rfl)];exact zlD ⟨_,zpq sax⟩
  .by_cases hk:(k==sbz)=true
   .rw[if_pos hk];exact ih h
   .rw[if_neg hk];exact ih h
noncomputable def zdN (X:Cx) (N:List Str) (scope:Scope) (s:Shared) (H:Hp) (C:Addr) (fp:List Addr) (pn:List (Addr×Obj)):Cx :=
 { X with N:=N,sj:=s,Ha:=H,env:=compEnvC scope (zm4 X.env.cells scope.names []) C X.env,outer:=X.stack,stack:=X.stack,ex:=fp,fn:=fun _=>false,pn:=pn,xe:=fun _ _=>False }
noncomputable def zkL (n:Nat) (fr:List Nat) (σ:L2.St):L2.St:=saj n none++fr.map fun(i:Nat)=>(σ[i]?).getD none
noncomputable def zCU (X:Cx) (N:List Str) (n:Nat) (fr:List Nat) (scope:Scope):Prop :=
 N.length=n+fr.length/\((N.drop n).zip fr).all (fun p=>X.N[p.2]?==some p.1&&X.env.scope.names.lookup p.1==some .cell&&scope.names.lookup p.1==some .free&&(relabel scope X.env).names.lookup p.1==some .cell)=true
theorem zCU.at {X:Cx}{N:List Str}{n:Nat}{fr:List Nat}{scope:Scope}(h:zCU X N n fr scope){k:Nat}{x:Str}{v:V}{σ:L2.St}(hx:N[k]?=some x)(hv:(zkL n fr σ)[k]?=some (some v)) :
  ∃ i:Nat,X.N[i]?=some x/\σ[i]?=some (some v)/\X.env.scope.names.lookup x=some .cell/\scope.names.lookup x=some .free/\(relabel scope X.env).names.lookup x=some .cell:=by
 unfold zkL at hv
 by_cases hk:k < n
 .rw[san (by simpa using hk),saw,if_pos hk] at hv
  cases hv
 .rw[sar (by simpa using hk),saV,sai] at hv
  cases hi:fr[k-n]? with
  | none=>rw[hi] at hv;cases hv
  | some i =>
   rw[hi] at hv;have hz:((N.drop n).zip fr)[k-n]?=some (x,i):=by
    rw[List.getElem?_zip_eq_some];exact⟨by rw[List.getElem?_drop,show n+(k-n)=k by omega];exact hx,hi⟩
   have:=saJ.mp h.2 _ (saH hz);simp only[saA,beq_iff_eq] at this;refine⟨i,this.1.1.1,?_,this.1.1.2,this.1.2,this.2⟩;simp only[sbt,sbj] at hv;cases hs:σ[i]? with
   | none=>rw[hs] at hv;cases hv
   | some u=>rw[hs] at hv;exact congrArg some hv
noncomputable def PIf (X:Cx) (ifs:List Expr) (t:TT):Prop :=
 ∀ (pins:List (Addr×Obj)) (s:Shared) (σ:L2.St) (H:Hp) (Q:Bool->Hp->Prop),Inv X pins σ H s->t σ H Q ->
  wpAny (model X.prog X.w) X.A (forIn ifs true fun c r=>if r=true then do let ok ← isTrue c X.env (eval c X.env);pure (sca ok) else pure (sca r)) (TP X pins σ Q) X.xe s
def zDj:TT:=fun _ H Q=>Q true H
theorem zv4 {X:Cx}:PIf X [] zDj:=fun _ _ _ H _ I h=>wpAny_tests_nil ⟨H,I,h⟩
theorem zBM {X:Cx}{c:Expr}{t:TT}(h:PT X c t):PIf X [c] t:=fun pins s σ H Q I q=>wpAny_tests_one (h pins s σ H Q I q)
theorem znz {prog:Program}{w:World}{A:Around}{R:Result->Shared->Prop}{s:Shared}{elt target iter:Expr}{ifs:List Expr}{scope:Scope}{pos:Pos}{it acc:Value}{env:sba}(I:Nat->Shared->Prop)
  (turn:∀ n s,I n s->wpAny (model prog w) A (pyNext it) (fun r sf=>match r with
   | none=>R (.ok .next) sf
   | some v=>wpAny (model prog w) A (letOwnedTupleGo target it v) (fun _ sf'=>wpAny (model prog w) A (assign target env v) (fun _ si =>
     wpAny (model prog w) A (forIn ifs true fun c r=>if r=true then do let ok ← isTrue c env (eval c env);pure (sca ok) else pure (sca r)) (fun ok sk =>
      if ok=true then wpAny (model prog w) A (eval elt env) (fun x so =>
       wpAny (model prog w) A (call (.builtin "list.append") [acc,x]) (fun _ sg=>∃ m,m < n/\I m sg) (fun _ _=>False) so) (fun _ _=>False) sk
      else ∃ m,m < n/\I m sk) (fun _ _=>False) si) (fun _ _=>False) sf') (fun _ _=>False) sf) (fun _ _=>False) s)
  (n:Nat) (h:I n s) :
  codeAny (model prog w) A (.compLoop (.ListComp elt [⟨target,iter,ifs,0⟩] scope pos) 0 it acc env) R s:=by
 refine codeAny_loop rfl I (fun n s hI=>?_) n h;show wpAny _ A ((compTurn (.ListComp elt [⟨target,iter,ifs,0⟩] scope pos) 0 it acc env).onRaise (fun x=>do noteFrame x env;theTreesLotGoes x)) _ _ s;refine wpAny_noted ?_;rw[compTurn_list];refine sad (wpAny_standAt (sad (sa8 (turn n s hI) (fun r sf hV=>?_) fun _ _ h'=>h'.elim)));cases r with
 | none=>exact saB hV
 | some v =>
  refine sad (sa8 hV (fun _ sf' hV'=>?_) fun _ _ h'=>h'.elim);refine sad (sa8 hV' (fun _ si hZ=>sad (sa8 hZ (fun ok sk hU=>?_) fun _ _ h'=>h'.elim)) fun _ _ h'=>h'.elim);cases ok with
  | false=>exact saB ⟨rfl,hU⟩
  | true =>
   exact sad (sad (sa8 hU (fun x so hW=>sad (sa8 hW (fun _ sg h₅=>saB (saB ⟨rfl,h₅⟩)) fun _ _ h'=>h'.elim)) fun _ _ h'=>h'.elim))
noncomputable def zpZ (n:Nat) (fr:List Nat) (g:TG) (tt:TT) (te:TE) (J:It) (σ:L2.St) (H1:Hp) (Q:VK):Prop:=∀ D,H1 D=none->∃ W:Nat->Nat->List V->L2.St->Hp->Prop,(∃ m,W 0 m [] (zkL n fr σ) (upd H1 D (.lst []))) /\
 ∀ i m ys σ' H',W i m ys σ' H'->H' D=some (.lst ys)/\((J.stop i H'/\Q (.ref D) H')∨(J.go i H'/\ys.length < sizeLine/\∀ x H2,J.yld i H' x H2->g x σ' H2 fun σ3 H3=>tt σ3 H3 fun b H4 =>
  if b=true then te σ3 H4 fun y H5=>H5 D=some (.lst ys)/\∃ m',m' < m/\W (i+1) m' (ys++[y]) σ3 (upd H5 D (.lst (ys++[y])))
  else ∃ m',m' < m/\W (i+1) m' ys σ3 H4))
theorem zrz {X:Cx}{tg iter elt:Expr}{ifs:List Expr}{scope:Scope}{pos:Pos}{N:List Str}{n:Nat}{fr:List Nat}{g:TG}{tt:TT}{te:TE}(hc:X.calm=true)(hfr:zCU X N n fr scope)
  (hcell:∀ x∈scope.names,x.2≠.cell)(hfree:∀ x∈scope.names,x.2=.free->X.env.scope.names.lookup x.1=some .cell)(hkind:scope.kind=.function)
  (blk:∀ s H C fp pn,PG (zdN X N scope s H C fp pn) tg g/\PIf (zdN X N scope s H C fp pn) ifs tt/\PE (zdN X N scope s H C fp pn) elt te)
  {pins:List (Addr×Obj)}{σ:L2.St}{s2:Shared}{Q:VK}{itv:Value}{RR:Value->Addr->Result->Shared->Prop}
  (h2:PIE X pins σ tg (fun J H1=>zpZ n fr g tt te J σ H1 Q) itv s2)
  (fin:∀ (Da C:Addr) (s6:Shared) (H5:Hp) (m:Str->Option Value),Inv X pins σ H5 s6->s6.heap.Ns C m->zuo X pins H5 C->Q (.ref Da) H5->RR (.ref Da) C (.ok .next) s6) :
  wpAny (model X.prog X.w) X.A (newList []) (fun acc sk=>wpAny (model X.prog X.w) X.A (newFunctionEnv scope X.env.globals (zm4 X.env.cells scope.names []) [] X.env.qual none .none (some X.env)) (fun cenv so =>
   codeAny (model X.prog X.w) X.A (.compStart (.ListComp elt [⟨tg,iter,ifs,0⟩] scope pos) 0 itv acc { cenv with scope:=relabel scope X.env }) (RR acc cenv.locals) so) X.xe sk) X.xe s2:=by
 obtain⟨it,fp,tn,J,H2,e,I2,T,st2,f2,q⟩:=h2;subst e;have hD:H2 s2.heap.objs.size=none:=I2.fresh;refine wpAny_newObj_type ?_;have I3:Inv X pins σ (upd H2 s2.heap.objs.size (.lst [])) { s2 with heap:=s2.heap.push { cls:=.type "list",data:=.seq ([]:List Value).toArray } }:=I2.lnew (t':=s2.toks) (its:=[]) .nil (sbE _);obtain⟨W,⟨m0,w0⟩,turn⟩:=q s2.heap.objs.size hD;generalize hs3:({ s2 with heap:=s2.heap.push { cls:=.type "list",data:=.seq ([]:List Value).toArray } }:Shared)=s3 at I3 ⊢;have hs3h:s3.heap=s2.heap.push { cls:=.type "list",data:=.seq ([]:List Value).toArray }:=by rw[← hs3]
 have hDs:s2.heap.objs.size < s3.heap.objs.size:=by rw[hs3h,Heap.size_push];exact sbS _
 have fpl:∀ b∈fp,b < s2.heap.objs.size:=fun b hb=>by
  obtain⟨o,ho,_⟩:=T.obj _ _ st2 b hb;exact sap ho
 have kept3:∀ b o,s2.heap.get? b=some o->s3.heap.get? b=some o:=fun b o e=>by rw[hs3h];exact saf _ e
 have st3:tn 0 s3.heap:=T.keep _ _ _ st2 fun b _ o e=>kept3 b o e;generalize hDa:s2.heap.objs.size=Da at *;generalize hH3:upd H2 Da (.lst [])=H3 at *;have fr3:∀ b∈fp,H3 b=none:=fun b hb=>by rw[← hH3,zan (saE (fpl b hb))];exact(f2 b hb).1
 have cls:∀ x c,(zm4 X.env.cells scope.names []).lookup x=some c->X.env.cells.lookup x=some c:=fun x c e=>by
  rcases zpo (fun y hy hf=>I3.ok.has y.1 (.inl (hfree y hy hf))) e with e | e
  .cases e
  .exact e
 refine wpAny_newFunctionEnv hcell (by intro y hy;simp at hy) (fun h4 ns4 sb4=>?_) hkind;have k4:∀ b o,s3.heap.get? b=some o->h4.get? b=some o:=fun b o e=>(sb4.2 b (saE (sap e))).trans (saf _ e);generalize hC:s3.heap.objs.size=C at *;have hCn:H3 C=none:=I3.hok.fresh (by rw[hC];exact saq _);have ltC:∀ b o,s3.heap.get? b=some o->b≠C:=fun b o e=>by rw[← hC];exact saE (sap e)
 have cellC:∀ x c,X.env.cells.lookup x=some c->c≠C:=fun x c e=>by
  obtain⟨v,o,ho,_⟩:=I3.cell x c e;exact ltC c o ho
 have fpC:∀ b∈fp,b≠C:=fun b hb=>by
  have:=fpl b hb;exact saE (scF this hDs)
 show codeAny (model X.prog X.w) X.A (.compStart (.ListComp elt [⟨tg,iter,ifs,0⟩] scope pos) 0 (.ref it) (.ref Da) (compEnvC scope (zm4 X.env.cells scope.names []) C X.env)) _ _;generalize hs4:({ s3 with heap:=h4,toks:=s3.toks+([]:List (Str×Value)).length }:Shared)=s4;have hs4h:s4.heap=h4:=by rw[← hs4]
 have ok:(zdN X N scope s3 H3 C fp (X.pn++pins)).Ok:=by
  refine⟨I3.ok.mod,hkind,I3.ok.glob,I3.ok.blt,Nat.le_of_eq hC,fun x y c e1 e2=>I3.ok.inj x y c (cls x c e1) (cls y c e2),fun x e=>?_,fun x c e=>?_,fun _=>I3.ok.hd hc,I3.ok.frames,.inl rfl,fun b hb=>⟨fpC b hb,fun x c e=>(f2 b hb).2.2.2.2.1 x c (cls x c e)⟩,I3.bs,sat I3.ok.bsz I3.sz,fun b o e hb=>?_,fun b hb z=>?_,I3.stack,I3.stkFree⟩
  .have mm:∀ k:NameKind,(relabel scope X.env).names.lookup x=some k->(k=.cell∨k=.free)->(x,sbz)∈scope.names:=fun k hk hk2=>by
    have hm:=sbs hk;obtain⟨⟨n',k'⟩,hm1,hm2⟩:=sa6.mp hm;dsimp only at hm2;split at hm2
    .rename_i hcnd
     cases hm2;simp only[saA,beq_iff_eq] at hcnd;rw[hcnd.1.1] at hm1;exact hm1
    .cases hm2
     rcases hk2 with rfl | rfl
     .exact absurd rfl (hcell _ hm1)
     .exact hm1
   rcases e with e | e
   .exact zpp (mm _ e (.inl rfl))
   .exact zpp (mm _ e (.inr rfl))
  .cases e
  .rcases(f2 b hb).2.2.2.1 with z | z
   .exact I3.ok.noex b o e z
   .exact absurd (sae (sap e) (sat I3.ok.bsz z)) (sb3 _)
  .rcases sam.mp (I3.stkSub b z) with z | z
   .exact(f2 b hb).2.1 z
   .exact(f2 b hb).2.2.1 z
 have I4:Inv (zdN X N scope s3 H3 C fp (X.pn++pins)) [] (zkL n fr σ) H3 s4:=by
  refine⟨ok,by rw[← hs4];rfl,by rw[← hs4];exact I3.bare,by rw[hs4h];exact Un.kept k4,⟨_,by rw[hs4h];exact ns4,fun i x v h1 h2 h3=>?_⟩,fun x c e=>?_,hCn,fun x c e=>I3.freeC x c (cls x c e),fun p hp=>?_,by rw[hs4h];exact I3.hok.kept k4,?_⟩
  .obtain⟨j,j1,j2,j3,j4,j5⟩:=hfr.at h1 h2
   obtain⟨m,hn,hl⟩:=I3.loc;obtain⟨u,ru,l⟩:=hl j x v j1 j2 (.inr (.inl j3));refine⟨u,ru,.inr ⟨.inl j5,?_⟩⟩;rcases l with⟨z,_⟩ | ⟨_,c,z1,z2⟩
   .rw[show X.env.kindOf x=X.env.scope.names.lookup x from rfl,j3] at z;cases z
   .obtain⟨c',hc'⟩:=zpp (cells:=X.env.cells) (names:=scope.names) (acc:=[]) (sbs j4)
    have:=cls x c' hc';rw[z1] at this;cases this;obtain⟨oc,q1,q2⟩:=z2;exact⟨c,hc',oc,by rw[hs4h];exact k4 _ _ q1,q2⟩
  .obtain⟨v,oc,q1,q2⟩:=I3.cell x c (cls x c e)
   exact⟨v,oc,by rw[hs4h];exact k4 _ _ q1,q2⟩
  .rw[saZ] at hp
   obtain⟨p1,p2,p3,p4,p5⟩:=I3.pin p hp;refine⟨by rw[hs4h];exact k4 _ _ p1,p2,ltC _ _ p1,fun z=>?_,p5⟩;rcases sam.mp (I3.stkSub _ z) with z | z
   .exact p3 z
   .exact p4 z
  .show(zkL n fr σ).length=N.length
   unfold zkL;rw[saR,saV,sag,hfr.1]
 have st4:tn 0 s4.heap:=by rw[hs4h];exact T.keep _ _ _ st3 fun b _ o e=>k4 b o e
 have stat:∀ {H':Hp},(∀ b∈fp,H' b=none)->∀ b∈fp,zuo (zdN X N scope s3 H3 C fp (X.pn++pins)) [] H' b:=fun hn b hb=>by
  refine⟨hn b hb,fpC b hb,fun z=>?_,.inl hb,fun x c e=>(f2 b hb).2.2.2.2.1 x c (cls x c e),fun p hp=>?_⟩
  .rcases sam.mp (I3.stkSub b z) with z | z
   .exact(f2 b hb).2.1 z
   .exact(f2 b hb).2.2.1 z
  .rw[saZ] at hp
   exact(f2 b hb).2.2.2.2.2 p hp
 have loop:codeAny (model X.prog X.w) X.A (.compLoop (.ListComp elt [⟨tg,iter,ifs,0⟩] scope pos) 0 (.ref it) (.ref Da) (compEnvC scope (zm4 X.env.cells scope.names []) C X.env)) (RR (.ref Da) C) s4:=by
  refine znz (fun n s'=>∃ i ys σ' H',Inv (zdN X N scope s3 H3 C fp (X.pn++pins)) [] σ' H' s'/\tn i s'.heap/\(∀ b∈fp,H' b=none)/\W i n ys σ' H') ?_ m0 ⟨0,[],_,H3,I4,st4,fr3,w0⟩;rintro k s5 ⟨i,ys,σ5,H5,I5,st5,fr5,w5⟩;obtain⟨hDl,ways⟩:=turn i k ys σ5 H5 w5;rcases ways with⟨stop,fin'⟩ | ⟨go,hz,step⟩
  .refine thn (T.done (zdN X N scope s3 H3 C fp (X.pn++pins)) rfl rfl rfl hc i [] s5 σ5 H5 (fun _ _=>False) I5 (stat fr5) st5 stop) fun r s6 ⟨hr,I6⟩=>?_
   subst hr;obtain⟨mm,nsm,_⟩:=I6.loc;have free6:H5 C=none:=I6.free;have hok:HOk X.prog X.w H5 s6.heap:=I6.hok;have un:Un (frs X.stack) fp H3 H5 s3.heap s6.heap:=I6.base;have IX:Inv X pins σ H5 s6:=I3.call' (s':=s6) (ch:=fp) I6.os un hok I6.bare (fun b hb=>⟨(f2 b hb).2.2.2.1,(f2 b hb).2.1,(f2 b hb).2.2.2.2.1,(f2 b hb).2.2.2.2.2⟩);have fC:zuo X pins H5 C:=I3.fpOk (b:=C) (H':=H5) (by rw[hC];exact saq _) free6;exact fin Da C s6 H5 mm IX nsm fC fin'
  .refine thn (T.item (zdN X N scope s3 H3 C fp (X.pn++pins)) rfl rfl rfl hc i [] s5 σ5 H5 (fun _ _=>False) I5 (stat fr5) st5 go) fun r s6 ⟨u,hr,h6⟩=>?_
   subst hr;refine thn h6 fun _ s7 ⟨x,H7,I7,r7,y7,st7,fr7⟩=>?_;have I7':=I7.pinned (stat fr7) (T.obj _ _ st7);refine thn ((blk s3 H3 C fp (X.pn++pins)).1 _ s7 σ5 H7 x u _ I7' r7 (step x H7 y7)) fun _ s8 ⟨σ8,H8,I8,q8⟩=>?_;refine thn ((blk s3 H3 C fp (X.pn++pins)).2.1 _ s8 σ8 H8 _ I8 q8) fun b s8b ⟨H8b,I8b,q8b⟩=>?_;have back:∀ {σ':L2.St}{H':Hp}{s':Shared},L2.Inv (zdN X N scope s3 H3 C fp (X.pn++pins)) (([]:List (Addr×Obj))++zqc fp s7.heap) σ' H' s'->tn (i+1) s'.heap/\∀ b∈fp,H' b=none:=fun {σ' H' s'} I'=>by
    refine⟨T.keep _ _ _ st7 fun b hb o e=>(I'.pin (b,o) (saY _ (saY _ (zhu hb e)))).1,fun b hb=>?_⟩;obtain⟨o,e,d⟩:=T.obj _ _ st7 b hb;exact(I'.pin (b,o) (saY _ (saY _ (zhu hb e)))).2.1
   cases b with
   | false =>
    rw[if_neg sa7] at q8b ⊢;obtain⟨m',hm,w9⟩:=q8b;exact⟨m',hm,i+1,ys,σ8,_,I8b.unpinned,(back I8b).1,(back I8b).2,w9⟩
   | true =>
    rw[if_pos rfl] at q8b ⊢;refine thn ((blk s3 H3 C fp (X.pn++pins)).2.2 _ s8b σ8 H8b _ I8b q8b) fun y s9 ⟨yv,H9,I9,r9,hD9,m',hm,w9⟩=>?_;refine thn (zlw (X:=zdN X N scope s3 H3 C fp (X.pn++pins)) _ s9 σ8 H9 (.ref Da) [yv] (.ref Da) [y] (fun v H'=>H'=upd H9 Da (.lst (ys++[yv]))) I9 rfl (.cons r9 .nil) ⟨Da,ys,yv,rfl,rfl,hD9,hz,rfl⟩) fun _ s10 ⟨v10,H10,I10,_,e10⟩=>?_;subst e10;exact⟨m',hm,i+1,ys++[yv],σ8,_,I10.unpinned,(back I10).1,(back I10).2,w9⟩
 exact codeAny_compStart_list loop (T.self _ 0 _ _ _ st4 loop)
structure ItD (K:sab) (ds:List D) (J:It) (Ha:Hp):Prop where
 go:∀ (i:Nat) (H' Ha':Hp),zaJ Ha Ha'->zaJ Ha' H'->i < ds.length->J.go i H'
 yld:∀ (i:Nat) (H' Ha':Hp) (x:V) (H2:Hp) (d:D),zaJ Ha Ha'->zaJ Ha' H'->ds[i]?=some d->J.yld i H' x H2->∃ H₀2,zbK H' Ha' H2 H₀2/\Rep K H₀2 d x
 stop:∀ (i:Nat) (H' Ha':Hp),zaJ Ha Ha'->zaJ Ha' H'->ds.length<=i->J.stop i H'
noncomputable def tDI (K:sab) (E:XK) (src:Ev->Res (List D)):TI:=fun σ H R=>∃ Ha ρ,zaJ Ha H/\Reads K Ha σ ρ/\match src ρ with
 | .ok ds=>∀ J H' Ha',zbK H Ha H' Ha'->ItD K ds J Ha'->R J H'
 | .exn x=>∀ C ox H' Ha',zbK H Ha H' Ha'->ExR K Ha' x C ox->E C ox H'
 | .stuck=>False
structure DI (X:Cx) (E:XK) (tg iter:Expr) (src:Ev->Res (List D)):Prop where
 o:PI X tg iter (tDI X.K E src)
theorem zgX {X:Cx}{tg iter:Expr}{t t':TI}(h:PI X tg iter t)(w:∀ σ H R,t' σ H R->t σ H R):PI X tg iter t':=fun pins s σ H R I q=>h pins s σ H R I (w σ H R q)
noncomputable def zyr (f:Ev->Res D):Ev->Res (List D):=fun ρ=>(f ρ).bind fun d=>match d with
 | .lst ds=>.ok ds
 | _=>.stuck
noncomputable def zFs (f:Ev->Res D):Ev->Res (List D):=fun ρ=>(f ρ).bind fun d=>match d with
 | .tup ds=>.ok ds
 | _=>.stuck
noncomputable def zFt (f:Ev->Res D):Ev->Res (List D):=fun ρ=>(f ρ).bind fun d=>match d with
 | .str z=>.ok (zjP z)
 | _=>.stuck
noncomputable def zim (f:Ev->Res D):Ev->Res (List D):=fun ρ=>(f ρ).bind fun d=>match d with
 | .int j=>if -4611686018427387904<=j/\j < 4611686018427387904 then .ok (intsFrom 0 j.toNat) else .stuck
 | _=>.stuck
section
variable {X:Cx}{E:XK}{tg e a b:Expr}{f g:Ev->Res D}
theorem zmK (h:DE X E e f):DI X E tg e (zyr f):=by
 refine⟨zgX (zv5 h.o) fun σ H R ⟨Ha,ρ,hs,hr,q⟩=>⟨Ha,ρ,hs,hr,?_⟩⟩;unfold zyr at q;cases e1:f ρ with
 | stuck=>rw[e1] at q;exact q
 | exn x=>rw[e1] at q;exact q
 | ok d =>
  rw[e1] at q;intro v H1 H01 g1 r1;cases d with
  | lst ds =>
   obtain⟨p,vs,rfl,hv,hrv⟩:=zaq.mp r1;refine⟨p,rfl,⟨vs,zaJ.sqL g1.sub hv⟩,q _ H1 H01 g1 ⟨fun i H' Ha' s1 s2 hi=>?_,fun i H' Ha' x H2 d s1 s2 hd hy=>?_,fun i H' Ha' s1 s2 hi=>?_⟩⟩
   .exact⟨vs,vs[i]'(by rw[← hrv.length];exact hi),zaJ.sqL (s1.trans s2) hv,by simp⟩
   .obtain⟨rfl,hy⟩:=hy
    obtain⟨u,k1,k2⟩:=hrv.get hd;have:=hy vs (zaJ.sqL (s1.trans s2) hv);rw[k1] at this;cases this;exact⟨Ha',zbK.refl s2,k2.mono s1⟩
   .exact⟨vs,zaJ.sqL (s1.trans s2) hv,by rw[← hrv.length];exact hi⟩
  | _=>exact q.elim
theorem zE1 (h:DE X E e f):DI X E tg e (zFs f):=by
 refine⟨zgX (zDY h.o) fun σ H R ⟨Ha,ρ,hs,hr,q⟩=>⟨Ha,ρ,hs,hr,?_⟩⟩;unfold zFs at q;cases e1:f ρ with
 | stuck=>rw[e1] at q;exact q
 | exn x=>rw[e1] at q;exact q
 | ok d =>
  rw[e1] at q;intro v H1 H01 g1 r1;cases d with
  | tup ds =>
   obtain⟨p,vs,rfl,hv,hrv⟩:=zaw.mp r1;refine⟨p,rfl,⟨vs,zaJ.sqT g1.sub hv⟩,q _ H1 H01 g1 ⟨fun i H' Ha' s1 s2 hi=>?_,fun i H' Ha' x H2 d s1 s2 hd hy=>?_,fun i H' Ha' s1 s2 hi=>?_⟩⟩
   .exact⟨vs,vs[i]'(by rw[← hrv.length];exact hi),zaJ.sqT (s1.trans s2) hv,by simp⟩
   .obtain⟨rfl,hy⟩:=hy
    obtain⟨u,k1,k2⟩:=hrv.get hd;have:=hy vs (zaJ.sqT (s1.trans s2) hv);rw[k1] at this;cases this;exact⟨Ha',zbK.refl s2,k2.mono s1⟩
   .exact⟨vs,zaJ.sqT (s1.trans s2) hv,by rw[← hrv.length];exact hi⟩
  | _=>exact q.elim
theorem zE2 (h:DE X E e f):DI X E tg e (zFt f):=by
 refine⟨zgX (zDZ h.o) fun σ H R ⟨Ha,ρ,hs,hr,q⟩=>⟨Ha,ρ,hs,hr,?_⟩⟩;unfold zFt at q;cases e1:f ρ with
 | stuck=>rw[e1] at q;exact q
 | exn x=>rw[e1] at q;exact q
 | ok d =>
  rw[e1] at q;intro v H1 H01 g1 r1;cases d with
  | str z =>
   refine⟨z,Rep.str_iff.mp r1,q _ H1 H01 g1 ⟨fun i H' Ha' s1 s2 hi=>?_,fun i H' Ha' x H2 d s1 s2 hd hy=>?_,fun i H' Ha' s1 s2 hi=>?_⟩⟩
   .rw[zje] at hi;exact hi
   .obtain⟨rfl,c,hc,rfl⟩:=hy
    have:d=.str ⟨#[c]⟩:=by
     unfold zjP at hd;rw[sai] at hd;have h2:z.cps.toList[i]?=some c:=by simpa using hc
     rw[h2] at hd;cases hd;rfl
    subst this;exact⟨Ha',zbK.refl s2,Rep.str_iff.mpr rfl⟩
   .rw[zje] at hi;exact hi
  | _=>exact q.elim
theorem zqw {K:sab}{lo:Int}{n:Nat}{H:Hp}:ItD K (intsFrom lo n) (Itr lo n) H:=by
 have hl:(intsFrom lo n).length=n:=by unfold intsFrom;simp
 refine⟨fun i H' Ha' _ _ hi=>?_,fun i H' Ha' x H2 d s1 s2 hd hy=>?_,fun i H' Ha' _ _ hi=>?_⟩
 .rw[hl] at hi;exact hi
 .obtain⟨rfl,rfl⟩:=hy
  have:d=.int (lo+i):=by
   unfold intsFrom at hd;rw[sai] at hd;cases e:(sbr n)[i]? with
   | none=>rw[e] at hd;cases hd
   | some k =>
    rw[e] at hd;have hk:k=i:=by
     obtain⟨h1,h2⟩:=sac.mp e;simpa using h2.symm
    subst hk;cases hd;rfl
  subst this;exact⟨Ha',zbK.refl s2,zak.mpr rfl⟩
 .rw[hl] at hi;exact hi
theorem ziP {p pos:Pos}(hg:Gl X "range")(hm:X.mg "range"=none)(h:DE X E a f)(hn:nst a=true:=by exact rfl):DI X E tg (.Call (.Name "range" p) [a] [] pos) (zim f):=by
 refine⟨zgX (zlr hg hm (zbW h.o ze7 (zd5 hn)) (zd5 hn)) fun σ H R ⟨Ha,ρ,hs,hr,q⟩=>⟨Ha,ρ,hs,hr,?_⟩⟩;unfold zim at q;cases e1:f ρ with
 | stuck=>rw[e1] at q;exact q
 | exn x=>rw[e1] at q;exact q
 | ok d =>
  rw[e1] at q;intro v H1 H01 g1 r1;cases d with
  | int j =>
   replace q:match (if -4611686018427387904<=j/\j < 4611686018427387904 then Res.ok (intsFrom 0 j.toNat) else .stuck) with
    | .ok ds=>∀ J H' Ha',zbK H Ha H' Ha'->ItD X.K ds J Ha'->R J H'
    | .exn x=>∀ C ox H' Ha',zbK H Ha H' Ha'->ExR X.K Ha' x C ox->E C ox H'
    | .stuck=>False:=q
   by_cases hj:-4611686018427387904<=j/\j < 4611686018427387904
   .rw[if_pos hj] at q
    rw[zak.mp r1];exact⟨j,rfl,hj.1,hj.2,q _ H1 H01 g1 zqw⟩
   .rw[if_neg hj] at q;exact q.elim
  | _=>exact q.elim
end
noncomputable def zns (src:Ev->Res (List D)) (tg:Ev->D->Res Ev) (s:Ev->Res Fl):Ev->Res Fl:=fun ρ=>(src ρ).bind fun ds=>zdO tg s ds ρ
section
variable {X:Cx}{E:XK}{He H0e:Hp}{st:Stmt}{s:Ev->Res Fl}{pos:Pos}
theorem zhE.step2 {K:sab}{Hb Ha:Hp}{tg:Ev->D->Res Ev}{ds:List D}{D':zjM}{i:Nat}{σ:L2.St}{H:Hp}{d:D}{v:V}{ρ:Ev}(z:zaJ Hb Ha)(h:SRx K He H0e Ha σ H ρ)(q:zca K E He H0e Ha (zdO tg s (ds.drop i) ρ) D')(hd:ds[i]?=some d)(rv:Rep K Ha d v)
  (he:∀ ρ,tg ρ d=.stuck∨∃ ρ',tg ρ d=.ok ρ') :
  tG K He H0e tg v σ H fun σ2 H2=>tS K E He H0e s { D' with nx:=zhE K E He H0e Hb tg s ds D' (i+1),ct:=zhE K E He H0e Hb tg s ds D' (i+1),bk:=D'.nx } σ2 H2:=by
 have hi:i < ds.length:=(sac.mp hd).1;have hdr:ds.drop i=d::ds.drop (i+1):=by
  rw[saL hi];rw[saa hi] at hd;cases hd;rfl
 rw[hdr] at q;refine⟨Ha,ρ,d,h,rv,?_⟩;unfold zdO at q;rcases he ρ with e1 | ⟨ρ1,e1⟩
 .rw[e1] at q;exact q.elim
 .rw[e1] at q ⊢
  intro σ' H' Ha' z' h';refine⟨Ha',ρ1,h',?_⟩;replace q:=zca.grow (r:=(s ρ1).bind fun x=>match x with
   | .nx ρ2=>zdO tg s (ds.drop (i+1)) ρ2
   | .ct ρ2=>zdO tg s (ds.drop (i+1)) ρ2
   | .bk ρ2=>.ok (.nx ρ2)
   | .rt d=>.ok (.rt d)) q z'
  cases e2:s ρ1 with
  | stuck=>rw[e2] at q;exact q
  | exn x=>rw[e2] at q;exact q
  | ok r =>
   rw[e2] at q;cases r with
   | nx ρ2=>exact fun σ3 H3 H03 z3 h3=>⟨H03,ρ2,(z.trans z').trans z3,h3,zca.grow (r:=zdO tg s (ds.drop (i+1)) ρ2) q z3⟩
   | ct ρ2=>exact fun σ3 H3 H03 z3 h3=>⟨H03,ρ2,(z.trans z').trans z3,h3,zca.grow (r:=zdO tg s (ds.drop (i+1)) ρ2) q z3⟩
   | bk ρ2=>exact q
   | rt d=>exact q
theorem zmH {tgt iter:Expr}{body:List Stmt}{tg:Ev->D->Res Ev}{src:Ev->Res (List D)}(hp:PassesOwn (model X.prog X.w) X.A X.env X.xe)(hc:X.calm=true)(hi:DI X E tgt iter src)(hg:DG X E He H0e tgt tg)(ht:zvm tg)(hb:DSs X E He H0e body s)
  (hs:∀ x,foldedSetIterable iter X.env x=pure x:=by intro _;rfl):DS X E He H0e (.For tgt iter body [] pos) (zns src tg s):=by
 refine⟨zbt (zto hp hc hi.o hg.o hb.o hs) fun D' σ H ⟨Ha,ρ,h,q⟩=>⟨Ha,ρ,h.g.sub,h.rd,?_⟩⟩;unfold zns at q;cases e1:src ρ with
 | stuck=>rw[e1] at q;exact q
 | exn x=>rw[e1] at q;exact fun C ox H' Ha' g r=>q C ox H' Ha' (h.g.trans g) r
 | ok ds =>
  rw[e1] at q;intro J H1 H01 g it;have q1:zca X.K E He H0e H01 (zdO tg s ds ρ) D':=zca.grow (r:=zdO tg s ds ρ) q g.z;refine⟨fun i m σ' H'=>m+i=ds.length/\zhE X.K E He H0e H01 tg s ds D' i σ' H',⟨ds.length,rfl,H01,ρ,zaJ.refl _,h.grow g,q1⟩,?_⟩;rintro i m σ' H' ⟨hm,Ha',ρ',z,h',hq⟩
  by_cases hlt:i < ds.length
  .refine .inr ⟨it.go i H' Ha' z h'.g.sub hlt,fun σ2 H2=>zhE X.K E He H0e H01 tg s ds D' (i+1) σ2 H2,fun σ2 H2 hl=>⟨m-1,by omega,by omega,hl⟩,fun x H2 hy=>?_⟩
   obtain⟨H₀2,g2,rp⟩:=it.yld i H' Ha' x H2 ds[i] z h'.g.sub (saa hlt) hy;exact zhE.step2 (z.trans g2.z) (h'.grow g2) (zca.grow (r:=zdO tg s (ds.drop i) ρ') hq g2.z) (saa hlt) rp fun ρ=>ht ρ _
  .have e:i=ds.length:=by omega
   refine .inl ⟨it.stop i H' Ha' z h'.g.sub (by omega),?_⟩;subst e;exact zhE.done ⟨Ha',ρ',z,h',hq⟩
end
def zk1 (f:Ev->Res D):Prop:=∀ ρ d,f ρ=.ok d->∃ ds,d=.lst ds
theorem ztb {K:sab}{E:XK}{f:Ev->Res D}(hf:zk1 f){σ:L2.St}{H:Hp}{Q:VK}(h:tD K E f σ H Q):tF K E f σ H Q:=by
 obtain⟨Ha,ρ,hs,hr,q⟩:=h;refine⟨Ha,ρ,hs,hr,?_⟩;cases e1:f ρ with
 | stuck=>rw[e1] at q;exact q
 | exn x=>rw[e1] at q;exact q
 | ok d =>
  obtain⟨ds,rfl⟩:=hf ρ d e1;rw[e1] at q;intro p vs H' Ha' g hp h0 hv rp;have n0:Ha p=none:=hs.free hp;refine q (.ref p) H' (upd Ha' p (.lst vs)) ⟨g.s,fun b o e=>?_,fun b o e=>?_,fun b k1 k2=>?_⟩ (zaq.mpr ⟨p,vs,rfl,SqL.of zao,rp.mono fun b o e=>?_⟩)
  .rw[zan (by intro z;subst z;rw[n0] at e;cases e)];exact g.z _ _ e
  .by_cases hb:b=p
   .subst hb;rw[zao] at e;cases e;exact hv
   .rw[zan hb] at e;exact g.sub _ _ e
  .by_cases hb:b=p
   .subst hb;exact hp
   .rw[zan hb] at k1;exact g.nw b k1 k2
  .rw[zan (by intro z;subst z;rw[h0] at e;cases e)];exact e
theorem zzX {X:Cx}{E:XK}{e:Expr}{f:Ev->Res D}(hf:zk1 f)(h:DF X E e f):DE X E e f:=⟨zaR h.o fun σ H Q q=>ztb hf q⟩
noncomputable def zet (n:Nat) (fr:List Nat) (ρ:Ev):Ev:=saj n .no++fr.map fun(i:Nat)=>match ρ[i]? with
 | some (.sh d)=>.sh d
 | _=>.no
noncomputable def zb7 (b:Ev) (tg:Ev->D->Res Ev) (tt fe:Ev->Res D):List D->Res (List D)
 | []=>.ok []
 | d::r=>(tg b d).bind fun ρ1=>(tt ρ1).bind fun t=>match t with
  | .bl true=>(fe ρ1).bind fun x=>(zb7 b tg tt fe r).bind fun xs=>.ok (x::xs)
  | .bl false=>zb7 b tg tt fe r
  | _=>.stuck
noncomputable def zfM (n:Nat) (fr:List Nat) (src:Ev->Res (List D)) (tg:Ev->D->Res Ev) (tt fe:Ev->Res D):Ev->Res D:=fun ρ=>(src ρ).bind fun ds =>
 if ds.length<=line then match zb7 (zet n fr ρ) tg tt fe ds with
  | .ok es=>.ok (.lst es)
  | _=>.stuck
 else .stuck
theorem zmZ {n:Nat}{fr:List Nat}{src:Ev->Res (List D)}{tg:Ev->D->Res Ev}{tt fe:Ev->Res D}:zk1 (zfM n fr src tg tt fe):=fun ρ d h=>by
 unfold zfM at h;cases e1:src ρ with
 | stuck=>rw[e1] at h;cases h
 | exn x=>rw[e1] at h;cases h
 | ok ds =>
  rw[e1] at h;replace h:(if ds.length<=line then match zb7 (zet n fr ρ) tg tt fe ds with
   | .ok es=>Res.ok (D.lst es)
   | _=>.stuck else .stuck)=.ok d:=h
  split at h
  .split at h
   .cases h;exact⟨_,rfl⟩
   .cases h
  .cases h
theorem zhz {b:Ev}{tg:Ev->D->Res Ev}{tt fe:Ev->Res D}{d:D}{r es:List D}(h:zb7 b tg tt fe (d::r)=.ok es) :
  ∃ ρ1 t,tg b d=.ok ρ1/\tt ρ1=.ok (.bl t)/\((t=true/\∃ x xs,fe ρ1=.ok x/\zb7 b tg tt fe r=.ok xs/\es=x::xs)∨(t=false/\zb7 b tg tt fe r=.ok es)):=by
 unfold zb7 at h;cases e1:tg b d with
 | stuck=>rw[e1] at h;cases h
 | exn z=>rw[e1] at h;cases h
 | ok ρ1 =>
  rw[e1] at h;replace h:((tt ρ1).bind fun t=>match t with
   | .bl true=>(fe ρ1).bind fun x=>(zb7 b tg tt fe r).bind fun xs=>Res.ok (x::xs)
   | .bl false=>zb7 b tg tt fe r
   | _=>.stuck)=.ok es:=h
  cases e2:tt ρ1 with
  | stuck=>rw[e2] at h;cases h
  | exn z=>rw[e2] at h;cases h
  | ok t =>
   rw[e2] at h;cases t with
   | bl t =>
    cases t with
    | true =>
     replace h:((fe ρ1).bind fun x=>(zb7 b tg tt fe r).bind fun xs=>Res.ok (x::xs))=.ok es:=h;cases e3:fe ρ1 with
     | stuck=>rw[e3] at h;cases h
     | exn z=>rw[e3] at h;cases h
     | ok x =>
      rw[e3] at h;replace h:((zb7 b tg tt fe r).bind fun xs=>Res.ok (x::xs))=.ok es:=h;cases e4:zb7 b tg tt fe r with
      | stuck=>rw[e4] at h;cases h
      | exn z=>rw[e4] at h;cases h
      | ok xs=>rw[e4] at h;cases h;exact⟨ρ1,true,rfl,e2,.inl ⟨rfl,x,xs,e3,rfl,rfl⟩⟩
    | false=>exact⟨ρ1,false,rfl,e2,.inr ⟨rfl,h⟩⟩
   | _=>cases h
theorem zhf {b:Ev}{tg:Ev->D->Res Ev}{tt fe:Ev->Res D}{d x:D}{r:List D}{ρ1:Ev}(h1:tg b d=.ok ρ1)(h2:tt ρ1=.ok (.bl true))(h3:fe ρ1=.ok x):zb7 b tg tt fe (d::r)=(zb7 b tg tt fe r).bind fun xs=>.ok (x::xs):=by
 rw[zb7,h1];simp only[Res.bind,h2,h3]
theorem zpm {b:Ev}{tg:Ev->D->Res Ev}{tt fe:Ev->Res D}{d:D}{r:List D}{ρ1:Ev}(h1:tg b d=.ok ρ1)(h2:tt ρ1=.ok (.bl false)):zb7 b tg tt fe (d::r)=zb7 b tg tt fe r:=by
 rw[zb7,h1];simp only[Res.bind,h2]
theorem zm2 {b:Ev}{tg:Ev->D->Res Ev}{tt fe:Ev->Res D}:∀ {r q es:List D},zb7 b tg tt fe (r++q)=.ok es->∃ e1 e2,zb7 b tg tt fe r=.ok e1/\zb7 b tg tt fe q=.ok e2/\es=e1++e2
 | [],q,es,h=>⟨[],es,rfl,h,rfl⟩
 | d::r,q,es,h=>by
  obtain⟨ρ1,t,h1,h2,h3⟩:=zhz h;rcases h3 with⟨rfl,x,xs,h3,h4,rfl⟩ | ⟨rfl,h4⟩
  .obtain⟨e1,e2,k1,k2,rfl⟩:=zm2 h4
   refine⟨x::e1,e2,?_,k2,rfl⟩;rw[zhf h1 h2 h3,k1];rfl
  .obtain⟨e1,e2,k1,k2,rfl⟩:=zm2 h4
   refine⟨e1,e2,?_,k2,rfl⟩;rw[zpm h1 h2];exact k1
theorem zhy {b:Ev}{tg:Ev->D->Res Ev}{tt fe:Ev->Res D}:∀ {r q e1 e2:List D},zb7 b tg tt fe r=.ok e1->zb7 b tg tt fe q=.ok e2->zb7 b tg tt fe (r++q)=.ok (e1++e2)
 | [],q,e1,e2,h,h'=>by cases h;exact h'
 | d::r,q,e1,e2,h,h'=>by
  obtain⟨ρ1,t,h1,h2,h3⟩:=zhz h;show zb7 b tg tt fe (d::(r++q))=_;rcases h3 with⟨rfl,x,xs,h3,h4,rfl⟩ | ⟨rfl,h4⟩
  .rw[zhf h1 h2 h3,zhy h4 h'];rfl
  .rw[zpm h1 h2];exact zhy h4 h'
theorem zpn {b:Ev}{tg:Ev->D->Res Ev}{tt fe:Ev->Res D}:∀ {r es:List D},zb7 b tg tt fe r=.ok es->es.length<=r.length
 | [],es,h=>by cases h;exact saq _
 | d::r,es,h=>by
  obtain⟨ρ1,t,h1,h2,h3⟩:=zhz h;rcases h3 with⟨rfl,x,xs,h3,h4,rfl⟩ | ⟨rfl,h4⟩
  .exact Nat.succ_le_succ (zpn h4)
  .exact Nat.le_succ_of_le (zpn h4)
noncomputable def zA4 (n:Nat) (tg:Ev->D->Res Ev):Prop:=∀ ρ d ρ',tg ρ d=.ok ρ'->ρ'.length=ρ.length/\∀ (k:Nat),n<=k->ρ'[k]?=ρ[k]?
theorem zhr {i n:Nat}(h:i < n):zA4 n (zd0 i):=fun ρ d ρ' e=>by
 cases e;exact⟨by simp,fun k hk=>by rw[sah (by omega)]⟩
theorem zjQ {n:Nat}:∀ {is:List Nat}{ds:List D}{ρ:Ev},(is.all fun i=>decide (i < n))=true->(zda ρ is ds).length=ρ.length/\∀ (k:Nat),n<=k->(zda ρ is ds)[k]?=ρ[k]?
 | [],ds,ρ,_=>by unfold zda;exact⟨rfl,fun _ _=>rfl⟩
 | i::is,[],ρ,_=>by unfold zda;exact⟨rfl,fun _ _=>rfl⟩
 | i::is,d::ds,ρ,h=>by
  rw[sck,saA,decide_eq_true_eq] at h;unfold zda;obtain⟨h1,h2⟩:=zjQ (ds:=ds) (ρ:=ρ.set i (.sh d)) h.2;exact⟨by rw[h1];simp,fun k hk=>by rw[h2 k hk,sah (by omega)]⟩
theorem zta {n:Nat}{is:List Nat}(h:(is.all fun i=>decide (i < n))=true):zA4 n (zkJ is):=fun ρ d ρ' e=>by
 unfold zkJ at e;cases hp:zfj is.length d with
 | none=>rw[hp] at e;cases e
 | some ds=>rw[hp] at e;cases e;exact zjQ h
theorem zvf {K:sab}{Ha:Hp}{σ:L2.St}{ρ:Ev}{n:Nat}{fr:List Nat}(h:Reads K Ha σ ρ):Reads K Ha (zkL n fr σ) (zet n fr ρ):=fun i d e=>by
 unfold zet at e;unfold zkL
 by_cases hi:i < n
 .rw[san (by simpa using hi),saw,if_pos hi] at e
  cases e
 .rw[sar (by simpa using hi),saV,sai] at e ⊢
  cases hf:fr[i-n]? with
  | none=>rw[hf] at e;cases e
  | some j =>
   rw[hf] at e;simp only[sbt,sbj] at e ⊢;cases hj:ρ[j]? with
   | none=>rw[hj] at e;cases e
   | some s =>
    rw[hj] at e;cases s with
    | sh d' =>
     cases e;obtain⟨v,h1,h2⟩:=h j d hj;exact⟨v,by rw[h1];rfl,h2⟩
    | _=>cases e
theorem zCL {n:Nat}{fr:List Nat}{ρ:Ev}{k:Nat}(h:k < n):(zet n fr ρ)[k]?=some .no:=by
 unfold zet;rw[san (by simpa using h),saw,if_pos h]
theorem zz7 {n:Nat}{fr:List Nat}{ρ:Ev}(i j:Nat)(es:List D):(zet n fr ρ)[i]?≠some (.ox j es):=fun e=>by
 unfold zet at e
 by_cases hj:i < n
 .rw[san (by simpa using hj),saw,if_pos hj] at e;cases e
 .rw[sar (by simpa using hj),sai] at e
  cases hf:fr[i-(saj n Sl.no).length]? with
  | none=>rw[hf] at e;cases e
  | some z =>
   rw[hf] at e;simp only[sbt,sbj] at e;split at e<;>cases e
theorem zyg {n:Nat}{fr:List Nat}{ρ:Ev}{σ:L2.St}(i:Nat)(a:Addr)(e:(zet n fr ρ)[i]?=some (.pt a)):σ[i]?=some (some (.ref a)):=by
 unfold zet at e
 by_cases hj:i < n
 .rw[san (by simpa using hj),saw,if_pos hj] at e;cases e
 .rw[sar (by simpa using hj),sai] at e
  cases hf:fr[i-(saj n Sl.no).length]? with
  | none=>rw[hf] at e;cases e
  | some z =>
   rw[hf] at e;simp only[sbt,sbj] at e;split at e<;>cases e
theorem zuj {n:Nat}{fr:List Nat}{ρ:Ev}:(zet n fr ρ).length=n+fr.length:=by unfold zet;simp
theorem zvc {K:sab}{E:XK}{n:Nat}{fr:List Nat}{tg:Ev->D->Res Ev}{tt fe:Ev->Res D}{σ:L2.St}{ρ:Ev}{H Ha H1 H01:Hp}{ds es:List D}{J:It}{Q:VK}(hsame:zaJ Ha H)(g1:zbK H Ha H1 H01)(it:ItD K ds J H01)(hl:ds.length<=line)
  (e2:zb7 (zet n fr ρ) tg tt fe ds=.ok es)(hr:Reads K H01 σ ρ)(hok:zA4 n tg)
  (q:∀ p vs H' Ha',zbK H Ha H' Ha'->H p=none->Ha' p=none->H' p=some (.lst vs)->Reps K Ha' es vs->Q (.ref p) H') :
  zpZ n fr (zGr K tg) (tDT K E tt) (tD K E fe) J σ H1 Q:=by
 intro Da hDa;have h0D:H01 Da=none:=g1.sub.free hDa;refine⟨fun i m ys σ' H'=>m=ds.length-i/\i<=ds.length/\σ'.length=n+fr.length/\∃ Ha',zbK H1 H01 H' Ha'/\Ha' Da=none/\H' Da=some (.lst ys)/\Reads K Ha' σ' (zet n fr ρ)/\∃ es1,zb7 (zet n fr ρ) tg tt fe (ds.take i)=.ok es1/\Reps K Ha' es1 ys,
  ⟨ds.length,by simp,sbE _,by unfold zkL;simp,H01,?_,h0D,zao,zvf hr,[],rfl,Reps.nil⟩,?_⟩
 .refine⟨fun b o e=>by rw[zan (zaP e hDa)];exact e,zaJ.refl _,fun b o e=>?_,fun b k1 k2=>absurd k2 k1⟩
  rw[zan (by intro z;subst z;rw[h0D] at e;cases e)];exact g1.sub _ _ e
 .rintro i m ys σ' H' ⟨rfl,hile,hsl,Ha',gg,hD0,hDl,hrd,es1,hes1,hys⟩
  refine⟨hDl,?_⟩
  by_cases hlt:i < ds.length
  .refine .inr ⟨it.go i H' Ha' gg.z gg.sub hlt,?_,?_⟩
   .rw[← hys.length]
    have:=zpn hes1;rw[saQ] at this;have h2:line < sizeLine:=by decide
    omega
   .intro x H2 hy
    obtain⟨H₀2,g2,rp⟩:=it.yld i H' Ha' x H2 ds[i] gg.z gg.sub (saa hlt) hy;have hsplit:ds=ds.take i++(ds[i]::ds.drop (i+1)):=by rw[← saL hlt,List.take_append_drop]
    rw[hsplit] at e2;obtain⟨a1,a2,k1,k2,k3⟩:=zm2 e2;rw[hes1] at k1;cases k1;obtain⟨ρ1,t,t1,t2,t3⟩:=zhz k2;have hn2:H₀2 Da=none:=by
     cases qq:H₀2 Da with
     | none=>rfl
     | some o=>have:=g2.nw Da (by rw[qq];simp) hD0;rw[hDl] at this;cases this
    have hD2:H2 Da=some (.lst ys):=g2.s _ _ hDl;refine⟨H2,H₀2,H₀2,zet n fr ρ,ds[i],⟨zbK.refl g2.sub,hrd.mono g2.z,fun j d' e=>?_,fun j k d1 d2 _ e=>?_,by rw[zuj,hsl],OX.none zz7 zyg⟩,rp,?_⟩
    .unfold zet at e
     by_cases hj:j < n
     .rw[san (by simpa using hj),saw,if_pos hj] at e;cases e
     .rw[sar (by simpa using hj),sai] at e
      cases hf:fr[j-(saj n Sl.no).length]? with
      | none=>rw[hf] at e;cases e
      | some z =>
       rw[hf] at e;simp only[sbt,sbj] at e;split at e<;>cases e
    .unfold zet at e
     by_cases hj:j < n
     .rw[san (by simpa using hj),saw,if_pos hj] at e;cases e
     .rw[sar (by simpa using hj),sai] at e
      cases hf:fr[j-(saj n Sl.no).length]? with
      | none=>rw[hf] at e;cases e
      | some z =>
       rw[hf] at e;simp only[sbt,sbj] at e;split at e<;>cases e
    .rw[t1]
     intro σ3 H3 H03 z3 s3;have hrl:=hok _ _ _ t1;have hσ3:σ3.length=n+fr.length:=by rw[← s3.ln,hrl.1,zuj]
     have back:∀ {Hx:Hp},zaJ H03 Hx->Reads K Hx σ3 (zet n fr ρ):=fun {Hx} sx k d e=>by
      by_cases hk:k < n
      .rw[zCL hk] at e;cases e
      .rw[← hrl.2 k (by omega)] at e
       obtain⟨v,h1,h2⟩:=s3.rd k d e;exact⟨v,h1,h2.mono sx⟩
     have n3:H03 Da=none:=by
      cases qq:H03 Da with
      | none=>rfl
      | some o=>have:=s3.g.nw Da (by rw[qq];simp) hn2;rw[hD2] at this;cases this
     have hD3:H3 Da=some (.lst ys):=s3.g.s _ _ hD2;refine⟨H03,ρ1,s3.g.sub,s3.rd,?_⟩;rw[t2];intro H4 H04 g4;have hD4:H4 Da=some (.lst ys):=g4.s _ _ hD3;have n4:H04 Da=none:=by
      cases qq:H04 Da with
      | none=>rfl
      | some o=>have:=g4.nw Da (by rw[qq];simp) n3;rw[hD3] at this;cases this
     have htake:ds.take (i+1)=ds.take i++[ds[i]]:=by rw[List.take_add_one,saa hlt];rfl
     have g04:=(gg.trans g2).trans (s3.g.trans g4);rcases t3 with⟨rfl,y,xs,t3,t4,_⟩ | ⟨rfl,t4⟩
     .rw[if_pos rfl]
      refine⟨H04,ρ1,g4.sub,s3.rd.mono g4.z,?_⟩;rw[t3];intro yv H5 H05 g5 ry;have hD5:H5 Da=some (.lst ys):=g5.s _ _ hD4;have n5:H05 Da=none:=by
       cases qq:H05 Da with
       | none=>rfl
       | some o=>have:=g5.nw Da (by rw[qq];simp) n4;rw[hD4] at this;cases this
      have gall:=g04.trans g5;refine⟨hD5,ds.length-(i+1),by omega,rfl,hlt,hσ3,H05,⟨fun b o e=>?_,gall.z,fun b o e=>?_,gall.nw⟩,n5,zao,back (g4.z.trans g5.z),es1++[y],?_,?_⟩
      .rw[zan (zaP e hDa)];exact gall.s _ _ e
      .rw[zan (by intro z;subst z;rw[n5] at e;cases e)];exact gall.sub _ _ e
      .rw[htake]
       refine zhy hes1 ?_;rw[zhf t1 t2 t3];rfl
      .exact(hys.mono ((g2.z.trans s3.g.z).trans (g4.z.trans g5.z))).app (Reps.cons ry Reps.nil)
     .rw[if_neg sa7]
      refine⟨ds.length-(i+1),by omega,rfl,hlt,hσ3,H04,g04,n4,hD4,back g4.z,es1,?_,hys.mono ((g2.z.trans s3.g.z).trans g4.z)⟩;rw[htake];rw[show es1=es1++[] by simp];refine zhy hes1 ?_;rw[zpm t1 t2];rfl
  .have hi2:i=ds.length:=by omega
   refine .inl ⟨it.stop i H' Ha' gg.z gg.sub (by omega),?_⟩;rw[hi2,List.take_length] at hes1;rw[e2] at hes1;cases hes1;exact q Da ys H' Ha' (g1.trans gg) (g1.s.free hDa) hD0 hDl hys
structure DIf (X:Cx) (E:XK) (ifs:List Expr) (f:Ev->Res D):Prop where
 o:PIf X ifs (tDT X.K E f)
def mYes:Ev->Res D:=fun _=>.ok (.bl true)
theorem zjH {X:Cx}{E:XK}:DIf X E [] mYes:=⟨fun pins s σ H Q I ⟨Ha,ρ,hs,hr,q⟩=>zv4 pins s σ H Q I (q H Ha (zbK.refl hs))⟩
theorem zCw {X:Cx}{E:XK}{c:Expr}{f:Ev->Res D}(h:DT X E c f):DIf X E [c] f:=⟨zBM h.o⟩
structure DCo (X:Cx) (E:XK) (e:Expr) (f:Ev->Res D):Prop where
 ev:PE X e (tF X.K E f)
 st:∀ {i:Nat}{x:Str}{pos' spos:Pos},X.N.Nodup->X.N[i]?=some x->X.env.scope.names.lookup x=some .local -> swapsWith e (some (.Name x pos')) spos.line X.env=pure true->PS X (.Assign [.Name x pos'] e spos) (zFr (tF X.K E f) (zzC i))
theorem dco {X:Cx}{E:XK}{tgt iter elt:Expr}{ifs:List Expr}{scope:Scope}{pos:Pos}(N:List Str)(n:Nat)(fr:List Nat){src:Ev->Res (List D)}{tg:Ev->D->Res Ev}{tt fe:Ev->Res D}(hc:X.calm=true)(hi:DI X E tgt iter src)(hok:zA4 n tg)
  (blk:∀ s H C fp pn,(∀ He H0e,DG (zdN X N scope s H C fp pn) E He H0e tgt tg)/\DIf (zdN X N scope s H C fp pn) E ifs tt/\DE (zdN X N scope s H C fp pn) E elt fe)
  (hfr:zCU X N n fr scope)(hcell:∀ x∈scope.names,x.2≠.cell)(hfree:∀ x∈scope.names,x.2=.free->X.env.scope.names.lookup x.1=some .cell)(hkind:scope.kind=.function)(hnames:∀ x∈scope.names,x.2=.local -> scope.names.lookup x.1=some .local)
  (hs:∀ x,foldedSetIterable iter X.env x=pure x:=by intro _;rfl):DCo X E (.ListComp elt [⟨tgt,iter,ifs,0⟩] scope pos) (zfM n fr src tg tt fe):=by
 have blk':∀ s H C fp pn,PG (zdN X N scope s H C fp pn) tgt (zGr X.K tg)/\PIf (zdN X N scope s H C fp pn) ifs (tDT X.K E tt)/\PE (zdN X N scope s H C fp pn) elt (tD X.K E fe):=fun s H C fp pn =>
  ⟨fun pins s' σ' H' v u Q' I r ⟨He,H0e,q'⟩=>((blk s H C fp pn).1 He H0e).o pins s' σ' H' v u Q' I r q',(blk s H C fp pn).2.1.o,(blk s H C fp pn).2.2.o⟩
 have first:∀ {pins:List (Addr×Obj)}{s:Shared}{σ:L2.St}{H:Hp}{Q:VK}{RR:Value->Addr->Result->Shared->Prop},L2.Inv X pins σ H s->tF X.K E (zfM n fr src tg tt fe) σ H Q ->
   (∀ (Da C:Addr) (s6:Shared) (H5:Hp) (m:Str->Option Value),L2.Inv X pins σ H5 s6->s6.heap.Ns C m->zuo X pins H5 C->Q (.ref Da) H5->RR (.ref Da) C (.ok .next) s6) ->
   wpAny (model X.prog X.w) X.A (eval iter X.env) (fun x sf=>wpAny (model X.prog X.w) X.A (pyIter x) (fun it si=>wpAny (model X.prog X.w) X.A (newList []) (fun acc sk =>
    wpAny (model X.prog X.w) X.A (newFunctionEnv scope X.env.globals (zm4 X.env.cells scope.names []) [] X.env.qual none .none (some X.env)) (fun cenv so =>
     codeAny (model X.prog X.w) X.A (.compStart (.ListComp elt [⟨tgt,iter,ifs,0⟩] scope pos) 0 it acc { cenv with scope:=relabel scope X.env }) (RR acc cenv.locals) so) X.xe sk) X.xe si) X.xe sf) X.xe s:=by
  intro pins s σ H Q RR I ⟨Ha,ρ,hsame,hr,q⟩ fin;refine thn (hi.o pins s σ H (fun J H1=>zpZ n fr (zGr X.K tg) (tDT X.K E tt) (tD X.K E fe) J σ H1 Q) I ⟨Ha,ρ,hsame,hr,?_⟩) fun v s1 h1=>thn h1 fun itv s2 h2=>zrz (N:=N) hc hfr hcell hfree hkind blk' h2 fin;unfold zfM at q;cases e1:src ρ with
  | stuck=>rw[e1] at q;exact q
  | exn x=>rw[e1] at q;exact q
  | ok ds =>
   rw[e1] at q;intro J H1 H01 g1 it;replace q:match (if ds.length<=line then match zb7 (zet n fr ρ) tg tt fe ds with
     | .ok es=>Res.ok (D.lst es)
     | _=>.stuck else .stuck) with
    | .ok (.lst ds)=>∀ p vs H' Ha',zbK H Ha H' Ha'->H p=none->Ha' p=none->H' p=some (.lst vs)->Reps X.K Ha' ds vs->Q (.ref p) H'
    | .ok _=>False
    | .exn x=>∀ C ox H' Ha',zbK H Ha H' Ha'->ExR X.K Ha' x C ox->E C ox H'
    | .stuck=>False:=q
   by_cases hl:ds.length<=line
   .rw[if_pos hl] at q
    cases e2:zb7 (zet n fr ρ) tg tt fe ds with
    | stuck=>rw[e2] at q;exact q.elim
    | exn x=>rw[e2] at q;exact q.elim
    | ok es =>
     rw[e2] at q;exact zvc hsame g1 it hl e2 (hr.mono g1.z) hok q
   .rw[if_neg hl] at q;exact q.elim
 have hcl:∀ {pins:List (Addr×Obj)}{s:Shared}{σ:L2.St}{H:Hp},L2.Inv X pins σ H s->closureFor scope X.env=pure (zm4 X.env.cells scope.names []):=fun {pins s σ H} I=>ziV fun y hy hf=>I.ok.has y.1 (.inl (hfree y hy hf));refine⟨fun pins s σ H Q I h=>?_,fun {i x pos' spos} hN hi' hx hsw pins s σ H D' I h=>?_⟩
 .rw[eval_ListComp]
  refine wpAny_comprehension_free (use:=none) rfl hs (hcl I) hkind hnames (first (RR:=fun acc C=>compPost (model X.prog X.w) X.A X.xe none (EP X pins σ Q) acc C) I h fun Da C s6 H5 m I6 ns fC q=>?_);refine⟨m,ns,fun h' sb=>⟨.ref Da,H5,?_,rfl,q⟩⟩;exact I6.turned (t':=s6.toks) (it:=C) (fun b o hb e=>(sb.2 b hb).trans e) fC.1 fC.2.1 fC.2.2.2.1 fC.2.2.2.2.1 fC.2.2.2.2.2
 .rw[exec_Assign_Name_used _ _ _ _ hsw]
  refine sad (wpAny_standAt (sad ?_));show wpAny _ X.A (do let _ ← comprehension (.ListComp elt [⟨tgt,iter,ifs,0⟩] scope pos) scope X.env _ (newList []) false (eval iter X.env) (some (assign (.Name x pos') X.env))) _ _ s;refine sad (sa8 (wpAny_comprehension_free (use:=some (assign (.Name x pos') X.env)) (Q:=fun _ s'=>SP X pins D' .next s') rfl hs (hcl I) hkind hnames
   (first (RR:=fun acc C=>compPost (model X.prog X.w) X.A X.xe (some (assign (.Name x pos') X.env)) (fun _ s'=>SP X pins D' .next s') acc C) I h fun Da C s6 H5 m I6 ns fC q=>?_)) (fun _ s' hq=>saB (saB hq)) fun _ _ e=>e)
  show wpAny _ X.A (assign (.Name x pos') X.env (.ref Da)) _ _ _;refine wpAny_assign_Name (zk9 (v:=.ref Da) I6 hN hi' (.inl hx) rfl (fun s' I' ⟨a,sb,ha⟩=>?_) (.inr hx));have hCa:C≠a:=by
   rcases ha with rfl | ha
   .exact fC.2.1
   .exact fun z=>fC.2.2.2.2.1 x a ha z.symm
  refine⟨m,ns.sameBut sb hCa,fun h' sb'=>⟨_,H5,?_,q⟩⟩;exact I'.turned (t':=s'.toks) (it:=C) (fun b o hb e=>(sb'.2 b hb).trans e) fC.1 fC.2.1 fC.2.2.2.1 fC.2.2.2.2.1 fC.2.2.2.2.2
theorem zGA {X:Cx}{E:XK}{e:Expr}{f:Ev->Res D}(h:DCo X E e f):DF X E e f:=⟨h.ev⟩
theorem zxX {X:Cx}{E:XK}{e:Expr}{n:Nat}{fr:List Nat}{src:Ev->Res (List D)}{tg:Ev->D->Res Ev}{tt fe:Ev->Res D}(h:DCo X E e (zfM n fr src tg tt fe)):DE X E e (zfM n fr src tg tt fe):=zzX zmZ (zGA h)
section
variable {X:Cx}{E:XK}{He H0e:Hp}{e:Expr}{f:Ev->Res D}{s:Ev->Res Fl}{pos:Pos}{st:Stmt}
def unown (i:Nat)(ρ:Ev):Ev:=match ρ[i]? with
 | some (.ow d)=>ρ.set i (.sh d)
 | _=>ρ
def zDC (i:Nat)(s:Ev->Res Fl):Ev->Res Fl:=fun ρ=>s (unown i ρ)
theorem SRx.unown {K:sab}{Ha H:Hp}{σ:L2.St}{ρ:Ev}(h:SRx K He H0e Ha σ H ρ)(i:Nat):∃ Ha',zaJ Ha Ha'/\SRx K He H0e Ha' σ H (DL.unown i ρ):=by
 unfold DL.unown;cases e:ρ[i]? with
 | none=>exact⟨Ha,zaJ.refl _,h⟩
 | some s =>
  cases s with
  | no=>exact⟨Ha,zaJ.refl _,h⟩
  | sh d=>exact⟨Ha,zaJ.refl _,h⟩
  | ox j ds=>exact⟨Ha,zaJ.refl _,h⟩
  | pt a=>exact⟨Ha,zaJ.refl _,h⟩
  | ow d =>
   obtain⟨a,k1,k2,k3,k4⟩:=h.ow i d e;cases d with
   | lst ds =>
    obtain⟨vs,h5,h6⟩:=k4;have z:zaJ Ha (upd Ha a (.lst vs)):=fun b o q=>by rw[zan (by intro z;subst z;rw[k3] at q;cases q)];exact q
    have h':SRx K He H0e (upd Ha a (.lst vs)) σ H (ρ.set i .no):=by
     have nset:∀ (j:Nat) (s:Sl),(ρ.set i .no)[j]?=some s->s≠.no->j≠i/\ρ[j]?=some s:=fun j s q hs=>by
      by_cases hj:i=j
      .subst hj
       rw[sb9] at q;rw[e] at q;cases q;exact absurd rfl hs
      .rw[sah hj] at q;exact⟨fun z=>hj z.symm,q⟩
     refine⟨⟨h.g.s,h.g.z.trans z,fun b o q=>?_,fun b q1 q2=>?_⟩,fun j d' q=>?_,fun j d' q=>?_,fun j k d1 d2 hn q1 q2=>?_,by simp [h.ln],h.ex.upd (fun j s q=>?_) z (fun b us _ eb=>eb) fun q us _ q0 hq hd=>?_⟩
     rotate_left 5
     .by_cases hs:s=.no
      .exact .inr (.inr (.inl hs))
      .exact .inl ⟨(nset j s q hs).2,rfl⟩
     .have hq':q≠a:=by
       intro zz;subst zz;exact hd i _ e k1
      exact⟨hq,by rw[zan hq'];exact q0⟩
     .by_cases hb:b=a
      .subst hb;rw[zao] at q;cases q;exact h5
      .rw[zan hb] at q;exact h.g.sub _ _ q
     .by_cases hb:b=a
      .subst hb;exact k2
      .rw[zan hb] at q1;exact h.g.nw b q1 q2
     .obtain⟨hj,q⟩:=nset j _ q (fun z=>nomatch z)
      obtain⟨v,q1,q2⟩:=h.rd j d' q;exact⟨v,q1,q2.mono z⟩
     .obtain⟨hj,q⟩:=nset j _ q (fun z=>nomatch z)
      obtain⟨b,q1,q2,q3,q4⟩:=h.ow j d' q;have hb:b≠a:=by
       intro zz;subst zz;exact h.ap j i d' (.lst ds) hj q e (by rw[q1,k1])
      refine⟨b,q1,q2,by rw[zan hb];exact q3,?_⟩;cases d' with
      | lst ds'=>obtain⟨vs',h7,h8⟩:=q4;exact⟨vs',h7,h8.mono z⟩
      | _=>exact q4.elim
     .obtain⟨_,q1⟩:=nset j _ q1 (fun z=>nomatch z)
      obtain⟨_,q2⟩:=nset k _ q2 (fun z=>nomatch z);exact h.ap j k d1 d2 hn q1 q2
    refine⟨_,z,?_⟩;have hp:=h'.put (i:=i) (d:=.lst ds) (v:=.ref a) (zaq.mpr ⟨a,vs,rfl,SqL.of zao,h6.mono z⟩);rw[List.set_set] at hp;have hσ:σ.set i (some (V.ref a))=σ:=by
     apply List.ext_getElem?;intro k
     by_cases hk:i=k
     .subst hk
      obtain⟨hil,_⟩:=sac.mp k1;rw[saF hil,k1]
     .rw[sah hk]
    rw[hσ] at hp;exact hp
   | _=>exact k4.elim
theorem zEW (i:Nat)(h:DS X E He H0e st s):DS X E He H0e st (zDC i s):=⟨zbt h.o fun D' σ H ⟨Ha,ρ,hr,q⟩=>by
 obtain⟨Ha',z,hr'⟩:=hr.unown i;exact⟨Ha',DL.unown i ρ,hr',zca.grow (r:=s (DL.unown i ρ)) q z⟩⟩
end
theorem zCC {X:Cx}{E:XK}{tgt iter elt:Expr}{ifs:List Expr}{scope:Scope}{pos:Pos}(N:List Str)(n:Nat)(fr:List Nat){src:Ev->Res (List D)}{tg:Ev->D->Res Ev}{tt fe:Ev->Res D}(hc:X.calm=true)(hi:DI X E tgt iter src)(hok:zA4 n tg)
  (blk:∀ s H C fp pn,(∀ He H0e,DG (zdN X N scope s H C fp pn) E He H0e tgt tg)/\DIf (zdN X N scope s H C fp pn) E ifs tt/\DE (zdN X N scope s H C fp pn) E elt fe)
  (hfr:zCU X N n fr scope)(hcell:(scope.names.all fun x=>!(x.2==.cell))=true)(hfree:(scope.names.all fun x=>!(x.2==.free)||(X.env.scope.names.lookup x.1==some .cell))=true)(hkind:scope.kind=.function)
  (hnames:(scope.names.all fun x=>!(x.2==.local)||(scope.names.lookup x.1==some .local))=true)
  (hs:∀ x,foldedSetIterable iter X.env x=pure x:=by intro _;rfl):DCo X E (.ListComp elt [⟨tgt,iter,ifs,0⟩] scope pos) (zfM n fr src tg tt fe):=by
 refine dco N n fr hc hi hok blk hfr (fun x hx z=>?_) (fun x hx z=>?_) hkind (fun x hx z=>?_) hs
 .have:=saJ.mp hcell x hx
  rw[z] at this;simp at this
 .have:=saJ.mp hfree x hx
  rw[z] at this;simpa using this
 .have:=saJ.mp hnames x hx
  rw[z] at this;simpa using this
theorem zxR {X:Cx}{E:XK}{He H0e:Hp}{e:Expr}{f:Ev->Res D}{pos:Pos}{i:Nat}{x:Str}{pos':Pos}(hN:X.N.Nodup)(hi:X.N[i]?=some x)(hx:X.env.scope.names.lookup x=some .local)(hl:zk1 f)(he:DCo X E e f)(hs:swapsWith e (some (.Name x pos')) pos.line X.env=pure true:=by rfl):DS X E He H0e (.Assign [.Name x pos'] e pos) (zcm i f):=by
 refine⟨zbt (he.st hN hi hx hs) fun D σ H ⟨Ha,ρ,h,q⟩=>?_⟩;refine ztb hl ⟨Ha,ρ,h.g.sub,h.rd,?_⟩;refine plain h q fun d v H' Ha' _ g rp q'=>?_;exact q' _ H' Ha' (zaJ.refl _) ((h.grow g).put rp)
end DL
namespace Com
open PySem L2 DL
noncomputable def zd8:Ev->Res Fl :=
 (zax (zlk (zjz 1) (zad (zaf 1) (dC (.int 0)) dNe)
 (zax (zys 0 1 (zab (zaf 1) (zab (zad (zaf 0) (zaf 1) zfL) zaz)))
 zam))
 (zax (zb8 (zaj (zab (zaf 0) zaz) (m1 zC1)))
 zam))
def zhN:List D->Res D:=zdL 2 zd8
noncomputable def zeF:Ev->Res Fl :=
 (zax (zcm 2 (zaj (zab (zaf 0) (zab (zaf 1) zaz)) zhN))
 (zax (zb8 (zaj (zab (zad (zaf 0) (zaf 2) zvb) (zab (zad (zaf 1) (zaf 2) zvb) zaz)) zeH))
 zam))
def zoT:List D->Res D:=zdL 3 zeF
noncomputable def zvg:Ev->Res Fl :=
 (zax (zb8 (zmX (zbo (zaf 0) (zcz "int")) (zdQ (zbo (zaf 0) (zcz "bool")))))
 zam)
def zbO:List D->Res D:=zdL 1 zvg
noncomputable def zc3:Ev->Res Fl :=
 (zax (zcm 2 (zaj (zab (zaf 0) zaz) (m1 zC1)))
 (zax (zcm 3 (zaj (zab (zaf 1) zaz) (m1 zC1)))
 (zax (zlk (zjz 3) (zad (zaf 3) (dC (.int 0)) dNe)
 (zax (zcm 4 (zad (zaf 2) (zaf 3) zfL))
 (zax (zcm 2 (zaf 3))
 (zax (zcm 3 (zaf 4))
 zam))))
 (zax (zb8 (zaf 2))
 zam))))
def zbl:List D->Res D:=zdL 5 zc3
noncomputable def zjK:Ev->Res Fl :=
 (zax (sIf (dOr (zdQ (zaj (zab (zaf 0) zaz) zbO)) (zdQ (zaj (zab (zaf 1) zaz) zbO)))
 (zax zdc
 zam)
 zam)
 (zax (sIf (zad (zaf 1) (dC (.int 0)) dEq)
 (zax zdc
 zam)
 zam)
 (zax (zcm 2 (zaj (zab (zaf 0) (zab (zaf 1) zaz)) zbl))
 (zax (sIf (zad (zaf 1) (dC (.int 0)) dLt)
 (zax (zcm 2 (zbo (zaf 2) zC0))
 zam)
 zam)
 (zax (zb8 (zaj (zab (zad (zaf 0) (zaf 2) zvb) (zab (zad (zaf 1) (zaf 2) zvb) zaz)) zeH))
 zam)))))
def zdV:List D->Res D:=zdL 3 zjK
noncomputable def zod:Ev->Res Fl :=
 (zax (zb8 (zaj (zab (zad (zad (zad (zaf 0) (dC (.int 0)) dIx) (zad (zaf 1) (dC (.int 1)) dIx) zbZ) (zad (zad (zaf 1) (dC (.int 0)) dIx) (zad (zaf 0) (dC (.int 1)) dIx) zbZ) zd7) (zab (zad (zad (zaf 0) (dC (.int 1)) dIx) (zad (zaf 1) (dC (.int 1)) dIx) zbZ) zaz)) zdV))
 zam)
def zeP:List D->Res D:=zdL 2 zod
noncomputable def zrR:Ev->Res Fl :=
 (zax (zb8 (zad (zad (zad (zaf 0) (dC (.int 0)) dIx) (zad (zaf 1) (dC (.int 1)) dIx) zbZ) (zad (zad (zaf 1) (dC (.int 0)) dIx) (zad (zaf 0) (dC (.int 1)) dIx) zbZ) dLt))
 zam)
def zcG:List D->Res D:=zdL 2 zrR
noncomputable def ziY:Ev->Res Fl :=
 (zax (zcm 1 (dC (.tup [(.int 0),(.int 1)])))
 (zax (zvQ (zaf 0) (zd0 2)
 (zax (zcm 1 (zaj (zab (zaf 1) (zab (zaf 2) zaz)) zeP))
 zam))
 (zax (zb8 (zaf 1))
 zam)))
def zfa:List D->Res D:=zdL 3 ziY
theorem bok {α β:Type}{a:α}{f:α->Res β}:(Res.ok a).bind f=f a:=rfl
theorem zge {s t:Ev->Res Fl}{ρ ρ':Ev}(h:s ρ=.ok (.nx ρ')):zax s t ρ=t ρ':=by unfold zax;rw[h];rfl
theorem znD {s t:Ev->Res Fl}{ρ:Ev}{d:D}(h:s ρ=.ok (.rt d)):zax s t ρ=.ok (.rt d):=by unfold zax;rw[h];rfl
theorem ztf {s:Ev->Res Fl}{ρ ρ':Ev}(h:s ρ=.ok (.nx ρ')):zax s zam ρ=.ok (.nx ρ'):=by unfold zax;rw[h];rfl
theorem ztd {i:Nat}{f:Ev->Res D}{ρ:Ev}{d:D}(h:f ρ=.ok d):zcm i f ρ=.ok (.nx (ρ.set i (.sh d))):=by unfold zcm;rw[h];rfl
theorem znG {f:Ev->Res D}{ρ:Ev}{d:D}(h:f (shr ρ)=.ok d):zb8 f ρ=.ok (.rt d):=by unfold zb8;rw[h];rfl
theorem zGm {c:Ev->Res D}{s t:Ev->Res Fl}{ρ:Ev}(h:c (shr ρ)=.ok (.bl false)):sIf c s t ρ=t ρ:=by unfold sIf;rw[h];rfl
theorem zj1 {i j:Int}:dNe (.int i) (.int j)=.ok (.bl (!(i==j))):=by unfold dNe;rw[if_pos ⟨rfl,rfl⟩,eqD]
theorem znZ {i j:Int}:dEq (.int i) (.int j)=.ok (.bl (i==j)):=by unfold dEq;rw[if_pos ⟨rfl,rfl⟩,eqD]
theorem zAq {n:Nat}{s:Ev->Res Fl}{ds:List D}{d:D}(h:s (ds.map Sl.sh++saj (n-ds.length) .no)=.ok (.rt d)):zdL n s ds=.ok d:=by unfold zdL;rw[h];rfl
theorem zff {f:Ev->Res D}{fa:Ev->Res (List D)}{ρ:Ev}{x:D}{xs:List D}(h:f ρ=.ok x)(h':fa ρ=.ok xs):zab f fa ρ=.ok (x::xs):=by unfold zab;rw[h,bok,h'];rfl
theorem zeE {f g:Ev->Res D}{op:D->D->Res D}{ρ:Ev}{x y:D}(h:f ρ=.ok x)(h':g ρ=.ok y):zad f g op ρ=op x y:=by unfold zad;rw[h,bok,h'];rfl
theorem zhA {fa:Ev->Res (List D)}{m:List D->Res D}{ρ:Ev}{xs:List D}(h:fa ρ=.ok xs):zaj fa m ρ=m xs:=by unfold zaj;rw[h];rfl
theorem zwr {a b:Int}(h:b≠0):zfL (.int a) (.int b)=.ok (.int (a.fmod b)):=by
 show(if decide (b≠0)=true then Res.ok (D.int (a.fmod b)) else .stuck)=_;rw[if_pos (decide_eq_true h)]
theorem zua {a b:Int}(h:zhC a b=true):zvb (.int a) (.int b)=.ok (.int (a.fdiv b)):=by
 show(if zhC a b=true then Res.ok (D.int (a.fdiv b)) else .stuck)=_;rw[if_pos h]
theorem zwq {a b:Int}(h:zfm a b=true):zbZ (.int a) (.int b)=.ok (.int (a*b)):=by
 show(if zfm a b=true then Res.ok (D.int (a*b)) else .stuck)=_;rw[if_pos h]
theorem zoY (a b:Int):saK b (a.fmod b)=saK a b:=by
 rw[Int.fmod_def,Int.gcd_sub_mul_left_right,Int.gcd_comm]
theorem zwT {a b:Int}(h:b≠0):(a.fmod b).natAbs < b.natAbs:=by
 rcases Int.lt_or_gt_of_ne h with hb | hb
 .have h1:=scT (-a) (show 0 < -b by omega)
  have h2:=scb (-a) (show 0 < -b by omega);rw[Int.neg_fmod_neg] at h1 h2;omega
 .have h1:=scT a hb
  have h2:=scb a hb;omega
theorem zke:∀ (n:Nat) (a b:Int),b.natAbs < n->∃ g:Int,g.natAbs=saK a b /\
  zcA (zad (zaf 1) (dC (.int 0)) dNe) (zax (zys 0 1 (zab (zaf 1) (zab (zad (zaf 0) (zaf 1) zfL) zaz))) zam) n [.sh (.int a),.sh (.int b)]=.ok (.nx [.sh (.int g),.sh (.int 0)])
 | 0,a,b,h=>absurd h (Nat.not_lt_zero _)
 | n+1,a,b,h=>by
  unfold zcA;have c:(zad (zaf 1) (dC (.int 0)) dNe) (shr [.sh (.int a),.sh (.int b)])=.ok (.bl (!(b==0))):=zj1;rw[c]
  by_cases hb:b=0
  .subst hb
   exact⟨a,by simp,rfl⟩
  .have e:(!(b==0))=true:=by simp [hb]
   obtain⟨g,h1,h2⟩:=zke n b (a.fmod b) (by have:=zwT (a:=a) hb;omega);refine⟨g,by rw[h1,zoY],?_⟩;rw[← h2];rw[e];have st:(zax (zys 0 1 (zab (zaf 1) (zab (zad (zaf 0) (zaf 1) zfL) zaz))) zam) [.sh (.int a),.sh (.int b)]=.ok (.nx [.sh (.int b),.sh (.int (a.fmod b))]):=by
    refine ztf ?_;unfold zys;have:(zab (zaf 1) (zab (zad (zaf 0) (zaf 1) zfL) zaz)) [.sh (.int a),.sh (.int b)]=.ok [.int b,.int (a.fmod b)]:=by
     exact zff rfl (zff (zwr hb) rfl)
    rw[this];rfl
   show(Res.bind _ _)=_;rw[st];rfl
theorem zu7 (a b:Int):zhN [.int a,.int b]=.ok (.int (saK a b)):=by
 obtain⟨g,h1,h2⟩:=zke (b.natAbs+1) a b (sbS _);have w:zlk (zjz 1) (zad (zaf 1) (dC (.int 0)) dNe) (zax (zys 0 1 (zab (zaf 1) (zab (zad (zaf 0) (zaf 1) zfL) zaz))) zam) [.sh (.int a),.sh (.int b)]=.ok (.nx [.sh (.int g),.sh (.int 0)]):=h2;have r:zd8 [.sh (.int a),.sh (.int b)]=.ok (.rt (.int (if g < 0 then -g else g))):=by
  unfold zd8;rw[zge w];exact znD (znG rfl)
 show(zd8 [.sh (.int a),.sh (.int b)]).bind _=_;rw[r];show Res.ok (D.int (if g < 0 then -g else g))=_
 congr 2
 rw[← h1];split<;>omega
theorem zm0:∀ (n:Nat) (x y:D) (a b:Int) (r:Sl),0<=a->0<=b->b.natAbs < n->∃ r',
  zcA (zad (zaf 3) (dC (.int 0)) dNe) (zax (zcm 4 (zad (zaf 2) (zaf 3) zfL)) (zax (zcm 2 (zaf 3)) (zax (zcm 3 (zaf 4)) zam))) n [.sh x,.sh y,.sh (.int a),.sh (.int b),r]=.ok (.nx [.sh x,.sh y,.sh (.int (saK a b)),.sh (.int 0),r'])
 | 0,_,_,a,b,_,_,_,h=>absurd h (Nat.not_lt_zero _)
 | n+1,x,y,a,b,r,ha,hb0,h=>by
  unfold zcA;have c:∀ r,(zad (zaf 3) (dC (.int 0)) dNe) (shr [.sh x,.sh y,.sh (.int a),.sh (.int b),r])=.ok (.bl (!(b==0))):=fun r=>zj1;rw[c]
  by_cases hb:b=0
  .subst hb
   refine⟨r,?_⟩;have e:((saK a 0:Nat):Int)=a:=by simp;omega
   rw[e];rfl
  .have e:(!(b==0))=true:=by simp [hb]
   have hp:0 < b:=by omega
   obtain⟨r',h2⟩:=zm0 n x y b (a.fmod b) (.sh (.int (a.fmod b))) hb0 (scb a hp) (by have:=zwT (a:=a) hb;omega);refine⟨r',?_⟩;rw[zoY] at h2;rw[← h2,e];have st:(zax (zcm 4 (zad (zaf 2) (zaf 3) zfL)) (zax (zcm 2 (zaf 3)) (zax (zcm 3 (zaf 4)) zam))) [.sh x,.sh y,.sh (.int a),.sh (.int b),r]=.ok (.nx [.sh x,.sh y,.sh (.int b),.sh (.int (a.fmod b)),.sh (.int (a.fmod b))]):=by
    have m:(zad (zaf 2) (zaf 3) zfL) [.sh x,.sh y,.sh (.int a),.sh (.int b),r]=.ok (.int (a.fmod b)):=by
     exact zwr hb
    rw[zge (ztd m)];rfl
   show(Res.bind _ _)=_;rw[st];rfl
theorem zm1 (a b:Int):zbl [.int a,.int b]=.ok (.int (saK a b)):=by
 have e:∀ i:Int,(if i < 0 then -i else i)=(i.natAbs:Int):=fun i=>by split<;>omega
 obtain⟨r',h⟩:=zm0 ((b.natAbs:Int).natAbs+1) (.int a) (.int b) a.natAbs b.natAbs .no (Int.natCast_nonneg _) (Int.natCast_nonneg _) (sbS _);have hg:saK (a.natAbs:Int) (b.natAbs:Int)=saK a b:=by simp [saK]
 rw[hg] at h;have r:zc3 [.sh (.int a),.sh (.int b),.no,.no,.no]=.ok (.rt (.int (saK a b))):=by
  unfold zc3;rw[zge (ρ':=[.sh (.int a),.sh (.int b),.sh (.int (a.natAbs:Int)),.no,.no]) (by rw[← e a];rfl)];rw[zge (ρ':=[.sh (.int a),.sh (.int b),.sh (.int (a.natAbs:Int)),.sh (.int (b.natAbs:Int)),.no]) (by rw[← e b];rfl)];have w:zlk (zjz 3) (zad (zaf 3) (dC (.int 0)) dNe) (zax (zcm 4 (zad (zaf 2) (zaf 3) zfL)) (zax (zcm 2 (zaf 3)) (zax (zcm 3 (zaf 4)) zam))) [.sh (.int a),.sh (.int b),.sh (.int (a.natAbs:Int)),.sh (.int (b.natAbs:Int)),.no]=.ok (.nx [.sh (.int a),.sh (.int b),.sh (.int (saK a b)),.sh (.int 0),r']):=h;rw[zge w];exact znD (znG rfl)
 show(zc3 [.sh (.int a),.sh (.int b),.no,.no,.no]).bind _=_;rw[r];rfl
theorem zuz:(2:Nat) ^ 64<=B60:=by rw[zop];exact sbp (by decide) (by decide)
theorem zG9 {i:Int}(h:i.natAbs < 18446744073709551616):i.natAbs < B60:=sae h zuz
theorem zf1 {i j:Int}(h:i.natAbs < 18446744073709551616)(h':j.natAbs < 18446744073709551616):zfm i j=true:=by
 unfold zfm;rw[saA];exact⟨decide_eq_true (zG9 h),decide_eq_true (zG9 h')⟩
theorem zcE {i j:Int}(h:i.natAbs < B60)(h':j.natAbs < B60):zfm i j=true:=by
 unfold zfm;rw[saA];exact⟨decide_eq_true h,decide_eq_true h'⟩
theorem zE0 {i j:Int}(h0:j≠0)(h:j.natAbs < B9):zhC i j=true:=by
 unfold zhC;rw[saA,Bool.or_eq_true];exact⟨decide_eq_true h0,.inl (decide_eq_true h)⟩
theorem zn2 {i j:Int}(h0:j≠0)(h:i.natAbs < B13):zhC i j=true:=by
 unfold zhC;rw[saA,Bool.or_eq_true];exact⟨decide_eq_true h0,.inr (decide_eq_true h)⟩
theorem zhO {ds:List D}{k:Nat}{d:D}(h:ds[k]?=some d):dIx (.lst ds) (.int (k:Int))=.ok d:=by
 unfold dIx;simp only[zby h]
theorem zgH {a b:Int}(hb:0 < b):0<=a.fmod b/\a.fmod b < b:=⟨scb a hb,scT a hb⟩
theorem zqz {n k:Nat}(h:k < n):(DL.intsFrom 0 n).drop k=.int (k:Int)::(DL.intsFrom 0 n).drop (k+1):=by
 have hl:(DL.intsFrom 0 n).length=n:=by unfold DL.intsFrom;simp
 rw[saL (by rw[hl];exact h)]
 congr 1
 unfold DL.intsFrom;simp
theorem ztF {n:Nat}:(DL.intsFrom 0 n).drop n=[]:=by
 have hl:(DL.intsFrom 0 n).length=n:=by unfold DL.intsFrom;simp
 exact List.drop_eq_nil_of_le (by omega)
theorem zlL {tg:Ev->D->Res Ev}{s:Ev->Res Fl}{d:D}{r:List D}{ρ ρ1 ρ2:Ev}(h1:tg ρ d=.ok ρ1)(h2:s ρ1=.ok (.nx ρ2)):zdO tg s (d::r) ρ=zdO tg s r ρ2:=by
 rw[zdO,h1,bok,h2,bok]
def isI:D->Bool
 | .int _=>true
 | _=>false
theorem zeR (d:D):zbO [d]=.ok (.bl (isI d)):=by cases d<;>first | rfl | (rename_i k _;cases k<;>rfl)
theorem zhw {a g:Int}(hg:0 < g):a.fdiv g=a / g:=Int.fdiv_eq_ediv_of_nonneg a (by omega)
theorem zlK {a b:Int}(h:b≠0):0 < (saK a b:Int):=by
 have:=Int.gcd_pos_of_ne_zero_right a h;omega
theorem zEn {a b:Int}(hb:0 < b)(h1:a.natAbs < B13)(h2:b.natAbs < B13):zoT [.int a,.int b]=.ok (.tup [.int (a / saK a b),.int (b / saK a b)]):=by
 have hg:=zlK (a:=a) (b:=b) (by omega);have r:zeF [.sh (.int a),.sh (.int b),.no]=.ok (.rt (.tup [.int (a / saK a b),.int (b / saK a b)])):=by
  unfold zeF;rw[zge (ρ':=[.sh (.int a),.sh (.int b),.sh (.int (saK a b))]) (ztd ((zhA (xs:=[.int a,.int b]) rfl).trans (zu7 a b)))];refine znD (znG ?_);refine(zhA (xs:=[.int (a / saK a b),.int (b / saK a b)]) (zff ?_ (zff ?_ rfl))).trans rfl
  .rw[← zhw hg]
   exact(zeE (x:=.int a) (y:=.int (saK a b)) rfl rfl).trans (zua (zn2 (by omega) h1))
  .rw[← zhw hg]
   exact(zeE (x:=.int b) (y:=.int (saK a b)) rfl rfl).trans (zua (zn2 (by omega) h2))
 show(zeF [.sh (.int a),.sh (.int b),.no]).bind _=_;rw[r];rfl
theorem zy0 {a b:Int}(hb:0 < b)(h1:a.natAbs < B13)(h2:b.natAbs < B13):zdV [.int a,.int b]=.ok (.tup [.int (a / saK a b),.int (b / saK a b)]):=by
 have hg:=zlK (a:=a) (b:=b) (by omega);have r:zjK [.sh (.int a),.sh (.int b),.no]=.ok (.rt (.tup [.int (a / saK a b),.int (b / saK a b)])):=by
  unfold zjK;rw[zge (ρ':=[.sh (.int a),.sh (.int b),.no]) (zGm (t:=zam) rfl)];rw[zge (ρ':=[.sh (.int a),.sh (.int b),.no]) (zGm (t:=zam) ((zeE (x:=.int b) (y:=.int 0) rfl rfl).trans (znZ.trans (by rw[beq_eq_false_iff_ne.mpr (by omega)]))))];rw[zge (ρ':=[.sh (.int a),.sh (.int b),.sh (.int (saK a b))]) (ztd ((zhA (xs:=[.int a,.int b]) rfl).trans (zm1 a b)))];rw[zge (ρ':=[.sh (.int a),.sh (.int b),.sh (.int (saK a b))]) (zGm (t:=zam) (by
   show Res.ok (D.bl (decide (b < 0)))=_;rw[decide_eq_false (by omega)]))]
  refine znD (znG ?_);refine(zhA (xs:=[.int (a / saK a b),.int (b / saK a b)]) (zff ?_ (zff ?_ rfl))).trans rfl
  .rw[← zhw hg]
   exact(zeE (x:=.int a) (y:=.int (saK a b)) rfl rfl).trans (zua (zn2 (by omega) h1))
  .rw[← zhw hg]
   exact(zeE (x:=.int b) (y:=.int (saK a b)) rfl rfl).trans (zua (zn2 (by omega) h2))
 show(zjK [.sh (.int a),.sh (.int b),.no]).bind _=_;rw[r];rfl
def zGs (p q:Int):D:=.tup [.int p,.int q]
end Com
open Com
namespace Com
open PySem L2 DL
abbrev Fra:=Int×Int
def fr (x:Fra):D:=zGs x.1 x.2
def N60:Nat:=1000000000000000000000000000000000000000000000000000000000000
theorem zCT:N60<=B13:=by rw[zoq];exact sat (show N60<=2 ^ 200 by decide) (sbp (by decide) (by decide))
theorem zpz:N60<=B60:=by rw[zop];exact sat (show N60<=2 ^ 200 by decide) (sbp (by decide) (by decide))
theorem zpB:B13<=B60:=by rw[zoq,zop];exact sbp (by decide) (by decide)
structure Low (x:Fra):Prop where
 q1:1<=x.2
 g1:saK x.1 x.2=1
structure zhF (x:Fra):Prop extends Low x where
 pN:x.1.natAbs < N60
 qN:x.2.natAbs < N60
def low (a b:Int):Fra:=(a / saK a b,b / saK a b)
theorem zdu {a b:Int}(hb:0 < b):Low (low a b):=by
 have hg:=zlK (a:=a) (b:=b) (by omega);refine⟨?_,Int.gcd_ediv_gcd_ediv_gcd (by omega)⟩;have:=Int.ediv_gcd_ne_zero_if_ne_zero_right a (show b≠0 by omega);have h2:0<=b / (saK a b:Int):=Int.ediv_nonneg (by omega) (by omega);show 1<=b / (saK a b:Int);omega
theorem zsz {a b:Int}:(low a b).1*b=a*(low a b).2:=by
 unfold low;obtain⟨x,hx⟩:=sc5 a b;obtain⟨y,hy⟩:=Int.gcd_dvd_right a b
 by_cases hg:(saK a b:Int)=0
 .simp only[hg,Int.ediv_zero,Int.zero_mul,Int.mul_zero]
 .generalize hG:(saK a b:Int)=G at *
  have e1:a / G=x:=by rw[hx];exact Int.mul_ediv_cancel_left x hg
  have e2:b / G=y:=by rw[hy];exact Int.mul_ediv_cancel_left y hg
  show a / G*b=a*(b / G);rw[e1,e2]
  calc x*b=x*(G*y):=by rw[← hy]
   _=G*x*y:=by grind
   _=a*y:=by rw[← hx]
theorem zjx {a b:Int}:(low a b).1.natAbs<=a.natAbs:=Int.natAbs_ediv_le_natAbs _ _
theorem zjw {a b:Int}:(low a b).2.natAbs<=b.natAbs:=Int.natAbs_ediv_le_natAbs _ _
theorem zzp {x y:Fra}(hx:Low x)(hy:Low y)(h:x.1*y.2=y.1*x.2):x=y:=by
 have d1:x.2∣y.2:=by
  have:x.2∣x.1*y.2:=⟨y.1,by rw[h];exact Int.mul_comm _ _⟩
  rw[← Int.dvd_gcd_mul_iff_dvd_mul,Int.gcd_comm,hx.g1] at this;simpa using this
 have d2:y.2∣x.2:=by
  have:y.2∣y.1*x.2:=⟨x.1,by rw[← h];exact Int.mul_comm _ _⟩
  rw[← Int.dvd_gcd_mul_iff_dvd_mul,Int.gcd_comm,hy.g1] at this;simpa using this
 have e:x.2=y.2:=Int.dvd_antisymm (by have:=hx.q1;omega) (by have:=hy.q1;omega) d1 d2;have e1:x.1=y.1:=by
  rw[e] at h;exact Int.eq_of_mul_eq_mul_right (by have:=hy.q1;omega) h
 exact Prod.ext e1 e
theorem zoH {a b:Int}(hb:0 < b)(h1:a.natAbs < B13)(h2:b.natAbs < B13):zdV [.int a,.int b]=.ok (fr (low a b)):=zy0 hb h1 h2
theorem zGk {a b:Int}(hb:0 < b)(h1:a.natAbs < N60)(h2:b.natAbs < N60):zhF (low a b):=⟨zdu hb,saG zjx h1,saG zjw h2⟩
theorem zBD {n:Nat}(x:Fra):zbU (n+1) (fr x)=true:=by
 cases n<;>rfl
theorem zGw {x y:Fra}:eqD (fr x) (fr y)=(x.1==y.1&&x.2==y.2):=by
 unfold fr zGs;simp [eqD,eqDs]
theorem zu6 {x:Fra}:eqD (fr x) (fr x)=true:=by rw[zGw];simp
def flt (x y:Fra):Bool:=decide (x.1*y.2 < y.1*x.2)
theorem zav {α:Type}{a b:α}(h:a=b):a=b:=h
def zDy (t:Ev->Res Fl)(r:Fl):Res Fl:=match r with
 | .nx ρ'=>t ρ'
 | r=>.ok r
def zFw (i:Nat)(ρ:Ev)(d:D):Res Fl:=.ok (.nx (ρ.set i (.sh d)))
def zGQ (d:D):Res Fl:=.ok (.rt d)
def zCu (ρ:Ev)(_:D):Res Fl:=.ok (.nx ρ)
noncomputable def ifK (s t:Ev->Res Fl) (ρ:Ev) (x:D):Res Fl:=match x with
 | .bl b=>if b=true then s ρ else t ρ
 | _=>.stuck
noncomputable def zG2 (i:Nat) (ρ:Ev) (d:D):Res Fl:=match d with
 | .lst ds=>.ok (.nx (ρ.set i (.ow (.lst ds))))
 | _=>.stuck
noncomputable def zEa (s:Option Sl) (k:List D->Res Fl):Res Fl:=match s with
 | some (.ow (.lst ds))=>k ds
 | _=>.stuck
noncomputable def zHi (i:Nat) (ρ:Ev) (ds:List D) (d:D):Res Fl:=if ds.length < line then .ok (.nx (ρ.set i (.ow (.lst (ds++[d]))))) else .stuck
noncomputable def zFg (i:Nat) (ρ:Ev) (ds:List D) (d:D):Res Fl:=if zr2 d=true/\ds.length < line then .ok (.nx (ρ.set i (.ow (.lst (ds++[d]))))) else .stuck
def zF7 (i:Nat)(ρ:Ev)(k:Ev->Res D)(ds:List D)(d:D):Res Fl:=(k ρ).bind (DL.putAt ρ i ds d)
noncomputable def zAt (i:Nat) (ρ:Ev) (ds:List D) (d j:D):Res Fl:=if zr2 d=true then DL.putAt ρ i ds d j else .stuck
def zDP (i:Nat)(ρ:Ev)(k:Ev->Res D)(ds:List D)(d:D):Res Fl:=(k (shr ρ)).bind (zAt i ρ ds d)
noncomputable def zDb (is:List Nat) (ρ:Ev) (d:D):Res Fl:=match zfj is.length d with
 | some ds=>.ok (.nx (zda ρ is ds))
 | none=>.stuck
noncomputable def zG0 (i j:Nat) (ρ:Ev) (ds:List D):Res Fl:=match ds with
 | [x,y]=>.ok (.nx ((ρ.set i (.sh x)).set j (.sh y)))
 | _=>.stuck
def k2 (g:Ev->Res D)(op:D->D->Res D)(ρ:Ev)(x:D):Res D:=(g ρ).bind (op x)
def zx4 (x:D)(xs:List D):Res (List D):=.ok (x::xs)
def zE7 (fa:Ev->Res (List D))(ρ:Ev)(x:D):Res (List D):=(fa ρ).bind (zx4 x)
noncomputable def zGH (g:Ev->Res D) (ρ:Ev) (x:D):Res D:=match x with
 | .bl true=>g ρ
 | .bl false=>.ok (.bl false)
 | _=>.stuck
noncomputable def orK (g:Ev->Res D) (ρ:Ev) (x:D):Res D:=match x with
 | .bl true=>.ok (.bl true)
 | .bl false=>g ρ
 | _=>.stuck
def zG4 (x:D):Res D:=match x with
 | .bl b=>.ok (.bl (!b))
 | _=>.stuck
noncomputable def zFB (f g:Ev->Res D) (ρ:Ev) (x:D):Res D:=match x with
 | .bl true=>f ρ
 | .bl false=>g ρ
 | _=>.stuck
def zGN (s:Option Sl):Res D:=match s with
 | some (.sh d)=>.ok d
 | _=>.stuck
def zCW (s:Sl):Sl:=match s with
 | .ow d=>.sh d
 | .ox _ ds=>.sh (.tup ds)
 | x=>x
def zF1 (r:Fl):Res D:=match r with
 | .nx _=>.ok .non
 | .rt d=>.ok d
 | _=>.stuck
def osK (x:D):Res (Option Int):=match x with
 | .int i=>.ok (some i)
 | _=>.stuck
def zFv (x:D)(l:Option Int)(h:Option Int):Res D:=zp2 x l h
def slK (hi:Ev->Res (Option Int))(ρ:Ev)(x:D)(l:Option Int):Res D:=(hi ρ).bind (zFv x l)
def zGP (lo hi:Ev->Res (Option Int))(ρ:Ev)(x:D):Res D:=(lo ρ).bind (slK hi ρ x)
noncomputable def zHb (tg:Ev->D->Res Ev) (s:Ev->Res Fl) (ρ:Ev) (d:D):Res Fl:=match d with
 | .lst ds=>zdO tg s ds ρ
 | _=>.stuck
noncomputable def zFD (op':D->D->Res D) (h:Ev->Res D) (ρ:Ev) (y z:D):Res D:=match z with
 | .bl true=>(h ρ).bind (op' y)
 | .bl false=>.ok (.bl false)
 | _=>.stuck
def zGF (op op':D->D->Res D)(h:Ev->Res D)(ρ:Ev)(x y:D):Res D:=(op x y).bind (zFD op' h ρ y)
def chK (op op':D->D->Res D)(g h:Ev->Res D)(ρ:Ev)(x:D):Res D:=(g ρ).bind (zGF op op' h ρ x)
section
variable {s t:Ev->Res Fl}{f g h:Ev->Res D}{fa:Ev->Res (List D)}{ρ r:Ev}{i j:Nat}{d x y:D}{ds xs:List D}{op op':D->D->Res D}{a b:Int}
theorem zu4 {α β:Type}{a:α}{k:α->Res β}:(Res.ok a).bind k=k a:=zav rfl
theorem zqO:zax s t ρ=(s ρ).bind (zDy t):=zav rfl
theorem zl0:zDy t (.nx ρ)=t ρ:=zav rfl
theorem zlZ:zDy t (.rt d)=.ok (.rt d):=zav rfl
theorem zlY:zDy t (.bk ρ)=.ok (.bk ρ):=zav rfl
theorem zlX:zDy t (.ct ρ)=.ok (.ct ρ):=zav rfl
theorem zmd:zam ρ=.ok (.nx ρ):=zav rfl
theorem zqN:zcm i f ρ=(f ρ).bind (zFw i ρ):=zav rfl
theorem zlW:zFw i ρ d=.ok (.nx (ρ.set i (.sh d))):=zav rfl
theorem zqR:zb8 f ρ=(f (shr ρ)).bind zGQ:=zav rfl
theorem zl4:zGQ d=.ok (.rt d):=zav rfl
theorem zl3:zFY ρ=.ok (.rt .non):=zav rfl
theorem zmy:zkF f ρ=(f (shr ρ)).bind (zCu ρ):=zav rfl
theorem ziJ:zCu ρ d=.ok (.nx ρ):=zav rfl
theorem zw9:sIf f s t ρ=(f (shr ρ)).bind (ifK s t ρ):=zav rfl
theorem zrd:ifK s t ρ (.bl true)=s ρ:=zav rfl
theorem zrc:ifK s t ρ (.bl false)=t ρ:=zav rfl
theorem zq1:zth i f ρ=(f ρ).bind (zG2 i ρ):=zav rfl
theorem zmb:zG2 i ρ (.lst ds)=.ok (.nx (ρ.set i (.ow (.lst ds)))):=zav rfl
theorem zrm:zgW i f ρ=zEa ρ[i]? fun ds=>(f ρ).bind (zHi i ρ ds):=zav rfl
theorem zma {k:List D->Res Fl}:zEa (some (.ow (.lst ds))) k=k ds:=zav rfl
theorem zf8 (h:decide (ds.length<=999)=true):zHi i ρ ds d=.ok (.nx (ρ.set i (.ow (.lst (ds++[d]))))):=if_pos (saG (of_decide_eq_true h) (by decide))
theorem zmA:zyV i f ρ=zEa ρ[i]? fun ds=>(f (shr ρ)).bind (zFg i ρ ds):=zav rfl
theorem ziO (hf:zr2 d=true)(h:decide (ds.length<=999)=true):zFg i ρ ds d=.ok (.nx (ρ.set i (.ow (.lst (ds++[d]))))):=if_pos ⟨hf,saG (of_decide_eq_true h) (by decide)⟩
theorem zqT:zDA i f g ρ=zEa ρ[i]? fun ds=>(f ρ).bind (zF7 i ρ g ds):=zav rfl
theorem zl8:zF7 i ρ g ds d=(g ρ).bind (DL.putAt ρ i ds d):=zav rfl
theorem zl7:zFZ i f g ρ=zEa ρ[i]? fun ds=>(f (shr ρ)).bind (zDP i ρ g ds):=zav rfl
theorem ziD:zDP i ρ g ds d=(g (shr ρ)).bind (zAt i ρ ds d):=zav rfl
theorem zre:zDC i s ρ=s (unown i ρ):=zav rfl
theorem zqE {is:List Nat}:zHB is f ρ=(f ρ).bind (zDb is ρ):=zav rfl
theorem zqZ:zys i j fa ρ=(fa ρ).bind (zG0 i j ρ):=zav rfl
theorem zl9:zG0 i j ρ [x,y]=.ok (.nx ((ρ.set i (.sh x)).set j (.sh y))):=zav rfl
theorem zxn {o:D->Res D}:zbo f o ρ=(f ρ).bind o:=zav rfl
theorem zxm:zad f g op ρ=(f ρ).bind (k2 g op ρ):=zav rfl
theorem zrl:k2 g op ρ x=(g ρ).bind (op x):=zav rfl
theorem zxl {m:List D->Res D}:zaj fa m ρ=(fa ρ).bind m:=zav rfl
theorem zq6:zaz ρ=.ok []:=zav rfl
theorem zmz:zab f fa ρ=(f ρ).bind (zE7 fa ρ):=zav rfl
theorem ziL:zE7 fa ρ x=(fa ρ).bind (zx4 x):=zav rfl
theorem ziK:zx4 x xs=.ok (x::xs):=zav rfl
theorem zrn:zmX f g ρ=(f ρ).bind (zGH g ρ):=zav rfl
theorem zmC:zGH g ρ (.bl true)=g ρ:=zav rfl
theorem zmB:zGH g ρ (.bl false)=.ok (.bl false):=zav rfl
theorem zw5:dOr f g ρ=(f ρ).bind (orK g ρ):=zav rfl
theorem zq4:orK g ρ (.bl true)=.ok (.bl true):=zav rfl
theorem zq3:orK g ρ (.bl false)=g ρ:=zav rfl
theorem zq5:zdQ f ρ=(f ρ).bind zG4:=zav rfl
theorem zmc {c:Bool}:zG4 (.bl c)=.ok (.bl (!c)):=zav rfl
theorem zrb:dIf h f g ρ=(h ρ).bind (zFB f g ρ):=zav rfl
theorem zmv:zFB f g ρ (.bl true)=f ρ:=zav rfl
theorem zmu:zFB f g ρ (.bl false)=g ρ:=zav rfl
theorem zqD:zaf i ρ=zGN ρ[i]?:=zav rfl
theorem zlP:zGN (some (.sh d))=.ok d:=zav rfl
theorem zEE:dC d ρ=.ok d:=zav rfl
theorem zlV:shr []=[]:=zav rfl
theorem zqM {c:Sl}:shr (c::r)=zCW c::shr r:=zav rfl
theorem zlU:zCW (.ow d)=.sh d:=zav rfl
theorem zo4:zCW (.ox j ds)=.sh (.tup ds):=zav rfl
theorem zlT:zCW (.sh d)=.sh d:=zav rfl
theorem zlS:zCW .no=.no:=zav rfl
theorem zqQ {n:Nat}:zdL n s ds=(s (ds.map Sl.sh++saj (n-ds.length) .no)).bind zF1:=zav rfl
theorem zl2:zF1 (.rt d)=.ok d:=zav rfl
theorem zl1:zF1 (.nx ρ)=.ok .non:=zav rfl
theorem zw4:zfl f ρ=(f ρ).bind osK:=zav rfl
theorem zq2:osK (.int a)=.ok (some a):=zav rfl
theorem zw6:zfx ρ=.ok none:=zav rfl
theorem zw2 {lo hi:Ev->Res (Option Int)}:zyt f lo hi ρ=(f ρ).bind (zGP lo hi ρ):=zav rfl
theorem zqL {lo hi:Ev->Res (Option Int)}:zGP lo hi ρ x=(lo ρ).bind (slK hi ρ x):=zav rfl
theorem zqK {hi:Ev->Res (Option Int)}{l:Option Int}:slK hi ρ x l=(hi ρ).bind (zFv x l):=zav rfl
theorem zqJ {l l':Option Int}:zFv (.lst ds) l l'=.ok (.lst (zkK ds l l')):=zav rfl
theorem zrf {tg:Ev->D->Res Ev}:zvQ f tg s ρ=(f ρ).bind (zHb tg s ρ):=zav rfl
theorem zmx {tg:Ev->D->Res Ev}:zHb tg s ρ (.lst ds)=zdO tg s ds ρ:=zav rfl
theorem ziN:zhT op op' f g h ρ=(f ρ).bind (chK op op' g h ρ):=zav rfl
theorem zxa:chK op op' g h ρ x=(g ρ).bind (zGF op op' h ρ x):=zav rfl
theorem zri:zGF op op' h ρ x y=(op x y).bind (zFD op' h ρ y):=zav rfl
theorem zrh:zFD op' h ρ y (.bl true)=(h ρ).bind (op' y):=zav rfl
theorem zrg:zFD op' h ρ y (.bl false)=.ok (.bl false):=zav rfl
theorem zra {o:Int->Int->D}:iop (fun _ _=>true) o (.int a) (.int b)=.ok (o a b):=zav rfl
theorem zro:zd7 (.int a) (.int b)=.ok (.int (a+b)):=zav rfl
theorem zjF {es:List D}(h:decide (ds.length+es.length<=1000)=true):zd7 (.lst ds) (.lst es)=.ok (.lst (ds++es)):=if_pos (sat (of_decide_eq_true h) (by decide))
theorem zq7:zC0 (.int a)=.ok (.int (-a)):=zav rfl
theorem zw8 {m:D->Res D}:m1 m [x]=m x:=zav rfl
theorem zw7 {m:D->D->Res D}:m2 m [x,y]=m x y:=zav rfl
theorem zcx:zeJ (.lst ds)=.ok (.int ds.length):=zav rfl
theorem zme:zeJ (.tup ds)=.ok (.int ds.length):=zav rfl
theorem zqI (h:decide (ds.length<=1000)=true):zeH ds=.ok (.tup ds):=if_pos (sat (of_decide_eq_true h) (by decide))
theorem zq9 (h:decide (ds.length<=1000)=true):zfz ds=.ok (.lst ds):=if_pos (sat (of_decide_eq_true h) (by decide))
theorem zcW:zcz "bool" (.non)=.ok (.bl false):=zav rfl
theorem zdJ {c:Bool}:zcz "bool" (.bl c)=.ok (.bl true):=zav rfl
theorem zcY:zcz "bool" (.int a)=.ok (.bl false):=zav rfl
theorem zcV {z:Str}:zcz "bool" (.str z)=.ok (.bl false):=zav rfl
theorem zcU:zcz "bool" (.tup ds)=.ok (.bl false):=zav rfl
theorem zcX:zcz "bool" (.lst ds)=.ok (.bl false):=zav rfl
theorem zcZ {ks:List Str}:zcz "bool" (.dic ks ds)=.ok (.bl false):=zav rfl
theorem zdE:zcz "int" (.non)=.ok (.bl false):=zav rfl
theorem zef {c:Bool}:zcz "int" (.bl c)=.ok (.bl true):=zav rfl
theorem zdG:zcz "int" (.int a)=.ok (.bl true):=zav rfl
theorem zdD {z:Str}:zcz "int" (.str z)=.ok (.bl false):=zav rfl
theorem zdC:zcz "int" (.tup ds)=.ok (.bl false):=zav rfl
theorem zdF:zcz "int" (.lst ds)=.ok (.bl false):=zav rfl
theorem zdH {ks:List Str}:zcz "int" (.dic ks ds)=.ok (.bl false):=zav rfl
theorem zdx:zcz "str" (.non)=.ok (.bl false):=zav rfl
theorem zee {c:Bool}:zcz "str" (.bl c)=.ok (.bl false):=zav rfl
theorem zdz:zcz "str" (.int a)=.ok (.bl false):=zav rfl
theorem zdw {z:Str}:zcz "str" (.str z)=.ok (.bl true):=zav rfl
theorem zdv:zcz "str" (.tup ds)=.ok (.bl false):=zav rfl
theorem zdy:zcz "str" (.lst ds)=.ok (.bl false):=zav rfl
theorem zdA {ks:List Str}:zcz "str" (.dic ks ds)=.ok (.bl false):=zav rfl
theorem zcg:zcz "tuple" (.non)=.ok (.bl false):=zav rfl
theorem zcH {c:Bool}:zcz "tuple" (.bl c)=.ok (.bl false):=zav rfl
theorem zci:zcz "tuple" (.int a)=.ok (.bl false):=zav rfl
theorem zcf {z:Str}:zcz "tuple" (.str z)=.ok (.bl false):=zav rfl
theorem zce:zcz "tuple" (.tup ds)=.ok (.bl true):=zav rfl
theorem zch:zcz "tuple" (.lst ds)=.ok (.bl false):=zav rfl
theorem zcj {ks:List Str}:zcz "tuple" (.dic ks ds)=.ok (.bl false):=zav rfl
theorem zcK:zcz "list" (.non)=.ok (.bl false):=zav rfl
theorem zdB {c:Bool}:zcz "list" (.bl c)=.ok (.bl false):=zav rfl
theorem zcM:zcz "list" (.int a)=.ok (.bl false):=zav rfl
theorem zcJ {z:Str}:zcz "list" (.str z)=.ok (.bl false):=zav rfl
theorem zcI:zcz "list" (.tup ds)=.ok (.bl false):=zav rfl
theorem zcL:zcz "list" (.lst ds)=.ok (.bl true):=zav rfl
theorem zcN {ks:List Str}:zcz "list" (.dic ks ds)=.ok (.bl false):=zav rfl
theorem zcQ:zcz "dict" (.non)=.ok (.bl false):=zav rfl
theorem zdI {c:Bool}:zcz "dict" (.bl c)=.ok (.bl false):=zav rfl
theorem zcS:zcz "dict" (.int a)=.ok (.bl false):=zav rfl
theorem zcP {z:Str}:zcz "dict" (.str z)=.ok (.bl false):=zav rfl
theorem zcO:zcz "dict" (.tup ds)=.ok (.bl false):=zav rfl
theorem zcR:zcz "dict" (.lst ds)=.ok (.bl false):=zav rfl
theorem zcT {ks:List Str}:zcz "dict" (.dic ks ds)=.ok (.bl true):=zav rfl
theorem zfF:zmV (.non) .non=.ok (.bl true):=zav rfl
theorem zeW:zhD (.non) .non=.ok (.bl false):=zav rfl
theorem zg7 {c:Bool}:zmV (.bl c) .non=.ok (.bl false):=zav rfl
theorem zfC {c:Bool}:zhD (.bl c) .non=.ok (.bl true):=zav rfl
theorem zfH:zmV (.int a) .non=.ok (.bl false):=zav rfl
theorem zeY:zhD (.int a) .non=.ok (.bl true):=zav rfl
theorem zfE {z:Str}:zmV (.str z) .non=.ok (.bl false):=zav rfl
theorem zeV {z:Str}:zhD (.str z) .non=.ok (.bl true):=zav rfl
theorem zfD:zmV (.tup ds) .non=.ok (.bl false):=zav rfl
theorem zeU:zhD (.tup ds) .non=.ok (.bl true):=zav rfl
theorem zfG:zmV (.lst ds) .non=.ok (.bl false):=zav rfl
theorem zeX:zhD (.lst ds) .non=.ok (.bl true):=zav rfl
theorem zfI {ks:List Str}:zmV (.dic ks ds) .non=.ok (.bl false):=zav rfl
theorem zeZ {ks:List Str}:zhD (.dic ks ds) .non=.ok (.bl true):=zav rfl
theorem zbJ (h:zfm a b=true):zbZ (.int a) (.int b)=.ok (.int (a*b)):=if_pos h
theorem zq8 (h:(b==0)=false):zfL (.int a) (.int b)=.ok (.int (a.fmod b)):=zwr (fun z=>by rw[z] at h;cases h)
theorem ztY (h:zhC a b=true):zvb (.int a) (.int b)=.ok (.int (a.fdiv b)):=if_pos h
theorem zlR {is:List Nat}(h:(ds.length==is.length)=true):zDb is ρ (.lst ds)=.ok (.nx (zda ρ is ds)):=by
 unfold zDb zfj;simp only[if_pos (eq_of_beq h)]
theorem zlQ {is:List Nat}(h:(ds.length==is.length)=true):zDb is ρ (.tup ds)=.ok (.nx (zda ρ is ds)):=by
 unfold zDb zfj;simp only[if_pos (eq_of_beq h)]
theorem zw3 {is:List Nat}:zda ρ (i::is) (d::ds)=zda (ρ.set i (.sh d)) is ds:=zav rfl
theorem zqP:zda ρ [] ds=ρ:=zav rfl
def unK (i:Nat)(ρ:Ev)(s:Option Sl):Ev:=match s with
 | some (.ow d)=>ρ.set i (.sh d)
 | _=>ρ
theorem zwZ:unown i ρ=unK i ρ ρ[i]?:=zav rfl
theorem zqH:unK i ρ (some (.ow d))=ρ.set i (.sh d):=zav rfl
theorem zqG:unK i ρ (some (.sh d))=ρ:=zav rfl
theorem zqF:unK i ρ (some .no)=ρ:=zav rfl
theorem zf7 {n:Nat}{j:Int}(h:ixN ds.length j=some n):DL.putAt ρ i ds d (.int j)=.ok (.nx (ρ.set i (.ow (.lst (ds.set n d))))):=by
 unfold DL.putAt;simp only[h]
theorem zjD {x0:D}:dIx (.lst (x0::xs)) (.int 0)=.ok x0:=by
 unfold dIx;simp only[show atI (x0::xs) 0=some x0 from zby (j:=0) rfl]
theorem zml {x0:D}:dIx (.tup (x0::xs)) (.int 0)=.ok x0:=by
 unfold dIx;simp only[show atI (x0::xs) 0=some x0 from zby (j:=0) rfl]
theorem zjC {x0 x1:D}:dIx (.lst (x0::x1::xs)) (.int 1)=.ok x1:=by
 unfold dIx;simp only[show atI (x0::x1::xs) 1=some x1 from zby (j:=1) rfl]
theorem zmk {x0 x1:D}:dIx (.tup (x0::x1::xs)) (.int 1)=.ok x1:=by
 unfold dIx;simp only[show atI (x0::x1::xs) 1=some x1 from zby (j:=1) rfl]
theorem zmt {x0 x1 x2:D}:dIx (.lst (x0::x1::x2::xs)) (.int 2)=.ok x2:=by
 unfold dIx;simp only[show atI (x0::x1::x2::xs) 2=some x2 from zby (j:=2) rfl]
theorem zmj {x0 x1 x2:D}:dIx (.tup (x0::x1::x2::xs)) (.int 2)=.ok x2:=by
 unfold dIx;simp only[show atI (x0::x1::x2::xs) 2=some x2 from zby (j:=2) rfl]
theorem zms {x0 x1 x2 x3:D}:dIx (.lst (x0::x1::x2::x3::xs)) (.int 3)=.ok x3:=by
 unfold dIx;simp only[show atI (x0::x1::x2::x3::xs) 3=some x3 from zby (j:=3) rfl]
theorem zmi {x0 x1 x2 x3:D}:dIx (.tup (x0::x1::x2::x3::xs)) (.int 3)=.ok x3:=by
 unfold dIx;simp only[show atI (x0::x1::x2::x3::xs) 3=some x3 from zby (j:=3) rfl]
theorem zmr {x0 x1 x2 x3 x4:D}:dIx (.lst (x0::x1::x2::x3::x4::xs)) (.int 4)=.ok x4:=by
 unfold dIx;simp only[show atI (x0::x1::x2::x3::x4::xs) 4=some x4 from zby (j:=4) rfl]
theorem zmh {x0 x1 x2 x3 x4:D}:dIx (.tup (x0::x1::x2::x3::x4::xs)) (.int 4)=.ok x4:=by
 unfold dIx;simp only[show atI (x0::x1::x2::x3::x4::xs) 4=some x4 from zby (j:=4) rfl]
theorem zmq {x0 x1 x2 x3 x4 x5:D}:dIx (.lst (x0::x1::x2::x3::x4::x5::xs)) (.int 5)=.ok x5:=by
 unfold dIx;simp only[show atI (x0::x1::x2::x3::x4::x5::xs) 5=some x5 from zby (j:=5) rfl]
theorem zmg {x0 x1 x2 x3 x4 x5:D}:dIx (.tup (x0::x1::x2::x3::x4::x5::xs)) (.int 5)=.ok x5:=by
 unfold dIx;simp only[show atI (x0::x1::x2::x3::x4::x5::xs) 5=some x5 from zby (j:=5) rfl]
theorem zmp {x0 x1 x2 x3 x4 x5 x6:D}:dIx (.lst (x0::x1::x2::x3::x4::x5::x6::xs)) (.int 6)=.ok x6:=by
 unfold dIx;simp only[show atI (x0::x1::x2::x3::x4::x5::x6::xs) 6=some x6 from zby (j:=6) rfl]
theorem zmo {x0 x1 x2 x3 x4 x5 x6 x7:D}:dIx (.lst (x0::x1::x2::x3::x4::x5::x6::x7::xs)) (.int 7)=.ok x7:=by
 unfold dIx;simp only[show atI (x0::x1::x2::x3::x4::x5::x6::x7::xs) 7=some x7 from zby (j:=7) rfl]
theorem zmn {x0 x1 x2 x3 x4 x5 x6 x7 x8:D}:dIx (.lst (x0::x1::x2::x3::x4::x5::x6::x7::x8::xs)) (.int 8)=.ok x8:=by
 unfold dIx;simp only[show atI (x0::x1::x2::x3::x4::x5::x6::x7::x8::xs) 8=some x8 from zby (j:=8) rfl]
theorem zmm {x0 x1 x2 x3 x4 x5 x6 x7 x8 x9:D}:dIx (.lst (x0::x1::x2::x3::x4::x5::x6::x7::x8::x9::xs)) (.int 9)=.ok x9:=by
 unfold dIx;simp only[show atI (x0::x1::x2::x3::x4::x5::x6::x7::x8::x9::xs) 9=some x9 from zby (j:=9) rfl]
theorem ziI {x0 x1 x2 x3 x4 x5 x6 x7 x8 x9 x10:D}:dIx (.lst (x0::x1::x2::x3::x4::x5::x6::x7::x8::x9::x10::xs)) (.int 10)=.ok x10:=by
 unfold dIx;simp only[show atI (x0::x1::x2::x3::x4::x5::x6::x7::x8::x9::x10::xs) 10=some x10 from zby (j:=10) rfl]
theorem ziH {x0 x1 x2 x3 x4 x5 x6 x7 x8 x9 x10 x11:D}:dIx (.lst (x0::x1::x2::x3::x4::x5::x6::x7::x8::x9::x10::x11::xs)) (.int 11)=.ok x11:=by
 unfold dIx;simp only[show atI (x0::x1::x2::x3::x4::x5::x6::x7::x8::x9::x10::x11::xs) 11=some x11 from zby (j:=11) rfl]
theorem ziG {x0 x1 x2 x3 x4 x5 x6 x7 x8 x9 x10 x11 x12:D}:dIx (.lst (x0::x1::x2::x3::x4::x5::x6::x7::x8::x9::x10::x11::x12::xs)) (.int 12)=.ok x12:=by
 unfold dIx;simp only[show atI (x0::x1::x2::x3::x4::x5::x6::x7::x8::x9::x10::x11::x12::xs) 12=some x12 from zby (j:=12) rfl]
theorem ziF {x0 x1 x2 x3 x4 x5 x6 x7 x8 x9 x10 x11 x12 x13:D}:dIx (.lst (x0::x1::x2::x3::x4::x5::x6::x7::x8::x9::x10::x11::x12::x13::xs)) (.int 13)=.ok x13:=by
 unfold dIx;simp only[show atI (x0::x1::x2::x3::x4::x5::x6::x7::x8::x9::x10::x11::x12::x13::xs) 13=some x13 from zby (j:=13) rfl]
theorem zxk:((0:Nat):Int)=0:=zav rfl
theorem zxj:((1:Nat):Int)=1:=zav rfl
theorem zxi:((2:Nat):Int)=2:=zav rfl
theorem zxh:((3:Nat):Int)=3:=zav rfl
theorem zxg:((4:Nat):Int)=4:=zav rfl
theorem zxf:((5:Nat):Int)=5:=zav rfl
theorem zxe:((6:Nat):Int)=6:=zav rfl
theorem zxd:((7:Nat):Int)=7:=zav rfl
theorem zxc:((8:Nat):Int)=8:=zav rfl
theorem zxb:((9:Nat):Int)=9:=zav rfl
theorem zrk:((10:Nat):Int)=10:=zav rfl
theorem zrj:((11:Nat):Int)=11:=zav rfl
theorem zqY {x0:D}:DL.putAt ρ i (x0::xs) d (.int 0)=.ok (.nx (ρ.set i (.ow (.lst (d::xs))))):=by
 refine(zf7 (n:=0) ?_).trans rfl;unfold ixN;rw[if_pos (by decide),if_pos (by simp only[sau];omega)];rfl
theorem zqX {x0 x1:D}:DL.putAt ρ i (x0::x1::xs) d (.int 1)=.ok (.nx (ρ.set i (.ow (.lst (x0::d::xs))))):=by
 refine(zf7 (n:=1) ?_).trans rfl;unfold ixN;rw[if_pos (by decide),if_pos (by simp only[sau];omega)];rfl
theorem zqW {x0 x1 x2:D}:DL.putAt ρ i (x0::x1::x2::xs) d (.int 2)=.ok (.nx (ρ.set i (.ow (.lst (x0::x1::d::xs))))):=by
 refine(zf7 (n:=2) ?_).trans rfl;unfold ixN;rw[if_pos (by decide),if_pos (by simp only[sau];omega)];rfl
theorem zqV {x0 x1 x2 x3:D}:DL.putAt ρ i (x0::x1::x2::x3::xs) d (.int 3)=.ok (.nx (ρ.set i (.ow (.lst (x0::x1::x2::d::xs))))):=by
 refine(zf7 (n:=3) ?_).trans rfl;unfold ixN;rw[if_pos (by decide),if_pos (by simp only[sau];omega)];rfl
theorem zqU {x0 x1 x2 x3 x4:D}:DL.putAt ρ i (x0::x1::x2::x3::x4::xs) d (.int 4)=.ok (.nx (ρ.set i (.ow (.lst (x0::x1::x2::x3::d::xs))))):=by
 refine(zf7 (n:=4) ?_).trans rfl;unfold ixN;rw[if_pos (by decide),if_pos (by simp only[sau];omega)];rfl
theorem zq0:zug (.int 10) (.int 60)=.ok (.int (N60:Int)):=by
 have e:(10:Int) ^ (60:Int).toNat=(N60:Int):=by decide
 rw[← e];rfl
end
noncomputable def zEv (fa:Ev->Res (List D)) (ρ:Ev) (x:D):Res D:=match x with
 | .str z=>(fa ρ).bind (zoX z)
 | _=>.stuck
theorem zmf {f:Ev->Res D}{fa:Ev->Res (List D)}{ρ:Ev}:zva f fa ρ=(f ρ).bind (zEv fa ρ):=zav rfl
theorem ziE {fa:Ev->Res (List D)}{ρ:Ev}{z:Str}:zEv fa ρ (.str z)=(fa ρ).bind (zoX z):=zav rfl
noncomputable def zGR (g:Ev->Res D) (ρ:Ev) (x:D):Res D:=match x with
 | .lst ds=>(g ρ).bind (zAW (.lst ds))
 | _=>.stuck
theorem zqS {f g:Ev->Res D}{ρ:Ev}:zFx f g ρ=(f ρ).bind (zGR g ρ):=zav rfl
theorem zl6 {g:Ev->Res D}{ρ:Ev}{ds:List D}:zGR g ρ (.lst ds)=(g ρ).bind (zAW (.lst ds)):=zav rfl
theorem ztJ {α:Type}{x:α}:∀ {n:Nat},(saj n [x]).flatten=saj n x
 | 0=>rfl
 | n+1=>by rw[saO,sbD,ztJ,saO];rfl
theorem zl5 {x:D}{k:Int}(h:(decide (0<=k)&&decide (k<=1000))=true):zAW (.lst [x]) (.int k)=.ok (.lst (saj k.toNat x)):=by
 simp only[saA,decide_eq_true_eq] at h;unfold zAW;have:([x]:List D).length*k.toNat<=line/\-9223372036854775808<=k/\k < 9223372036854775808:=⟨by
  have h2:k.toNat<=1000:=by omega
  show 1*k.toNat<=line;have:(1000:Nat)<=line:=by decide
  omega,by omega,by omega⟩
 simp only[if_pos this,ztJ]
end Com
local macro_rules | `(tactic| open_line with[$xs,*])=>`(tactic| simp only[zu4,zqO,zl0,zlZ,zlY,zlX,zmd,zqN,zlW,zqR,zl4,zl3,zmy,ziJ,zw9,zrd,zrc,zq1,zmb,zrm,zma,zmA,zqT,zl8,zl7,ziD,zre,zqE,zqZ,zl9,zxn,zxm,zrl,zxl,zq6,zmz,ziL,ziK,zrn,zmC,zmB,zw5,zq4,zq3,zq5,zmc,zrb,zmv,zmu,zqD,zlP,zEE,zlV,zqM,zlU,zlT,zlS,zqQ,zl2,zl1,zw4,zq2,zw6,zw2,zqL,zqK,zqJ,zrf,zmx,ziN,zxa,zri,zrh,zrg,zra,zro,zq7,zw8,zw7,zcx,zme,zq0,znZ,zj1,saN,scg,sau,sbu,saO,sbW,sbL,sbV,sbG,saW,sb5,sb6,scr,Nat.reduceSub,Nat.reduceAdd,scG,scf,scC,scw,zqI,zq9,zjF,zf8,ziO,zq8,zlR,zlQ,zw3,zqP,zwZ,zqH,zqG,zqF,zjD,zjC,zmt,zms,zmr,zmq,zmp,zmo,zmn,zmm,ziI,ziH,ziG,ziF,zml,zmk,zmj,zmi,zmh,zmg,decide_true,decide_false,Nat.reduceLeDiff,Nat.reduceBEq,Int.reduceBEq,beq_self_eq_true,DL.dOne,DL.mYes,zcW,zdJ,zcY,zcV,zcU,zcX,zcZ,zdE,zef,zdG,zdD,zdC,zdF,zdH,zdx,zee,zdz,zdw,zdv,zdy,zdA,zcg,zcH,zci,zcf,zce,zch,zcj,zcK,zdB,zcM,zcJ,zcI,zcL,zcN,zcQ,zdI,zcS,zcP,zcO,zcR,zcT,zfF,zeW,zg7,zfC,zfH,zeY,zfE,zeV,zfD,zeU,zfG,zeX,zfI,zeZ,zxk,zxj,zxi,zxh,zxg,zxf,zxe,zxd,zxc,zxb,zrk,zrj,Int.reduceLT,Int.reduceLE,Int.reduceSub,Int.reduceAdd,Int.reduceMul,Int.reduceNeg,zmf,ziE,zqY,zqX,zqW,zqV,zqU,zqS,zl6,zl5,Int.reduceToNat,scD,$[$xs:term],*])
namespace Com
open PySem L2 DL
noncomputable def zhl:Ev->Res Fl :=
 (zax (sIf (dOr (zdQ (zbo (zaf 0) (zcz "str"))) (zdQ (zhT dLe dLe (dC (.int 1)) (zaj (zab (zaf 0) zaz) (m1 zeJ)) (dC (.int 8)))))
 (zax (zb8 (dC (.bl false)))
 zam)
 zam)
 (zax (zb8 (zaj (zab (zfM 1 [] (zFt (zaf 0)) (zd0 0) mYes (zad (zaf 0) (dC (.str "abcdefghijklmnopqrstuvwxyz")) dIn)) zaz) (m1 zAX)))
 zam))
def zcF:List D->Res D:=zdL 1 zhl
noncomputable def zdm:Ev->Res Fl :=
 (zax (sIf (dOr (zdQ (zbo (zaf 0) (zcz "tuple"))) (zad (zaj (zab (zaf 0) zaz) (m1 zeJ)) (dC (.int 2)) dNe))
 (zax (zb8 (dC (.bl false)))
 zam)
 zam)
 (zax (sIf (dOr (zdQ (zaj (zab (zad (zaf 0) (dC (.int 0)) dIx) zaz) zbO)) (zdQ (zaj (zab (zad (zaf 0) (dC (.int 1)) dIx) zaz) zbO)))
 (zax (zb8 (dC (.bl false)))
 zam)
 zam)
 (zax (zb8 (zmX (zad (zad (zaf 0) (dC (.int 1)) dIx) (dC (.int 1)) dGe) (zad (zaj (zab (zad (zaf 0) (dC (.int 0)) dIx) (zab (zad (zaf 0) (dC (.int 1)) dIx) zaz)) zbl) (dC (.int 1)) dEq)))
 zam)))
def zdd:List D->Res D:=zdL 1 zdm
def abc:Str:="abcdefghijklmnopqrstuvwxyz"
def zqA (c:Nat):Bool:=occ ⟨#[c]⟩ abc
def nameB (z:Str):Bool:=decide (1<=z.length)&&(decide (z.length<=8)&&z.cps.toList.all zqA)
def zGj:D->Bool
 | .str z=>nameB z
 | _=>false
def fit:D->Bool
 | .str z=>decide (z.length<=line)
 | _=>true
theorem zrE {b:Ev}{tg:Ev->D->Res Ev}{tt fe:Ev->Res D}{F:D->D}:∀ {ds:List D},(∀ d∈ds,∃ ρ1,tg b d=.ok ρ1/\tt ρ1=.ok (.bl true)/\fe ρ1=.ok (F d))->zb7 b tg tt fe ds=.ok (ds.map F)
 | [],_=>rfl
 | d::r,h=>by
  obtain⟨ρ1,h1,h2,h3⟩:=h d sax;rw[zhf h1 h2 h3,zrE (fun e he=>h e (sak _ he))];rfl
theorem zm7 {α:Type}(F:α->Bool):∀ (cs:List α),ze3 (cs.map fun c=>D.bl (F c))=some (cs.map F)
 | []=>rfl
 | c::r=>by
  show(ze3 (r.map fun c=>D.bl (F c))).map (F c::·)=_;rw[zm7 F r];rfl
theorem zuI {z:Str}(hz:z.length<=line):zfM 1 [] (zFt (zaf 0)) (zd0 0) mYes (zad (zaf 0) (dC (.str "abcdefghijklmnopqrstuvwxyz")) dIn) [.sh (.str z)]=.ok (.lst (z.cps.toList.map fun c=>.bl (zqA c))):=by
 have hl:(zjP z).length<=line:=by rw[zje];exact hz
 unfold zfM;show(if(zjP z).length<=line then _ else _)=_;rw[if_pos hl];have:zb7 (zet 1 [] [.sh (.str z)]) (zd0 0) mYes (zad (zaf 0) (dC (.str "abcdefghijklmnopqrstuvwxyz")) dIn) (zjP z)=.ok (z.cps.toList.map fun c=>D.bl (zqA c)):=by
  unfold zjP
  induction z.cps.toList with
  | nil=>rfl
  | cons c r ih =>
   rw[saN,zhf (x:=.bl (zqA c)) rfl rfl rfl,ih];rfl
 rw[this]
theorem zuV {d:D}(h:fit d=true):zcF [d]=.ok (.bl (zGj d)):=by
 cases d with
 | str z =>
  have hz:z.length<=line:=of_decide_eq_true h;have hlen:zeJ (.str z)=.ok (.int z.length):=if_pos hz;show zdL 1 zhl _=.ok (.bl (nameB z));unfold nameB
  by_cases h1:1<=z.length
  .by_cases h8:z.length<=8
   .have e1:decide ((1:Int)<=(z.length:Int))=true:=decide_eq_true (by omega)
    have e2:decide ((z.length:Int)<=8)=true:=decide_eq_true (by omega);open_line with[zhl,hlen,e1,e2,zuI hz,zAX,zm7,decide_eq_true h1,decide_eq_true h8,scV]
    simp [sc2,Function.comp_def]
   .have e1:decide ((1:Int)<=(z.length:Int))=true:=decide_eq_true (by omega)
    have e2:decide ((z.length:Int)<=8)=false:=decide_eq_false (by omega);open_line with[zhl,hlen,e1,e2,decide_eq_true h1,decide_eq_false h8,scd,Bool.and_false]
  .have e1:decide ((1:Int)<=(z.length:Int))=false:=decide_eq_false (by omega)
   open_line with[zhl,hlen,e1,decide_eq_false h1,scd]
 | ob k _=>cases k<;>rfl
 | _=>rfl
def zqa:D->Bool
 | .tup [.int p,.int q]=>decide (1<=q)&&(saK p q==1)
 | _=>false
theorem zEF {g:Nat}:((g:Int)==1)=(g==1):=by
 cases h:(g==1) with
 | true=>rw[eq_of_beq h];rfl
 | false =>
  have:g≠1:=fun z=>by rw[z] at h;cases h
  exact beq_eq_false_iff_ne.mpr (by omega)
theorem zDe {xs:List D}:(∃ x y,xs=[x,y])∨xs.length≠2:=by
 match xs with
 | []=>exact .inr (by decide)
 | [x]=>exact .inr (by simp)
 | [x,y]=>exact .inl ⟨x,y,rfl⟩
 | x::y::z::r=>exact .inr (by simp)
theorem zyZ:∀ {xs:List D},xs.length≠2->zqa (.tup xs)=false
 | [],_=>rfl
 | [x],_=>by cases x<;>rfl
 | [x,y],h=>absurd rfl h
 | x::y::z::r,_=>by cases x<;>cases y<;>rfl
theorem zux {x y:D}:zqa (.tup [x,y])=(isI x&&(isI y&&zqa (.tup [x,y]))):=by
 cases x<;>cases y<;>rfl
theorem zqx (d:D):zdd [d]=.ok (.bl (zqa d)):=by
 cases d with
 | tup xs =>
  rcases zDe (xs:=xs) with⟨x,y,rfl⟩ | h
  .rw[zux]
   show zdL 1 zdm _=_;cases hx:isI x with
   | false=>open_line with[zdm,zeR,hx,scd]
   | true =>
    cases hy:isI y with
    | false=>open_line with[zdm,zeR,hx,hy,scd,scV]
    | true =>
     cases x<;>first | (cases hx;done) | skip
     cases y<;>first | (cases hy;done) | skip
     rename_i p q;show _=Res.ok (D.bl (decide (1<=q)&&(saK p q==1)))
     by_cases hq:1<=q
     .open_line with[zdm,zeR,hx,hy,zm1,scV,decide_eq_true hq,zEF]
     .open_line with[zdm,zeR,hx,hy,zm1,scV,decide_eq_false hq,scd]
  .have e2:((xs.length:Int)==2)=false:=beq_eq_false_iff_ne.mpr (by omega)
   rw[zyZ h];show zdL 1 zdm _=_;open_line with[zdm,e2]
 | ob k _=>cases k<;>rfl
 | _=>rfl
theorem zCE {α:Type}{F:α->D}{xs:List α}{lo hi:Option Int}:zkK (xs.map F) lo hi=((xs.drop (HT.sIx xs.length 0 lo)).take (HT.sIx xs.length xs.length hi-HT.sIx xs.length 0 lo)).map F:=by
 unfold zkK;rw[sag,← List.map_drop,← List.map_take]
end Com
namespace DL
open PySem PySem.Spec PyProof.Rows L2
theorem zcp.there {P:Program}{w:World}{H:Hp}{h:Heap}{a:Addr}{o:HO}(x:zcp P w H h a o):∃ u,h.get? a=some u:=by
 cases o with
 | lst xs=>obtain⟨_,_,_,_,e⟩:=x;exact⟨_,e⟩
 | tup xs=>obtain⟨_,_,_,ob,e,_⟩:=x;exact⟨_,e⟩
 | dK kvs=>obtain⟨_,_,_,_,o,_,_,e,_⟩:=x;exact⟨_,e⟩
 | dT kvs=>obtain⟨_,_,_,_,o,_,_,e,_⟩:=x;exact⟨_,e⟩
 | set S n=>obtain⟨o,_,_,_,e,_⟩:=x;exact⟨_,e⟩
 | ins C dx fs=>obtain⟨_,_,_,e,_⟩:=x;exact⟨_,e⟩
 | own y=>obtain⟨_,e⟩:=x;exact⟨_,e⟩
 | xd fs=>obtain⟨_,⟨_,_,_,e,_⟩,_⟩:=x;exact⟨_,e⟩
 | rng lo hi=>obtain⟨_,_,_,e⟩:=x;exact⟨_,e⟩
 | frz ob u=>obtain⟨e,_⟩:=x;exact⟨_,e⟩
 | tbl ps=>exact⟨_,show h.get? a=some _ from x⟩
 | met f y=>exact⟨_,show h.get? a=some _ from x⟩
 | ext φ=>obtain⟨_,⟨_,e⟩,_⟩:=x;exact⟨_,e⟩
noncomputable def CXE (P:Program) (w:World):CXT:=fun outer H s E e s'=>∃ (ea C:Addr) (a0:Value) (B:Heap) (H':Hp),e=.ref ea/\s'.os=s.os/\AllBare s'.gens/\Un (frs outer) [] H H' s.heap s'.heap/\HOk P w H' s'.heap/\H' ea=none /\
 sbN B outer ea (.ref C) a0 s'.heap/\(∀ b,b∉frs outer->(H' b≠none∨∃ o,s.heap.get? b=some o)->∃ o,B.get? b=some o)/\∃ ox,zHk s'.heap ea ox/\E (.ref C) ox H'
theorem zCp {l:List sba}:∀ env∈l,∀ a,env.frame=some a->a∈frs l:=fun env he a hf=>sbA.mpr ⟨env,he,hf⟩
section
variable {P:Program}{w:World}{K:sab}{mg:Str->Option Value}{base:Heap}{N:List Str}{qual:Str}{scope:Scope}{f:Addr}{cd:Value}{A:Around}{outer:List sba}{s0:Shared}{H0:Hp}{E:XK}
 {pins:List (Addr×Obj)}{σ:L2.St}{H:Hp}{s:Shared}
theorem zfr {B h h':Heap}(k:B.StaysIn h)(k':B.StaysIn h'){b:Addr}{o:Obj}(hb:∃ u,B.get? b=some u)(e:h.get? b=some o):h'.get? b=some o:=by
 obtain⟨u,q⟩:=hb;have:=k b u q;rw[e] at this;cases this;exact k' b o q
theorem zEB {X:Cx}(hX:X=zk0 (CXE P w) P w K mg base N qual scope f cd A outer s0 H0 E)(I:Inv X pins σ H s){s1:Shared}{H1:Hp}{ea C:Addr}{a0:Value}{B h':Heap}(os:s1.os=s.os)(bare:AllBare s1.gens)
  (un:Un (frs X.stack) [] H H1 s.heap s1.heap)(hok:HOk P w H1 s1.heap)(hne:H1 ea=none)(hst:B.StaysIn s1.heap)(hfr:s1.heap.FunFrames B X.stack)
  (hB:∀ b,b∉frs X.stack->(H1 b≠none∨∃ o,s.heap.get? b=some o)->∃ o,B.get? b=some o)(fl:sbN B outer ea (.ref C) a0 h')(up:s1.heap.UpToSlots h')(hE:∃ ox,zHk h' ea ox/\E (.ref C) ox H1) :
  CXE P w outer H0 s0 E (.ref ea) { s1 with heap:=h' }:=by
 subst hX;have hL:(envOfC qual scope s0.heap.objs.size f cd).frame=some (envOfC qual scope s0.heap.objs.size f cd).locals:=rfl;have hstk:∀ b,b∈frs (envOfC qual scope s0.heap.objs.size f cd::outer)->b=(envOfC qual scope s0.heap.objs.size f cd).locals∨b∈frs outer:=fun b hb=>by
  unfold frs at hb;rw[sbX,hL] at hb;exact sam.mp hb
 have hsub:∀ b,b∈frs outer->b∈frs (envOfC qual scope s0.heap.objs.size f cd::outer):=fun b hb=>by
  unfold frs;rw[sbX,hL];exact sak _ hb
 have old:∀ b o,s0.heap.get? b=some o->b≠(envOfC qual scope s0.heap.objs.size f cd).locals:=fun b o e=>saE (sae (sap e) I.ok.above);have nofr:∀ b o,s0.heap.get? b=some o->b∉frs outer->b∉frs (envOfC qual scope s0.heap.objs.size f cd::outer):=fun b o e hb hm=>(hstk b hm).elim (old b o e) hb;have thr:∀ b o,s0.heap.get? b=some o->∃ o',s.heap.get? b=some o':=fun b o e=>I.base.there b o e (by intro z;exact nomatch z);have fst:∀ b,b∈frs outer->∀ o,s1.heap.get? b=some o->∃ sl,h'.get? b=some { o with slots:=sl }:=fun b hb o e=>by
  obtain⟨_,o',ho',hd⟩:=hfr.mem (hsub b hb);rw[e] at ho';cases ho';exact up b o e hd
 have free1:∀ b∈frs (envOfC qual scope s0.heap.objs.size f cd::outer),H1 b=none:=fun b hb=>by
  obtain⟨_,o,ho,_⟩:=I.stack.mem hb;exact un.free b o ho (I.stkFree b hb) (by simp)
 have B0:∀ b o,s0.heap.get? b=some o->b∉frs outer->∃ u,B.get? b=some u:=fun b o e hb=>hB b (nofr b o e hb) (.inr (thr b o e));refine⟨ea,C,a0,B,H1,rfl,os.trans I.os,bare,⟨fun b o e n hb hx=>?_,fun b o e n hb hx=>?_,fun b o e n hx=>?_,fun b o e hx=>?_,fun b xs e=>un.tups b xs (I.base.tups b xs e),fun b o u e=>un.frzs b o u (I.base.frzs b o u e),fun b ps e=>?_⟩,fun a o e=>?_,hne,fl,fun b hb h=>?_,hE⟩
 .have e1:=I.base.keep b o e n hb (by intro z;exact nomatch z)
  have n1:=I.base.free b o e n (by intro z;exact nomatch z);have e2:=un.keep b o e1 n1 (nofr b o e hb) (by simp);exact zfr hst fl.1 (B0 b o e hb) e2
 .obtain⟨sl,e1⟩:=I.base.slot b o e n hb (by intro z;exact nomatch z)
  have n1:=I.base.free b o e n (by intro z;exact nomatch z);obtain⟨sl2,e2⟩:=un.any e1 n1 (by simp);obtain⟨sl3,e3⟩:=fst b hb _ e2;exact⟨sl3,e3⟩
 .obtain⟨o',e1⟩:=thr b o e
  exact un.free b o' e1 (I.base.free b o e n (by intro z;exact nomatch z)) (by simp)
 .obtain⟨o',e1⟩:=thr b o e
  obtain⟨o2,e2⟩:=un.there b o' e1 (by simp)
  by_cases hb:b∈frs outer
  .obtain⟨sl,e3⟩:=fst b hb _ e2
   exact⟨_,e3⟩
  .exact⟨_,zfr hst fl.1 (B0 b o e hb) e2⟩
 .obtain⟨m1,e1⟩:=I.base.tbls b ps e
  obtain⟨m2,e2⟩:=un.tbls b _ e1;exact⟨m1++m2,by rw[e2,scW]⟩
 .refine(hok a o e).stay (fun b u hb q=>?_) (fun _ q=>q) fun _ _ q=>q
  have hn:H1 b≠none:=by
   rcases hb with rfl | hb
   .rw[e];simp
   .rw[hb];simp
  exact zfr hst fl.1 (hB b (fun hm=>hn (free1 b hm)) (.inl hn)) q
 .by_cases hm:b∈frs (envOfC qual scope s0.heap.objs.size f cd::outer)
  .rcases hstk b hm with z | z
   .rcases h with h | ⟨o,h⟩
    .exact absurd (free1 b hm) h
    .exact absurd z (old b o h)
   .exact absurd z hb
  .exact hB b hm (h.elim .inl fun⟨o,h⟩=>.inr (thr b o h))
theorem zsn:zfR (CXE P w) (zk0 (CXE P w) P w K mg base N qual scope f cd A outer s0 H0 E) E:=by
 intro pins σ H s e s' I h;obtain⟨ea,C,a0,B,H',rfl,os,bare,un,hok,hne,fl,hB,ox,⟨dc,hdc,hox⟩,hE⟩:=h;refine zwW I.ok.frames rfl fl hdc fun h' fl' up hd'=>?_;exact zEB rfl I os bare un hok hne fl.1 fl.2.2.1 hB fl' up ⟨ox,⟨dc,hd',hox⟩,hE⟩
end
theorem zjU {X:Cx}{E:XK}:zfR CX0 X E:=fun _ _ _ _ _ _ _ h=>h.elim
theorem zjA {P:Program}{w:World}{K:sab}{mg:Str->Option Value}{base:Heap}{x qual:Str}{st:Stmt}{f:Addr}{fd:FuncData}{N ps:List Str}{k:Nat}{s:Ev->Res Fl}(F:Fun K x qual st f fd)(S:zay N ps (defScope st))
  (hbody:∀ (cdv:Value) (A:Around) (outer:List sba) (s0:Shared) (H Ha:Hp) (E:XK),zfP k (A.deeper (envOfC qual (defScope st) s0.heap.objs.size f cdv)) ->
   DSs (zk0 (CXE P w) P w K mg base N qual (defScope st) f cdv A outer s0 H E) E H Ha (defBody st) s):zbP P w K mg base (CXE P w) (k+1) f fd ps (spD K ps.length (zdL N.length s)):=by
 have hpl:ps.length<=N.length:=by have:=congrArg scB S.pre;rw[saQ] at this;omega
 obtain⟨oc,od,kV,doc,pm,an,cdv,ct,osl,rfl,lk,hcd⟩:=F.ex;refine zEA lk hcd S (fun vs H Q E h=>h.1) fun A outer s0 H vs Q E hr h=>?_;obtain⟨hn,Ha,ds,hs,hv,q⟩:=h;refine⟨_,(hbody cdv A outer s0 H Ha E hr).o,Ha,ds.map Sl.sh++saj (N.length-ds.length) .no,?_,?_⟩
 .refine⟨zbK.refl hs,zh0 hv,fun i d e=>?_,fun i j d d' hij e=>?_,?_,OX.none zla zjd⟩
  .by_cases hi:i < ds.length
   .rw[san (by simpa using hi),sai] at e
    cases q:ds[i]? with
    | none=>rw[q] at e;cases e
    | some d'=>rw[q] at e;cases e
   .rw[sar (by simpa using hi),saw] at e
    split at e<;>cases e
  .by_cases hi:i < ds.length
   .rw[san (by simpa using hi),sai] at e
    cases q:ds[i]? with
    | none=>rw[q] at e;cases e
    | some d'=>rw[q] at e;cases e
   .rw[sar (by simpa using hi),saw] at e
    split at e<;>cases e
  .unfold L2.start
   have:=hv.length;simp only[saR,sag,saV];omega
 .unfold zdL at q
  cases e1:s (ds.map Sl.sh++saj (N.length-ds.length) .no) with
  | stuck=>rw[e1] at q;exact q
  | exn x=>rw[e1] at q;exact q
  | ok r =>
   rw[e1] at q;cases r with
   | nx ρ'=>exact fun σ' H' Ha' _ h'=>q .non H' Ha' h'.g (zaI.mpr rfl)
   | rt d=>exact fun v H' Ha' g rp=>q v H' Ha' g rp
   | bk ρ'=>exact q.elim
   | ct ρ'=>exact q.elim
noncomputable def zAp (x:Str) (fa:Ev->Res (List D)):Ev->Res Fl:=fun ρ=>(fa (shr ρ)).bind fun ds=>if ds.length<=line then .exn ⟨x,[]⟩ else .stuck
section
variable {P:Program}{w:World}{K:sab}{mg:Str->Option Value}{base:Heap}{N:List Str}{qual:Str}{scope:Scope}{f:Addr}{cd:Value}{A:Around}{outer:List sba}{s0:Shared}{H0:Hp}{E:XK}{He H0e:Hp}
end
section
variable {P:Program}{w:World}{st:List sba}{H H':Hp}{h g g' B:Heap}
theorem Un.fly (un:Un (frs st) [] H H' h g)(k:B.StaysIn g)(hfr:g.FunFrames B st)(hB:∀ b,b∉frs st->(H' b≠none∨∃ o,h.get? b=some o)->∃ o,B.get? b=some o)(k':B.StaysIn g')(up:g.UpToSlots g'):Un (frs st) [] H H' h g':=by
 have fst:∀ b,b∈frs st->∀ o,g.get? b=some o->∃ sl,g'.get? b=some { o with slots:=sl }:=fun b hb o e=>by
  obtain⟨_,o',ho',hd⟩:=hfr.mem hb;rw[e] at ho';cases ho';exact up b o e hd
 refine⟨fun b o e n hb hx=>?_,fun b o e n hb hx=>?_,un.free,fun b o e hx=>?_,un.tups,un.frzs,un.tbls⟩
 .exact zfr k k' (hB b hb (.inr ⟨o,e⟩)) (un.keep b o e n hb hx)
 .obtain⟨sl,e1⟩:=un.slot b o e n hb hx
  obtain⟨sl2,e2⟩:=fst b hb _ e1;exact⟨sl2,e2⟩
 .obtain⟨o',e1⟩:=un.there b o e hx
  by_cases hb:b∈frs st
  .obtain⟨sl,e2⟩:=fst b hb _ e1
   exact⟨_,e2⟩
  .exact⟨_,zfr k k' (hB b hb (.inr ⟨o,e⟩)) e1⟩
theorem HOk.fly (ok:HOk P w H' g)(hf:∀ b∈frs st,H' b=none)(k:B.StaysIn g)(hB:∀ b,b∉frs st->(H' b≠none∨∃ o,h.get? b=some o)->∃ o,B.get? b=some o)(k':B.StaysIn g'):HOk P w H' g':=fun a o e=>by
 refine(ok a o e).stay (fun b u hb q=>?_) (fun _ q=>q) fun _ _ q=>q;have hn:H' b≠none:=by
  rcases hb with rfl | hb
  .rw[e];simp
  .rw[hb];simp
 exact zfr k k' (hB b (fun hm=>hn (hf b hm)) (.inl hn)) q
theorem HOk.ext (ok:HOk P w H g){a:Addr}{φ:Heap->Prop}(hn:H a=none)(p:φ g)(ht:∃ o,g.get? a=some o)(hm:∀ h1 h2:Heap,φ h1->(∀ o,h1.get? a=some o->h2.get? a=some o)->φ h2):HOk P w (upd H a (.ext φ)) g:=fun b u e=>by
 by_cases hb:b=a
 .subst hb;rw[zao] at e;cases e;exact⟨p,ht,hm⟩
 .rw[zan hb] at e
  exact(ok b u e).stay (fun c v _ q=>q) (fun c q=>by rw[zan (zaP q hn)];exact q) fun c xs q=>by rw[zan (zaP q hn)];exact q
theorem Un.ext {fs:List Addr}(un:Un fs [] H H' h g){a:Addr}{o:HO}(hn:H' a=none)(ha:h.get? a=none):Un fs [] H (upd H' a o) h g :=
 ⟨un.keep,un.slot,fun b ob e n hx=>by rw[zan (fun z=>by subst z;rw[ha] at e;cases e)];exact un.free b ob e n hx,un.there,fun b xs q=>by rw[zan (zaP (un.tups b xs q) hn)];exact un.tups b xs q,
  fun b ob u q=>by rw[zan (zaP (un.frzs b ob u q) hn)];exact un.frzs b ob u q,fun b ps q=>by
   obtain⟨m,e⟩:=un.tbls b ps q;exact⟨m,by rw[zan (zaP e hn)];exact e⟩⟩
theorem zwY {a C:Addr}{dc:Option Addr}:∀ h1 h2:Heap,ExD a C dc h1->(∀ o,h1.get? a=some o->h2.get? a=some o)->ExD a C dc h2:=fun h1 h2 ⟨o,vs,e,c,d⟩ k=>⟨o,vs,k o e,c,d⟩
end
def hand (X:Cx)(e:Addr):Cx:={ X with A:=X.A.mark (some (.ref e)),calm:=false,xe:=fun _ _=>False }
section
variable {X:Cx}{pins:List (Addr×Obj)}{σ:L2.St}{H:Hp}{s:Shared}{e:Addr}
theorem zCl (ok:X.Ok):(hand X e).Ok :=
 ⟨ok.mod,ok.kind,ok.glob,ok.blt,ok.above,ok.inj,ok.has,ok.cab,fun z=>Bool.noConfusion z,ok.frames,ok.stk,ok.exf,ok.bs,ok.bsz,ok.noex,ok.exfs,ok.funs,ok.frf⟩
theorem Inv.hand (I:Inv X pins σ H s):Inv (DL.hand X e) pins σ H s:=⟨zCl I.ok,I.os,I.bare,I.base,I.loc,I.cell,I.free,I.freeC,I.pin,I.hok,I.len⟩
theorem zvp (ok:X.Ok)(I:Inv (DL.hand X e) pins σ H s):Inv X pins σ H s:=⟨ok,I.os,I.bare,I.base,I.loc,I.cell,I.free,I.freeC,I.pin,I.hok,I.len⟩
theorem zAe {i:Nat}{x:Str}{m:Str->Option Value}{v:Option Value}{h':Heap}{t':Nat}(I:Inv X pins σ H s)(hN:X.N.Nodup)(hi:X.N[i]?=some x)
  (hm:∀ (j:Nat) (y:Str) (v:V),X.N[j]?=some y->σ[j]?=some (some v)->Vis X.env.scope y->∃ u,zcb v u/\zHm X.env s.heap m y u)(hn:h'.Ns X.env.locals (fun y=>if y=x then v else m y))(hs:scI X.env.locals s.heap h') :
  Inv X pins (σ.set i none) H { s with heap:=h',toks:=t' }:=by
 have cne:=I.cne;obtain⟨m0,⟨oL,_,_,hoL,_⟩,_⟩:=id I.loc;have tracked:HOk X.prog X.w H h':=fun b ob e=>by
  refine(I.hok b ob e).stay (fun c w' hc q=>(hs.2 c ?_).trans q) (fun _ q=>q) fun _ _ q=>q;rintro rfl;have hfree:=I.free;rcases hc with rfl | hc
  .rw[hfree] at e;cases e
  .rw[hfree] at hc;cases hc
 refine⟨I.ok,I.os,I.bare,⟨fun b o e n hb hx=>?_,fun b o e n hb hx=>?_,I.base.free,fun b o e hx=>?_,I.base.tups,I.base.frzs,I.base.tbls⟩,⟨_,hn,fun j y v' e1 e2 e3=>?_⟩,fun y c e=>?_,I.free,I.freeC,fun p hp=>?_,tracked,by simpa using I.len⟩
 .exact(hs.2 b (saE (sae (sap e) I.ok.above))).trans (I.base.keep b o e n hb hx)
 .obtain⟨sl,e1⟩:=I.base.slot b o e n hb hx
  exact⟨sl,(hs.2 b (saE (sae (sap e) I.ok.above))).trans e1⟩
 .obtain⟨o',e1⟩:=I.base.there b o e hx
  exact⟨o',(hs.2 b (saE (sae (sap e) I.ok.above))).trans e1⟩
 .by_cases hj:j=i
  .subst hj
   have hiσ:j < σ.length:=by rw[I.len];exact(sac.mp hi).1
   rw[saF hiσ] at e2;cases e2
  .rw[sah (saT hj)] at e2
   obtain⟨u',r',q⟩:=hm j y v' e1 e2 e3;refine⟨u',r',?_⟩;rcases q with⟨k,e⟩ | ⟨k,c,e,z⟩
   .refine .inl ⟨k,?_⟩
    have:y≠x:=fun e=>hj (zoS hN e1 (e▸hi));simp [this,e]
   .exact .inr ⟨k,c,e,z.sameBut hs (cne y c e)⟩
 .obtain⟨w',z⟩:=I.cell y c e
  exact⟨w',z.sameBut hs (cne y c e)⟩
 .obtain⟨e,n,ne,nf,d⟩:=I.pin p hp
  exact⟨(hs.2 p.1 ne).trans e,n,ne,nf,d⟩
theorem zFd {H1:Hp}{s1 s':Shared}{Ex:XK}{ev:Value}{c n:Str}{np hpos:Pos}{ba:Stmt}{suite:List Stmt}{rest:List ExceptHandler}{cv:Value}{ni:Nat}{D:zjM}(hstk:X.stack=X.env::X.outer/\X.env.frame=some X.env.locals)(I:Inv X pins σ H1 s1)
  (h:CXE X.prog X.w X.stack H1 s1 Ex ev s')(hg:Gl X c)(hm:X.mg c=some cv)(hx:∀ C ox H',Ex (.ref C) ox H'->W.exmOne X.K (.ref C) cv=some true)
  (hN:X.N.Nodup)(hi:X.N[ni]?=some n)(hlo:X.env.scope.names.lookup n=some .local)
  (hs:∀ ea C dc ox H' s2,Ex (.ref C) ox H'->(ox=none∨ox=dc)->H' ea=none->Inv (DL.hand X ea) pins (σ.set ni (some (.ref ea))) (upd H' ea (.ext (ExD ea C dc))) s2 ->
   wpAny (model X.prog X.w) (X.A.mark (some (.ref ea))) (execs (ba::suite) X.env) (SP (DL.hand X ea) pins { nx:=fun σ' H=>D.nx (σ'.set ni none) H,rt:=D.rt,bk:=fun σ' H=>D.bk (σ'.set ni none) H,ct:=fun σ' H=>D.ct (σ'.set ni none) H }) (fun _ _=>False) s2)
  (hdb:(c==("__debug__" : Str))=false:=by decide) :
  wpAny (model X.prog X.w) X.A (noteFrame ev X.env) (fun _ si=>wpAny (model X.prog X.w) X.A (setFlight ev none) (fun _ sk =>
   wpAny (model X.prog X.w) X.A (handleBy ev X.env (.ExceptHandler (some (.Name c np)) (some n) (ba::suite) hpos::rest)) (SP X pins D) X.xe sk) X.xe si) X.xe s':=by
 obtain⟨ea,C,a0,B,H',rfl,os,bare,un,hok,hne,fl,hB,ox,⟨dc,hdc,hox⟩,hE⟩:=h;have hA:X.A.frames=some (X.env::X.outer):=by rw[← hstk.1];exact I.ok.frames
 have fl0:=fl;rw[hstk.1] at fl;have hf1:∀ b∈frs X.stack,H' b=none:=fun b hb=>by
  obtain⟨_,o,ho,_⟩:=I.stack.mem hb;exact un.free b o ho (I.stkFree b hb) (by simp)
 have hnew:s1.heap.get? ea=none:=by
  cases q:s1.heap.get? ea with
  | none=>rfl
  | some o =>
   by_cases hb:ea∈frs X.stack
   .obtain⟨_,o',ho',hd⟩:=fl0.2.2.1.mem hb
    obtain⟨oe,vs,he,_,hd',_⟩:=fl0.first
    rw[ho'] at he;cases he;exact absurd hd' (hd vs)
   .obtain⟨u,hu⟩:=hB ea hb (.inr ⟨o,q⟩)
    rw[fl.2.1] at hu;cases hu
 have inv:∀ g,B.StaysIn g->s'.heap.UpToSlots g->Inv X pins σ H' { s' with heap:=g }:=fun g k up =>
  I.call' (ch:=[]) os (Un.fly un fl0.1 fl0.2.2.1 hB k up) (HOk.fly hok hf1 fl0.1 hB k) bare (fun _ z=>nomatch z)
 have invx:∀ g,B.StaysIn g->s'.heap.UpToSlots g->ExD ea C dc g->Inv X pins σ (upd H' ea (.ext (ExD ea C dc))) { s' with heap:=g }:=fun g k up p =>
  I.call' (ch:=[]) os (Un.ext (Un.fly un fl0.1 fl0.2.2.1 hB k up) hne hnew) (HOk.ext (HOk.fly hok hf1 fl0.1 hB k) hne p (let ⟨o,_,e,_⟩:=p;⟨o,e⟩) zwY) bare (fun _ z=>nomatch z)
 refine zzG hA hstk.2 fl hdc fun h4 held4 up4 dc4=>?_;refine zzH held4 dc4 fun h5 fl5 up5 dc5=>?_;have I5:Inv (DL.hand X ea) pins σ H' { s' with heap:=h5 }:=Inv.hand (inv h5 fl5.1 (up4.trans up5));refine wpAny_handleBy_cons (codeAny_handlers_test ?_) (by intro q;cases q);refine zjy I5 hg hm ?_ hdb;obtain⟨ob,hob,hoc⟩:=fl5.there;have LT:W.Looks (model X.prog X.w) h5 (typeOf (.ref ea)) (.ref C):=hoc▸(W.Looks.ld hob).andThen .now;refine(W.exm_one I5.kIn LT (hx C ox H' hE)).here ?_;refine codeAny_handlers_suite_as ?_;refine zzI fl5 dc5 fun h6 fl6 up6 dc6=>?_;obtain⟨oe,vs,he,hc,hd,_⟩:=fl6.first
 have I6:Inv (DL.hand X ea) pins σ (upd H' ea (.ext (ExD ea C dc))) { s' with heap:=h6 }:=Inv.hand (invx h6 fl6.1 ((up4.trans up5).trans up6) ⟨oe,vs,he,hc,hd,(by obtain⟨o6,e6,d6⟩:=dc6;rw[he] at e6;cases e6;exact d6)⟩);refine zhs (X:=DL.hand X ea) (v:=.ref ea) I6 hN hi (.inl hlo) rfl (fun s7 I7=>?_) (.inr hlo);refine sa8 (hs ea C dc ox H' s7 hE hox hne I7) (fun f s8 h8=>?_) fun _ _ z=>z.elim;have hcls:(X.env.scope.kind==.class||(X.env.scope.kind==.module&&X.env.locals != X.env.globals))=false:=by rw[I.ok.kind];rfl
 have fin:∀ {σ':L2.St}{H2:Hp}{Q:Unit->Shared->Prop},Inv (DL.hand X ea) pins σ' H2 s8->(∀ s9,Inv X pins (σ'.set ni none) H2 s9->Q () s9) ->
   wpAny (model X.prog X.w) X.A (do bindName X.env n .none;unbindBehindTheSuite X.env n hpos) Q X.xe s8:=fun {σ' H2 Q} J q=>by
  have J':=zvp I.ok J;obtain⟨m,hn,hl⟩:=id J'.loc;exact wpAny_nameGoes_keeps hlo hn hcls fun h' v hn' hs'=>q _ (zAe J' hN hi hl hn' hs')
 cases f with
 | next=>obtain⟨σ',H2,J,q⟩:=h8;exact fin J fun s9 J9=>⟨_,H2,J9,q⟩
 | brk=>obtain⟨σ',H2,J,q⟩:=h8;exact fin J fun s9 J9=>⟨_,H2,J9,q⟩
 | cont=>obtain⟨σ',H2,J,q⟩:=h8;exact fin J fun s9 J9=>⟨_,H2,J9,q⟩
 | ret u=>obtain⟨v,σ',H2,J,r,q⟩:=h8;exact fin J fun s9 J9=>⟨v,_,H2,J9,r,q⟩
end
theorem PA.nox {X:Cx}{es:List Expr}{t:TA}(h:PA X.nox es t):PA X es t:=fun pos pins s σ H Q I hw =>
 sa8 (h pos pins s σ H Q (I.wish _) hw) (fun _ _ ⟨v,H',I',r,q⟩=>⟨v,H',I'.unwish,r,q⟩) fun _ _ z=>sbb z
section
variable {X:Cx}{pins:List (Addr×Obj)}{σ:L2.St}{H:Hp}{s:Shared}{CX:CXT}{k:Nat}{f:Addr}{fd:FuncData}{ps:List Str}{sp:Sp}{Ex:XK}{x:Str}{p pos:Pos}{e:Expr}{es:List Expr}{t:TA}
theorem zCK {Q:VK}{XE:Value->Shared->Prop}(F:zbP X.prog X.w X.K X.mg X.base CX k f fd ps sp)(hr:zfP k X.A)(hg:Gl X x)(hm:X.mg x=some (.ref f))(hk:scj X.K (.ref f)=true)(hb:zjc X.K fd ps [])(ha:PA X.nox (e::es) t)
  (I:Inv X pins σ H s)(h:t σ H fun vs H1=>sp vs H1 Q Ex)(hx:∀ H1 s1 e s',Inv X pins σ H1 s1->CX X.stack H1 s1 Ex e s'->XE e s')
  (hdb:(x==("__debug__" : Str))=false:=by decide)(he:starEach (e::es) X.env=(false,eval e X.env)::starEach es X.env:=by exact zaH rfl)(hpl:(backTo pos (starEach es X.env)).any (·.1)=false:=by exact za9 rfl) :
  wpAny (model X.prog X.w) X.A (eval (.Call (.Name x p) (e::es) [] pos) X.env) (EP X pins σ Q) XE s:=by
 refine wpAny_Call_Name_kw (zjy I hg hm ?_ hdb);have ha':PA (X.wish XE) (e::es) t:=PA.nox (X:=X.wish XE) ha;refine W.callWith_K (h₀:=X.base) I.ok.mod.kin hk (thn (ha' pos pins s σ H _ (I.wish XE) h) fun us s1 ⟨vs,H1,I1,r,q⟩=>⟨I1.unwish.kIn,?_⟩) he hpl;have I1:=I1.unwish;have hl:us.length=ps.length:=by rw[← r.length];exact F.len _ _ _ _ q
 have hb1:=hb s1 us I1.kIn (by simpa using hl);rw[saZ] at hb1;refine wpAny_call (codeAny_mono (F.run X.A X.stack s1 H1 ⟨us,[]⟩ us vs Q Ex hr I1.env0 hb1 r q) fun r s' hq=>?_);cases r with
 | error e=>exact hx H1 s1 e s' I1 hq
 | ok fl =>
  cases fl with
  | ret u=>exact I1.after hq
  | next=>exact sbb hq
  | brk=>exact sbb hq
  | cont=>exact sbb hq
end
noncomputable def zAl (K:sab) (He H0e Ha:Hp) (r:Res Fl) (D:zjM):Prop:=match r with
 | .exn _=>True
 | r=>zca K E0 He H0e Ha r D
noncomputable def zHo (K:sab) (He H0e Ha:Hp) (σ:L2.St) (ρ:Ev) (r:Res Fl):XK:=fun C ox H'=>∃ x Ha',r=.exn x/\zaJ Ha Ha'/\SRx K He H0e Ha' σ H' ρ/\ExR K Ha' x C ox
structure TB (X:Cx) (st:Stmt) (g:Ev->Res Fl):Prop where
 o:∀ (pins:List (Addr×Obj)) (s:Shared) (σ:L2.St) (H He H0e Ha:Hp) (ρ:Ev) (D:zjM) (XE:Value->Shared->Prop),Inv X pins σ H s->SRx X.K He H0e Ha σ H ρ->zAl X.K He H0e Ha (g ρ) D ->
  (∀ H1 s1 e s',Inv X pins σ H1 s1->CXE X.prog X.w X.stack H1 s1 (zHo X.K He H0e Ha σ ρ (g ρ)) e s'->XE e s')->wpAny (model X.prog X.w) X.A (exec st X.env) (SP X pins D) XE s
noncomputable def zvO (i:Nat) (fa:Ev->Res (List D)) (m:List D->Res D):Ev->Res Fl:=fun ρ=>match fa ρ with
 | .ok ds=>(m ds).bind fun d=>.ok (.nx (ρ.set i (.sh d)))
 | _=>.stuck
section
variable {X:Cx}{E:XK}{e:Expr}{es:List Expr}{fa:Ev->Res (List D)}{pos:Pos}
theorem zDf {i:Nat}{y:Str}{pos':Pos}{k n:Nat}{fn:Addr}{fd:FuncData}{ps:List Str}{m:List D->Res D}{x:Str}{p cpos:Pos}(hN:X.N.Nodup)(hi:X.N[i]?=some y)(hy:Loc X.env.scope y)
  (F:zbP X.prog X.w X.K X.mg X.base (CXE X.prog X.w) k fn fd ps (spD X.K n m))(hr:zfP k X.A)(hg:Gl X x)(hm:X.mg x=some (.ref fn))
  (hk:scj X.K (.ref fn)=true)(hb:zjc X.K fd ps [])(ha:DA X.nox E0 (e::es) fa)(hn:(e::es).length=n:=by rfl)(hl:∀ ρ ds,fa ρ=.ok ds->ds.length=(e::es).length)
  (hdb:(x==("__debug__" : Str))=false:=by decide)(he:starEach (e::es) X.env=(false,eval e X.env)::starEach es X.env:=by exact zaH rfl)(hpl:(backTo cpos (starEach es X.env)).any (·.1)=false:=by exact za9 rfl)
  (hs:swapsWith (.Call (.Name x p) (e::es) [] cpos) (some (.Name y pos')) pos.line X.env=pure false:=by rfl)
  (hf:X.fn y=true∨X.env.scope.names.lookup y=some .local := by first | exact .inl rfl | exact .inr rfl | assumption):TB X (.Assign [.Name y pos'] (.Call (.Name x p) (e::es) [] cpos) pos) (zvO i fa m):=by
 refine⟨fun pins s σ H He H0e Ha ρ D XE I h q hx=>?_⟩;refine wpAny_Assign_Name (thn (zCK (Q:=fun v H1=>D.nx (σ.set i (some v)) H1) F hr hg hm hk hb ha.o I ?_ hx hdb he hpl) fun v s1 ⟨y,H1,I1,r1,q1⟩=>?_) hs
 .refine⟨Ha,ρ,h.g.sub,h.rd,?_⟩
  unfold zvO at q ⊢;cases e1:fa ρ with
  | stuck=>rw[e1] at q;exact q
  | exn x=>rw[e1] at q;exact q.elim
  | ok ds =>
   rw[e1] at q;intro vs H1 H01 g1 r1;refine⟨?_,H01,ds,g1.sub,r1,?_⟩
   .have:=r1.length
    have:=hl ρ ds e1;omega
   .show post _ _ _ _ (m ds) _
    cases e2:m ds with
    | stuck=>simp only[e2] at q;exact q
    | exn x=>exact fun C ox H' Ha' g ex=>⟨x,Ha',by simp only[e2];rfl,g1.z.trans g.z,h.grow (g1.trans g),ex⟩
    | ok d =>
     simp only[e2] at q;exact fun v H' Ha' g rp=>q _ H' Ha' (g1.z.trans g.z) ((h.grow (g1.trans g)).put rp)
 .exact zhs I1 hN hi hy r1 (fun s2 I2=>⟨_,H1,I2,q1⟩) hf
theorem SRx.drop {K:sab}{He H0e Ha H:Hp}{σ:L2.St}{ρ:Ev}(h:SRx K He H0e Ha σ H ρ){i:Nat}:SRx K He H0e Ha (σ.set i none) H (ρ.set i .no):=by
 have key:∀ (j:Nat) (s:Sl),(ρ.set i .no)[j]?=some s->s≠.no->j≠i/\ρ[j]?=some s:=fun j s e hs=>by
  by_cases hj:i=j
  .subst hj
   rw[sb9] at e;cases q:ρ[i]? with
   | none=>rw[q] at e;cases e
   | some s'=>rw[q] at e;cases e;exact absurd rfl hs
  .rw[sah hj] at e
   exact⟨fun z=>hj z.symm,e⟩
 refine⟨h.g,fun j d' e=>?_,fun j d' e=>?_,fun j k d1 d2 hn e1 e2=>?_,by simp [h.ln],h.ex.upd (fun j s e=>?_) (zaJ.refl _) (fun a vs _ e=>e) fun p us _ h0 hp _=>⟨hp,h0⟩⟩
 rotate_left 3
 .by_cases hs:s=.no
  .exact .inr (.inr (.inl hs))
  .obtain⟨hj,e'⟩:=key j s e hs
   exact .inl ⟨e',by rw[sah (saT hj)]⟩
 .obtain⟨hj,e'⟩:=key j _ e (by simp)
  obtain⟨v',h1,h2⟩:=h.rd j d' e';exact⟨v',by rw[sah (saT hj)];exact h1,h2⟩
 .obtain⟨hj,e'⟩:=key j _ e (by simp)
  obtain⟨a,h1,h2⟩:=h.ow j d' e';exact⟨a,by rw[sah (saT hj)];exact h1,h2⟩
 .obtain⟨hj,e1'⟩:=key j _ e1 (by simp)
  obtain⟨hk,e2'⟩:=key k _ e2 (by simp);rw[sah (saT hj),sah (saT hk)];exact h.ap j k d1 d2 hn e1' e2'
noncomputable def zEb (ni:Nat) (r:Fl):Res Fl:=match r with
 | .nx ρ=>.ok (.nx (ρ.set ni .no))
 | .rt d=>.ok (.rt d)
 | .bk ρ=>.ok (.bk (ρ.set ni .no))
 | .ct ρ=>.ok (.ct (ρ.set ni .no))
noncomputable def zzL (x:Exn):D:=match x.flds with
 | []=>.exc x.cls
 | f::fs=>if((f::fs).map (·.1)).Nodup then .ob (.exf x.cls ((f::fs).map (·.1))) ((f::fs).map (·.2)) else .exc x.cls
theorem zqk {β:Type}:∀ {l:List (Str×β)}{f:Str}{d:β},(l.map (·.1)).Nodup->(f,d)∈l->l.lookup f=some d
 | (g,e)::l,f,d,nd,h=>by
  rw[saN,sb7] at nd;rcases sam.mp h with h | h
  .cases h;rw[sbe,beq_self_eq_true]
  .have:f≠g:=fun z=>nd.1 (z▸sa6.mpr ⟨(f,d),h,rfl⟩)
   rw[sbe,beq_eq_false_iff_ne.mpr this];exact zqk nd.2 h
theorem ztI {K:sab}{H:Hp}{fs:List (Str×V)}:∀ (l:List (Str×D)),(∀ n d,(n,d)∈l->∃ v,fs.lookup n=some v/\Rep K H d v)->∃ vs,Reps K H (l.map (·.2)) vs/\l.length=vs.length/\∀ (i:Nat) (f:Str) (v:V),(l.map (·.1))[i]?=some f->vs[i]?=some v->fs.lookup f=some v
 | [],_=>⟨[],Reps.nil_iff.mpr rfl,rfl,fun i f v e=>by simp at e⟩
 | (n,d)::l,h=>by
  obtain⟨v,h1,h2⟩:=h n d sax;obtain⟨vs,h3,h4,h5⟩:=ztI l fun n d hm=>h n d (sak _ hm);refine⟨v::vs,zat.mpr ⟨v,vs,rfl,h2,h3⟩,by simp [h4],fun i f w e1 e2=>?_⟩;cases i with
  | zero=>simp at e1 e2;rw[← e1,← e2];exact h1
  | succ i=>exact h5 i f w (by simpa using e1) (by simpa using e2)
theorem zzK {K:sab}{H:Hp}{x:Exn}{C ea:Addr}{ox dc:Option Addr}(xc:XC K x.cls C)(ex:ExR K H x (.ref C) ox)(hox:ox=none∨ox=dc)(hne:H ea=none):Rep K (upd H ea (.ext (ExD ea C dc))) (zzL x) (.ref ea):=by
 have plain:Rep K (upd H ea (.ext (ExD ea C dc))) (.exc x.cls) (.ref ea):=zd4.mpr ⟨ea,C,dc,rfl,xc,.inl zao⟩;have sm:zaJ H (upd H ea (.ext (ExD ea C dc))):=fun b o q=>by rw[zan (zaP q hne)];exact q
 obtain⟨cls,flds⟩:=x;unfold zzL;cases flds with
 | nil=>exact plain
 | cons f fs =>
  show Rep _ _ (if((f::fs).map (·.1)).Nodup then D.ob (.exf cls ((f::fs).map (·.1))) ((f::fs).map (·.2)) else .exc cls) _
  by_cases nd:((f::fs).map (·.1)).Nodup
  .rw[if_pos nd]
   obtain⟨_,hm⟩:=ex;cases ox with
   | none=>cases hm
   | some a =>
    obtain⟨gs,h1,h2⟩:=hm;have hdc:dc=some a:=by
     rcases hox with z | z
     .cases z
     .exact z.symm
    obtain⟨vs,k1,k2,k3⟩:=ztI (K:=K) (H:=H) (fs:=gs) (f::fs) fun n d hmm=>h2 n d (zqk nd hmm);exact zfQ.mpr ⟨ea,vs,rfl,⟨C,a,gs,xc,hdc▸.inl zao,sm _ _ h1,by rw[sag];exact k2,k3⟩,k1.mono sm⟩
  .rw[if_neg nd];exact plain
noncomputable def zCX (g:Ev->Res Fl) (hit:Str->Bool) (ni:Nat) (sh:Ev->Res Fl):Ev->Res Fl:=fun ρ=>match g ρ with
 | .exn x=>if hit x.cls=true then(sh (ρ.set ni (.sh (zzL x)))).bind (zEb ni) else .stuck
 | r=>r
theorem zET {He H0e:Hp}{st ba:Stmt}{suite:List Stmt}{g sh:Ev->Res Fl}{hit:Str->Bool}{ni:Nat}{c n:Str}{np hpos:Pos}{cv:Value}(hstk:X.stack=X.env::X.outer/\X.env.frame=some X.env.locals)(hb:TB X st g)
  (hg:Gl X c)(hm:X.mg c=some cv)(hhit:∀ x C,hit x=true->XC X.K x C->W.exmOne X.K (.ref C) cv=some true)(hN:X.N.Nodup)(hi:X.N[ni]?=some n)(hlo:X.env.scope.names.lookup n=some .local)
  (hh:∀ ea,DSs (DL.hand X ea) E He H0e (ba::suite) sh)(hdb:(c==("__debug__" : Str))=false:=by decide) :
  DS X E He H0e (.Try [st] [.ExceptHandler (some (.Name c np)) (some n) (ba::suite) hpos] [] [] pos) (zCX g hit ni sh):=by
 refine⟨?_⟩;intro pins s σ H D I ⟨Ha,ρ,h,q⟩;have hq:zAl X.K He H0e Ha (g ρ) D:=by
  unfold zCX at q;cases e1:g ρ with
  | exn x=>trivial
  | stuck=>rw[e1] at q;exact q
  | ok r=>rw[e1] at q;cases r<;>exact q
 refine wpAny_Try_except (wpAny_execs_cons (thn (hb.o pins s σ H He H0e Ha ρ D _ I h hq fun H1 s1 e s' I1 hc=>?_) fun f s1 hf=>?_))
 .have hit1:∀ x,g ρ=.exn x->hit x.cls=true:=fun x e1=>by
   unfold zCX at q;rw[e1] at q
   by_cases z:hit x.cls=true
   .exact z
   .simp only[if_neg z] at q;exact q.elim
  refine zFd hstk I1 hc hg hm (fun C ox H' ⟨x,Ha',e1,_,_,⟨⟨c',ec,xc⟩,_⟩⟩=>?_) hN hi hlo (fun ea C dc ox H' s2 ⟨x,Ha',e1,sm,srx,⟨⟨c',ec,xc⟩,hm2⟩⟩ hox hne I2=>?_) hdb
  .cases ec;exact hhit _ _ (hit1 x e1) xc
  .cases ec
   refine(hh ea).o pins s2 _ _ _ I2 ⟨upd Ha' ea (.ext (ExD ea C dc)),ρ.set ni (.sh (zzL x)),(srx.grow (zaD srx.g.sub hne)).put (zzK xc ⟨⟨C,rfl,xc⟩,hm2⟩ hox (srx.g.sub.free hne)),?_⟩;have sm2:zaJ Ha (upd Ha' ea (.ext (ExD ea C dc))):=sm.trans (zaD srx.g.sub hne).z;unfold zCX at q;rw[e1] at q;simp only[if_pos (hit1 x e1)] at q;cases e2:sh (ρ.set ni (.sh (zzL x))) with
   | stuck=>rw[e2] at q;exact q
   | exn z=>rw[e2] at q;exact q
   | ok r =>
    rw[e2] at q;cases r with
    | nx ρ'=>exact fun σ' H2 H02 s2 h2=>q _ H2 H02 (sm2.trans s2) (SRx.drop h2)
    | rt d=>exact q
    | bk ρ'=>exact fun σ' H2 H02 s2 h2=>q _ H2 H02 (sm2.trans s2) (SRx.drop h2)
    | ct ρ'=>exact fun σ' H2 H02 s2 h2=>q _ H2 H02 (sm2.trans s2) (SRx.drop h2)
 .cases f with
  | next=>exact wpAny_execs_nil (wpAny_execs_nil hf)
  | brk=>exact hf
  | cont=>exact hf
  | ret u=>exact hf
end
structure zFn (k:Nat) (A:Around):Prop where
 dp:A.depth+3*k+5 < recursionLimit
 un:A.units+16*k+200 < cLine
theorem zfP.h {k:Nat}{A:Around}(r:zfP k A):zFn k A:=⟨r.dp,r.un⟩
structure FnH (P:Program) (w:World) (K:sab) (mg:Str->Option Value) (base:Heap) (k:Nat) (f:Addr) (fd:FuncData) (ps:List Str) (sp:Sp):Prop where
 len:∀ vs H Q E,sp vs H Q E->vs.length=ps.length
 run:∀ (A:Around) (outer:List sba) (s:Shared) (H:Hp) (args:Args) (us:List Value) (vs:List V) (Q:VK) (E:XK),zFn k A->zA5 P w K mg base A outer s H->BindsTo s fd args (ps.zip us)->zbT vs us->sp vs H Q E ->
  codeAny (model P w) A (.call (.ref f) args) (CR CX0 outer P w H s Q E) s
theorem FnH.ok {P:Program}{w:World}{K:sab}{mg:Str->Option Value}{base:Heap}{k:Nat}{f:Addr}{fd:FuncData}{ps:List Str}{sp:Sp}(F:FnH P w K mg base k f fd ps sp):zbP P w K mg base CX0 k f fd ps sp :=
 ⟨F.len,fun A outer s H args us vs Q E hr=>F.run A outer s H args us vs Q E (zfP.h hr)⟩
section
variable {X:Cx}{E:XK}{e a:Expr}{es:List Expr}{f:Ev->Res D}{fa:Ev->Res (List D)}{pos:Pos}
end
noncomputable def zr4 (tab:Str->Option Bool) (x:D):Res D:=match x with
 | .exc c=>(match tab c with
  | some b=>.ok (.bl b)
  | none=>.stuck)
 | .ob (.exf c _) _=>(match tab c with
  | some b=>.ok (.bl b)
  | none=>.stuck)
 | _=>.stuck
noncomputable def zvo (K:sab) (tab:Str->Option Bool) (cv:Value):Prop:=∀ c C b,tab c=some b->XC K c C->sc6 K (.ref C) cv=some b
noncomputable def zyo (K:sab) (tab:Str->Option Bool) (cs:List Addr):Prop:=∀ c C b,tab c=some b->XC K c C->W.kitAny K (.ref C) (cs.map saI)=some b
section
variable {X:Cx}{E:XK}{e a:Expr}{es:List Expr}{f:Ev->Res D}{pos:Pos}{tab:Str->Option Bool}
theorem zCg {cV:V}{cv:Value}(hrel:∀ u,zcb cV u->u=cv)(ht:zvo X.K tab cv):zhG X (.builtin "isinstance") (fun vs H Q=>∃ c v b,vs=[v,cV]/\Rep X.K H (.exc c) v/\tab c=some b/\Q (.bl b) H):=by
 intro pins s σ H xs us Q I r h;obtain⟨c,v,b,rfl,h1,h2,q⟩:=h;cases r with
 | cons r1 r2 =>
  cases r2 with
  | cons r3 r4 =>
   cases r4;rename_i u1 u2;obtain rfl:=hrel _ r3;obtain⟨ad,C,dc,rfl,hc,hr⟩:=zd4.mp h1;cases (show u1=saI ad from r1);obtain⟨p,_,_⟩:=hr.ok I.hok;exact sbm (zkS hc.ek hc.ek.isCls) I.kIn p (ht c C b h2 hc) (fun z=>nomatch z) fun tk=>⟨.bl b,H,I.tok _,rfl,q⟩
theorem zzv {cV:V}{σ:L2.St}{H:Hp}{Q:VK}(h:tD X.K E (zbo f (zr4 tab)) σ H Q):tD X.K E f σ H fun v H1=>∃ c v' b,[v,cV]=[v',cV]/\Rep X.K H1 (.exc c) v'/\tab c=some b/\Q (.bl b) H1:=by
 obtain⟨Ha,ρ,hs,hr,q⟩:=h;refine⟨Ha,ρ,hs,hr,?_⟩;unfold zbo at q;cases e1:f ρ with
 | stuck=>rw[e1] at q;exact q
 | exn x=>rw[e1] at q;exact q
 | ok d =>
  rw[e1] at q;intro v H1 H01 g1 r1;have q:post X.K E H Ha (zr4 tab d) Q:=q;cases d with
  | exc c =>
   unfold zr4 at q;cases e2:tab c with
   | none=>simp only[e2] at q;exact q.elim
   | some b=>simp only[e2] at q;exact⟨c,v,b,rfl,r1.mono g1.sub,e2,q _ H1 H01 g1 (rb _)⟩
  | ob k ds =>
   cases k with
   | exf c ks =>
    replace r1:=r1.exf_exc;unfold zr4 at q;cases e2:tab c with
    | none=>simp only[e2] at q;exact q.elim
    | some b=>simp only[e2] at q;exact⟨c,v,b,rfl,r1.mono g1.sub,e2,q _ H1 H01 g1 (rb _)⟩
   | _=>exact q.elim
  | _=>exact q.elim
theorem zAU {x:Str}{p1 p2:Pos}{cV:V}{cv:Value}(hrel:∀ u,zcb cV u->u=cv)(ht:zvo X.K tab cv)(hc:PE X (.Name x p2) (tC cV))(hgi:Gl X "isinstance")(hmi:X.mg "isinstance"=none)(ha:DE X E a f)
  (he:starEach [a,.Name x p2] X.env=(false,eval a X.env)::starEach [.Name x p2] X.env:=by exact zaH rfl)(he2:starEach [.Name x p2] X.env=(false,eval (.Name x p2) X.env)::starEach [] X.env:=by exact zaH rfl)(hpl:(backTo pos (starEach [.Name x p2] X.env)).any (·.1)=false:=by exact za9 rfl) :
  DE X E (.Call (.Name "isinstance" p1) [a,.Name x p2] [] pos) (zbo f (zr4 tab)):=by
 refine⟨?_⟩;exact zaR (zkN (zCg hrel ht) hgi hmi PyProof.Rows.Boot.«isinstance» (zbW ha.o (zbW hc ze7 he2) he) (by decide) (by decide) he hpl) fun σ H Q h=>zzv h
theorem zxT {x:Str}{p1 p2:Pos}{C:Addr}(hg:Gl X x)(hm:X.mg x=some (.ref C))(ht:zvo X.K tab (.ref C))(hgi:Gl X "isinstance")(hmi:X.mg "isinstance"=none)(ha:DE X E a f)(hdb:(x==("__debug__" : Str))=false:=by decide)
  (he:starEach [a,.Name x p2] X.env=(false,eval a X.env)::starEach [.Name x p2] X.env:=by exact zaH rfl):DE X E (.Call (.Name "isinstance" p1) [a,.Name x p2] [] pos) (zbo f (zr4 tab)) :=
 zAU (cV:=.ref C) (fun u h=>h) ht (zsm hg hm rfl hdb) hgi hmi ha he
theorem zxU {x:Str}{p1 p2:Pos}{T:String}(hg:Gl X x)(hm:X.mg x=none)(hv:bootBuiltins x=some (.type T))(ht:zvo X.K tab (.type T))(hgi:Gl X "isinstance")(hmi:X.mg "isinstance"=none)(ha:DE X E a f)(hn:x≠"__name__":=by decide)(hdb:(x==("__debug__" : Str))=false:=by decide)
  (he:starEach [a,.Name x p2] X.env=(false,eval a X.env)::starEach [.Name x p2] X.env:=by exact zaH rfl):DE X E (.Call (.Name "isinstance" p1) [a,.Name x p2] [] pos) (zbo f (zr4 tab)) :=
 zAU (cV:=.ty T) (fun u h=>h) ht (zwa hg hm hv rfl hn hdb) hgi hmi ha he
structure CN (X:Cx) (es:List Expr) (cs:List Addr):Prop where
 o:PA X es (fun σ H Q=>Q (cs.map V.ref) H)
theorem zE8:CN X [] []:=⟨ze7⟩
theorem zm3 {x:Str}{p:Pos}{C:Addr}{cs:List Addr}(hg:Gl X x)(hm:X.mg x=some (.ref C))(h:CN X es cs)(hdb:(x==("__debug__" : Str))=false:=by decide):CN X (.Name x p::es) (C::cs) :=
 ⟨zbW (zsm (v:=.ref C) hg hm rfl hdb) h.o (zaH rfl)⟩
theorem zpR:∀ {cs:List Addr}{us:List Value},zbT (cs.map V.ref) us->us=cs.map saI
 | [],_,.nil=>rfl
 | c::cs,_,.cons r t=>by rw[zpR t];obtain rfl:_=saI c:=r;rfl
theorem zCf {cs:List Addr}(ht:zyo X.K tab cs):zhG X (.builtin "isinstance") (fun vs H Q=>∃ c v b p,vs=[v,.ref p]/\H p=some (.tup (cs.map V.ref))/\Rep X.K H (.exc c) v/\tab c=some b/\Q (.bl b) H):=by
 intro pins s σ H xs us Q I r h;obtain⟨c,v,b,p,rfl,hp,h1,h2,q⟩:=h;cases r with
 | cons r1 r2 =>
  cases r2 with
  | cons r3 r4 =>
   cases r4;rename_i u1 u2;obtain rfl:u2=saI p:=r3;obtain⟨ad,C,dc,rfl,hc,hr⟩:=zd4.mp h1;cases (show u1=saI ad from r1);obtain⟨pe,_,_⟩:=hr.ok I.hok;obtain⟨_,its,rv,ob,k1,k2,n,k3⟩:=I.hok p _ hp;obtain rfl:=zpR rv;obtain⟨oc,od,odt,osl⟩:=ob;cases k2;cases k3;exact W.kia_tup (zkS hc.ek hc.ek.isCls) I.kIn pe k1 (ht c C b h2 hc) (fun z=>nomatch z) fun tk=>⟨.bl b,H,I.tok _,rfl,q⟩
theorem zCz {p1 p2:Pos}{k2}{cs:List Addr}(ht:zyo X.K tab cs)(hc:CN X es cs)(hl:cs.length<=30)(hgi:Gl X "isinstance")(hmi:X.mg "isinstance"=none)(ha:DE X E a f)
  (he:starEach [a,.Tuple es k2 p2] X.env=(false,eval a X.env)::starEach [.Tuple es k2 p2] X.env:=by exact zaH rfl)(he2:starEach [.Tuple es k2 p2] X.env=(false,eval (.Tuple es k2 p2) X.env)::starEach [] X.env:=by exact zaH rfl)(hpl:(backTo pos (starEach [.Tuple es k2 p2] X.env)).any (·.1)=false:=by exact za9 rfl) :
  DE X E (.Call (.Name "isinstance" p1) [a,.Tuple es k2 p2] [] pos) (zbo f (zr4 tab)):=by
 refine⟨?_⟩;refine zaR (zkN (zCf ht) hgi hmi PyProof.Rows.Boot.«isinstance» (zbW ha.o (zbW (zAw hc.o) ze7 he2) he) (by decide) (by decide) he hpl) fun σ H Q ⟨Ha,ρ,hs,hr,q⟩=>⟨Ha,ρ,hs,hr,?_⟩
 unfold zbo at q;cases e1:f ρ with
 | stuck=>rw[e1] at q;exact q
 | exn x=>rw[e1] at q;exact q
 | ok d =>
  rw[e1] at q;intro v H1 H01 g1 r1;have q:post X.K E H Ha (zr4 tab d) Q:=q;cases d with
  | exc c =>
   unfold zr4 at q;cases e2:tab c with
   | none=>simp only[e2] at q;exact q.elim
   | some b =>
    simp only[e2] at q;refine⟨?_,fun p hp=>?_⟩
    .rw[sag];exact sat hl (by decide)
    .have ga:=zaD (o:=.tup (cs.map V.ref)) g1.sub hp
     exact⟨c,v,b,p,rfl,zao,(r1.mono g1.sub).mono ga.s,e2,q _ _ _ (g1.trans ga) (rb _)⟩
  | ob k ds =>
   cases k with
   | exf c ks =>
    replace r1:=r1.exf_exc;unfold zr4 at q;cases e2:tab c with
    | none=>simp only[e2] at q;exact q.elim
    | some b =>
     simp only[e2] at q;refine⟨?_,fun p hp=>?_⟩
     .rw[sag];exact sat hl (by decide)
     .have ga:=zaD (o:=.tup (cs.map V.ref)) g1.sub hp
      exact⟨c,v,b,p,rfl,zao,(r1.mono g1.sub).mono ga.s,e2,q _ _ _ (g1.trans ga) (rb _)⟩
   | _=>exact q.elim
  | _=>exact q.elim
end
end DL
namespace DL
open PySem PySem.Spec PyProof.Rows L2 PySem.W
structure zr6 (K:Frag) (x:Str) (C:Addr):Prop where
 ns:nsIn K mainGlobals x=some (some (.ref C))
 ty:typeIn K (.ref C)=some (.type "type")
 ob:mroIn K C (.type "object")=some true
 be:subIn K (.ref C) (.type "BaseException")=some true
theorem zr6.isCls {K:Frag}{x:Str}{C:Addr}(Z:zr6 K x C):(clsIn K C).isSome=true:=by
 obtain⟨cd,a,b⟩:=Option.bind_eq_some_iff.mp Z.ob;rw[a];rfl
theorem zr6.kitCls {K:Frag}{x:Str}{C:Addr}(Z:zr6 K x C){t:Value}:W.kitCls K t (.ref C)=subIn K t (.ref C):=by
 show(if((clsIn K C).isSome&&typeIn K (.ref C)==some (.type "type"))=true then subIn K t (.ref C) else none)=_;rw[Z.isCls,Z.ty];rfl
theorem zr6.exm {K:Frag}{x:Str}{C:Addr}(Z:zr6 K x C){t:Value}{b:Bool}(h:subIn K t (.ref C)=some b):exmOne K t (.ref C)=some b:=by
 unfold exmOne;rw[Z.be,if_pos (by decide),Z.kitCls,h]
theorem zr6.kit {K:Frag}{x:Str}{C R:Addr}(Z:zr6 K x C){b:Bool}(hR:subIn K (.ref R) (.ref R)=some true)(h:subIn K (.ref R) (.ref C)=some b):kitOne K (.ref R) (.ref C)=some b:=by
 unfold kitOne
 by_cases e:(saI R==saI C)=true
 .rw[if_pos e]
  cases (saI.inj (beq_iff_eq.mp e));rw[← hR,h]
 .rw[if_neg e,Z.kitCls,h]
theorem zAA {K:Frag}{C:Addr}{T:String}{b:Bool}(hm:kitMeta T=true)(h:subIn K (.ref C) (.type T)=some b):kitOne K (.ref C) (.type T)=some b:=by
 unfold kitOne;rw[if_neg (by intro z;cases beq_iff_eq.mp z)];show(if kitMeta T=true then subIn K (.ref C) (.type T) else none)=_;rw[if_pos hm,h]
theorem zuS {K:Frag}{t:Value}:kitAny K t []=some false:=rfl
theorem ziv {K:Frag}{t c:Value}{r:List Value}{b:Bool}(h:kitOne K t c=some false)(h':kitAny K t r=some b):kitAny K t (c::r)=some b:=by unfold kitAny;rw[h];exact h'
theorem zsD:∀ T∈zhi,kitMeta T=true:=by decide +kernel
theorem zuR:kitMeta "ValueError"=true:=by decide +kernel
theorem XC.inj {K:Frag}{x:Str}{C C':Addr}(a:XC K x C)(b:XC K x C'):C=C':=by
 have:=a.ns.symm.trans b.ns;simpa using this
noncomputable def zpY:List (Str×Bool)->Str->Option Bool
 | [],_=>none
 | (x,b)::r,c=>if x=c then some b else zpY r c
theorem zfq {K:Frag}{p:Str->Addr->Bool->Prop}:∀ {l:List (Str×Bool)},(∀ q∈l,∃ C,XC K q.1 C/\p q.1 C q.2)->∀ c C b,zpY l c=some b->XC K c C->p c C b
 | [],_,c,C,b,h,_=>by cases h
 | (x,v)::r,H,c,C,b,h,xc=>by
  unfold zpY at h
  by_cases e:x=c
  .subst e
   rw[if_pos rfl] at h;cases h;obtain⟨C',xc',q⟩:=H _ sax;obtain rfl:=XC.inj xc xc';exact q
  .rw[if_neg e] at h
   exact zfq (fun q hq=>H q (sak _ hq)) c C b h xc
def zu0 (l:List (Str×Bool))(c:Str):Bool:=zpY l c==some true
theorem zzy {K:Frag}{l:List (Str×Bool)}{cv:Value}(H:∀ q∈l,∃ C,XC K q.1 C/\exmOne K (.ref C) cv=some q.2):∀ x C,zu0 l x=true->XC K x C->exmOne K (.ref C) cv=some true:=fun x C h xc =>
 zfq (p:=fun _ C b=>exmOne K (.ref C) cv=some b) H x C true (by unfold zu0 at h;exact beq_iff_eq.mp h) xc
end DL
namespace Com
open PySem L2 DL
section
variable {α β:Type}
theorem zdP {x:Exn}{f:α->Res β}:(Res.exn x:Res α).bind f=.exn x:=zav rfl
end
noncomputable def zFq (hit:Str->Bool) (ni:Nat) (sh:Ev->Res Fl) (ρ:Ev) (r:Res Fl):Res Fl:=match r with
 | .exn x=>if hit x.cls=true then(sh (ρ.set ni (.sh (zzL x)))).bind (zEb ni) else .stuck
 | r=>r
theorem zw0 {g:Ev->Res Fl}{hit:Str->Bool}{ni:Nat}{sh:Ev->Res Fl}{ρ:Ev}:zCX g hit ni sh ρ=zFq hit ni sh ρ (g ρ):=zav rfl
theorem zCs {hit:Str->Bool}{ni:Nat}{sh:Ev->Res Fl}{ρ:Ev}{r:Fl}:zFq hit ni sh ρ (.ok r)=.ok r:=zav rfl
theorem zAC {ni:Nat}{ρ:Ev}:zEb ni (.nx ρ)=.ok (.nx (ρ.set ni .no)):=zav rfl
noncomputable def zDx (i:Nat) (m:List D->Res D) (ρ:Ev) (r:Res (List D)):Res Fl:=match r with
 | .ok ds=>(m ds).bind (zFw i ρ)
 | _=>.stuck
theorem zsP {i:Nat}{fa:Ev->Res (List D)}{m:List D->Res D}{ρ:Ev}:zvO i fa m ρ=zDx i m ρ (fa ρ):=zav rfl
theorem zo5 {i:Nat}{m:List D->Res D}{ρ:Ev}{ds:List D}:zDx i m ρ (.ok ds)=(m ds).bind (zFw i ρ):=zav rfl
end Com
namespace DL
open PySem PySem.Spec PyProof.Rows L2
section
variable {X:Cx}{E:XK}{tg a b c:Expr}{f g:Ev->Res D}
end
section
variable {X:Cx}{pins:List (Addr×Obj)}{σ:L2.St}{H:Hp}{s:Shared}{h':Heap}
theorem zpU {t':Nat}{fp:List Addr}{T:Addr}{xs:List V}(I:Inv X pins σ H s)(k:∀ b o,b∉fp->s.heap.get? b=some o->h'.get? b=some o)(hf:∀ b∈fp,zuo X pins H b)(hT:s.heap.objs.size<=T)
  (new:zcp X.prog X.w (upd H T (.tup xs)) h' T (.tup xs)):Inv X pins σ (upd H T (.tup xs)) { s with heap:=h',toks:=t' }:=by
 have hn:H T=none:=I.hok.fresh hT;have nit:∀ b u,H b=some u->b∉fp:=fun b u e z=>by rw[(hf b z).1] at e;cases e
 refine I.step (g':=s.gens) (d':=s.drawn) (ch:=fp) (fun b hb=>?_) (fun b o _ _ hc e _=>k b o hc e) (fun b o _ _ hc e _=>⟨o.slots,k b o hc e⟩) (fun b o _ e n=>?_)
  (fun b o hc e=>⟨o,k b o hc e⟩) (fun b xs e=>by rw[zan (zaP e hn)];exact e) (fun b o u e=>by rw[zan (zaP e hn)];exact e) (fun b ps e=>⟨#[],by rw[zan (zaP e hn),e];simp⟩) (fun m hm=>?_) (fun b u e=>?_) I.bare
 .obtain⟨_,f1,_,f3,f4,f5⟩:=hf b hb
  exact⟨f3,f1,f4,f5⟩
 .rw[zan (saE (sae (sap e) hT))];exact n
 .obtain⟨o,es,ep,ho,r⟩:=hm
  exact⟨o,es,ep,k _ o (fun z=>(hf _ z).2.1 rfl) ho,r⟩
 .by_cases hb:b=T
  .subst hb;rw[zao] at e;cases e;exact new
  .rw[zan hb] at e
   refine(I.hok b u e).stay (fun c v hc q=>k c v ?_ q) (fun c q=>by rw[zan (zaP q hn)];exact q) fun c xs q=>by rw[zan (zaP q hn)];exact q
   rcases hc with z | z
   .rw[z];exact nit b u e
   .exact nit c _ z
theorem zvy {t':Nat}{fp:List Addr}(I:Inv X pins σ H s)(k:∀ b o,b∉fp->s.heap.get? b=some o->h'.get? b=some o)(hf:∀ b∈fp,zuo X pins H b):Inv X pins σ H { s with heap:=h',toks:=t' }:=by
 have nit:∀ b u,H b=some u->b∉fp:=fun b u e z=>by rw[(hf b z).1] at e;cases e
 refine I.step (g':=s.gens) (d':=s.drawn) (ch:=fp) (fun b hb=>?_) (fun b o _ _ hc e _=>k b o hc e) (fun b o _ _ hc e _=>⟨o.slots,k b o hc e⟩) (fun b o _ e n=>n)
  (fun b o hc e=>⟨o,k b o hc e⟩) (fun b xs e=>e) (fun b o u e=>e) (fun b ps e=>⟨#[],by rw[e];simp⟩) (fun m hm=>?_) (fun b u e=>?_) I.bare
 .obtain⟨_,f1,_,f3,f4,f5⟩:=hf b hb
  exact⟨f3,f1,f4,f5⟩
 .obtain⟨o,es,ep,ho,r⟩:=hm
  exact⟨o,es,ep,k _ o (fun z=>(hf _ z).2.1 rfl) ho,r⟩
 .refine(I.hok b u e).stay (fun c v hc q=>k c v ?_ q) (fun _ q=>q) fun _ _ q=>q
  rcases hc with z | z
  .rw[z];exact nit b u e
  .exact nit c _ z
end
noncomputable def Ite (K:sab) (a:Addr):It :=
 ⟨fun i H=>∃ xs x,SqL K H a xs/\xs[i]?=some x,fun i H x H'=>∃ p y,H p=none/\x=.ref p/\(∀ xs,SqL K H a xs->xs[i]?=some y)/\H'=upd H p (.tup [.int i,y]),fun i H=>∃ xs,SqL K H a xs/\xs.length<=i⟩
theorem zvB {P:Program}{w:World}{K:sab}{elts:List Expr}{k:Nat}{pos:Pos}(a it e:Addr)(hne:e≠it)(hae:a≠e)(hai:a≠it) :
  zA3 P w K (.Tuple elts k pos) (Ite K a) [e,it] e (fun i h=>(∃ old,IsEnum h e it i old)/\h.IsListIter it a i) where
 mem:=by simp
 obj:=fun i h st b hb=>by
  obtain⟨⟨old,he⟩,o,h1,h2,h3⟩:=st;rcases sam.mp hb with rfl | hb
  .exact⟨_,he,fun v z=>by cases z⟩
  .rcases sam.mp hb with rfl | hb
   .exact⟨o,h1,fun v z=>by rw[h3] at z;cases z⟩
   .cases hb
 keep:=fun i h h' st k=>by
  obtain⟨⟨old,he⟩,hi⟩:=st;exact⟨⟨old,k e (by simp) _ he⟩,hi.at fun o y=>k it (by simp) o y⟩
 item:=by
  intro X hP hw hK hc i pins s σ H E I hf st hg;subst hP hw hK;obtain⟨xs,x,hq,hx⟩:=hg;obtain⟨its,rv,p,hz⟩:=I.list hq;obtain⟨u,hu,ru⟩:=rv.get hx;have W:=WalksT.enumerate (prog:=X.prog) (w:=X.w) (I.ok.hd hc) e it a hne hae hai its.toArray;have hil:i < its.toArray.size:=by simpa using (sac.mp hu).1
  refine W.item i s _ _ hil ⟨st.1,st.2,p.isList⟩ fun T vals h' tk hPt hT hTup hMid hk=>?_;refine⟨_,rfl,W.go elts k pos i T _ _ _ hMid fun h'' st'' hk''=>?_⟩;obtain⟨t,y,hy,rfl⟩:=hPt;have hyu:y=u:=by
   have:its[i]?=some y:=by simpa using hy
   rw[hu] at this;cases this;rfl
  subst hyu;obtain⟨o,ho,hr⟩:=hTup;have ho':=hk'' T o (W.apart i T _ hMid) ho;refine⟨.ref T,upd H T (.tup [.int i,x]),zpU (s:=s) (h':=h'') (t':=tk) I (fun b o hb e=>hk'' b o hb (hk b o hb e)) hf hT ⟨by show 2<=sizeLine;decide,[.int i t,y],.cons ⟨t,rfl⟩ (.cons ru .nil),o,ho',hr⟩,rfl,⟨T,x,I.hok.fresh hT,rfl,fun ys hy=>by rw[I.list_inj hy hq];exact hx,rfl⟩,⟨st''.1,st''.2.1⟩,fun b hb=>?_⟩;have hb0:=(hf b hb).1;obtain⟨ob,hob,_⟩:∃ o,s.heap.get? b=some o/\∀ v,o.data≠.cell v:=by
   obtain⟨⟨old,he⟩,o,h1,h2,h3⟩:=st;rcases sam.mp hb with rfl | hb
   .exact⟨_,he,fun v z=>by cases z⟩
   .rcases sam.mp hb with rfl | hb
    .exact⟨o,h1,fun v z=>by rw[h3] at z;cases z⟩
    .cases hb
  rw[zan (saE (sae (sap hob) hT))];exact hb0
 done:=by
  intro X hP hw hK hc i pins s σ H E I hf st hg;subst hP hw hK;obtain⟨xs,hq,hx⟩:=hg;obtain⟨its,rv,p,hz⟩:=I.list hq;have hl:=rv.length;obtain⟨⟨old,he⟩,hi⟩:=st;exact wpAny_pyNext_enum_end (I.ok.hd hc) he hi p.isList (by simp;omega) fun h' hx=>⟨rfl,zvy (t':=s.toks) I (fun b o hb e=>hx b o (fun z=>hb (by simp [z])) e) hf⟩
 self:=fun _ _ _ _ _ st h=>by
  obtain⟨⟨old,he⟩,_⟩:=st;exact wpAny_pyIter_enum he h
section
variable {X:Cx}{E:XK}{elts:List Expr}{k:Nat}{tp:Pos}{e a b:Expr}{f g:Ev->Res D}
noncomputable def zGp (K:sab) (ta:TA):TI:=fun σ H R=>ta σ H fun vs H1=>∃ a,vs=[.ref a]/\(∃ xs,SqL K H1 a xs)/\R (Ite K a) H1
theorem zBN {ta:TA}{p pos:Pos}(hg:Gl X "enumerate")(hm:X.mg "enumerate"=none)(ha:PA X [a] ta)(hs:starEach [a] X.env=[(false,eval a X.env)]:=by rfl):PI X (.Tuple elts k tp) (.Call (.Name "enumerate" p) [a] [] pos) (zGp X.K ta):=by
 intro pins s σ H R I h;refine Call_ (znO I hg hm PyProof.Rows.Boot.«enumerate» (sbK (thn (ha pos pins s σ H _ I h) fun us s1 ⟨vs,H1,I1,r1,q1⟩=>?_) hs rfl));obtain⟨l,e,⟨xs,hq⟩,q⟩:=q1;subst e;cases r1 with
 | cons r rr =>
  cases rr;cases r;obtain⟨its,rv,p,hz⟩:=I1.list hq;have hlt:l < s1.heap.objs.size:=by obtain⟨o,n,e,_⟩:=p;exact sap e
  refine call_enumerate_list p.isList fun h' he hi hsz hk=>?_;refine wpAny_pyIter_enum he ?_;refine⟨s1.heap.objs.size+1,[s1.heap.objs.size+1,s1.heap.objs.size],_,_,H1,rfl,I1.kept (t':=s1.toks) hk,zvB l s1.heap.objs.size (s1.heap.objs.size+1) (Nat.succ_ne_self _) (saE (Nat.lt_succ_of_lt hlt)) (saE hlt),⟨⟨_,he⟩,hi⟩,fun b hb=>?_,q⟩;have hb':s1.heap.objs.size<=b:=by
   rcases sam.mp hb with rfl | hb
   .omega
   .rcases sam.mp hb with rfl | hb
    .exact saq _
    .cases hb
  exact I1.fpOk hb' (I1.hok.fresh hb')
def numbered (n:Nat):List D->List D
 | []=>[]
 | d::ds=>.tup [.int n,d]::numbered (n+1) ds
theorem ze9:∀ (ds:List D) (n:Nat),(numbered n ds).length=ds.length
 | [],_=>rfl
 | d::ds,n=>by simp [numbered,ze9 ds]
theorem zg0:∀ (ds:List D) (n i:Nat),(numbered n ds)[i]?=(ds[i]?).map fun d=>D.tup [.int (n+i:Nat),d]
 | [],_,_=>by simp [numbered]
 | d::ds,n,0=>by simp [numbered]
 | d::ds,n,i+1=>by simp only[numbered,saW];rw[zg0 ds (n+1) i,show n+1+i=n+(i+1) by omega]
noncomputable def zyT (f:Ev->Res D):Ev->Res (List D):=fun ρ=>(f ρ).bind fun d=>match d with
 | .lst ds=>.ok (numbered 0 ds)
 | _=>.stuck
theorem zvC {K:sab}{H Ha:Hp}{p:Addr}{vs:List V}{ds:List D}(hs:zaJ Ha H)(hp:H p=none)(r:Reps K Ha ds vs):∃ H₀2,zbK H Ha (upd H p (.tup vs)) H₀2/\Rep K H₀2 (.tup ds) (.ref p) :=
 ⟨upd Ha p (.tup vs),zaD hs hp,zaw.mpr ⟨p,vs,rfl,SqT.of zao,r.mono (zaD (o:=.tup vs) hs hp).z⟩⟩
theorem zpj {p pos:Pos}(hg:Gl X "enumerate")(hm:X.mg "enumerate"=none)(h:DE X E a f)(hn:nst a=true:=by exact rfl):DI X E (.Tuple elts k tp) (.Call (.Name "enumerate" p) [a] [] pos) (zyT f):=by
 refine⟨zgX (zBN hg hm (zbW h.o ze7 (zd5 hn)) (zd5 hn)) fun σ H R ⟨Ha,ρ,hs,hr,q⟩=>⟨Ha,ρ,hs,hr,?_⟩⟩;unfold zyT at q;cases e1:f ρ with
 | stuck=>rw[e1] at q;exact q
 | exn x=>rw[e1] at q;exact q
 | ok d =>
  rw[e1] at q;intro v H1 H01 g1 r1;cases d with
  | lst ds =>
   obtain⟨l,vs,rfl,hv,hrv⟩:=zaq.mp r1;refine⟨l,rfl,⟨vs,zaJ.sqL g1.sub hv⟩,q _ H1 H01 g1 ⟨fun i H' Ha' s1 s2 hi=>?_,fun i H' Ha' x H2 d s1 s2 hd hy=>?_,fun i H' Ha' s1 s2 hi=>?_⟩⟩
   .rw[ze9] at hi
    exact⟨vs,vs[i]'(by rw[← hrv.length];exact hi),zaJ.sqL (s1.trans s2) hv,by simp⟩
   .obtain⟨p,y,hp,rfl,hy,rfl⟩:=hy
    rw[zg0] at hd;cases ei:ds[i]? with
    | none=>rw[ei] at hd;cases hd
    | some d' =>
     rw[ei] at hd;cases hd;obtain⟨u,k1,k2⟩:=hrv.get ei;have:=hy vs (zaJ.sqL (s1.trans s2) hv);rw[k1] at this;cases this;exact zvC s2 hp (Reps.cons (zak.mpr (by simp)) (Reps.cons (k2.mono s1) Reps.nil))
   .rw[ze9] at hi
    exact⟨vs,zaJ.sqL (s1.trans s2) hv,by rw[← hrv.length];exact hi⟩
  | _=>exact q.elim
end
noncomputable def Itz (K:sab) (a b:Addr):It :=
 ⟨fun i H=>∃ xs ys x y,SqL K H a xs/\SqL K H b ys/\xs[i]?=some x/\ys[i]?=some y,fun i H x H'=>∃ p y z,H p=none/\x=.ref p/\(∀ xs,SqL K H a xs->xs[i]?=some y)/\(∀ xs,SqL K H b xs->xs[i]?=some z)/\H'=upd H p (.tup [y,z]),
  fun i H=>∃ xs ys,SqL K H a xs/\SqL K H b ys/\min xs.length ys.length<=i⟩
theorem zyG {P:Program}{w:World}{K:sab}{elts:List Expr}{k:Nat}{pos:Pos}(z TI TO i1 i2 a b:Addr)(D:ZipApart z TI TO i1 i2 a b) :
  zA3 P w K (.Tuple elts k pos) (Itz K a b) [z,TI,TO,i1,i2] z (fun i h=>IsZip h z TI TO .none/\IsPair h TI (.ref i1) (.ref i2)/\(∃ a b,IsPair h TO a b)/\h.IsListIter i1 a i/\h.IsListIter i2 b i) where
 mem:=by simp
 obj:=fun i h st b hb=>by
  obtain⟨hz,hTI,⟨a',b',hTO⟩,⟨o1,e1,c1,d1⟩,⟨o2,e2,c2,d2⟩⟩:=st;simp only[sam,saU,or_false] at hb;rcases hb with rfl | rfl | rfl | rfl | rfl
  .exact⟨_,hz,fun v z=>by cases z⟩
  .exact⟨_,hTI,fun v z=>by cases z⟩
  .exact⟨_,hTO,fun v z=>by cases z⟩
  .exact⟨_,e1,fun v z=>by rw[d1] at z;cases z⟩
  .exact⟨_,e2,fun v z=>by rw[d2] at z;cases z⟩
 keep:=fun i h h' st k=>by
  obtain⟨hz,hTI,⟨a',b',hTO⟩,h1,h2⟩:=st;exact⟨k z (by simp) _ hz,k TI (by simp) _ hTI,⟨a',b',k TO (by simp) _ hTO⟩,h1.at fun o y=>k i1 (by simp) o y,h2.at fun o y=>k i2 (by simp) o y⟩
 item:=by
  intro X hP hw hK hc i pins s σ H E I hf st hg;subst hP hw hK;obtain⟨xs,ys,x,y,hqx,hqy,hx,hy⟩:=hg;obtain⟨its,rv,p,hz⟩:=I.list hqx;obtain⟨jts,rw_,p',hz'⟩:=I.list hqy;obtain⟨u,hu,ru⟩:=rv.get hx;obtain⟨u',hu',ru'⟩:=rw_.get hy;have W:=WalksT.zip2 (prog:=X.prog) (w:=X.w) (I.ok.hd hc) z TI TO i1 i2 a b D its.toArray jts.toArray;have hil:i < min its.toArray.size jts.toArray.size:=by
   have h1:=(sac.mp hu).1;have h2:=(sac.mp hu').1;simp only[sao];omega
  have sub:∀ b,b∉[z,TI,TO,i1,i2]->b∉[z,TO,i1,i2]:=fun b hb hc=>hb (by simp only[sam,saU,or_false] at hc ⊢;rcases hc with h | h | h | h<;>simp [h]);refine W.item i s _ _ hil ⟨st.1,st.2.1,st.2.2.1,st.2.2.2.1,st.2.2.2.2,p.isList,p'.isList⟩ fun T vals h' tk hPt hT hTup hMid hk=>?_;refine⟨_,rfl,W.go elts k pos i T _ _ _ hMid fun h'' st'' hk''=>?_⟩;obtain⟨v,v',hv,hv',rfl⟩:=hPt;have hyu:v=u:=by
   have:its[i]?=some v:=by simpa using hv
   rw[hu] at this;cases this;rfl
  have hyu':v'=u':=by
   have:jts[i]?=some v':=by simpa using hv'
   rw[hu'] at this;cases this;rfl
  subst hyu hyu';obtain⟨o,ho,hr⟩:=hTup;have ho':=hk'' T o (W.apart i T _ hMid) ho;refine⟨.ref T,upd H T (.tup [x,y]),zpU (s:=s) (h':=h'') (t':=tk) I (fun b o hb e=>hk'' b o (sub b hb) (hk b o (sub b hb) e)) hf hT ⟨by show 2<=sizeLine;decide,[v,v'],.cons ru (.cons ru' .nil),o,ho',hr⟩,rfl,⟨T,x,y,I.hok.fresh hT,rfl,fun ys hy'=>by rw[I.list_inj hy' hqx];exact hx,fun ys hy'=>by rw[I.list_inj hy' hqy];exact hy,rfl⟩,
   ⟨st''.1,st''.2.1,st''.2.2.1,st''.2.2.2.1,st''.2.2.2.2.1⟩,fun b hb=>?_⟩
  have hb0:=(hf b hb).1;obtain⟨ob,hob⟩:∃ o,s.heap.get? b=some o:=by
   obtain⟨hz,hTI,⟨a',b',hTO⟩,⟨o1,e1,c1,d1⟩,⟨o2,e2,c2,d2⟩⟩:=st;simp only[sam,saU,or_false] at hb;rcases hb with rfl | rfl | rfl | rfl | rfl
   .exact⟨_,hz⟩
   .exact⟨_,hTI⟩
   .exact⟨_,hTO⟩
   .exact⟨_,e1⟩
   .exact⟨_,e2⟩
  rw[zan (saE (sae (sap hob) hT))];exact hb0
 done:=by
  intro X hP hw hK hc i pins s σ H E I hf st hg;subst hP hw hK;obtain⟨xs,ys,hqx,hqy,hx⟩:=hg;obtain⟨its,rv,p,hz⟩:=I.list hqx;obtain⟨jts,rw_,p',hz'⟩:=I.list hqy;have hl:=rv.length;have hl':=rw_.length;obtain⟨hz,hTI,⟨a',b',hTO⟩,h1,h2⟩:=st;refine wpAny_pyNext_zip_end (I.ok.hd hc) D hz hTI hTO h1 h2 p.isList p'.isList ?_ fun h' hk=>⟨rfl,zvy (t':=s.toks) I (fun c o hb e=>hk c o (fun x=>hb (by simp [x])) (fun x=>hb (by simp [x])) (fun x=>hb (by simp [x])) (fun x=>hb (by simp [x])) e) hf⟩
  by_cases hle:xs.length<=ys.length
  .left;simp;omega
  .right;simp;omega
 self:=fun _ _ _ _ _ st h=>by
  obtain⟨hz,_⟩:=st;exact wpAny_pyIter_zip hz h
section
variable {X:Cx}{E:XK}{elts:List Expr}{k:Nat}{tp:Pos}{e a b:Expr}{f g:Ev->Res D}
noncomputable def zHO (K:sab) (ta:TA):TI:=fun σ H R=>ta σ H fun vs H1=>∃ a b,vs=[.ref a,.ref b]/\(∃ xs,SqL K H1 a xs)/\(∃ xs,SqL K H1 b xs)/\R (Itz K a b) H1
theorem zDX {ta:TA}{p pos:Pos}(hg:Gl X "zip")(hm:X.mg "zip"=none)(ha:PA X [a,b] ta)(hs:starEach [a,b] X.env=[(false,eval a X.env),(false,eval b X.env)]:=by rfl)(hs2:starEach [b] X.env=[(false,eval b X.env)]:=by rfl) :
  PI X (.Tuple elts k tp) (.Call (.Name "zip" p) [a,b] [] pos) (zHO X.K ta):=by
 intro pins s σ H R I h;refine Call_ (znO I hg hm PyProof.Rows.Boot.«zip» (sbK (thn (ha pos pins s σ H _ I h) fun us s1 ⟨vs,H1,I1,r1,q1⟩=>?_) (by rw[hs,hs2]) (by rw[hs2];rfl)));obtain⟨l,l',e,⟨xs,hq⟩,⟨ys,hq'⟩,q⟩:=q1;subst e;cases r1 with
 | cons r rr =>
  cases rr with
  | cons r' rr =>
   cases rr;cases r;cases r';obtain⟨its,rv,p,hz⟩:=I1.list hq;obtain⟨jts,rv',p',hz'⟩:=I1.list hq';have hlt:l < s1.heap.objs.size:=by obtain⟨o,n,e,_⟩:=p;exact sap e
   have hlt':l' < s1.heap.objs.size:=by obtain⟨o,n,e,_⟩:=p';exact sap e
   refine call_zip_2 p.isList p'.isList fun h' hz hTI hTO hi1 hi2 hsz hk=>?_;refine wpAny_pyIter_zip hz ?_;refine⟨s1.heap.objs.size+4,[s1.heap.objs.size+4,s1.heap.objs.size+2,s1.heap.objs.size+3,s1.heap.objs.size,s1.heap.objs.size+1],_,_,H1,rfl,I1.kept (t':=s1.toks) hk,zyG _ _ _ _ _ l l' (zipApart_new hlt hlt'),⟨hz,hTI,⟨_,_,hTO⟩,hi1,hi2⟩,fun b hb=>?_,q⟩;have hb':s1.heap.objs.size<=b:=by
    simp only[sam,saU,or_false] at hb;rcases hb with rfl | rfl | rfl | rfl | rfl<;>omega
   exact I1.fpOk hb' (I1.hok.fresh hb')
def zcd:List D->List D->List D
 | d::ds,e::es=>.tup [d,e]::zcd ds es
 | _,_=>[]
theorem zjp:∀ (ds es:List D),(zcd ds es).length=min ds.length es.length
 | [],_=>by simp [zcd]
 | _::_,[]=>by simp [zcd]
 | d::ds,e::es=>by simp [zcd,zjp ds es]
theorem znJ:∀ (ds es:List D) (i:Nat) (d:D),(zcd ds es)[i]?=some d->∃ x y,ds[i]?=some x/\es[i]?=some y/\d=.tup [x,y]
 | [],_,_,_,h=>by simp [zcd] at h
 | _::_,[],_,_,h=>by simp [zcd] at h
 | d::ds,e::es,0,_,h=>by simp [zcd] at h;exact⟨d,e,rfl,rfl,h.symm⟩
 | d::ds,e::es,i+1,_,h=>by
  simp only[zcd,saW] at h;obtain⟨x,y,h1,h2,h3⟩:=znJ ds es i _ h;exact⟨x,y,by simpa using h1,by simpa using h2,h3⟩
noncomputable def zAm (f g:Ev->Res D):Ev->Res (List D):=fun ρ=>(f ρ).bind fun d=>(g ρ).bind fun e=>match d,e with
 | .lst ds,.lst es=>.ok (zcd ds es)
 | _,_=>.stuck
theorem zAS {p pos:Pos}(hg:Gl X "zip")(hm:X.mg "zip"=none)(h:DE X E a f)(h':DE X E b g)(hn:nst a=true:=by exact rfl)(hn':nst b=true:=by exact rfl):DI X E (.Tuple elts k tp) (.Call (.Name "zip" p) [a,b] [] pos) (zAm f g):=by
 refine⟨zgX (zDX hg hm (zbW h.o (zbW h'.o ze7 (zd5 hn')) (zaH hn)) (by rw[zaH hn,zd5 hn']) (zd5 hn')) fun σ H R ⟨Ha,ρ,hs,hr,q⟩=>⟨Ha,ρ,hs,hr,?_⟩⟩;unfold zAm at q;cases e1:f ρ with
 | stuck=>rw[e1] at q;exact q
 | exn x=>rw[e1] at q;exact q
 | ok d =>
  rw[e1] at q;intro v H1 H01 g1 r1;refine⟨H01,ρ,g1.sub,hr.mono g1.z,?_⟩;replace q:match ((g ρ).bind fun e=>match d,e with
   | .lst ds,.lst es=>Res.ok (zcd ds es)
   | _,_=>.stuck) with
    | .ok ds=>∀ J H' Ha',zbK H Ha H' Ha'->ItD X.K ds J Ha'->R J H'
    | .exn x=>∀ C ox H' Ha',zbK H Ha H' Ha'->ExR X.K Ha' x C ox->E C ox H'
    | .stuck=>False:=q
  cases e2:g ρ with
  | stuck=>rw[e2] at q;exact q
  | exn x=>rw[e2] at q;exact fun C ox H' Ha' g2=>q C ox H' Ha' (g1.trans g2)
  | ok d2 =>
   rw[e2] at q;intro v2 H2 H02 g2 r2;cases d with
   | lst ds =>
    cases d2 with
    | lst es =>
     obtain⟨l,vs,rfl,hv,hrv⟩:=zaq.mp (r1.mono g2.z);obtain⟨l',vs',rfl,hv',hrv'⟩:=zaq.mp r2;refine⟨l,l',rfl,⟨vs,zaJ.sqL g2.sub hv⟩,⟨vs',zaJ.sqL g2.sub hv'⟩,q _ H2 H02 (g1.trans g2) ⟨fun i H' Ha' s1 s2 hi=>?_,fun i H' Ha' x H2 d s1 s2 hd hy=>?_,fun i H' Ha' s1 s2 hi=>?_⟩⟩
     .rw[zjp] at hi
      have h1:=hrv.length;have h2:=hrv'.length;exact⟨vs,vs',vs[i]'(by omega),vs'[i]'(by omega),zaJ.sqL (s1.trans s2) hv,zaJ.sqL (s1.trans s2) hv',by simp,by simp⟩
     .obtain⟨p,y,z,hp,rfl,hy,hz,rfl⟩:=hy
      obtain⟨d1,d2,k1,k2,rfl⟩:=znJ _ _ _ _ hd;obtain⟨u,m1,m2⟩:=hrv.get k1;obtain⟨u',m1',m2'⟩:=hrv'.get k2;have:=hy vs (zaJ.sqL (s1.trans s2) hv);rw[m1] at this;cases this;have:=hz vs' (zaJ.sqL (s1.trans s2) hv');rw[m1'] at this;cases this;exact zvC s2 hp (Reps.cons (m2.mono s1) (Reps.cons (m2'.mono s1) Reps.nil))
     .rw[zjp] at hi
      have h1:=hrv.length;have h2:=hrv'.length;exact⟨vs,vs',zaJ.sqL (s1.trans s2) hv,zaJ.sqL (s1.trans s2) hv',by omega⟩
    | _=>exact q.elim
   | _=>exact q.elim
end
noncomputable def zr1 (f:Str):List Str->List D->Option D
 | k::ks,d::ds=>if f=k then some d else zr1 f ks ds
 | _,_=>none
theorem zwU {K:sab}{H:Hp}{f:Str}:∀ {ks:List Str}{ds:List D}{vs:List V}{d:D},ks.length=vs.length->Reps K H ds vs->zr1 f ks ds=some d->∃ v,(ks.zip vs).lookup f=some v/\Rep K H d v/\f∈ks
 | [],ds,vs,d,_,_,h=>by unfold zr1 at h;cases h
 | k::ks,[],vs,d,_,_,h=>by unfold zr1 at h;cases h
 | k::ks,x::ds,vs,d,hl,r,h=>by
  obtain⟨v,r',rfl,r1,r2⟩:=zat.mp r;unfold zr1 at h
  by_cases c:f=k
  .rw[if_pos c] at h
   cases h;exact⟨v,by rw[sbI,sbe,beq_iff_eq.mpr c],r1,by rw[c];exact sax⟩
  .rw[if_neg c] at h
   obtain⟨u,h1,h2,h3⟩:=zwU (by simpa using hl) r2 h;exact⟨u,by rw[sbI,sbe,beq_eq_false_iff_ne.mpr c];exact h1,h2,sak _ h3⟩
noncomputable def zHV (f:Str) (x:D):Res D:=match x with
 | .ob (.ins c ks) ds=>match zr1 f ks ds with
  | some d=>.ok d
  | none=>.stuck
 | _=>.stuck
section
variable {X:Cx}{E:XK}{e a b o:Expr}{es:List Expr}{fe fo:Ev->Res D}{fa:Ev->Res (List D)}{pos:Pos}
noncomputable def putAll:List Str->List V->List (Str×V)->List (Str×V)
 | f::fs,v::vs,l=>putAll fs vs (zuy f v l)
 | _,_,l=>l
theorem ztl {f:Str}{v:V}:∀ {l:List (Str×V)},f∉l.map (·.1)->zuy f v l=l++[(f,v)]
 | [],_=>rfl
 | (k,x)::l,h=>by
  simp only[saN,sam,not_or] at h;unfold zuy;rw[if_neg (fun z=>h.1 z.symm),ztl h.2];rfl
theorem znH:∀ {fs:List Str}{vs:List V}{l:List (Str×V)},fs.Nodup->(∀ f∈fs,f∉l.map (·.1))->fs.length=vs.length->putAll fs vs l=l++fs.zip vs
 | [],[],l,_,_,_=>by simp [putAll]
 | [],v::vs,l,_,_,h=>by simp at h
 | f::fs,[],l,_,_,h=>by simp at h
 | f::fs,v::vs,l,nd,hn,h=>by
  rw[sb7] at nd;unfold putAll;rw[ztl (hn f sax),znH nd.2 (fun g hg=>?_) (by simpa using h),sbI,List.append_assoc]
  .rfl
  .simp only[sbM,saN,scg,sbc,List.mem_singleton,not_or]
   exact⟨hn g (sak _ hg),fun z=>nd.1 (z▸hg)⟩
theorem zs9 {H:Hp}{a:Addr}{o:HO}(h:H a=some o):upd H a o=H:=by
 funext b
 by_cases hb:b=a
 .subst hb;rw[zao,h]
 .rw[zan hb]
theorem zpT {H:Hp}{a:Addr}{o u:HO}:upd (upd H a o) a u=upd H a u:=by
 funext b
 by_cases hb:b=a
 .subst hb;rw[zao,zao]
 .rw[zan hb,zan hb,zan hb]
noncomputable def zHI (c:Str) (ks:List Str) (ds:List D):Res D:=if ds.length=ks.length then .ok (.ob (.ins c ks) ds) else .stuck
def zHN (x:D)(ds:List D):Option Nat:=ds.findIdx? fun d=>eqD d x
noncomputable def zx3 (x y:D):Res D:=match x with
 | .lst ds=>if zbU 40 y=true/\ds.all (zbU 40)=true then match zHN y ds with
   | some j=>.ok (.int j)
   | none=>.stuck
  else .stuck
 | _=>.stuck
noncomputable def zCD (fo:Ev->Res D) (fe:Ev->Res D):Ev->Res D:=fun ρ=>(fo ρ).bind fun x=>match x with
 | .lst ds=>(fe ρ).bind fun y=>zx3 (.lst ds) y
 | _=>.stuck
end
theorem zB0 {K:sab}{C:Addr}:∀ f∈([]:List Str),zjb K C f:=fun _ h=>nomatch h
theorem zzi {K:sab}{C:Addr}{f:Str}{ks:List Str}(h:sbO K (.ref C) f=some none)(r:∀ f∈ks,zjb K C f):∀ g∈f::ks,zjb K C g:=fun g hg=>by
 rcases sam.mp hg with rfl | hg
 .exact h
 .exact r g hg
section
variable {X:Cx}{E:XK}{He H0e:Hp}{e:Expr}{es:List Expr}{f:Ev->Res D}{fa:Ev->Res (List D)}{pos:Pos}
noncomputable def aFr (f:Ev->Res D) (fa:Ev->Res (List D)):Ev->Res (List D):=fun ρ=>(f ρ).bind fun x=>match x with
 | .lst ds=>(fa ρ).bind fun xs=>.ok (.lst ds::xs)
 | _=>.stuck
def zHM:Sl->Bool
 | .ox _ _=>true
 | _=>false
def zHG (i:Nat)(ρ:Ev):Bool:=(ρ.set i .no).all fun s=>!(zHM s)
noncomputable def zG1 (i j:Nat) (ρ:Ev) (ds:List D):Res Fl:=match ds[j]? with
 | some (.lst _)=>if ds.length<=line/\zHG i ρ=true then .ok (.nx (ρ.set i (.ox j ds))) else .stuck
 | _=>.stuck
def zF0 (i j:Nat)(fa:Ev->Res (List D)):Ev->Res Fl:=fun ρ=>(fa ρ).bind (zG1 i j ρ)
noncomputable def zCH (i j:Nat) (ρ:Ev) (s:Option Sl):Res Fl:=match s with
 | some (.ox j' ds)=>if j'=j then .ok (.nx (ρ.set i (.ox j (ds.set j (.lst []))))) else .stuck
 | _=>.stuck
def zDD (i j:Nat):Ev->Res Fl:=fun ρ=>zCH i j ρ ρ[i]?
end
end DL
namespace Com
open PySem L2 DL
def zEz (tg:Ev->D->Res Ev)(s:Ev->Res Fl)(ρ:Ev)(ds:List D):Res Fl:=zdO tg s ds ρ
def zDq (d:D):Res (List D):=match d with
 | .lst ds=>.ok (numbered 0 ds)
 | _=>.stuck
def zDp (d:D):Res (List D):=match d with
 | .lst ds=>.ok ds
 | _=>.stuck
def zDo (d:D):Res (List D):=match d with
 | .tup ds=>.ok ds
 | _=>.stuck
noncomputable def znA (n:Nat) (fr:List Nat) (tg:Ev->D->Res Ev) (tt fe:Ev->Res D) (ρ:Ev) (ds:List D):Res D:=if ds.length<=line then match zb7 (zet n fr ρ) tg tt fe ds with
  | .ok es=>.ok (.lst es)
  | _=>.stuck
 else .stuck
noncomputable def liK (fe:Ev->Res D) (ρ:Ev) (x:D):Res D:=match x with
 | .lst ds=>(fe ρ).bind (zx3 (.lst ds))
 | _=>.stuck
def zx5 (x:D)(xs:List D):Res (List D):=.ok (x::xs)
noncomputable def frK (fa:Ev->Res (List D)) (ρ:Ev) (x:D):Res (List D):=match x with
 | .lst ds=>(fa ρ).bind (zx5 (.lst ds))
 | _=>.stuck
theorem ztU {x:D}{xs:List D}:zx5 x xs=.ok (x::xs):=zav rfl
noncomputable def zCq (tg:Ev->D->Res Ev) (s:Ev->Res Fl) (ρ:Ev) (d:D):Res Fl:=match d with
 | .int j=>if -4611686018427387904<=j/\j < 4611686018427387904 then zdO tg s (intsFrom 0 j.toNat) ρ else .stuck
 | _=>.stuck
section
variable {s t:Ev->Res Fl}{f g h:Ev->Res D}{src:Ev->Res (List D)}{fa:Ev->Res (List D)}{ρ r:Ev}{i j n:Nat}{d x y:D}{ds es xs:List D}{a b:Int}{tg:Ev->D->Res Ev}{tt fe:Ev->Res D}{fr:List Nat}
theorem zo8:zns src tg s ρ=(src ρ).bind (zEz tg s ρ):=zav rfl
theorem zkX:zEz tg s ρ ds=zdO tg s ds ρ:=zav rfl
theorem zo3:zyT f ρ=(f ρ).bind zDq:=zav rfl
theorem zkW:zDq (.lst ds)=.ok (numbered 0 ds):=zav rfl
theorem zo2:zyr f ρ=(f ρ).bind zDp:=zav rfl
theorem zkV:zDp (.lst ds)=.ok ds:=zav rfl
theorem zo1:zFs f ρ=(f ρ).bind zDo:=zav rfl
theorem zkU:zDo (.tup ds)=.ok ds:=zav rfl
theorem zpc:zfM n fr src tg tt fe ρ=(src ρ).bind (znA n fr tg tt fe ρ):=zav rfl
theorem ztX {c f:Str}{ks:List Str}:zHV f (.ob (.ins c ks) ds)=(match zr1 f ks ds with | some d=>.ok d | none=>.stuck):=zav rfl
theorem zpb {f k:Str}{ks:List Str}:zr1 f (k::ks) (d::ds)=if f=k then some d else zr1 f ks ds:=zav rfl
theorem zpa {f:Str}:zr1 f (f::ks) (d::ds)=some d:=by unfold zr1;rw[if_pos rfl]
theorem zo9 {c:Str}{ks:List Str}(h:(ds.length==ks.length)=true):zHI c ks ds=.ok (.ob (.ins c ks) ds):=if_pos (eq_of_beq h)
theorem zzP:zCD f g ρ=(f ρ).bind (liK g ρ):=zav rfl
theorem ztS:liK g ρ (.lst ds)=(g ρ).bind (zx3 (.lst ds)):=zav rfl
theorem zu5 {is:List Nat}(h:(ds.length==is.length)=true):zkJ is ρ (.tup ds)=.ok (zda ρ is ds):=by
 show(match (if ds.length=is.length then some ds else none) with | some ds=>Res.ok (zda ρ is ds) | none=>.stuck)=_;rw[if_pos (eq_of_beq h)]
theorem ztW:aFr f fa ρ=(f ρ).bind (frK fa ρ):=zav (by unfold aFr;cases f ρ with | ok x=>cases x<;>rfl | _=>rfl)
theorem ztV:frK fa ρ (.lst ds)=(fa ρ).bind (zx5 (.lst ds)):=zav rfl
theorem zo6:zF0 i j fa ρ=(fa ρ).bind (zG1 i j ρ):=zav rfl
theorem zkY:zDD i j ρ=zCH i j ρ ρ[i]?:=zav rfl
theorem ziM:zCH i j ρ (some (.ox j ds))=.ok (.nx (ρ.set i (.ox j (ds.set j (.lst []))))):=if_pos rfl
theorem zzR:zd0 i ρ d=.ok (ρ.set i (.sh d)):=zav rfl
theorem zmw:zuw f tg s ρ=(f (shr ρ)).bind (zCq tg s ρ):=zav rfl
theorem zkT {k:Nat}(h:k<=1000000):zCq tg s ρ (.int (k:Int))=zdO tg s (intsFrom 0 k) ρ:=by
 unfold zCq;dsimp only;rw[if_pos ⟨by omega,by omega⟩,scY]
theorem ztQ {l h:Option Int}(c:(HT.sIx ds.length 0 l==0&&HT.sIx ds.length ds.length h==ds.length)=false):zFv (.tup ds) l h=.ok (.tup (zkK ds l h)):=by
 show(if _ then _ else _)=_;rw[if_neg (fun z=>by rw[z.1,z.2] at c;simp at c)]
theorem zpd {x:D}(h:decide (ds.length+es.length<=1000)=true):zd7 (.tup (x::ds)) (.tup es)=.ok (.tup (x::ds++es)):=by
 refine if_pos ⟨rfl,?_⟩;have:=of_decide_eq_true h;show ds.length+1+es.length<=line;have:(1001:Nat)<=line:=by decide
 omega
theorem zpe {x y:Str}(h:decide (x.length+y.length<=1000)=true):zd7 (.str x) (.str y)=.ok (.str (x++y)):=if_pos (sat (of_decide_eq_true h) (by decide))
theorem zo7 {z:Str}(h:decide (z.length<=1000)=true):zeJ (.str z)=.ok (.int z.length):=if_pos (sat (of_decide_eq_true h) (by decide))
theorem zzN:zGE (.int a) (.int b)=.ok (.int (if b > a then b else a)):=zav rfl
theorem zzQ:zmW (.bl true)=.ok (.int 1):=zav rfl
theorem ztT:zmW (.bl false)=.ok (.int 0):=zav rfl
theorem zzO:zx2 (.lst ds)=.ok (.lst ds):=zav rfl
theorem ztR:zx2 (.tup ds)=.ok (.lst ds):=zav rfl
theorem znY:zug (.int 10) (.int 18)=.ok (.int 1000000000000000000):=zav rfl
theorem zzM:zug (.int 10) (.int 9)=.ok (.int 1000000000):=zav rfl
theorem zpl {F:D->D}(hl:ds.length<=1000000)(h:∀ d∈ds,∃ ρ1,tg (zet n fr ρ) d=.ok ρ1/\tt ρ1=.ok (.bl true)/\fe ρ1=.ok (F d)):znA n fr tg tt fe ρ ds=.ok (.lst (ds.map F)):=by
 unfold znA;rw[if_pos (show ds.length<=line from hl),zrE h]
end
def bnd (k:Nat):Nat:=2 ^ (201*k)
theorem zpu {k:Nat}(h:k<=62):bnd k < B13:=by
 rw[zoq];unfold bnd;exact Nat.pow_lt_pow_right (by decide) (by omega)
theorem zyq:N60<=2 ^ 200:=by decide
theorem zui (k:Nat):bnd (k+1)=bnd k*2 ^ 200+2 ^ 200*bnd k:=by
 unfold bnd;rw[show 201*(k+1)=201*k+201 by omega,Nat.pow_add];generalize 2 ^ (201*k)=z;omega
def un (s x:Fra):Fra:=(s.1*x.2+x.1*s.2,s.2*x.2)
structure Acc (k:Nat) (s:Fra):Prop where
 pos:0 < s.2
 b1:s.1.natAbs<=bnd k
 b2:s.2.natAbs<=bnd k
theorem Acc.step {k:Nat}{s x:Fra}(h:Acc k s)(hx:zhF x):Acc (k+1) (un s x):=by
 have h1:x.1.natAbs<=2 ^ 200:=sat (scs hx.pN) zyq;have h2:x.2.natAbs<=2 ^ 200:=sat (scs hx.qN) zyq;have m1:=Nat.mul_le_mul h.b1 h2;have m2:=Nat.mul_le_mul h1 h.b2;have m3:=Nat.mul_le_mul h.b2 h2;refine⟨sbk h.pos (by have:=hx.q1;omega),?_,?_⟩
 .show(s.1*x.2+x.1*s.2).natAbs<=_
  rw[zui];refine sat (Int.natAbs_add_le _ _) ?_;rw[scK,scK];exact Nat.add_le_add m1 m2
 .show(s.2*x.2).natAbs<=_
  rw[zui,scK];exact sat m3 (Nat.le_add_right _ _)
theorem Acc.start:Acc 0 (0,1):=⟨by decide,by decide,by decide⟩
theorem ztA {s x:Fra}(hs:0 < s.2)(hx:1<=x.2):low ((low s.1 s.2).1*x.2+x.1*(low s.1 s.2).2) ((low s.1 s.2).2*x.2)=low (un s x).1 (un s x).2:=by
 have ht:=zdu (a:=s.1) hs;have hr:=zsz (a:=s.1) (b:=s.2);generalize low s.1 s.2=t at *;have hq:0 < t.2*x.2:=sbk (by have:=ht.q1;omega) (by omega);have hq2:0 < (un s x).2:=sbk hs (by omega);have l1:=zdu (a:=t.1*x.2+x.1*t.2) hq;have r1:=zsz (a:=t.1*x.2+x.1*t.2) (b:=t.2*x.2);have l2:=zdu (a:=(un s x).1) hq2;have r2:=zsz (a:=(un s x).1) (b:=(un s x).2);generalize low (t.1*x.2+x.1*t.2) (t.2*x.2)=u at *;generalize low (un s x).1 (un s x).2=v at *;refine zzp l1 l2 ?_;have r2':v.1*(s.2*x.2)=(s.1*x.2+x.1*s.2)*v.2:=r2;have hk:0 < t.2*x.2*(s.2*x.2):=sbk hq hq2;have:u.1*v.2*(t.2*x.2*(s.2*x.2))=v.1*u.2*(t.2*x.2*(s.2*x.2)):=by
  have e1:u.1*v.2*(t.2*x.2*(s.2*x.2))=(u.1*(t.2*x.2))*v.2*(s.2*x.2):=by grind
  have e2:v.1*u.2*(t.2*x.2*(s.2*x.2))=(v.1*(s.2*x.2))*u.2*(t.2*x.2):=by grind
  rw[e1,e2,r1,r2']
  grind
 exact Int.eq_of_mul_eq_mul_right (by omega) this
theorem zBK {k:Nat}{s x:Fra}(h:Acc k s)(hk:k<=61)(hx:zhF x):zeP [fr (low s.1 s.2),fr x]=.ok (fr (low (un s x).1 (un s x).2)):=by
 have ht:=zdu (a:=s.1) h.pos;have a1:(low s.1 s.2).1.natAbs<=bnd k:=sat zjx h.b1;have a2:(low s.1 s.2).2.natAbs<=bnd k:=sat zjw h.b2;have hst:=ztA h.pos hx.q1;have hA:Acc k (low s.1 s.2):=⟨by have:=ht.q1;omega,a1,a2⟩
 have hB:=hA.step hx;rw[← hst];generalize low s.1 s.2=t at *;have b60:bnd k < B60:=sae (zpu (by omega)) zpB;have bb:bnd (k+1) < B13:=zpu (by omega);have x1:x.1.natAbs < B60:=sae hx.pN zpz;have x2:x.2.natAbs < B60:=sae hx.qN zpz;refine zAq (n:=2) (ds:=[fr t,fr x]) ?_;show zod [.sh (fr t),.sh (fr x)]=_;unfold zod;refine znD (znG ?_);refine(zhA (xs:=[.int (t.1*x.2+x.1*t.2),.int (t.2*x.2)]) (zff ?_ (zff ?_ rfl))).trans ?_
 .refine(zeE (x:=.int (t.1*x.2)) (y:=.int (x.1*t.2)) ?_ ?_).trans rfl
  .exact(zeE (x:=.int t.1) (y:=.int x.2) rfl rfl).trans (zwq (zcE (saG a1 b60) x2))
  .exact(zeE (x:=.int x.1) (y:=.int t.2) rfl rfl).trans (zwq (zcE x1 (saG a2 b60)))
 .exact(zeE (x:=.int t.2) (y:=.int x.2) rfl rfl).trans (zwq (zcE (saG a2 b60) x2))
 .exact zoH hB.pos (saG hB.b1 bb) (saG hB.b2 bb)
theorem zox {L:Sl}:∀ (xs:List Fra) (k:Nat) (s:Fra) (z:Sl),Acc k s->k+xs.length<=61->(∀ x∈xs,zhF x)->∃ z',zdO (zd0 2) (zax (zcm 1 (zaj (zab (zaf 1) (zab (zaf 2) zaz)) zeP)) zam) (xs.map fr) [L,.sh (fr (low s.1 s.2)),z] =
  .ok (.nx [L,.sh (fr (low (xs.foldl un s).1 (xs.foldl un s).2)),z'])/\Acc (k+xs.length) (xs.foldl un s)
 | [],k,s,z,h,_,_=>⟨z,rfl,h⟩
 | x::xs,k,s,z,h,hk,hx=>by
  have hx0:=hx x sax;simp only[sau] at hk;obtain⟨z',e,a⟩:=zox xs (k+1) (un s x) (.sh (fr x)) (h.step hx0) (by omega) fun y hy=>hx y (sak _ hy);refine⟨z',?_,by rw[sau,show k+(xs.length+1)=k+1+xs.length by omega];exact a⟩;rw[saN,zlL (ρ1:=[L,.sh (fr (low s.1 s.2)),.sh (fr x)]) (ρ2:=[L,.sh (fr (low (un s x).1 (un s x).2)),.sh (fr x)]) rfl]
  .exact e
  .exact ztf (ztd ((zhA (xs:=[fr (low s.1 s.2),fr x]) rfl).trans (zBK h (by omega) hx0)))
theorem zEy {f:Ev->Res D}{tg:Ev->D->Res Ev}{s:Ev->Res Fl}{ρ:Ev}{ds:List D}(h:f ρ=.ok (.lst ds)):zvQ f tg s ρ=zdO tg s ds ρ:=by unfold zvQ;rw[h];rfl
def tot (xs:List Fra):Fra:=xs.foldl un (0,1)
theorem zvG {xs:List Fra}(hl:xs.length<=61)(hx:∀ x∈xs,zhF x):zfa [.lst (xs.map fr)]=.ok (fr (low (tot xs).1 (tot xs).2)):=by
 obtain⟨z',e,a⟩:=zox (L:=.sh (.lst (xs.map fr))) xs 0 (0,1) .no Acc.start (by omega) hx;refine zAq (n:=3) (ds:=[.lst (xs.map fr)]) ?_;show ziY [.sh (.lst (xs.map fr)),.no,.no]=_;unfold ziY;rw[zge (ρ':=[.sh (.lst (xs.map fr)),.sh (fr (low 0 1)),.no]) rfl];refine(zge ((zEy (ds:=xs.map fr) rfl).trans e)).trans ?_;exact znD (znG rfl)
theorem zBo {xs:List Fra}(hl:xs.length<=61)(hx:∀ x∈xs,zhF x):Acc xs.length (tot xs):=by
 obtain⟨z',e,a⟩:=zox (L:=.no) xs 0 (0,1) .no Acc.start (by omega) hx;rw[scf] at a;exact a
end Com
local macro_rules | `(tactic| open_line with[$xs,*])=>`(tactic| simp only[zu4,zqO,zl0,zlZ,zlY,zlX,zmd,zqN,zlW,zqR,zl4,zl3,zmy,ziJ,zw9,zrd,zrc,zq1,zmb,zrm,zma,zmA,zqT,zl8,zl7,ziD,zre,zqE,zqZ,zl9,zxn,zxm,zrl,zxl,zq6,zmz,ziL,ziK,zrn,zmC,zmB,zw5,zq4,zq3,zq5,zmc,zrb,zmv,zmu,zqD,zlP,zEE,zlV,zqM,zlU,zlT,zlS,zo4,ztW,ztV,ztU,zo6,zkY,ziM,zqQ,zl2,zl1,zw4,zq2,zw6,zw2,zqL,zqK,zqJ,zrf,zmx,ziN,zxa,zri,zrh,zrg,zra,zro,zq7,zw8,zw7,zcx,zme,zq0,znZ,zj1,saN,scg,sau,sbu,saO,sbW,sbL,sbV,sbG,saW,sb5,sb6,scr,Nat.reduceSub,Nat.reduceAdd,scG,scf,scC,scw,zqI,zq9,zjF,zf8,ziO,zq8,zlR,zlQ,zw3,zqP,zwZ,zqH,zqG,zqF,zjD,zjC,zmt,zms,zmr,zmq,zmp,zmo,zmn,zmm,ziI,ziH,ziG,ziF,zml,zmk,zmj,zmi,zmh,zmg,decide_true,decide_false,Nat.reduceLeDiff,Nat.reduceBEq,Int.reduceBEq,beq_self_eq_true,DL.dOne,DL.mYes,zcW,zdJ,zcY,zcV,zcU,zcX,zcZ,zdE,zef,zdG,zdD,zdC,zdF,zdH,zdx,zee,zdz,zdw,zdv,zdy,zdA,zcg,zcH,zci,zcf,zce,zch,zcj,zcK,zdB,zcM,zcJ,zcI,zcL,zcN,zcQ,zdI,zcS,zcP,zcO,zcR,zcT,zfF,zeW,zg7,zfC,zfH,zeY,zfE,zeV,zfD,zeU,zfG,zeX,zfI,zeZ,zxk,zxj,zxi,zxh,zxg,zxf,zxe,zxd,zxc,zxb,zrk,zrj,Int.reduceLT,Int.reduceLE,Int.reduceSub,Int.reduceAdd,Int.reduceMul,Int.reduceNeg,zmf,ziE,zqY,zqX,zqW,zqV,zqU,zqS,zl6,zl5,Int.reduceToNat,scD,zo8,zkX,zo3,zkW,zo2,zkV,zo1,zkU,zpc,ztX,zpb,zpa,zo9,zzP,ztS,zu5,zmw,ztQ,zpd,zpe,zo7,zzN,zzQ,ztT,zzO,ztR,zzR,znY,zzM,$[$xs:term],*])
local macro_rules | `(tactic| open_line with[$xs,*] seeing $h)=>`(tactic| simp only[zu4,zqO,zl0,zlZ,zlY,zlX,zmd,zqN,zlW,zqR,zl4,zl3,zmy,ziJ,zw9,zrd,zrc,zq1,zmb,zrm,zma,zmA,zqT,zl8,zl7,ziD,zre,zqE,zqZ,zl9,zxn,zxm,zrl,zxl,zq6,zmz,ziL,ziK,zrn,zmC,zmB,zw5,zq4,zq3,zq5,zmc,zrb,zmv,zmu,zqD,zlP,zEE,zlV,zqM,zlU,zlT,zlS,zo4,ztW,ztV,ztU,zo6,zkY,ziM,zqQ,zl2,zl1,zw4,zq2,zw6,zw2,zqL,zqK,zqJ,zrf,zmx,ziN,zxa,zri,zrh,zrg,zra,zro,zq7,zw8,zw7,zcx,zme,zq0,znZ,zj1,saN,scg,sau,sbu,saO,sbW,sbL,sbV,sbG,saW,sb5,sb6,scr,Nat.reduceSub,Nat.reduceAdd,scG,scf,scC,scw,zqI,zq9,zjF,zf8,ziO,zq8,zlR,zlQ,zw3,zqP,zwZ,zqH,zqG,zqF,zjD,zjC,zmt,zms,zmr,zmq,zmp,zmo,zmn,zmm,ziI,ziH,ziG,ziF,zml,zmk,zmj,zmi,zmh,zmg,decide_true,decide_false,Nat.reduceLeDiff,Nat.reduceBEq,Int.reduceBEq,beq_self_eq_true,DL.dOne,DL.mYes,zcW,zdJ,zcY,zcV,zcU,zcX,zcZ,zdE,zef,zdG,zdD,zdC,zdF,zdH,zdx,zee,zdz,zdw,zdv,zdy,zdA,zcg,zcH,zci,zcf,zce,zch,zcj,zcK,zdB,zcM,zcJ,zcI,zcL,zcN,zcQ,zdI,zcS,zcP,zcO,zcR,zcT,zfF,zeW,zg7,zfC,zfH,zeY,zfE,zeV,zfD,zeU,zfG,zeX,zfI,zeZ,zxk,zxj,zxi,zxh,zxg,zxf,zxe,zxd,zxc,zxb,zrk,zrj,Int.reduceLT,Int.reduceLE,Int.reduceSub,Int.reduceAdd,Int.reduceMul,Int.reduceNeg,zmf,ziE,zqY,zqX,zqW,zqV,zqU,zqS,zl6,zl5,Int.reduceToNat,scD,zo8,zkX,zo3,zkW,zo2,zkV,zo1,zkU,zpc,ztX,zpb,zpa,zo9,zzP,ztS,zu5,zmw,ztQ,zpd,zpe,zo7,zzN,zzQ,ztT,zzO,ztR,zzR,znY,zzM,$[$xs:term],*] at $(⟨h⟩):ident)
namespace Com
open PySem L2 DL
theorem zdf {a b:Int}(ha:0<=a)(hb:0 < b):0<=(low a b).1:=Int.ediv_nonneg ha (by omega)
theorem zCa {a b:Int}(ha:0 < a)(hb:0 < b):0 < (low a b).1:=by
 have hg:0 < (saK a b:Int):=zlK (by omega);have hd:(saK a b:Int)∣a:=sc5 ..;exact Int.ediv_pos_of_pos_of_dvd ha (by omega) hd
theorem zEC {a:Int}(h0:0<=a)(h1:a < (N60:Int)):zhF (a,1):=⟨⟨by show(1:Int)<=1;decide,by show saK a 1=1;exact Int.gcd_one_right ..⟩,by show a.natAbs < N60;omega,by show(1:Int).natAbs < N60;decide⟩
theorem zHa {a:Int}(h0:0<=a)(h1:a < (N60:Int)):a.natAbs < B13:=sae (show a.natAbs < N60 by omega) zCT
theorem zsM {i:Nat}{body:Ev->Res Fl}(P:Nat->Ev->Prop){n:Nat}(h:∀ k,k < n->∀ ρ,P k ρ->∃ ρ2,body (ρ.set i (.sh (.int (k:Int))))=.ok (.nx ρ2)/\P (k+1) ρ2){ρ:Ev}(h0:P 0 ρ):∃ ρ',zdO (zd0 i) body (intsFrom 0 n) ρ=.ok (.nx ρ')/\P n ρ':=by
 have key:∀ (m k:Nat) (ρ:Ev),k+m=n->P k ρ->∃ ρ',zdO (zd0 i) body ((intsFrom 0 n).drop k) ρ=.ok (.nx ρ')/\P n ρ':=by
  intro m
  induction m with
  | zero =>
   intro k ρ hk hp;have:k=n:=by omega
   subst this;rw[ztF];exact⟨ρ,rfl,hp⟩
  | succ m ih =>
   intro k ρ hk hp;obtain⟨ρ2,h1,h2⟩:=h k (by omega) ρ hp;rw[zqz (by omega),zlL (tg:=zd0 i) rfl h1];exact ih (k+1) ρ2 (by omega) h2
 exact key n 0 ρ (by omega) h0
theorem zsN {tg:Ev->D->Res Ev}{body:Ev->Res Fl}{ds:List D}(P:Nat->Ev->Prop)(h:∀ k d,ds[k]?=some d->∀ ρ,P k ρ->∃ ρ1 ρ2,tg ρ d=.ok ρ1/\body ρ1=.ok (.nx ρ2)/\P (k+1) ρ2){ρ:Ev}(h0:P 0 ρ):∃ ρ',zdO tg body ds ρ=.ok (.nx ρ')/\P ds.length ρ':=by
 have key:∀ (m k:Nat) (ρ:Ev),k+m=ds.length->P k ρ->∃ ρ',zdO tg body (ds.drop k) ρ=.ok (.nx ρ')/\P ds.length ρ':=by
  intro m
  induction m with
  | zero =>
   intro k ρ hk hp;have:k=ds.length:=by omega
   subst this;rw[sbU];exact⟨ρ,rfl,hp⟩
  | succ m ih =>
   intro k ρ hk hp;have hlt:k < ds.length:=by omega
   obtain⟨ρ1,ρ2,h1,h2,h3⟩:=h k ds[k] (saa hlt) ρ hp;rw[saL hlt,zlL h1 h2];exact ih (k+1) ρ2 (by omega) h3
 exact key ds.length 0 ρ (by omega) h0
structure Drawn (sz vs:List Int):Prop where
 len:vs.length=sz.length
 bnd:∀ (i:Nat) (v s:Int),vs[i]?=some v->sz[i]?=some s->0<=v/\v < s
theorem Drawn.at {sz vs:List Int}(W:Drawn sz vs)(i:Nat){s:Int}(h:sz[i]?=some s):∃ v,vs[i]?=some v/\(0<=v/\v < s)/\dIx (.lst (vs.map D.int)) (.int (i:Int))=.ok (.int v):=by
 have hi:i < vs.length:=by rw[W.len];exact(sac.mp h).1
 refine⟨vs[i],saa hi,W.bnd i _ _ (saa hi) h,zhO ?_⟩;rw[sai,saa hi];rfl
theorem zs1:("abcdefghijklmnopqrstuvwxyz" : Str).cps.toList=(sbr 26).map (97 + ·):=by decide +kernel
theorem zFm:∀ n,n < 26->zqA (97+n)=true:=by decide +kernel
theorem zFl {v:Int}(h0:0<=v)(h1:v < 26):dIx (.str "abcdefghijklmnopqrstuvwxyz") (.int v)=.ok (.str ⟨#[97+v.toNat]⟩):=by
 obtain⟨n,rfl⟩:=sbd h0;have hn:n < 26:=by omega
 have e:atI ("abcdefghijklmnopqrstuvwxyz" : Str).cps.toList ((n:Nat):Int)=some (97+n):=zby (by rw[zs1];simp [hn]);show(if("abcdefghijklmnopqrstuvwxyz" : Str).length<=line then(match atI ("abcdefghijklmnopqrstuvwxyz" : Str).cps.toList ((n:Nat):Int) with | some c=>Res.ok (D.str ⟨#[c]⟩) | none=>.stuck) else .stuck)=_;rw[if_pos (by decide),e];rfl
theorem zwF:∀ cs:List Nat,Str.join "" (cs.map fun c=>(⟨#[c]⟩:Str))=⟨cs.toArray⟩
 | []=>rfl
 | [c]=>rfl
 | c::d::cs=>by
  show(⟨#[c]⟩:Str)++""++Str.join "" ((d::cs).map fun c=>(⟨#[c]⟩:Str))=_;rw[zwF (d::cs)];apply Str.ext';show(#[c]++("" : Str).cps)++(d::cs).toArray=_;have:("" : Str).cps=#[]:=rfl;rw[this];simp
theorem zvH:∀ cs:List Nat,zhJ (cs.map fun c=>D.str ⟨#[c]⟩)=some (cs.map fun c=>(⟨#[c]⟩:Str))
 | []=>rfl
 | c::cs=>by
  show(zhJ (cs.map fun c=>D.str ⟨#[c]⟩)).map _=_;rw[zvH cs];rfl
theorem zuU {cs:List Nat}(h:cs.length<=1000):zoX "" [.lst (cs.map fun c=>D.str ⟨#[c]⟩)]=.ok (.str ⟨cs.toArray⟩):=by
 have fit:zg2 "" (cs.map fun c=>(⟨#[c]⟩:Str))=true:=by
  unfold zg2;have e:((cs.map fun c=>(⟨#[c]⟩:Str)).map (·.length)).sum=cs.length:=by
   clear h
   induction cs with
   | nil=>rfl
   | cons c cs ih =>
    simp only[saN,List.sum_cons,sau,ih];show 1+cs.length=_;omega
  rw[e,saA];exact⟨by decide,decide_eq_true (by rw[sag];omega)⟩
 show(match zhJ (cs.map fun c=>D.str ⟨#[c]⟩) with | some ys=>if zg2 "" ys=true then Res.ok (D.str (Txt.join "" ys)) else .stuck | none=>.stuck)=_;rw[zvH];show(if zg2 "" _=true then Res.ok (D.str (Txt.join "" _)) else .stuck)=_;rw[if_pos fit];show Res.ok (D.str (Builtin.Str.glued "" _))=_;rw[StrLaws.glued_eq_join,zwF]
structure zno (zs:List Str):Prop where
 nd:zs.Nodup
 nm:∀ z∈zs,nameB z=true
theorem zE6 (a:List Nat):(⟨a.toArray⟩:Str).length=a.length:=by show a.toArray.size=_;simp
structure Tie where
 a:Str
 b:Str
 w:Str
 l:Fra
 o:Option Fra
def zhI:Option Fra->D
 | none=>.non
 | some x=>fr x
def zdo (t:Tie):D:=.tup [.str t.a,.str t.b,.str t.w,fr t.l,zhI t.o]
structure zvn (zs:List Str) (t:Tie):Prop where
 a:t.a∈zs
 b:t.b∈zs
 ne:t.a≠t.b
 w:t.w="one"∨t.w="both"
 l:zhF t.l
 l0:0<=t.l.1
 o:∀ x,t.o=some x->zhF x/\0 < x.1
theorem znB {zs:List Str}{k:Int}(h0:0<=k)(h1:k < zs.length):∃ z,zs[k.toNat]?=some z/\dIx (.lst (zs.map D.str)) (.int k)=.ok (.str z):=by
 obtain⟨n,rfl⟩:=sbd h0;have hn:n < zs.length:=by omega
 refine⟨zs[n],by simp [hn],zhO ?_⟩;rw[sai,saa hn];rfl
theorem zBj {k:Int}(h0:0<=k)(h1:k < 2):∃ z:Str,(z="one"∨z="both")/\dIx (.lst [.str "one",.str "both"]) (.int k)=.ok (.str z):=by
 have:k=0∨k=1:=by omega
 rcases this with rfl | rfl
 .exact⟨_,.inl rfl,zjD⟩
 .exact⟨_,.inr rfl,zjC⟩
theorem zrS {n d e:Int}(h2:2<=n)(d0:0<=d)(d1:d < n)(e0:0<=e)(e1:e < n-1):(0<=(d+1+e).fmod n/\(d+1+e).fmod n < n)/\(d+1+e).fmod n≠d:=by
 refine⟨zgH (by omega),?_⟩;rw[sa5 _ (by omega)]
 by_cases h:d+1+e < n
 .rw[scZ (by omega) h];omega
 .have:(d+1+e) % n=d+1+e-n:=by
   rw[← Int.sub_emod_right (d+1+e) n,scZ (by omega) (by omega)]
  rw[this];omega
theorem zkQ {α:Type}{zs:List α}(nd:zs.Nodup){i j:Nat}{x y:α}(hi:zs[i]?=some x)(hj:zs[j]?=some y)(hij:i≠j):x≠y:=by
 intro e;subst e;obtain⟨h1,e1⟩:=sac.mp hi;obtain⟨h2,e2⟩:=sac.mp hj;exact hij ((List.getElem_inj nd).mp (e1.trans e2.symm))
noncomputable def zm9:Ev->Res Fl :=
 (zax (zb8 (zmX (zaj (zab (zaf 0) zaz) zdd) (zad (zad (zaf 0) (dC (.int 0)) dIx) (dC (.int 0)) dGe)))
 zam)
def zbf:List D->Res D:=zdL 1 zm9
noncomputable def zoe:Ev->Res Fl :=
 (zax (zb8 (dOr (zad (zaf 0) (dC (.non)) zmV) (zmX (zaj (zab (zaf 0) zaz) zdd) (zad (zad (zaf 0) (dC (.int 0)) dIx) (dC (.int 0)) dGt))))
 zam)
def zeG:List D->Res D:=zdL 1 zoe
noncomputable def zuk:Ev->Res Fl :=
 (zax (sIf (dOr (zdQ (zbo (zaf 0) (zcz "tuple"))) (zad (zaj (zab (zaf 0) zaz) (m1 zeJ)) (dC (.int 5)) dNe))
 (zax (zb8 (dC (.bl false)))
 zam)
 zam)
 (zax (sIf (dOr (zdQ (zaj (zab (zad (zaf 0) (dC (.int 0)) dIx) zaz) zcF)) (dOr (zdQ (zaj (zab (zad (zaf 0) (dC (.int 1)) dIx) zaz) zcF)) (zad (zad (zaf 0) (dC (.int 0)) dIx) (zad (zaf 0) (dC (.int 1)) dIx) dEq)))
 (zax (zb8 (dC (.bl false)))
 zam)
 zam)
 (zax (sIf (dOr (zdQ (zbo (zad (zaf 0) (dC (.int 2)) dIx) (zcz "str"))) (zad (zad (zaf 0) (dC (.int 2)) dIx) (dC (.tup [(.str "one"),(.str "both")])) zhe))
 (zax (zb8 (dC (.bl false)))
 zam)
 zam)
 (zax (zb8 (zmX (zaj (zab (zad (zaf 0) (dC (.int 3)) dIx) zaz) zbf) (zaj (zab (zad (zaf 0) (dC (.int 4)) dIx) zaz) zeG)))
 zam))))
def zf3:List D->Res D:=zdL 1 zuk
noncomputable def zgw:Ev->Res Fl :=
 (zax (sIf (dOr (zdQ (zbo (zaf 0) (zcz "list"))) (zdQ (zhT dLe dLe (dC (.int 2)) (zaj (zab (zaf 0) zaz) (m1 zeJ)) (dC (.int 7)))))
 (zax zdc
 zam)
 zam)
 (zax (zns (zyT (zaf 0)) (zkJ [1,2])
 (zax (sIf (dOr (zdQ (zaj (zab (zaf 2) zaz) zcF)) (zad (zaf 2) (zyt (zaf 0) zfx (zfl (zaf 1))) dIn))
 (zax zdc
 zam)
 zam)
 zam))
 zam))
def zbz:List D->Res D:=zdL 3 zgw
noncomputable def zhU:Ev->Res Fl :=
 (zax (sIf (dOr (zdQ (zbo (zaf 0) (zcz "list"))) (zad (zaj (zab (zaf 0) zaz) (m1 zeJ)) (dC (.int 14)) dGt))
 (zax zdc
 zam)
 zam)
 (zax (zns (zyT (zaf 0)) (zkJ [2,3])
 (zax (sIf (dOr (zdQ (zaj (zab (zaf 3) zaz) zf3)) (dOr (zad (zad (zaf 3) (dC (.int 0)) dIx) (zaf 1) zhe) (zad (zad (zaf 3) (dC (.int 1)) dIx) (zaf 1) zhe)))
 (zax zdc
 zam)
 zam)
 zam))
 zam))
def zb4:List D->Res D:=zdL 4 zhU
noncomputable def zof:Ev->Res Fl :=
 (zax (zb8 (zmX (zaj (zab (zaf 0) zaz) zcF) (zad (zaf 0) (zaf 1) dIn)))
 zam)
def zdW:List D->Res D:=zdL 2 zof
noncomputable def ziZ:Ev->Res Fl :=
 (zax (sIf (dOr (zdQ (zbo (zaf 0) (zcz "tuple"))) (zad (zaj (zab (zaf 0) zaz) (m1 zeJ)) (dC (.int 4)) dNe))
 (zax zdc
 zam)
 zam)
 (zax (zkF (zaj (zab (zad (zaf 0) (dC (.int 0)) dIx) zaz) zbz))
 (zax (zkF (zaj (zab (zad (zaf 0) (dC (.int 1)) dIx) (zab (zad (zaf 0) (dC (.int 0)) dIx) zaz)) zb4))
 (zax (sIf (zdQ (zaj (zab (zad (zaf 0) (dC (.int 2)) dIx) (zab (zad (zaf 0) (dC (.int 0)) dIx) zaz)) zdW))
 (zax zdc
 zam)
 zam)
 (zax (sIf (dOr (zdQ (zaj (zab (zad (zaf 0) (dC (.int 3)) dIx) (zab (zad (zaf 0) (dC (.int 0)) dIx) zaz)) zdW)) (zad (zad (zaf 0) (dC (.int 3)) dIx) (zad (zaf 0) (dC (.int 2)) dIx) dEq))
 (zax zdc
 zam)
 zam)
 zam)))))
def zbD:List D->Res D:=zdL 1 ziZ
noncomputable def zhk:Ev->Res Fl :=
 (zax (zb8 (zmX (zaj (zab (zaf 1) zaz) zbO) (zhT dLe dLt (dC (.int 0)) (zaf 1) (zaj (zab (zad (zaf 0) (dC (.int 1)) dIx) zaz) (m1 zeJ)))))
 zam)
def zbv:List D->Res D:=zdL 2 zhk
noncomputable def zgv:Ev->Res Fl :=
 (zax (zkF (zaj (zab (zaf 0) zaz) zbD))
 (zax (sIf (zdQ (zbo (zaf 1) (zcz "list")))
 (zax zdc
 zam)
 zam)
 (zax (zcm 2 (zbo (dC (.int 1)) zC0))
 (zax (zvQ (zaf 1) (zd0 3)
 (zax (sIf (dOr (zdQ (zaj (zab (zaf 0) (zab (zaf 3) zaz)) zbv)) (zad (zaf 3) (zaf 2) dLe))
 (zax zdc
 zam)
 zam)
 (zax (sIf (zad (zad (zad (zad (zaf 0) (dC (.int 1)) dIx) (zaf 3) dIx) (dC (.int 4)) dIx) (dC (.non)) zmV)
 (zax zdc
 zam)
 zam)
 (zax (zcm 2 (zaf 3))
 zam))))
 zam))))
def zbk:List D->Res D:=zdL 4 zgv
noncomputable def zhj:Ev->Res Fl :=
 (zax (sIf (dOr (zdQ (zaj (zab (zaf 0) zaz) zdd)) (zad (zad (zaf 0) (dC (.int 0)) dIx) (dC (.int 0)) dLt))
 (zax zdc
 zam)
 zam)
 zam)
def zbu:List D->Res D:=zdL 1 zhj
structure Web where
 ps:List Str
 ts:List Tie
 fi:Str
 la:Str
def zcs (w:Web):D:=.tup [.lst (w.ps.map D.str),.lst (w.ts.map zdo),.str w.fi,.str w.la]
structure zgJ (w:Web):Prop where
 n2:2<=w.ps.length
 n7:w.ps.length<=7
 nm:zno w.ps
 t14:w.ts.length<=14
 ts:∀ t∈w.ts,zvn w.ps t
 fi:w.fi∈w.ps
 la:w.la∈w.ps
 ne:w.fi≠w.la
theorem zit {z:Str}(h:nameB z=true):zcF [.str z]=.ok (.bl true):=by
 have hl:z.length<=8:=by
  unfold nameB at h;simp only[saA,decide_eq_true_eq] at h;exact h.2.1
 rw[zuV (show fit (.str z)=true from decide_eq_true (sat hl (by decide)))];show Res.ok (D.bl (nameB z))=_;rw[h]
theorem zjn {x:Fra}(h:Low x):zdd [fr x]=.ok (.bl true):=by
 rw[zqx];show Res.ok (D.bl (zqa (.tup [.int x.1,.int x.2])))=_;have h1:=h.q1;have h2:=h.g1;show Res.ok (D.bl (decide (1<=x.2)&&(saK x.1 x.2==1)))=_;rw[decide_eq_true h1,h2];rfl
theorem zlF {x:Fra}(h:Low x)(h0:0<=x.1):zbf [fr x]=.ok (.bl true):=by
 have e:fr x=.tup [.int x.1,.int x.2]:=rfl;have h1:=zjn h;rw[e] at h1 ⊢;open_line with[zbf,zm9,h1,decide_eq_true h0,decide_eq_true (show x.1≥0 from h0)]
theorem zuq {o:Option Fra}(h:∀ x,o=some x->Low x/\0 < x.1):zeG [zhI o]=.ok (.bl true):=by
 cases o with
 | none=>rfl
 | some x =>
  obtain⟨hx,h0⟩:=h x rfl;have e:zhI (some x)=.tup [.int x.1,.int x.2]:=rfl;have h1:=zjn hx;rw[show fr x=.tup [.int x.1,.int x.2] from rfl] at h1;rw[e];open_line with[zeG,zoe,h1,decide_eq_true h0]
theorem zxo {x y:Str}:dEq (.str x) (.str y)=.ok (.bl (x==y)):=by unfold dEq;rw[if_pos ⟨rfl,rfl⟩,eqD]
theorem zyM {zs:List Str}{t:Tie}(nm:zno zs)(h:zvn zs t):zf3 [zdo t]=.ok (.bl true):=by
 obtain⟨a,b,w,l,o⟩:=t;obtain⟨ha,hb,hne,hw,hl,hl0,ho⟩:=h;have h1:=zit (nm.nm a ha);have h2:=zit (nm.nm b hb);have h3:=zlF hl.toLow hl0;have h4:=zuq (o:=o) fun x hx=>⟨(ho x hx).1.toLow,(ho x hx).2⟩
 have h5:(a==b)=false:=beq_eq_false_iff_ne.mpr hne;have h6:zhe (.str w) (.tup [.str "one",.str "both"])=.ok (.bl false):=by
  rcases hw with rfl | rfl<;>rfl
 have e:zdo ⟨a,b,w,l,o⟩=.tup [.str a,.str b,.str w,fr l,zhI o]:=rfl;rw[e];open_line with[zf3,zuk,h1,h2,zxo,h5,h6,h3,h4]
theorem zyj {zs:List Str}{z:Str}:(zs.map D.str).any (fun d=>eqD d (.str z))=decide (z∈zs):=by
 induction zs with
 | nil=>rfl
 | cons y zs ih =>
  rw[saN,List.any_cons,ih];show((y==z)||decide (z∈zs))=_
  by_cases h:y=z
  .subst h;simp
  .have:(y==z)=false:=beq_eq_false_iff_ne.mpr h
   rw[this,Bool.false_or];have:z∈y::zs↔z∈zs:=by simp [saT h]
   exact decide_eq_decide.mpr this.symm
theorem zp5 {n:Nat}{zs:List Str}:(zs.map D.str).all (zbU n)=true:=saJ.mpr fun d hd=>by
 obtain⟨z,_,rfl⟩:=sa6.mp hd;cases n<;>rfl
theorem zwL {zs:List Str}{z:Str}:dIn (.str z) (.lst (zs.map D.str))=.ok (.bl (decide (z∈zs))):=by
 have e:inD (.str z) (.lst (zs.map D.str))=some (decide (z∈zs)):=(if_pos ⟨rfl,zp5⟩).trans (congrArg some zyj);unfold dIn;rw[e]
theorem zuF {zs:List Str}{z:Str}:zhe (.str z) (.lst (zs.map D.str))=.ok (.bl (!(decide (z∈zs)))):=by
 have e:inD (.str z) (.lst (zs.map D.str))=some (decide (z∈zs)):=(if_pos ⟨rfl,zp5⟩).trans (congrArg some zyj);unfold zhe;rw[e]
theorem znI {zs:List Str}{z:Str}(h:nameB z=true)(hz:z∈zs):zdW [.str z,.lst (zs.map D.str)]=.ok (.bl true):=by
 open_line with[zdW,zof,zit h,zwL,decide_eq_true hz]
theorem zj0 {α:Type}{F:α->D}{xs:List α}{k:Nat}{d:D}(h:(numbered 0 (xs.map F))[k]?=some d):∃ x,xs[k]?=some x/\d=.tup [.int (k:Int),F x]:=by
 rw[zg0,sai] at h;cases e:xs[k]? with
 | none=>rw[e] at h;cases h
 | some x =>
  rw[e] at h;cases h;exact⟨x,rfl,by simp⟩
theorem zAY {α:Type}{F:α->D}{xs:List α}{k:Nat}(h:k<=xs.length):zkK (xs.map F) none (some (k:Int))=(xs.take k).map F:=by
 rw[zCE,HT.sIx_none,HT.sIx_nat,Nat.min_eq_left h,sbq,scr]
theorem zv3 {zs:List Str}(h2:2<=zs.length)(h7:zs.length<=7)(nm:zno zs):zbz [.lst (zs.map D.str)]=.ok .non:=by
 obtain⟨ρ',hl,_⟩:=zsN (ds:=numbered 0 (zs.map D.str)) (tg:=zkJ [1,2]) (ρ:=[.sh (.lst (zs.map D.str)),.no,.no])
  (body:=(zax (sIf (dOr (zdQ (zaj (zab (zaf 2) zaz) zcF)) (zad (zaf 2) (zyt (zaf 0) zfx (zfl (zaf 1))) dIn)) (zax zdc zam) zam) zam))
  (fun k ρ=>∃ a b,ρ=[.sh (.lst (zs.map D.str)),a,b]) (by
   rintro k d hd ρ ⟨a,b,rfl⟩;obtain⟨z,hz,rfl⟩:=zj0 hd;refine⟨_,[.sh (.lst (zs.map D.str)),.sh (.int (k:Int)),.sh (.str z)],zu5 rfl,?_,_,_,rfl⟩;have hk:k < zs.length:=(sac.mp hz).1;have hnot:decide (z∈zs.take k)=false:=decide_eq_false fun hm=>by
    obtain⟨j,hj⟩:=List.mem_iff_getElem?.mp hm;have hjk:j < k:=by have:=(sac.mp hj).1;simp at this;omega
    rw[List.getElem?_take_of_lt hjk] at hj;exact zkQ nm.nd hj hz (by omega) rfl
   open_line with[zit (nm.nm z (saH hz)),zAY (scs hk),zwL,hnot]) ⟨.no,.no,rfl⟩
 have e1:decide ((2:Int)<=(zs.length:Int))=true:=decide_eq_true (by omega);have e2:decide ((zs.length:Int)<=7)=true:=decide_eq_true (by omega);open_line with[zbz,zgw,sag,e1,e2,hl]
theorem zBq {zs:List Str}{ts:List Tie}(h14:ts.length<=14)(nm:zno zs)(ht:∀ t∈ts,zvn zs t):zb4 [.lst (ts.map zdo),.lst (zs.map D.str)]=.ok .non:=by
 obtain⟨ρ',hl,_⟩:=zsN (ds:=numbered 0 (ts.map zdo)) (tg:=zkJ [2,3]) (ρ:=[.sh (.lst (ts.map zdo)),.sh (.lst (zs.map D.str)),.no,.no])
  (body:=(zax (sIf (dOr (zdQ (zaj (zab (zaf 3) zaz) zf3)) (dOr (zad (zad (zaf 3) (dC (.int 0)) dIx) (zaf 1) zhe) (zad (zad (zaf 3) (dC (.int 1)) dIx) (zaf 1) zhe))) (zax zdc zam) zam) zam))
  (fun k ρ=>∃ a b,ρ=[.sh (.lst (ts.map zdo)),.sh (.lst (zs.map D.str)),a,b]) (by
   rintro k d hd ρ ⟨a,b,rfl⟩;obtain⟨t,ht',rfl⟩:=zj0 hd;refine⟨_,[.sh (.lst (ts.map zdo)),.sh (.lst (zs.map D.str)),.sh (.int (k:Int)),.sh (zdo t)],zu5 rfl,?_,_,_,rfl⟩;have hT:=ht t (saH ht');have h1:=zyM nm hT;rw[show zdo t=.tup [.str t.a,.str t.b,.str t.w,fr t.l,zhI t.o] from rfl] at h1 ⊢;open_line with[h1,zuF,decide_eq_true hT.a,decide_eq_true hT.b]) ⟨.no,.no,rfl⟩
 have e1:decide ((14:Int) < (ts.length:Int))=false:=decide_eq_false (by omega);open_line with[zb4,zhU,sag,e1,decide_eq_false (show ¬ (ts.length:Int) > 14 by omega),hl]
theorem zAh {w:Web}(h:zgJ w):zbD [zcs w]=.ok .non:=by
 obtain⟨ps,ts,fi,la⟩:=w;have h1:=zv3 h.n2 h.n7 h.nm;have h2:=zBq h.t14 h.nm h.ts;have h3:=znI (h.nm.nm fi h.fi) h.fi;have h4:=znI (h.nm.nm la h.la) h.la;have h5:(la==fi)=false:=beq_eq_false_iff_ne.mpr (saT h.ne);rw[show zcs ⟨ps,ts,fi,la⟩=.tup [.lst (ps.map D.str),.lst (ts.map zdo),.str fi,.str la] from rfl];open_line with[zbD,ziZ,h1,h2,h3,h4,zxo,h5]
theorem zy3 {x:Fra}(h:Low x)(h0:0<=x.1):zbu [fr x]=.ok .non:=by
 have h1:=zjn h;rw[show fr x=.tup [.int x.1,.int x.2] from rfl] at h1 ⊢;open_line with[zbu,zhj,h1,decide_eq_false (show ¬ x.1 < 0 by omega)]
def zwn (ks:List Nat):D:=.lst (ks.map fun(k:Nat)=>D.int (k:Int))
structure zAd (w:Web) (ks:List Nat):Prop where
 up:ks.Pairwise (· < ·)
 wo:∀ k∈ks,∃ t x,w.ts[k]?=some t/\t.o=some x
theorem zAd.lt {w:Web}{ks:List Nat}(T:zAd w ks):∀ k∈ks,k < w.ts.length:=fun k hk=>by
 obtain⟨t,x,h1,h2⟩:=T.wo k hk;exact(sac.mp h1).1
theorem zpV {w:Web}{k:Nat}{t:Tie}(h:w.ts[k]?=some t):dIx (.lst (w.ts.map zdo)) (.int (k:Int))=.ok (zdo t):=zhO (by rw[sai,h];rfl)
theorem zsx {w:Web}{k:Nat}(h:k < w.ts.length):zbv [zcs w,.int (k:Int)]=.ok (.bl true):=by
 rw[show zcs w=.tup [.lst (w.ps.map D.str),.lst (w.ts.map zdo),.str w.fi,.str w.la] from rfl];open_line with[zbv,zhk,zeR,isI,sag,decide_eq_true (show(0:Int)<=(k:Int) by omega),decide_eq_true (show(k:Int) < (w.ts.length:Int) by omega)]
theorem zvD {w:Web}{ks:List Nat}(W:zgJ w)(T:zAd w ks):zbk [zcs w,zwn ks]=.ok .non:=by
 obtain⟨ρ',hl,_⟩:=zsN (ds:=ks.map fun(k:Nat)=>D.int (k:Int)) (tg:=zd0 3) (ρ:=[.sh (zcs w),.sh (zwn ks),.sh (.int (-1)),.no])
  (body:=(zax (sIf (dOr (zdQ (zaj (zab (zaf 0) (zab (zaf 3) zaz)) zbv)) (zad (zaf 3) (zaf 2) dLe))
   (zax zdc zam) zam)
   (zax (sIf (zad (zad (zad (zad (zaf 0) (dC (.int 1)) dIx) (zaf 3) dIx) (dC (.int 4)) dIx) (dC (.non)) zmV)
   (zax zdc zam) zam)
   (zax (zcm 2 (zaf 3)) zam))))
  (fun j ρ=>∃ (ah:Int) (x:Sl),ρ=[.sh (zcs w),.sh (zwn ks),.sh (.int ah),x]/\∀ v∈ks.drop j,ah < (v:Int)) (by
   rintro j d hd ρ ⟨ah,x,rfl,hah⟩;rw[sai] at hd;cases e:ks[j]? with
   | none=>rw[e] at hd;cases hd
   | some k =>
    rw[e] at hd;cases hd;have hj:j < ks.length:=(sac.mp e).1;have hkm:=saH e;obtain⟨t,y,h1,h2⟩:=T.wo k hkm;have hdr:ks.drop j=k::ks.drop (j+1):=by
     rw[saL hj]
     congr 1
     rw[saa hj] at e;exact saS e
    have hk:ah < (k:Int):=hah k (by rw[hdr];exact sax);refine⟨_,[.sh (zcs w),.sh (zwn ks),.sh (.int (k:Int)),.sh (.int (k:Int))],rfl,?_,_,_,rfl,fun v hv=>?_⟩
    .have hn:=zsx (T.lt k hkm)
     have hix:=zpV h1;rw[show zcs w=.tup [.lst (w.ps.map D.str),.lst (w.ts.map zdo),.str w.fi,.str w.la] from rfl] at hn ⊢;rw[show zdo t=.tup [.str t.a,.str t.b,.str t.w,fr t.l,zhI t.o] from rfl,h2] at hix;open_line with[hn,decide_eq_false (show ¬ (k:Int)<=ah by omega),hix,zhI,fr,zGs]
    .have hp:(k::ks.drop (j+1)).Pairwise (· < ·):=by rw[← hdr];exact T.up.sublist (List.drop_sublist _ _)
     have:=(List.pairwise_cons.mp hp).1 v hv;omega) ⟨-1,.no,rfl,fun v _=>by omega⟩
 have hw:=zAh W;unfold zwn at hl ⊢;open_line with[zbk,zgv,hw,hl]
theorem zyJ {xs:List Fra}{x:Fra}:tot (xs++[x])=un (tot xs) x:=by unfold tot;rw[List.foldl_append];rfl
theorem zsK {x y:Fra}(h1:x.1.natAbs < B60)(h2:x.2.natAbs < B60)(h3:y.1.natAbs < B60)(h4:y.2.natAbs < B60):zcG [fr x,fr y]=.ok (.bl (flt x y)):=by
 rw[show fr x=.tup [.int x.1,.int x.2] from rfl,show fr y=.tup [.int y.1,.int y.2] from rfl];open_line with[zcG,zrR,zbJ (zcE h1 h4),zbJ (zcE h3 h2)]
 rfl
def zDw (i:Nat)(ρ:Ev)(d:D):Res Fl:=if zr2 d=true then .ok (.nx (ρ.set i (.sh d))) else .stuck
theorem zGv {i:Nat}{f:Ev->Res D}{ρ:Ev}:zFX i f ρ=(f (shr ρ)).bind (zDw i ρ):=rfl
theorem zFV {i:Nat}{ρ:Ev}{x:Fra}:zDw i ρ (fr x)=.ok (.nx (ρ.set i (.sh (fr x)))):=rfl
theorem zuu:∀ {xs:List Fra},(∀ x∈xs,0<=x.1/\1<=x.2)->0<=(tot xs).1/\0 < (tot xs).2:=by
 have key:∀ (xs:List Fra) (s:Fra),0<=s.1->0 < s.2->(∀ x∈xs,0<=x.1/\1<=x.2)->0<=(xs.foldl un s).1/\0 < (xs.foldl un s).2:=by
  intro xs
  induction xs with
  | nil=>intro s h1 h2 _;exact⟨h1,h2⟩
  | cons x xs ih =>
   intro s h1 h2 h;have hx:=h x sax;refine ih (un s x) ?_ (sbk h2 (by omega)) fun y hy=>h y (sak _ hy);exact Int.add_nonneg (sa9 h1 (by omega)) (sa9 hx.1 (by omega))
 exact fun {xs} h=>key xs (0,1) (by decide) (by decide) h
theorem zyD {c:Ev->Res D}{s:Ev->Res Fl}{n:Nat}{ρ ρ2:Ev}(h1:c (shr ρ)=.ok (.bl true))(h2:s ρ=.ok (.nx ρ2)):zcA c s (n+1) ρ=zcA c s n ρ2:=by
 conv=>lhs;unfold zcA
 rw[h1,h2];rfl
theorem zvx {c:Ev->Res D}{s:Ev->Res Fl}{n:Nat}{ρ:Ev}(h1:c (shr ρ)=.ok (.bl false)):zcA c s (n+1) ρ=.ok (.nx ρ):=by
 conv=>lhs;unfold zcA
 rw[h1];rfl
end Com
namespace DL
open PySem PySem.Spec PyProof.Rows L2
noncomputable def zGa (K:sab) (E:XK) (He H0e Ha:Hp) (r:Res Fl) (D:zjM):Prop:=match r with
 | .ok (.rt (.lst es))=>∀ p us H Ha',zbK He H0e H Ha'->He p=none->Ha' p=none->H p=some (.lst us)->Reps K Ha' es us->D.rt (.ref p) H
 | .exn x=>∀ C ox H Ha',zbK He H0e H Ha'->ExR K Ha' x C ox->E C ox H
 | _=>False
noncomputable def tSF (K:sab) (E:XK) (He H0e:Hp) (g:Ev->Res Fl):TS:=fun D σ H=>∃ Ha ρ,SRx K He H0e Ha σ H ρ/\zGa K E He H0e Ha (g ρ) D
structure zFF (X:Cx) (E:XK) (He H0e:Hp) (st:List Stmt) (g:Ev->Res Fl):Prop where
 o:PSs X st (tSF X.K E He H0e g)
section
variable {X:Cx}{E:XK}{He H0e:Hp}{st:Stmt}{rest:List Stmt}{e:Expr}{es:List Expr}{f:Ev->Res D}{fa:Ev->Res (List D)}{s t:Ev->Res Fl}{pos:Pos}
def zFW (t:Ev->Res Fl)(r:Fl):Res Fl:=match r with
 | .nx ρ=>t ρ
 | _=>.stuck
def zuv (s t:Ev->Res Fl):Ev->Res Fl:=fun ρ=>(s ρ).bind (zFW t)
theorem zrq (h1:DS X E He H0e st s)(h2:zFF X E He H0e rest t):zFF X E He H0e (st::rest) (zuv s t):=by
 refine⟨?_⟩;refine zeA (zfX h1.o h2.o) fun D σ H ⟨Ha,ρ,h,q⟩=>⟨Ha,ρ,h,?_⟩
 unfold zuv at q;cases e1:s ρ with
 | stuck=>rw[e1] at q;exact q
 | exn x=>rw[e1] at q;exact q
 | ok r =>
  rw[e1] at q;cases r with
  | nx ρ'=>exact fun σ' H' Ha' s' h'=>⟨Ha',ρ',h',q⟩
  | rt d=>exact q.elim
  | bk ρ'=>exact q.elim
  | ct ρ'=>exact q.elim
end
def zGg (r:Fl):Res D:=match r with
 | .rt (.lst es)=>.ok (.lst es)
 | _=>.stuck
noncomputable def zDF (n:Nat) (s:Ev->Res Fl) (ds:List D):Res D:=(s (ds.map Sl.sh++saj (n-ds.length) .no)).bind zGg
noncomputable def zF9 (K:sab) (E:XK) (H Ha:Hp) (r:Res D) (Q:VK):Prop:=match r with
 | .ok (.lst es)=>∀ p us H' Ha',zbK H Ha H' Ha'->H p=none->Ha' p=none->H' p=some (.lst us)->Reps K Ha' es us->Q (.ref p) H'
 | .exn x=>∀ C ox H' Ha',zbK H Ha H' Ha'->ExR K Ha' x C ox->E C ox H'
 | _=>False
noncomputable def spF (K:sab) (n:Nat) (m:List D->Res D):Sp:=fun vs H Q E=>vs.length=n/\∃ Ha ds,zaJ Ha H/\Reps K Ha ds vs/\zF9 K E H Ha (m ds) Q
theorem zu2 {P:Program}{w:World}{K:sab}{mg:Str->Option Value}{base:Heap}{x qual:Str}{st:Stmt}{f:Addr}{fd:FuncData}{N ps:List Str}{k:Nat}{s:Ev->Res Fl}(F:Fun K x qual st f fd)(S:zay N ps (defScope st))
  (hbody:∀ (cdv:Value) (A:Around) (outer:List sba) (s0:Shared) (H Ha:Hp) (E:XK),zfP k (A.deeper (envOfC qual (defScope st) s0.heap.objs.size f cdv)) ->
   zFF (zk0 CX0 P w K mg base N qual (defScope st) f cdv A outer s0 H E).nox E H Ha (defBody st) s):zbP P w K mg base CX0 (k+1) f fd ps (spF K ps.length (zDF N.length s)):=by
 have hpl:ps.length<=N.length:=by have:=congrArg scB S.pre;rw[saQ] at this;omega
 refine F.ok S (fun vs H Q E h=>h.1) fun cdv A outer s0 H vs Q E hr h=>?_;obtain⟨hn,Ha,ds,hs,hv,q⟩:=h;refine⟨_,(hbody cdv A outer s0 H Ha E hr).o,Ha,ds.map Sl.sh++saj (N.length-ds.length) .no,?_,?_⟩
 .refine⟨zbK.refl hs,zh0 hv,fun i d e=>?_,fun i j d d' hij e=>?_,?_,OX.none zla zjd⟩
  .by_cases hi:i < ds.length
   .rw[san (by simpa using hi),sai] at e
    cases q:ds[i]? with
    | none=>rw[q] at e;cases e
    | some d'=>rw[q] at e;cases e
   .rw[sar (by simpa using hi),saw] at e
    split at e<;>cases e
  .by_cases hi:i < ds.length
   .rw[san (by simpa using hi),sai] at e
    cases q:ds[i]? with
    | none=>rw[q] at e;cases e
    | some d'=>rw[q] at e;cases e
   .rw[sar (by simpa using hi),saw] at e
    split at e<;>cases e
  .unfold L2.start
   have:=hv.length;simp only[saR,sag,saV];omega
 .unfold zDF at q
  cases e1:s (ds.map Sl.sh++saj (N.length-ds.length) .no) with
  | stuck=>rw[e1] at q;exact q
  | exn x=>rw[e1] at q;exact q
  | ok r =>
   rw[e1] at q;cases r with
   | rt d =>
    cases d with
    | lst es=>exact fun p us H' Ha' g hp h0 hv' rr=>q p us H' Ha' g hp h0 hv' rr
    | _=>exact q.elim
   | _=>exact q.elim
section
variable {X:Cx}{E:XK}{He H0e:Hp}{e:Expr}{es:List Expr}{f:Ev->Res D}{fa:Ev->Res (List D)}{pos:Pos}
theorem zCx {CX:CXT}{k n:Nat}{fn:Addr}{fd:FuncData}{ps:List Str}{m:List D->Res D}{x:Str}{p:Pos}(F:zbP X.prog X.w X.K X.mg X.base CX k fn fd ps (spF X.K n m))(hr:zfP k X.A)(hg:Gl X x)(hm:X.mg x=some (.ref fn))
  (hk:scj X.K (.ref fn)=true)(hb:zjc X.K fd ps [])(hx:zfR CX X E)(ha:DA X E (e::es) fa)(hn:(e::es).length=n:=by rfl)(hl:∀ ρ ds,fa ρ=.ok ds->ds.length=(e::es).length)
  (hdb:(x==("__debug__" : Str))=false:=by decide)(he:starEach (e::es) X.env=(false,eval e X.env)::starEach es X.env:=by exact zaH rfl)(hpl:(backTo pos (starEach es X.env)).any (·.1)=false:=by exact za9 rfl) :
  DF X E (.Call (.Name x p) (e::es) [] pos) (zaj fa m):=by
 refine⟨?_⟩;refine zaR (zoK F hr hg hm hk hb .nil hx ha.o hdb he hpl) fun σ H Q h=>?_;obtain⟨Ha,ρ,hs,hr,q⟩:=h;refine⟨Ha,ρ,hs,hr,?_⟩;unfold zaj at q;cases e1:fa ρ with
 | stuck=>rw[e1] at q;exact q
 | exn x=>rw[e1] at q;exact q
 | ok ds =>
  rw[e1] at q;intro v H1 H01 g1 r1;refine⟨?_,H01,ds,g1.sub,by simpa using r1,?_⟩
  .have:=r1.length
   have:=hl ρ ds e1;simp only[saZ];omega
  .replace q:match m ds with
    | .ok (.lst ds)=>∀ p vs H' Ha',zbK H Ha H' Ha'->H p=none->Ha' p=none->H' p=some (.lst vs)->Reps X.K Ha' ds vs->Q (.ref p) H'
    | .ok _=>False
    | .exn x=>∀ C ox H' Ha',zbK H Ha H' Ha'->ExR X.K Ha' x C ox->E C ox H'
    | .stuck=>False:=q
   cases e2:m ds with
   | stuck=>rw[e2] at q;exact q
   | exn x=>rw[e2] at q;exact fun C ox H' Ha' g ex=>q C ox H' Ha' (g1.trans g) ex
   | ok d =>
    rw[e2] at q;cases d with
    | lst es=>exact fun p us H' Ha' g hp h0 hv rr=>q p us H' Ha' (g1.trans g) (g1.s.free hp) h0 hv rr
    | _=>exact q.elim
end
section
variable {X:Cx}{E:XK}{He H0e:Hp}{e a b:Expr}{es:List Expr}{f g:Ev->Res D}{fa:Ev->Res (List D)}{pos:Pos}
noncomputable def zFC (x y:D):Res D:=match x,y with
 | .int i,.int j=>.ok (.int (if j < i then j else i))
 | _,_=>.stuck
theorem zE9:zhH X E (fun xs H Q=>∃ i j,xs=[.int i,.int j]/\Q (.int (if j < i then j else i)) H) (m2 zFC):=zFe fun x y v u H Ha Q hs r r' q=>by
 cases x with
 | int i =>
  cases y with
  | int j=>exact⟨i,j,by rw[zak.mp r,zak.mp r'],za0 hs q (ri _)⟩
  | _=>exact q.elim
 | _=>exact q.elim
end
end DL
namespace Cod
open PySem L2 DL Com
theorem zFj {c:Int}:zC1 (.int c)=.ok (.int (c.natAbs:Int)):=by
 show Res.ok (D.int (if c < 0 then -c else c))=_
 congr 2
 split<;>omega
noncomputable def zog:Ev->Res Fl :=
 (zax (zcm 2 (zaj (zab (zaf 0) zaz) (m1 zC1)))
 (zax (zcm 3 (zaf 1))
 (zax (zlk (zjz 3) (zad (zaf 3) (dC (.int 0)) dNe)
 (zax (zys 2 3 (zab (zaf 3) (zab (zad (zaf 2) (zaf 3) zfL) zaz)))
 zam))
 (zax (zb8 (zaj (zab (zad (zaf 0) (zaf 2) zvb) (zab (zad (zaf 1) (zaf 2) zvb) zaz)) zeH))
 zam))))
def za4:List D->Res D:=zdL 4 zog
theorem ztB {A B:Sl}:∀ (n:Nat) (a b:Int),0<=a->0<=b->b.natAbs < n->zcA (zad (zaf 3) (dC (.int 0)) dNe) (zax (zys 2 3 (zab (zaf 3) (zab (zad (zaf 2) (zaf 3) zfL) zaz))) zam) n [A,B,.sh (.int a),.sh (.int b)]=.ok (.nx [A,B,.sh (.int (saK a b:Int)),.sh (.int 0)])
 | 0,a,b,_,_,h=>absurd h (Nat.not_lt_zero _)
 | n+1,a,b,ha,hb,h=>by
  by_cases h0:b=0
  .subst h0
   have hc:(zad (zaf 3) (dC (.int 0)) dNe) (shr [A,B,.sh (.int a),.sh (.int 0)])=.ok (.bl false):=by
    cases A<;>cases B<;>rfl
   rw[zvx hc];have:((saK a 0:Nat):Int)=a:=by rw[Int.gcd_zero_right];omega
   rw[this]
  .have hc:(zad (zaf 3) (dC (.int 0)) dNe) (shr [A,B,.sh (.int a),.sh (.int b)])=.ok (.bl true):=by
    have:(b==0)=false:=beq_eq_false_iff_ne.mpr h0;cases A<;>cases B<;>open_line with[this]
   have f:=zgH (a:=a) (b:=b) (by omega);have hb0:(b==0)=false:=beq_eq_false_iff_ne.mpr h0;rw[zyD (ρ2:=[A,B,.sh (.int b),.sh (.int (a.fmod b))]) hc ?_,ztB n b (a.fmod b) (by omega) f.1 (by omega)]
   .rw[zoY]
   .cases A<;>cases B<;>open_line with[hb0]
theorem low_ok {a b:Int}(hb:0 < b)(h1:a.natAbs < B13)(h2:b.natAbs < B13):za4 [.int a,.int b]=.ok (fr (low a b)):=by
 have hg:0 < (saK a b:Int):=zlK (by omega);have hgn:(saK (a.natAbs:Int) b:Int)=(saK a b:Int):=by
  congr 1
 have hl:=ztB (A:=.sh (.int a)) (B:=.sh (.int b)) (b.natAbs+1) (a.natAbs:Int) b (by omega) (by omega) (sbS _);rw[hgn] at hl;have hwh:∀ (c:Ev->Res D) (s:Ev->Res Fl),zlk (zjz 3) c s [.sh (.int a),.sh (.int b),.sh (.int (a.natAbs:Int)),.sh (.int b)]=zcA c s (b.natAbs+1) [.sh (.int a),.sh (.int b),.sh (.int (a.natAbs:Int)),.sh (.int b)]:=fun _ _=>rfl;have d1:(saK a b:Int)∣a:=sc5 ..;have d2:(saK a b:Int)∣b:=Int.gcd_dvd_right ..;have q1:zhC a (saK a b:Int)=true:=zn2 (by omega) h1;have q2:zhC b (saK a b:Int)=true:=zn2 (by omega) h2;have e1:a.fdiv (saK a b:Int)=a / (saK a b:Int):=zhw hg;have e2:b.fdiv (saK a b:Int)=b / (saK a b:Int):=zhw hg;open_line with[za4,zog,zFj,hwh,hl,ztY q1,ztY q2,e1,e2]
 rfl
def S (cs:List Nat):Str:=⟨cs.toArray⟩
theorem S_inj {a b:List Nat}(h:S a=S b):a=b:=by
 have:=congrArg (fun s:Str=>s.cps.toList) h;simpa [S] using this
theorem zGJ (a:List Nat):(S a).length=a.length:=zE6 a
structure IsNm (cs:List Nat):Prop where
 l1:1<=cs.length
 l8:cs.length<=8
 ab:∀ x∈cs,zqA x=true
theorem IsNm.nameB {cs:List Nat}(h:IsNm cs):Com.nameB (S cs)=true:=by
 unfold Com.nameB;rw[zGJ];simp only[saA,decide_eq_true_eq];exact⟨h.l1,h.l8,saJ.mpr fun x hx=>h.ab x (by simpa [S] using hx)⟩
def nmsD (css:List (List Nat)):List D:=css.map fun cs=>D.str (S cs)
noncomputable def zvI (d:D):Res (List D):=match d with
 | .int j=>if -4611686018427387904<=j/\j < 4611686018427387904 then .ok (intsFrom 0 j.toNat) else .stuck
 | _=>.stuck
theorem ev_srcR1 {f:Ev->Res D}{ρ:Ev}:zim f ρ=(f ρ).bind zvI:=zav rfl
theorem srcR1_nat {k:Nat}(h:k<=1000000):zvI (.int (k:Int))=.ok (intsFrom 0 k):=by
 unfold zvI;dsimp only;rw[if_pos ⟨by omega,by omega⟩,scY]
def first (es:List Int)(m:Nat):List Nat:=(sbr m).map fun j=>97+((es[2+j]?).getD 0).toNat
end Cod
namespace DL
open PySem PySem.Spec PyProof.Rows L2
section
variable {X:Cx}{c e:Expr}{es:List Expr}{fc:Ev->Res D}{fa:Ev->Res (List D)}{ga gb:Ev->Res Fl}{sa sb:Stmt}{pos:Pos}
end
section
variable {X:Cx}{E:XK}{e a b o:Expr}{es:List Expr}{fe fo:Ev->Res D}{fa:Ev->Res (List D)}{pos:Pos}
end
section
variable {prog:Program}{w:World}{A:Around}{E:Value->Shared->Prop}{h:Heap}{g:Array GenState}{d:Drawn}{t:Nat}{os:OsState}
variable {nm q:Str}{C N:Addr}{bs bm bmB:List Value}{hdct:Bool}{sn:List Str}{sub:List Value}{ab:Bool}{col:Option Bool}{dd:Option Addr}{k0 k1 k2 k3 k5:Option Value}{B newId initId:String}{mN:Str->Option Value}{rest:List Value}{fI:Addr}{oI:Obj}
theorem zBa {Q:Fin->Shared->Prop}(F:ExcBaseFacts B newId initId bmB)(T:OwnTail h bmB bm)(hC:h.get? C=some (excClassObj nm q C N bs bm hdct sn sub ab col dd k0 k1 k2 k3 k5 newId))(hn:h.Ns N mN)(hi:mN "__init__"=some (.ref fI))(hfI:h.get? fI=some oI)(hfc:oI.cls=.type "function")(hrest:rest.length<=sizeLine)
  (hq:∀ h' e,Heap.MadeExcOf h h' e (.ref C) rest->wpAny (model prog w) A (call (.ref fI) (.ref e::rest)) (fun r s'=>r=.none/\Q (.done (.ret (.ref e))) s') E ⟨h',g,d,t,os⟩):wpAny (model prog w) A (Builtin.«type.__call__» ⟨.ref C::rest,[]⟩) Q E ⟨h,g,d,t,os⟩:=by
 repeat (first | with_reducible refine sbg hC ?_ | with_reducible refine wpAny_madeBy_exc hC ?_ | wp_step)
 refine codeAny_call_builtin_code (scU _ F.quiet) (wpAny_check_new_subT F T hC (codeAny_exc_new_subT F T hC ?_ hrest));generalize hT0:({ cls:=.type "tuple",data:=.seq rest.toArray }:Obj)=o0;generalize hX0:({ cls:=.ref C,data:=.fields #[.ref h.objs.size,.none,.none,.none,.bool false,.none] }:Obj)=o1;have kp:∀ b o,h.get? b=some o->((h.push o0).push o1).get? b=some o:=fun b o hb=>saf o1 (saf o0 hb);have hget:((h.push o0).push o1).get? (h.objs.size+1)=some o1:=by subst hX0 hT0;heap_get
 have hc1:o1.cls=.ref C:=by subst hX0;rfl
 have hcC:(saI C::bm).contains (.ref C)=true:=by simp
 show wpAny _ _ _ _ _ _;unfold isInstance
 repeat (first | (with_reducible refine sbg hget ?_;try rw[hc1]) | (with_reducible refine wpAny_isSubtype_exc (kp _ _ hC) ?_;rw[hcC]) | wp_step)
 show wpAny _ _ (typeLookup (.ref C) _) _ _ _;refine wpAny_typeLookup_tail (kp _ _ hC) (hn.keeps kp) (T.keeps kp) F.mroIs F.init.lookup ?_;rw[hi];refine sbl (sad (show wpAny _ _ (bindSpecial _ _) _ _ _ from ?_));unfold bindSpecial;refine sad (wpAny_typeOf (T:="function") ⟨_,kp _ _ hfI,hfc⟩ ?_);rw[if_pos (by decide)];refine saB (sad (sa8 (hq _ (h.objs.size+1) ⟨kp,sci (Nat.le_succ _),h.objs.size,by rw[hX0];exact hget,sci (saq _),?_⟩) (fun r s' hr=>?_) fun _ _ x=>x))
 .subst hT0;exact saf _ (Heap.get?_push_at rfl rfl)
 .obtain⟨rfl,hQ⟩:=hr
  wp_walk
  exact hQ
theorem zBd {Q:Value->Shared->Prop}(F:ExcBaseFacts B newId initId bmB)(T:OwnTail h bmB bm)(hC:h.get? C=some (excClassObj nm q C N bs bm hdct sn sub ab col dd k0 k1 k2 k3 k5 newId))(hn:h.Ns N mN)(hi:mN "__init__"=some (.ref fI))(hfI:h.get? fI=some oI)(hfc:oI.cls=.type "function")(hrest:rest.length<=sizeLine)
  (hq:∀ h' e,Heap.MadeExcOf h h' e (.ref C) rest->wpAny (model prog w) (A.under (.builtin "type.__call__" ⟨.ref C::rest,[]⟩)) (call (.ref fI) (.ref e::rest)) (fun r s'=>r=.none/\Q (.ref e) s') E ⟨h',g,d,t,os⟩):wpAny (model prog w) A (call (.ref C) rest) Q E ⟨h,g,d,t,os⟩:=by
 have f1:=tc_lookup;have f2:=tc_bind (.ref C);have hT:(⟨h,g,d,t,os⟩:Shared).TypeIs (.ref C) "type":=⟨_,hC,rfl⟩
 refine wpAny_call (codeAny_of_tree (show wpAny _ _ (callAny (.ref C) _) _ _ _ from ?_))
 repeat (any_goals (first | assumption | with_reducible refine sbg hC ?_ | wp_step))
 exact⟨rfl,codeAny_call_builtin_at (scU _ (by decide +kernel)) entry_typeCall (wpAny_check_type_call_sub hC (zBa F T hC hn hi hfI hfc hrest fun h' e hm=>hq h' e hm))⟩
end
section
variable {M:Model}{A:Around}{E:Value->Shared->Prop}{env:sba}
variable {nm q:Str}{C N:Addr}{bs bm:List Value}{hdct:Bool}{sn:List Str}{sub:List Value}{ab:Bool}{col:Option Bool}{dd:Option Addr}{k0 k1 k2 k3 k5:Option Value}{newId:String}
theorem zyx {s:Shared}{x:Sem Value}{Q:Flow->Shared->Prop}(hbase:bm.contains (.type "BaseException")=true)(hh:A.handled=none)
  (h:wpAny M A x (fun v sf=>∃ e dc t,v=.ref e/\sf.heap.get? C=some (excClassObj nm q C N bs bm hdct sn sub ab col dd k0 k1 k2 k3 k5 newId)/\sf.heap.get? e=some ⟨.ref C,dc,.fields #[.ref t,.none,.none,.none,.bool false,.none],#[]⟩/\E (.ref e) sf) E s):wpAny M A (raiseStmt env (some x) none) Q E s:=by
 have hcB:(saI C::bm).contains (.type "BaseException")=true:=by rw[List.contains_cons,hbase,Bool.or_true]
 unfold raiseStmt;refine sad (sa8 h (fun v sf ⟨e,dc,t,hv,hC,he,hE⟩=>?_) fun _ _ x=>x);subst hv;obtain⟨hp,g,d,tk,os⟩:=sf
 repeat (first | with_reducible refine sbg he ?_ | with_reducible refine sbg hC ?_ | (with_reducible refine wpAny_isSubtype_exc hC ?_;rw[hcB]) | wp_step)
 exact wpAny_raiseNew_none hh hE
end
noncomputable def zjO:List Value->Bool
 | .ref _::r=>zjO r
 | l=>l==[.type "ValueError",.type "Exception",.type "BaseException",.type "object"]
theorem zp9 (self:Value):∀ {l:List Value},zjO l=true->refuseLoop self "__setattr__" l=pure ()
 | [],e=>by cases e
 | x::r,e=>by
  cases x with
  | ref c=>rw[refuseLoop_ref];exact zp9 self (l:=r) (by unfold zjO at e;exact e)
  | _=>unfold zjO at e;rw[beq_iff_eq.mp e];exact PySem.F.store_ValueError.passes self
theorem zAi:∀ {l:List Value},zjO l=true->l.contains (.type "object")=true
 | [],e=>by cases e
 | x::r,e=>by
  cases x with
  | ref c=>rw[List.contains_cons,zAi (l:=r) (by unfold zjO at e;exact e),Bool.or_true]
  | _=>unfold zjO at e;rw[beq_iff_eq.mp e];decide
structure XSt (K:sab) (C:Addr) (ks:List Str):Prop where
 sa:sbO K (.ref C) "__setattr__"=some (some (.builtin "object.__setattr__"))
 hd:scm K C=true
 mr:(W.clsIn K C).any (fun cd=>zjO cd.mro)=true
 no:∀ f∈ks,zjb K C f
section
variable {prog:Program}{w:World}{A:Around}{K:sab}{C x:Addr}{s:Shared}{R:Result->Shared->Prop}
theorem zBc {ox:Obj}{od:Option Obj}{name:Str}{tk:Tok}{v:Value}{ks:List Str}(X:K.In s.heap)(I:W.InstAt s.heap x ox C od)(c:XSt K C ks)(hf:name∈ks)
  (h:∀ b,wpAny (model prog w) A.in1 (Builtin.ObjectAttr.storeInOwnDict (.ref x) (.ref C) (.str name tk) name v b) (fun fin s'=>match fin with | .done f=>R (.ok f) s' | .again c'=>c'.quiet=true/\codeAny (model prog w) A c' R s') (fun e s'=>R (.error e) s') s) :
  codeAny (model prog w) A (.call (.builtin "object.__setattr__") ⟨[.ref x,.str name tk,v],[]⟩) R s:=by
 have SF:=PySem.F.store_object;obtain⟨cd,hc,ho⟩:=W.any_some c.mr;have ne:cd.mro.isEmpty=false:=by cases q:cd.mro with | nil=>rw[q] at ho;cases ho | cons _ _=>rfl
 have sub:W.Looks (model prog w) s.heap (isInstance (.ref x) (.type "object")) true:=I.type.andThen (W.looks_mroIn X (by unfold scE;rw[hc,Option.bind_some,if_neg (by rw[ne];decide),zAi ho]));refine codeAny_call_builtin SF.slot.plain SF.entry (@W.check_slot (model prog w) _ _ s "object.__setattr__" "object" "__setattr__" (.ref x) [.str name tk,v] [] _ SF.kind SF.split sub (SF.args (.ref x) (.str name tk) v) ?_);have hm:W.Looks (model prog w) s.heap (mroOf (.ref C)) cd.mro:=(W.looks_clsIn X hc).andThen .now;rw[W.osa_eq,refuse_eq];refine sad (sad (I.type.here (sad (hm.here ?_))));rw[zp9 _ ho];refine saB ?_;have L3:W.Looks (model prog w) s.heap (Builtin.ObjectAttr.storeTaker? none) none:=.now;have L2:W.Looks (model prog w) s.heap (typeLookup (.ref C) name) none:=W.looks_findIn X (c.no name hf);refine sad (I.type.here (sad (L2.here (sad (L3.here ?_)))));exact h _
theorem zBb {E:Value->Shared->Prop}{Q:Unit->Shared->Prop}{name:Str}{v:Value}{ks:List Str}{fs:Array Value}(X:K.In s.heap)(hx:s.heap.get? x=some ⟨.ref C,none,.fields fs,#[]⟩)(c:XSt K C ks)(hf:name∈ks)
  (h:∀ h',h'.get? x=some ⟨.ref C,some s.heap.objs.size,.fields fs,#[]⟩->h'.Ns1 s.heap.objs.size (fun y=>if y=name then some v else none)->(∀ b o,b≠x->s.heap.get? b=some o->h'.get? b=some o)->Q () { s with heap:=h',toks:=s.toks+2 }) :
  wpAny (model prog w) A (setAttr (.ref x) name v) Q E s:=by
 have J:W.InstAt s.heap x ⟨.ref C,none,.fields fs,#[]⟩ C none:=⟨hx,rfl,rfl,trivial⟩
 refine W.set_plain X J c.sa (zBc (s:={ s with toks:=s.toks+1 }) X J c hf fun b=>?_);obtain⟨cd,hc,hd'⟩:=W.any_some c.hd;refine sad (saB (sad (sad (wpAny_loadPart hx (sad (W.Looks.here (s:={ s with toks:=s.toks+1 }) (W.looks_clsIn X hc) ?_))))));rw[hd'];have hx₁:(s.heap.push scL).get? x=some ⟨.ref C,none,.fields fs,#[]⟩:=saf _ hx;have hxs:x≠s.heap.objs.size:=saE (sap hx);have hgd:((s.heap.push scL).update x fun o=>{ o with dict:=some s.heap.objs.size }).get? s.heap.objs.size=some scL:=(Heap.get?_update_ne _ _ _ _ hxs.symm).trans (Heap.get?_push_at rfl rfl);have hnd:((s.heap.push scL).update x fun o=>{ o with dict:=some s.heap.objs.size }).Ns s.heap.objs.size (fun _=>none):=⟨_,#[],_,hgd,rfl,fun e he=>absurd he (by simp),fun _=>rfl⟩
 have hx2:((s.heap.push scL).update x fun o=>{ o with dict:=some s.heap.objs.size }).get? x=some ⟨.ref C,some s.heap.objs.size,.fields fs,#[]⟩:=sbn _ hx₁ rfl;refine sad (wpAny_alloc' (sad (wpAny_update' hx₁ (saB ?_))));refine sad (saB (sad (wpAny_nsSet1 (Heap.Ns1.of_empty hnd) fun h' hn' hs=>?_)));obtain⟨oD,esD,epD,hoD,hdD,hcD⟩:=hn'.count (scq.cons name v scq.nil);refine sad (wpAny_lookBehind hoD (by rw[hdD];exact pastItsLine_dict (sat hcD (by rw[sau,sbu,sizeLine_eq];omega))) (saB (h h' ?_ hn' fun b o hb e=>?_)))
 .exact(hs.2 x hxs).trans hx2
 .exact(hs.2 b (saE (sap e))).trans ((Heap.get?_update_ne _ _ _ _ hb).trans (saf _ e))
end
noncomputable def ExN (a C:Addr) (dc:Option Addr) (h:Heap):Prop:=∃ t,h.get? a=some ⟨.ref C,dc,.fields #[.ref t,.none,.none,.none,.bool false,.none],#[]⟩
noncomputable def XDs (a:Addr) (fs:List (Str×V)) (h:Heap):Prop:=∃ mA,h.Ns1 a mA/\(∀ f,zC2 (fs.lookup f) (mA f))/\scq mA (fs.map (·.1))
theorem zo0 {a C:Addr}{dc:Option Addr}:∀ h1 h2:Heap,ExN a C dc h1->(∀ o,h1.get? a=some o->h2.get? a=some o)->ExN a C dc h2:=fun _ _ ⟨t,e⟩ k=>⟨t,k _ e⟩
theorem zyA {a:Addr}{fs:List (Str×V)}:∀ h1 h2:Heap,XDs a fs h1->(∀ o,h1.get? a=some o->h2.get? a=some o)->XDs a fs h2:=fun _ _ ⟨m,n,r⟩ k=>⟨m,n.at k,r⟩
theorem zvw {a:Addr}{fs:List (Str×V)}{h:Heap}(x:XDs a fs h):∃ o,h.get? a=some o:=let ⟨_,⟨o,_,_,e,_⟩,_⟩:=x;⟨o,e⟩
theorem zBf {a:Addr}{fs:List (Str×V)}{h:Heap}{mA:Str->Option Value}{f:Str}{y:V}{u:Value}(ry:zcb y u)(r:∀ f,zC2 (fs.lookup f) (mA f))(wi:scq mA (fs.map (·.1)))(n:h.Ns1 a (fun z=>if z=f then some u else mA z)):XDs a (zuy f y fs) h:=by
 refine⟨_,n,fun g=>?_,fun g hg=>?_⟩
 .rw[zlC]
  by_cases q:g=f
  .rw[if_pos q];simp only[if_pos q];exact ry
  .rw[if_neg q];simp only[if_neg q];exact r g
 .by_cases q:g=f
  .rw[q];exact(zlH f y fs).1
  .exact(zlH f y fs).2 g (wi g fun z=>hg (by simp only[if_neg q];exact z))
section
variable {X:Cx}{o value:Expr}{f:Str}{pos pos':Pos}{ta tv:TE}
noncomputable def sX1 (K:sab) (ta tv:TE) (f:Str):TS:=fun D σ H=>tv σ H fun y H1=>ta σ H1 fun x H2=>∃ a C ks,x=.ref a/\H2 a=some (.ext (ExN a C none))/\XSt K C ks/\f∈ks/\∀ dx,H2 dx=none->D.nx σ (upd (upd H2 a (.ext (ExN a C (some dx)))) dx (.ext (XDs dx [(f,y)])))
theorem zF8 (ha:PE X o ta)(hv:PE X value tv)(hs:swapsWith value (some (.Attribute o f pos')) pos.line X.env=pure false):PS X (.Assign [.Attribute o f pos'] value pos) (sX1 X.K ta tv f):=by
 intro pins s σ H D I h;refine plainObj_wpAny_Assign_Attribute (thn (hv pins s σ H _ I h) fun u s1 ⟨y,H1,I1,ry,q⟩=>thn (ha pins s1 σ H1 _ I1 q) fun ov s2 ⟨x,H2,I2,rx,a,C,ks,ex,ea,c,hf,q2⟩=>?_) hs;subst ex;obtain rfl:ov=saI a:=rx;obtain⟨⟨t,hx⟩,_,_⟩:=(show zcp X.prog X.w H2 s2.heap a (.ext _) from I2.hok a _ ea)
 have fr:H2 s2.heap.objs.size=none:=I2.hok.fresh (saq _);have hne:s2.heap.objs.size≠a:=fun z=>sb3 _ (z▸sap hx);refine zBb I2.kIn hx c hf fun h' e' n' k'=>⟨σ,_,?_,q2 s2.heap.objs.size fr⟩
 have p:XDs s2.heap.objs.size [(f,y)] h':=zBf (fs:=[]) (mA:=fun _=>none) ry (fun _=>scl) (fun _ z=>absurd rfl z) n';have mu:Mut (H2 a):=by rw[ea];exact scl
 have fr':(upd H2 a (.ext (ExN a C (some s2.heap.objs.size)))) s2.heap.objs.size=none:=by rw[zan hne];exact fr
 exact I2.un (Un.ext (Un.write mu (.inl rfl) (fun b q hb z=>k' b q hb z) ⟨_,e'⟩) fr' (sci (saq _))) (HOk.ext (I2.hok.write (o':=.ext (ExN a C (some s2.heap.objs.size))) mu (.inl rfl) (fun b q hb z=>k' b q hb z) ⟨_,e'⟩ ⟨⟨t,e'⟩,⟨_,e'⟩,zo0⟩) fr' p (zvw p) zyA)
end
noncomputable def zFM (is:List Nat):TA:=fun σ H Q=>∃ vs,is.map (fun i=>σ[i]?)=vs.map (fun v=>some (some v))/\Q vs H
structure PV (X:Cx) (es:List Expr) (is:List Nat):Prop where
 o:PA X es (zFM is)
section
variable {X:Cx}
theorem zDO:PV X [] []:=⟨fun pos pins s σ H Q I ⟨vs,e,h⟩=>by
 cases vs with
 | nil=>exact ze7 pos pins s σ H Q I h
 | cons v vs=>simp at e⟩
theorem zvY {es:List Expr}{is:List Nat}{i:Nat}{y:Str}{p:Pos}(hN:X.N[i]?=some y)(hv:Vis X.env.scope y)(h:PV X es is)(hd:(y==("__debug__" : Str))=false:=by decide)(hcd:(y==("__classdict__" : Str))=false:=by decide):PV X (.Name y p::es) (i::is) :=
 ⟨fun pos pins s σ H Q I ⟨vs,e,q⟩=>by
  cases vs with
  | nil=>simp at e
  | cons v vs =>
   simp only[saN,List.cons.injEq] at e;exact zbW (zir hN hv hd hcd) h.o (zaH rfl) pos pins s σ H Q I ⟨v,e.1,vs,e.2,q⟩⟩
structure zCS (K:sab) (CE:Addr):Prop where
 rd:W.readsIn K CE (.type "type")=true
 fc:W.findCls K (.ref CE) (.type "type") "__init__"=some (.val (.builtin "ValueError.__init__"))
 sp:W.specialIn K (.ref CE) "__getattribute__"=some (some (.builtin "type.__getattribute__"))
structure XIn (K:sab) (C fn:Addr):Prop where
 ex:∃ CE nm q N bs hdct sn sub ab col dd k0 k1 k2 k3 k5,K.lookup C=some (excClassObj nm q C N bs [.ref CE,.type "ValueError",.type "Exception",.type "BaseException",.type "object"] hdct sn sub ab col dd k0 k1 k2 k3 k5 "ValueError.__new__")/\W.nsOkIn K N=true/\sa4 K N "__init__"=some (some (.ref fn)) /\
  W.excIn K CE [.type "ValueError",.type "Exception",.type "BaseException",.type "object"] "ValueError.__new__"=true
theorem zBZ {K:sab}{h:Heap}{N:Addr}{mg:Str->Option Value}{n:Str}{v:Value}(X:K.In h)(G:h.Ns N mg)(e:sa4 K N n=some (some v)):mg n=some v:=by
 obtain⟨o,es,ep,ho,hd,_,hf⟩:=G;unfold sa4 at e;split at e
 .rename_i c d es' n' sl q
  have:=X _ _ q;rw[ho] at this;cases this;cases hd;split at e
  .rename_i en he
   rw[← hf];unfold nsFind findBy;rw[← Array.find?_toList,he];simpa using e
  .split at e<;>cases e
 .cases e
structure zHY (h:Heap) (C fn:Addr):Prop where
 ex:∃ bm N nm q bs hdct sn sub ab col dd k0 k1 k2 k3 k5 mN,h.get? C=some (excClassObj nm q C N bs bm hdct sn sub ab col dd k0 k1 k2 k3 k5 "ValueError.__new__")/\h.Ns N mN/\mN "__init__"=some (.ref fn)/\OwnTail h [.type "ValueError",.type "Exception",.type "BaseException",.type "object"] bm
theorem zyN {K:sab}{CE:Addr}{h:Heap}(X:K.In h)(q:W.excIn K CE [.type "ValueError",.type "Exception",.type "BaseException",.type "object"] "ValueError.__new__"=true):OwnTail h [.type "ValueError",.type "Exception",.type "BaseException",.type "object"] [.ref CE,.type "ValueError",.type "Exception",.type "BaseException",.type "object"]:=by
 unfold W.excIn at q;split at q
 .rename_i dd cd sl ho
  split at q
  .simp only[saA,beq_iff_eq,Bool.not_eq_true'] at q
   obtain⟨⟨⟨⟨_,_⟩,_⟩,hok⟩,hni⟩:=q;exact .own (X _ _ ho) (.of_isNs (W.isNs_of_in X hok)) (W.nsMap_none_of_in X hok hni) .base
  .cases q
 .cases q
theorem zvv {K:sab}{C fn:Addr}{h:Heap}(X:K.In h)(q:XIn K C fn):zHY h C fn:=by
 obtain⟨CE,nm,qn,N,bs,hdct,sn,sub,ab,col,dd,k0,k1,k2,k3,k5,ho,hok,hi,he⟩:=q.ex;exact⟨_,N,nm,qn,bs,hdct,sn,sub,ab,col,dd,k0,k1,k2,k3,k5,_,X _ _ ho,.of_isNs (W.isNs_of_in X hok),zBZ X (.of_isNs (W.isNs_of_in X hok)) hi,zyN X he⟩
noncomputable def sXI (K:sab) (t:TA):TE:=fun σ H Q=>t σ H fun vs H1=>∃ a C rest fn,vs=.ref a::rest/\rest.length<=line/\H1 a=some (.ext (ExN a C none))/\XIn K C fn/\Q .non (upd H1 a (.ext (ExN a C none)))
theorem zGc {ce:Str}{CE:Addr}{np apos cpos:Pos}{e:Expr}{es:List Expr}{t:TA}{pl:Sem Bool}(b:zCS X.K CE)(hg:Gl X ce)(hm:X.mg ce=some (.ref CE))(ha:PA X (e::es) t)(hdb:(ce==("__debug__" : Str))=false:=by decide)
  (he:starEach (e::es) X.env=(false,eval e X.env)::starEach es X.env:=by exact zaH rfl)(hpl:(backTo cpos (starEach es X.env)).any (·.1)=false:=by exact za9 rfl)
  (ht:eval (.Call (.Attribute (.Name ce np) "__init__" apos) (e::es) [] cpos) X.env=(do
   let ov ← eval (.Name ce np) X.env
   standAt apos.atName
   let (f,first) ← holding [ov] (getMethod ov "__init__" pl)
   callWith cpos f first (backTo cpos (starEach (e::es) X.env)) (backToKw cpos (keywordEach [] X.env))):=by rfl) :
  PE X (.Call (.Attribute (.Name ce np) "__init__" apos) (e::es) [] cpos) (sXI X.K t):=by
 intro pins s σ H Q I h;refine W.methodCall_KW (pl:=pl) (zjy I hg hm (W.method_cls I.kIn b.sp (W.cls_value I.kIn b.rd b.fc rfl ?_)) hdb) ht;have I0:=I.tok (s.toks+1);have hA:=ha cpos pins _ σ H _ I0 h;rw[he] at hA ⊢;refine Calls.callWith_builtin (by show(false||(backTo cpos (starEach es X.env)).any (·.1))=false;rw[hpl];rfl) (scJ (thn hA fun us s1 ⟨vs,H1,I1,r,a,C,rest,fn,ev,hl,ea,hx,q⟩=>?_));subst ev;obtain⟨_,us',rfl,ra,r'⟩:∃ u us',us=u::us'/\zcb (.ref a) u/\zbT rest us':=by cases r with | cons r1 r2=>exact⟨_,_,rfl,r1,r2⟩
 obtain rfl:_=saI a:=ra;obtain⟨bm,N,nm,qn,bs,hdct,sn,sub,ab,col,dd,k0,k1,k2,k3,k5,mN,hC,hn,hi,T⟩:=(zvv I1.kIn hx).ex;obtain⟨⟨t0,hae⟩,_,_⟩:=(show zcp X.prog X.w H1 s1.heap a (.ext _) from I1.hok a _ ea)
 have F:=sco;have hz:us'.length<=sizeLine:=by rw[← r'.length];exact zcw hl
 obtain⟨hp,g,d,tk,os⟩:=s1;refine wpAny_call (codeAny_call_builtin F.init.plain F.initEntry (wpAny_check_init_subT F T hC hae rfl ?_))
 wp_walk
 have mu:Mut (H1 a):=by rw[ea];exact scl
 have hne:a≠hp.objs.size:=saE (sap hae);refine⟨.non,upd H1 a (.ext (ExN a C none)),I1.write (o:=.ext (ExN a C none)) (x:=a) (e:=a) mu (.inl rfl) (fun b u hb e=>(sbf _ _ (saT hb)).trans (saf _ e)) ⟨_,sbn _ (saf _ hae) rfl⟩ ⟨⟨hp.objs.size,?_⟩,⟨_,sbn _ (saf _ hae) rfl⟩,zo0⟩,rfl,q⟩;rw[sbn _ (saf _ hae) rfl];rfl
end
section
variable {X:Cx}
noncomputable def tXR (K:sab) (fs:List Str) (is:List Nat):TS:=fun D σ H=>∃ a C dx l ks vs,σ[0]?=some (some (V.ref a))/\H a=some (.ext (ExN a C (some dx)))/\H dx=some (.ext (XDs dx l))/\dx≠a/\XSt K C ks/\(∀ f∈fs,f∈ks)/\l.length+fs.length < 1000/\fs.length=vs.length /\
 is.map (fun i=>σ[i]?)=vs.map (fun v=>some (some v))/\D.nx σ (upd H dx (.ext (XDs dx (putAll fs vs l))))
structure XR (X:Cx) (sts:List Stmt) (fs:List Str) (is:List Nat):Prop where
 o:PSs X sts (tXR X.K fs is)
theorem zC7:XR X [] [] []:=⟨zeA zoI fun D σ H ⟨a,C,dx,l,ks,vs,h1,h2,h3,h4,h5,h6,h7,h8,h9,q⟩=>by
 cases vs with
 | nil=>unfold putAll at q;rw[zs9 h3] at q;exact q
 | cons v vs=>simp at h8⟩
noncomputable def tXB (K:sab) (ks:List Str) (is:List Nat):TS:=fun D σ H=>∃ a C fn vs,σ[0]?=some (some (V.ref a))/\H a=some (.ext (ExN a C none))/\XSt K C ks/\XIn K C fn/\ks.length=vs.length/\ks.length<=60 /\
 is.map (fun i=>σ[i]?)=vs.map (fun v=>some (some v))/\∀ dx,H dx=none->D.nx σ (upd (upd H a (.ext (ExN a C (some dx)))) dx (.ext (XDs dx (putAll ks vs []))))
structure XB (X:Cx) (sts:List Stmt) (ks:List Str) (is:List Nat):Prop where
 o:PSs X sts (tXB X.K ks is)
theorem zFJ {sts:List Stmt}{fs:List Str}{is:List Nat}{f:Str}{i:Nat}{x y ce:Str}{CE:Addr}{p1 p2 p3 pos np apos cpos spos sp0:Pos}{es:List Expr}{pl:Sem Bool}(b:zCS X.K CE)(hg:Gl X ce)(hm:X.mg ce=some (.ref CE))(hpv:PV X es (i::is))(hN:X.N[i]?=some y)(hN0:X.N[0]?=some x)(hv:Vis X.env.scope y)(hv0:Vis X.env.scope x)(h:XR X sts fs is)
  (hd:(y==("__debug__" : Str))=false:=by decide)(hcd:(y==("__classdict__" : Str))=false:=by decide)(hd0:(x==("__debug__" : Str))=false:=by decide)(hcd0:(x==("__classdict__" : Str))=false:=by decide)(hdb:(ce==("__debug__" : Str))=false:=by decide)
  (hs:swapsWith (.Name y p3) (some (.Attribute (.Name x p1) f p2)) pos.line X.env=pure false:=by rfl)(hs0:swapsWith (.Call (.Attribute (.Name ce np) "__init__" apos) (.Name x sp0::es) [] cpos) none spos.line X.env=pure false:=by rfl)(hpl:(backTo cpos (starEach es X.env)).any (·.1)=false:=by exact za9 rfl)
  (ht:eval (.Call (.Attribute (.Name ce np) "__init__" apos) (.Name x sp0::es) [] cpos) X.env=(do
   let ov ← eval (.Name ce np) X.env
   standAt apos.atName
   let (f,first) ← holding [ov] (getMethod ov "__init__" pl)
   callWith cpos f first (backTo cpos (starEach (.Name x sp0::es) X.env)) (backToKw cpos (keywordEach [] X.env))):=by rfl) :
  XB X (.Expr (.Call (.Attribute (.Name ce np) "__init__" apos) (.Name x sp0::es) [] cpos) spos::.Assign [.Attribute (.Name x p1) f p2] (.Name y p3) pos::sts) (f::fs) (i::is):=by
 refine⟨zeA (zfX (zoJ (zGc b hg hm (zvY (p:=sp0) hN0 hv0 hpv hd0 hcd0).o hdb (zaH rfl) hpl ht) hs0) (zfX (zF8 (zir hN0 hv0 hd0 hcd0) (zir hN hv hd hcd) hs) h.o)) fun D σ H ⟨a,C,fn,vs,h1,h2,h3,h4,h5,h6,h7,q⟩=>?_⟩;refine⟨.ref a::vs,(show σ[0]?::(i::is).map (fun i=>σ[i]?)=some (some (V.ref a))::vs.map (fun v=>some (some v)) by rw[h1,h7]),a,C,vs,fn,rfl,?_,h2,h4,?_⟩
 .have:vs.length<=60:=by omega
  exact sat this (by decide)
 .cases vs with
  | nil=>simp at h5
  | cons v vs =>
   simp only[saN,List.cons.injEq] at h7;simp only[sau] at h5 h6;rw[zs9 h2];refine⟨v,h7.1,.ref a,h1,a,C,f::fs,rfl,h2,h3,sax,fun dx hdx=>?_⟩;have hne:dx≠a:=fun z=>by subst z;rw[h2] at hdx;cases hdx
   refine⟨a,C,dx,[(f,v)],f::fs,vs,h1,?_,zao,hne,h3,fun g hg=>sak _ hg,?_,by omega,h7.2,?_⟩
   .rw[zan hne.symm,zao]
   .simp only[sau,sbu];omega
   .rw[zpT]
    have:=q dx hdx;unfold putAll at this;exact this
end
noncomputable def zFu (K:sab) (ks:List Str):Sp:=fun vs H Q _=>∃ a C fn args,vs=.ref a::args/\args.length=ks.length/\H a=some (.ext (ExN a C none))/\XSt K C ks/\XIn K C fn/\∀ dx,H dx=none->Q .non (upd (upd H a (.ext (ExN a C (some dx)))) dx (.ext (XDs dx (putAll ks args []))))
theorem zGt {P:Program}{w:World}{K:sab}{mg:Str->Option Value}{base:Heap}{x qual:Str}{st:Stmt}{f:Addr}{fd:FuncData}{ps:List Str}{ks:List Str}(F:Fun K x qual st f fd)(S:zay ps ps (defScope st))(hps:ps.length=ks.length+1)(hf:ks.length<=60)
  (hbody:∀ (cdv:Value) (A:Around) (outer:List sba) (s0:Shared) (H:Hp) (E:XK),XB (zk0 CX0 P w K mg base ps qual (defScope st) f cdv A outer s0 H E).nox (defBody st) ks ((sbr ks.length).map (· + 1))):zbP P w K mg base CX0 1 f fd ps (zFu K ks):=by
 refine F.ok S (fun vs H Q E h=>?_) fun cdv A outer s0 H vs Q E hr h=>?_
 .obtain⟨a,C,fn,args,rfl,hl,_⟩:=h
  simp [hl,hps]
 .obtain⟨a,C,fn,args,rfl,hl,hH,hC,hn,q⟩:=h
  refine⟨_,(hbody cdv A outer s0 H E).o,a,C,fn,args,?_,hH,hC,hn,hl.symm,hf,?_,q⟩
  .unfold L2.start;simp
  .unfold L2.start
   apply List.ext_getElem?;intro i;simp only[sai,scH]
   by_cases hi:i < ks.length
   .have hia:i < args.length:=by omega
    simp [hi,hia,san,saW]
   .have hia:¬ i < args.length:=by omega
    simp [hi,hia]
section
variable {prog:Program}{w:World}{A:Around}{E:Value->Shared->Prop}{s:Shared}{env:sba}
variable {nm q:Str}{C N:Addr}{bs bm bmB:List Value}{hdct:Bool}{sn:List Str}{sub:List Value}{ab:Bool}{col:Option Bool}{dd:Option Addr}{k0 k1 k2 k3 k5:Option Value}{B newId initId:String}{mN:Str->Option Value}{fI:Addr}{oI:Obj}
theorem zyy (F:ExcBaseFacts B newId initId bmB){x:Str}{np cpos pos:Pos}{args:List Expr}{Q:Flow->Shared->Prop}(hbase:bm.contains (.type "BaseException")=true)(hh:A.handled=none)(hplain:(backTo cpos (starEach args env)).any (·.1)=false)(hi:mN "__init__"=some (.ref fI))
  (h:wpAny (model prog w) A (eval (.Name x np) env) (fun f sf=>f=.ref C/\wpAny (model prog w) A (evalArgs (.ref C) true (backTo cpos (starEach args env)) []) (fun a si=>a.kw=[]/\a.pos.length<=sizeLine/\si.heap.get? C=some (excClassObj nm q C N bs bm hdct sn sub ab col dd k0 k1 k2 k3 k5 newId)/\si.heap.Ns N mN/\OwnTail si.heap bmB bm/\si.heap.get? fI=some oI/\oI.cls=.type "function" /\
    ∀ h' e,Heap.MadeExcOf si.heap h' e (.ref C) a.pos->wpAny (model prog w) (A.under (.builtin "type.__call__" ⟨.ref C::a.pos,[]⟩)) (call (.ref fI) (.ref e::a.pos)) (fun r s'=>r=.none/\s'.heap.get? C=some (excClassObj nm q C N bs bm hdct sn sub ab col dd k0 k1 k2 k3 k5 newId)/\(∃ dc t,s'.heap.get? e=some ⟨.ref C,dc,.fields #[.ref t,.none,.none,.none,.bool false,.none],#[]⟩)/\E (.ref e) s') E { si with heap:=h' }) E sf) E s) :
  wpAny (model prog w) A (exec (.Raise (some (.Call (.Name x np) args [] cpos)) none pos) env) Q E s:=by
 rw[arm_exec_Raise];refine sad (wpAny_standAt (zyx (C:=C) (nm:=nm) (q:=q) (N:=N) (bs:=bs) (bm:=bm) (hdct:=hdct) (sn:=sn) (sub:=sub) (ab:=ab) (col:=col) (dd:=dd) (k0:=k0) (k1:=k1) (k2:=k2) (k3:=k3) (k5:=k5) (newId:=newId) hbase hh (sad (sa8 (wpAny_Call_ofName (sa8 h (fun f sf hV=>?_) fun _ _ x=>x)) (fun v sk hU=>sad (wpAny_standAt (saB hU))) fun _ _ x=>x))));obtain⟨rfl,hV⟩:=hV;unfold callWith;refine sad (sbl (sa8 hV (fun⟨apos,akw⟩ si ⟨hkw,hlen,hC,hn,T,hf,hfc,hZ⟩=>sad (wpAny_standAt ?_)) fun _ _ x=>x));obtain rfl:akw=[]:=hkw;obtain⟨hp,g,d,tk,os⟩:=si;simp only[hplain];refine sad (wpAny_keeperOf_exc hC (sad (zBd F T hC hn hi hf hfc hlen fun h' e hm=>sa8 (hZ h' e hm) (fun r s' hr=>?_) fun _ _ z=>z)));obtain⟨rfl,hC',⟨dc,t,he⟩,hE⟩:=hr;exact⟨rfl,sad (sbl (wpAny_point (saB ⟨e,dc,t,rfl,hC',he,hE⟩)))⟩
end
structure zCR (K:sab) (x:Str) (C:Addr):Prop where
 i:zr6 K x C
 cls:sbO K (.ref C) "__class__"=some (some (.builtin "object.__class__"))
 ga:sbO K (.ref C) "__getattribute__"=some (some (.builtin "BaseException.__getattribute__"))
 gt:sbO K (.ref C) "__getattr__"=some none
 t1:sa0 K (.ref C) (.type "NoneType")=some false
 t2:sa0 K (.ref C) (.type "bool")=some false
 t3:sa0 K (.ref C) (.type "int")=some false
 t4:sa0 K (.ref C) (.type "str")=some false
 t5:sa0 K (.ref C) (.type "tuple")=some false
 t6:sa0 K (.ref C) (.type "list")=some false
 t7:sa0 K (.ref C) (.type "dict")=some false
 ve:sa0 K (.ref C) (.type "ValueError")=some true
 self:sa0 K (.ref C) (.ref C)=some true
theorem zCR.xc {K:sab}{x:Str}{C:Addr}(Z:zCR K x C):XC K x C :=
 ⟨Z.i.ns,⟨Z.cls,Z.ga,Z.gt,Z.i.ob,Z.i.be⟩,fun T hT=>by
  refine zAA (zsD T hT) ?_;simp only[zhi,sam,saU,or_false] at hT;rcases hT with rfl | rfl | rfl | rfl | rfl | rfl | rfl
  all_goals first | exact Z.t1 | exact Z.t2 | exact Z.t3 | exact Z.t4 | exact Z.t5 | exact Z.t6 | exact Z.t7⟩
theorem zC6 {K:sab}{C fn:Addr}{ks:List Str}(z:XIn K C fn)(sa:sbO K (.ref C) "__setattr__"=some (some (.builtin "object.__setattr__")))(hd:scm K C=true)(no:∀ f∈ks,zjb K C f):XSt K C ks:=by
 obtain⟨CE,nm,qn,N,bs,hdct,sn,sub,ab,col,dd,k0,k1,k2,k3,k5,ho,_⟩:=z.ex;refine⟨sa,hd,?_,no⟩;unfold W.clsIn;rw[ho];rfl
section
variable {P:Program}{w:World}{K:sab}{mg:Str->Option Value}{base:Heap}{N:List Str}{qual:Str}{scope:Scope}{f:Addr}{cd:Value}{A:Around}{outer:List sba}{s0:Shared}{H0:Hp}{E:XK}{He H0e:Hp}
theorem zzx {H:Hp}{h:Heap}{e dx:Addr}{o1 o2:HO}(ok:HOk P w (upd (upd H e o1) dx o2) h)(he:H e=none)(hd:H dx=none)(n1:∀ b,o1≠.own b)(n2:∀ b,o2≠.own b)(m1:∀ b,o1≠.tup b)(m2:∀ b,o2≠.tup b):HOk P w H h:=fun a o q=>by
 have a1:a≠e:=fun z=>by subst z;rw[he] at q;cases q
 have a2:a≠dx:=fun z=>by subst z;rw[hd] at q;cases q
 refine(ok a o (by rw[zan a2,zan a1];exact q)).stay (fun b u _ z=>z) (fun b z=>?_) fun b xs z=>?_
 .by_cases b2:b=dx
  .subst b2;rw[zao] at z;exact absurd (saS z) (n2 _)
  .rw[zan b2] at z
   by_cases b1:b=e
   .subst b1;rw[zao] at z;exact absurd (saS z) (n1 _)
   .rw[zan b1] at z;exact z
 .by_cases b2:b=dx
  .subst b2;rw[zao] at z;exact absurd (saS z) (m2 _)
  .rw[zan b2] at z
   by_cases b1:b=e
   .subst b1;rw[zao] at z;exact absurd (saS z) (m1 _)
   .rw[zan b1] at z;exact z
theorem zyn {fs:List Addr}{H H2:Hp}{h h2:Heap}(u:Un fs [] H H2 h h2):Un fs [] H H h h2:=⟨u.keep,u.slot,fun _ _ _ n _=>n,u.there,fun _ _ q=>q,fun _ _ _ q=>q,fun _ ps q=>⟨#[],by rw[q];simp⟩⟩
end
def zEj (e:DictEntry):Bool:=match e.key with
 | .str _ _=>true
 | _=>false
theorem zAg {K:sab}{C CE fn N:Addr}{nm q:Str}{bs sub:List Value}{hdct ab:Bool}{sn:List Str}{col:Option Bool}{dd dn:Option Addr}{k0 k1 k2 k3 k5:Option Value}{cn:Value}{es:Array DictEntry}{ep:Nat}{st:Array (Option Value)}
  (xl:K.lookup C=some (excClassObj nm q C N bs [.ref CE,.type "ValueError",.type "Exception",.type "BaseException",.type "object"] hdct sn sub ab col dd k0 k1 k2 k3 k5 "ValueError.__new__"))(xn:K.lookup N=some ⟨cn,dn,.dict es ep,st⟩)(xk:es.toList.all zEj=true)(xv:sa4 K N "__init__"=some (some (.ref fn)))
  (xb:W.excIn K CE [.type "ValueError",.type "Exception",.type "BaseException",.type "object"] "ValueError.__new__"=true):XIn K C fn:=by
 refine⟨CE,nm,q,N,bs,hdct,sn,sub,ab,col,dd,k0,k1,k2,k3,k5,xl,?_,xv,xb⟩;unfold W.nsOkIn;rw[xn];rw[Array.all_toList] at xk;exact xk
def zH5 (x:D):Res D:=match x with
 | .lst ds=>.ok (.lst ds.reverse)
 | _=>.stuck
section
variable {X:Cx}{E:XK}{e a st:Expr}{f:Ev->Res D}{te:TE}{pos p2:Pos}
end
noncomputable def zvs (f:Ev->Res D) (lo hi:Ev->Res (Option Int)):Ev->Res D:=fun ρ=>(f ρ).bind fun x=>(lo ρ).bind fun l=>(hi ρ).bind fun h=>match x with
 | .lst ds=>.ok (.lst (zkK ds l h))
 | _=>.stuck
section
variable {X:Cx}{E:XK}{a:Expr}{f:Ev->Res D}{pos p2:Pos}
theorem zub {lo hi:Option Expr}{fl fh:Ev->Res (Option Int)}(ha:DE X E a f)(hl:DO X E lo fl)(hh:DO X E hi fh):DF X E (.Subscript a (.Slice lo hi none p2) pos) (zvs f fl fh):=by
 refine⟨zaR (ztq zvK ha.o hl.o hh.o) fun σ H Q ⟨Ha,ρ,hs,hr,q⟩=>⟨Ha,ρ,hs,hr,?_⟩⟩;unfold zvs at q;cases e1:f ρ with
 | stuck=>rw[e1] at q;exact q
 | exn x=>rw[e1] at q;exact q
 | ok x =>
  rw[e1] at q;intro v H1 H01 g1 r1;refine⟨H01,ρ,g1.sub,hr.mono g1.z,?_⟩;simp only[Res.bind] at q;cases e2:fl ρ with
  | stuck=>rw[e2] at q;exact q
  | exn x=>rw[e2] at q;exact fun C ox H' Ha' g' ex=>q C ox H' Ha' (g1.trans g') ex
  | ok l =>
   rw[e2] at q;intro H2 H02 g2;refine⟨H02,ρ,g2.sub,(hr.mono g1.z).mono g2.z,?_⟩;simp only[Res.bind] at q;cases e3:fh ρ with
   | stuck=>rw[e3] at q;exact q
   | exn x=>rw[e3] at q;exact fun C ox H' Ha' g' ex=>q C ox H' Ha' ((g1.trans g2).trans g') ex
   | ok h =>
    rw[e3] at q;intro H3 H03 g3;simp only[Res.bind] at q;have g:=(g1.trans g2).trans g3;cases x with
    | lst ds =>
     simp only at q;obtain⟨b,vs,rfl,h1,h2⟩:=zaq.mp ((r1.mono g2.z).mono g3.z);refine⟨b,vs,rfl,zaJ.sqL g3.sub h1,fun p hp=>?_⟩;have h0:H03 p=none:=g3.sub.free hp;refine q p _ _ H03 (g.trans ⟨fun b o q=>by rw[zan (zaP q hp)];exact q,zaJ.refl _,fun b o q=>?_,fun a h1 h2=>absurd h2 h1⟩) (g.s.free hp) h0 zao (h2.cut l h);rw[zan (by intro z;subst z;rw[h0] at q;cases q)];exact g3.sub _ _ q
    | _=>exact q.elim
end
section
variable {X:Cx}{E:XK}{a b o:Expr}{f g fo:Ev->Res D}{pos:Pos}
end
noncomputable def zia (x:Str) (ks:List Str) (fa:Ev->Res (List D)):Ev->Res Fl:=fun ρ=>(fa (shr ρ)).bind fun ds=>if ds.length=ks.length then .exn ⟨x,ks.zip ds⟩ else .stuck
theorem zs7 {K:sab}{H:Hp}:∀ {ks:List Str}{ds:List D}{vs:List V}{n:Str}{d:D},Reps K H ds vs->(ks.zip ds).lookup n=some d->∃ v,(ks.zip vs).lookup n=some v/\Rep K H d v
 | [],ds,vs,n,d,r,h=>by rw[List.zip_nil_left] at h;cases h
 | k::ks,[],vs,n,d,r,h=>by rw[List.zip_nil_right] at h;cases h
 | k::ks,e::ds,vs,n,d,r,h=>by
  obtain⟨v,vs',rfl,r1,r2⟩:=zat.mp r;rw[sbI,sbe] at h;rw[sbI];cases q:n==k with
  | true=>rw[q] at h;cases h;exact⟨v,by rw[sbe,q],r1⟩
  | false =>
   rw[q] at h;obtain⟨u,h1,h2⟩:=zs7 r2 h;exact⟨u,by rw[sbe,q];exact h1,h2⟩
theorem HOk.xd {P:Program}{w:World}{H:Hp}{g:Heap}(ok:HOk P w H g){a:Addr}{fs:List (Str×V)}(hn:H a=none)(p:XDs a fs g):HOk P w (upd H a (.xd fs)) g:=fun b u e=>by
 by_cases hb:b=a
 .subst hb;rw[zao] at e;cases e;obtain⟨m,n,r,_⟩:=p;exact⟨m,n,r⟩
 .rw[zan hb] at e
  exact(ok b u e).stay (fun c v _ q=>q) (fun c q=>by rw[zan (zaP q hn)];exact q) fun c xs q=>by rw[zan (zaP q hn)];exact q
section
variable {P:Program}{w:World}{K:sab}{mg:Str->Option Value}{base:Heap}{N:List Str}{qual:Str}{scope:Scope}{f:Addr}{cd:Value}{A:Around}{outer:List sba}{s0:Shared}{H0:Hp}{E:XK}{He H0e:Hp}
theorem zmF {x:Str}{C fn:Addr}{np cpos pos:Pos}{e:Expr}{es:List Expr}{fa:Ev->Res (List D)}{k:Nat}{fd:FuncData}{ps ks:List Str}(xc:XC K x C)(z:XIn K C fn)(st:XSt K C ks)(hfn:W.isFn K (.ref fn)=true)(F:zbP P w K mg base CX0 k fn fd ps (zFu K ks))(hb:zjc K fd ps [])(hks:ks.length<=60)(hnd:ks.Nodup)(hr:zfP (k+1) (zk0 (CXE P w) P w K mg base N qual scope f cd A outer s0 H0 E).A)(hm:mg x=some (.ref C))(hh:A.handled=none)
  (hg:Gl (zk0 (CXE P w) P w K mg base N qual scope f cd A outer s0 H0 E) x)(ha:DA (zk0 (CXE P w) P w K mg base N qual scope f cd A outer s0 H0 E) E (e::es) fa)
  (hdb:(x==("__debug__" : Str))=false:=by decide)(he:starEach (e::es) (zk0 (CXE P w) P w K mg base N qual scope f cd A outer s0 H0 E).env=(false,eval e (zk0 (CXE P w) P w K mg base N qual scope f cd A outer s0 H0 E).env)::starEach es (zk0 (CXE P w) P w K mg base N qual scope f cd A outer s0 H0 E).env:=by exact zaH rfl)
  (hpl:(backTo cpos (starEach es (zk0 (CXE P w) P w K mg base N qual scope f cd A outer s0 H0 E).env)).any (·.1)=false:=by exact za9 rfl) :
  DS (zk0 (CXE P w) P w K mg base N qual scope f cd A outer s0 H0 E) E He H0e (.Raise (some (.Call (.Name x np) (e::es) [] cpos)) none pos) (zia x ks fa):=by
 refine⟨?_⟩;intro pins s σ H D I ⟨Ha,ρ,hr',q⟩;obtain⟨bm,Nn,nm,qn,bs,hdct,sn,sub,ab,col,dd,k0,k1,k2,k3,k5,mN,hC,hN,hi,T⟩:=(zvv I.ok.mod.kin z).ex;obtain⟨oI,hoI,hoc⟩:∃ oI,base.get? fn=some oI/\oI.cls=.type "function":=by
  have:=beq_iff_eq.mp hfn;obtain⟨o,ho,hc⟩:=Option.map_eq_some_iff.mp this;exact⟨o,I.ok.mod.kin _ _ ho,hc⟩
 refine zyy (C:=C) (nm:=nm) (q:=qn) (N:=Nn) (bs:=bs) (bm:=bm) (hdct:=hdct) (sn:=sn) (sub:=sub) (ab:=ab) (col:=col) (dd:=dd) (k0:=k0) (k1:=k1) (k2:=k2) (k3:=k3) (k5:=k5)
  sco (mN:=mN) (oI:=oI) (T.hasType sco.hasBase) hh (by rw[he];show(false||(backTo cpos (starEach es (zk0 (CXE P w) P w K mg base N qual scope f cd A outer s0 H0 E).env)).any (·.1))=false;rw[hpl];rfl) hi (zjy I hg hm ⟨rfl,?_⟩ hdb)
 have hq:zuA K E H (frz He Ha H) (fa (shr ρ)) (fun vs H1=>vs.length=ks.length/\∀ dx,H1 dx=none->E (.ref C) (some dx) (upd H1 dx (.xd (ks.zip vs)))):=by
  unfold zia at q;cases e1:fa (shr ρ) with
  | stuck=>rw[e1] at q;exact q
  | exn z=>rw[e1] at q;exact fun C ox H' Ha' g ex=>q C ox H' Ha' (hr'.frz_grow.trans g) ex
  | ok ds =>
   rw[e1] at q;intro vs H1 H01 g rp;have q:zca K E He H0e Ha (if ds.length=ks.length then Res.exn ⟨x,ks.zip ds⟩ else .stuck) D:=q
   by_cases hl:ds.length=ks.length
   .rw[if_pos hl] at q
    refine⟨by rw[← rp.length];exact hl,fun dx hdx=>?_⟩;have ga:=zaD (o:=.xd (ks.zip vs)) g.sub hdx;refine q (.ref C) (some dx) _ _ (hr'.frz_grow.trans (g.trans ga)) ⟨⟨C,rfl,xc⟩,ks.zip vs,zao,fun n d hn=>?_⟩;obtain⟨v,k1,k2⟩:=zs7 rp hn;exact⟨v,k1,k2.mono ga.z⟩
   .rw[if_neg hl] at q;exact q.elim
 have h1:=ha.o cpos pins s σ H _ I ⟨frz He Ha H,shr ρ,hr'.frz_le,hr'.looks,hq⟩;rw[he] at h1 ⊢;refine scJ (sa8 h1 (fun us s2 h2=>?_) fun _ _ y=>y);obtain⟨vs,H1,I1,rv,hl,hE⟩:=h2;have hz:us.length<=sizeLine:=by rw[← rv.length,hl,sizeLine_eq];omega
 refine⟨rfl,hz,I1.bk _ _ hC,hN.keeps I1.bk,T.keeps I1.bk,I1.bk _ _ hoI,hoc,fun h' ee hx=>?_⟩;have hn:H1 ee=none:=by
  cases q:H1 ee with
  | none=>rfl
  | some o=>obtain⟨u,hu⟩:=zcp.there (I1.hok ee o q);rw[hx.new] at hu;cases hu
 obtain⟨t,ht,_,_⟩:=hx.there;have hxn:ExN ee C none h':=⟨t,ht⟩
 have un1:Un (frs (zk0 (CXE P w) P w K mg base N qual scope f cd A outer s0 H0 E).stack) [] H1 (upd H1 ee (.ext (ExN ee C none))) s2.heap h':=Un.ext (Un.kept hx.keeps) hn hx.new;have I2:Inv (zk0 (CXE P w) P w K mg base N qual scope f cd A outer s0 H0 E) pins σ (upd H1 ee (.ext (ExN ee C none))) { s2 with heap:=h' } :=
  I1.call' (ch:=[]) rfl un1 (HOk.ext (I1.hok.kept hx.keeps) hn hxn ⟨_,ht⟩ zo0) I1.bare (fun _ z=>nomatch z)
 have rv2:zbT (V.ref ee::vs) (saI ee::us):=.cons rfl rv;have hsp:zFu K ks (V.ref ee::vs) (upd H1 ee (.ext (ExN ee C none))) (fun v H2=>v=.non/\∃ dx,H1 dx=none/\dx≠ee/\H2=upd (upd (upd H1 ee (.ext (ExN ee C none))) ee (.ext (ExN ee C (some dx)))) dx (.ext (XDs dx (putAll ks vs [])))) E :=
  ⟨ee,C,fn,vs,rfl,hl,zao,st,z,fun dx hdx=>by
   have c:dx≠ee:=fun c=>by rw[c,zao] at hdx;cases hdx
   rw[zan c] at hdx;exact⟨rfl,dx,hdx,c,rfl⟩⟩
 have hl2:(saI ee::us).length=ps.length:=by rw[← rv2.length];exact F.len _ _ _ _ hsp
 have hbb:=hb { s2 with heap:=h' } (saI ee::us) I2.kIn (by simpa using hl2);rw[saZ] at hbb;refine wpAny_call (codeAny_mono (F.run _ _ { s2 with heap:=h' } _ ⟨saI ee::us,[]⟩ (saI ee::us) _ _ E (hr.make C us []) (I2.env0.make C us []) hbb rv2 hsp) fun r s3 hq3=>?_);cases r with
 | error e=>exact sbb hq3
 | ok fl =>
  cases fl with
  | next=>exact sbb hq3
  | brk=>exact sbb hq3
  | cont=>exact sbb hq3
  | ret u =>
   obtain⟨v,H2,os3,bare3,un3,hok3,rel3,rfl,dx,hdx,hdne,rfl⟩:=hq3;obtain rfl:u=sbh:=rel3;rw[zpT] at hok3 un3;have un4:=zyn (un1.trans un3);have hok4:HOk P w H1 s3.heap:=zzx hok3 hn hdx (fun _ z=>by cases z) (fun _ z=>by cases z) (fun _ z=>by cases z) (fun _ z=>by cases z);obtain⟨⟨t3,ht3⟩,_,_⟩:=(show zcp P w _ s3.heap ee (.ext (ExN ee C (some dx))) from hok3 ee _ (by rw[zan hdne.symm,zao]))
   have I3:=I1.call' (ch:=[]) os3 un4 hok4 bare3 (fun _ z=>nomatch z);refine⟨rfl,I3.bk _ _ hC,⟨_,t3,ht3⟩,?_⟩;have hin:=zCp (l:=envOfC qual scope s0.heap.objs.size f cd::outer);have hfr:s3.heap.FunFrames (W.hideAll s3.heap (ee::frs (envOfC qual scope s0.heap.objs.size f cd::outer))) (envOfC qual scope s0.heap.objs.size f cd::outer):=W.funFrames_hide I3.stack fun env he a hf=>sak _ (hin env he a hf);have hst:(W.hideAll s3.heap (ee::frs (envOfC qual scope s0.heap.objs.size f cd::outer))).StaysIn s3.heap:=fun b o q=>W.of_hideAll _ q;have hen:(W.hideAll s3.heap (ee::frs (envOfC qual scope s0.heap.objs.size f cd::outer))).get? ee=none:=W.hideAll_none _ (.head _);obtain⟨pX,_,_⟩:=(show zcp P w _ s3.heap dx (.ext (XDs dx (putAll ks vs []))) from hok3 dx _ zao)
   rw[znH hnd (fun _ _ z=>by simp at z) hl.symm,sbL] at pX;have hok5:=HOk.xd hok4 hdx pX;have dfresh:s2.heap.get? dx=none:=by
    cases qd:s2.heap.get? dx with
    | none=>rfl
    | some o =>
     have:=un3.free dx o (hx.keeps dx o qd) (by rw[zan hdne];exact hdx) (by simp);rw[zao] at this;cases this
   have un5:=Un.ext (o:=.xd (ks.zip vs)) un4 hdx dfresh;refine zu3 (a0:=.ref t3) I3.ok.frames hfr rfl ht3 hst hen rfl rfl rfl fun h4 fl4 up4 dc4=>?_;refine zEB rfl I1 (s1:=s3) (H1:=upd H1 dx (.xd (ks.zip vs))) os3 bare3 un5 hok5 (by rw[zan hdne.symm];exact hn) hst hfr (fun b hb hy=>?_) fl4 up4 ⟨some dx,⟨some dx,dc4,.inr rfl⟩,hE dx hdx⟩;have hbe:b≠ee:=fun c=>by
    subst c;rcases hy with hy | ⟨o,hy⟩
    .exact hy (by rw[zan hdne.symm];exact hn)
    .rw[hx.new] at hy;cases hy
   have hth:∃ o,s3.heap.get? b=some o:=by
    rcases hy with hy | ⟨o,hy⟩
    .cases q:(upd H1 dx (.xd (ks.zip vs))) b with
     | none=>exact absurd q hy
     | some o=>exact zcp.there (hok5 b o q)
    .exact un4.there b o hy (by simp)
   obtain⟨o,q⟩:=hth;exact⟨o,W.hideAll_get _ q (List.not_mem_cons_of_ne_of_not_mem hbe hb)⟩
end
end DL
namespace DL
open PySem PySem.Spec PySem.Calls PySem.W PyProof.Rows Builtin Builtin.ObjectAttr Builtin.Getset_descriptor
section
variable {prog:Program}{w:World}{A:Around}{E:Value->Shared->Prop}{h:Heap}{g:Array GenState}{d:Drawn}{t:Nat}{os:OsState}{a C:Addr}{o:Obj}{od:Option Obj}{K:Frag}{name:Str}{v:Value}
theorem zyz {tk:Tok}{Q:Fin->Shared->Prop}(X:K.In h)(J:InstAt h a o C od)(hf:findObj K C od name=some (.value v))(hq:Q (.done (.ret v)) ⟨h,g,d,t,os⟩) :
  wpAny (model prog w) A (Builtin.«object.__getattribute__» ⟨[.ref a,.str name tk],[]⟩) Q E ⟨h,g,d,t,os⟩:=by
 have L0:=J.type (M:=model prog w);have L1:=looks_find (M:=model prog w) X J hf;unfold Builtin.«object.__getattribute__»
 repeat (any_goals (first | assumption | (with_reducible refine L0.at ?_) | (with_reducible refine L1.at ?_) | wp_step))
theorem zBe {tk:Tok}{R:Result->Shared->Prop}(X:K.In h)(Z:zup K C)(J:InstAt h a o C od)(hx:h.get? a=some o)(hc:o.cls=.ref C)(hf:findObj K C od name=some (.value v))(hq:R (.ok (.ret v)) ⟨h,g,d,t,os⟩) :
  codeAny (model prog w) A (.call (.builtin "BaseException.__getattribute__") ⟨[.ref a,.str name tk],[]⟩) R ⟨h,g,d,t,os⟩ :=
 codeAny_call_builtin scy.ga.plain F.entry_bexc_ga (zs8 X Z hx hc (zyz X J hf hq))
theorem zFH {tk:Tok}{b ex:Bool}{Q:Value->Shared->Prop}(X:K.In h)(Z:zup K C)(J:InstAt h a o C od)(hx:h.get? a=some o)(hc:o.cls=.ref C)(hf:findObj K C od name=some (.value v))(hh:handedIn v=true)(hq:Q v ⟨h,g,d,t,os⟩) :
  wpAny (model prog w) A (getAttrBy (.ref a) (.str name tk) b ex) Q E ⟨h,g,d,t,os⟩:=by
 have f3:=scy.ga.bind (.ref a);have hx2:(sbP "BaseException.__getattribute__"==sbP "object.__getattribute__")=false:=by decide +kernel
 have hx1:(onTheHeap (saI C)&&sbP "BaseException.__getattribute__"==sbP "object.__getattribute__")=false:=by rw[hx2];rfl
 have L1:Looks (model prog w) h (typeLookup (.ref C) "__getattribute__") (some (.builtin "BaseException.__getattribute__")):=looks_findIn X Z.ga;have L2:Looks (model prog w) h (typeLookup (.ref C) "__getattr__") none:=looks_findIn X Z.gt;have hho:=handedOut_of hh
 repeat (any_goals (first | assumption | (with_reducible refine sbg hx ?_;rw[hc]) | (with_reducible refine L1.at ?_) | (with_reducible refine L2.at ?_) | wp_step))
 rw[if_neg (by cases ex<;>decide)]
 repeat (any_goals (first | assumption | wp_step))
 refine zBe X Z J hx hc hf ?_
 repeat (any_goals (first | assumption | wp_step))
theorem zC8 {ex:Bool}{Q:Value->Shared->Prop}(X:K.In h)(Z:zup K C)(J:InstAt h a o C od)(hx:h.get? a=some o)(hc:o.cls=.ref C)(hf:findObj K C od name=some (.value v))(hh:handedIn v=true)(hq:Q v ⟨h,g,d,t+1,os⟩) :
  wpAny (model prog w) A (getAttr (.ref a) name ex) Q E ⟨h,g,d,t,os⟩:=by
 unfold getAttr
 repeat (any_goals (first | assumption | with_reducible apply zFH X Z J hx hc hf hh | wp_step))
end
end DL
namespace DL
open PySem PySem.Spec PyProof.Rows L2
noncomputable def zFp (K:sab) (tab:Str->Option Bool) (f:Str):Prop:=∀ c C b,tab c=some b->XC K c C->scm K C=true/\zjb K C f
noncomputable def zrw (tab:Str->Option Bool) (f:Str) (x:D):Res D:=match x with
 | .ob (.exf c ks) ds=>(match tab c,zr1 f ks ds with
  | some _,some d=>.ok d
  | _,_=>.stuck)
 | _=>.stuck
theorem zAf:∀ {ks:List Str}{vs:List V}{f:Str}{u:V},(ks.zip vs).lookup f=some u->∃ i:Nat,ks[i]?=some f/\vs[i]?=some u
 | [],vs,f,u,h=>by rw[List.zip_nil_left] at h;cases h
 | k::ks,[],f,u,h=>by rw[List.zip_nil_right] at h;cases h
 | k::ks,v::vs,f,u,h=>by
  rw[sbI,sbe] at h;cases q:f==k with
  | true=>rw[q] at h;cases h;exact⟨0,by rw[beq_iff_eq.mp q];rfl,rfl⟩
  | false =>
   rw[q] at h;obtain⟨i,h1,h2⟩:=zAf h;exact⟨i+1,h1,h2⟩
section
variable {X:Cx}{E:XK}{e:Expr}{fe:Ev->Res D}{pos:Pos}{f:Str}{ta:TE}{tab:Str->Option Bool}
noncomputable def zFQ (K:sab) (ta:TE) (f:Str):TE:=fun σ H Q=>ta σ H fun x H1=>∃ a C dx fs v,x=.ref a/\Rd H1 a (.ext (ExD a C (some dx)))/\H1 dx=some (.xd fs)/\zup K C/\scm K C=true/\zjb K C f/\fs.lookup f=some v/\Q v H1
theorem zBR (he:PE X e ta)(hb:attributeBase e f X.env (eval e X.env)=eval e X.env):PE X (.Attribute e f pos) (zFQ X.K ta f):=by
 intro pins s σ H Q I h;refine zCM hb (thn (he pins s σ H _ I h) fun u s1 ⟨x,H1,I1,rx,a,C,dx,fs,v,ex,ea,ed,Z,hd,n,l,q⟩=>?_);subst ex;obtain rfl:u=saI a:=rx;obtain⟨⟨o,vs,ho,hcl,hda,hdi⟩,_,_⟩:=ea.ok I1.hok;obtain⟨mA,hn,r⟩:=(show zcp X.prog X.w H1 s1.heap dx (.xd fs) from I1.hok dx _ ed)
 obtain⟨u',hu,ru⟩:=zrY (v:=v) (o:=mA f) (by rw[← l];exact r f);obtain⟨od,hod,hl⟩:=zql hn;have J:W.InstAt s1.heap a o C (some od):=⟨ho,hcl,by unfold W.notCls;rw[hda],by rw[hdi];exact hod⟩
 have I2:=I1.tok (s1.toks+1);have K1:=I1.kIn;obtain⟨hh,g,d,t,os⟩:=s1;exact zC8 K1 Z J ho hcl (W.findObj_own hd n rfl (by show W.lookIn f od=_;rw[hl,hu])) (zwO ru) ⟨v,H1,I2,ru,q⟩
theorem zxV (ht:zFp X.K tab f)(he:DE X E e fe)(hb:attributeBase e f X.env (eval e X.env)=eval e X.env:=by rfl):DE X E (.Attribute e f pos) (zbo fe (zrw tab f)):=by
 refine⟨zaR (zBR he.o hb) fun σ H Q ⟨Ha,ρ,hs,hr,q⟩=>⟨Ha,ρ,hs,hr,?_⟩⟩;unfold zbo at q;cases e1:fe ρ with
 | stuck=>rw[e1] at q;exact q
 | exn x=>rw[e1] at q;exact q
 | ok d =>
  rw[e1] at q;intro v H1 H01 g1 r1;replace q:post X.K E H Ha (zrw tab f d) Q:=q;unfold zrw at q;cases d with
  | ob k ds =>
   cases k with
   | exf c ks =>
    replace q:post X.K E H Ha (match tab c,zr1 f ks ds with | some _,some d=>Res.ok d | _,_=>.stuck) Q:=q;cases e2:tab c with
    | none=>rw[e2] at q;exact q.elim
    | some b =>
     cases e3:zr1 f ks ds with
     | none=>rw[e2,e3] at q;exact q.elim
     | some d =>
      rw[e2,e3] at q;obtain⟨p,vs,rfl,⟨C,dx,fs,h1,h2,h3,h4,h5⟩,h6⟩:=zfQ.mp r1;obtain⟨u,k1,k2,k3⟩:=zwU h4 h6 e3;obtain⟨i,i1,i2⟩:=zAf k1;obtain⟨m1,m2⟩:=ht c C b e2 h1;exact⟨p,C,dx,fs,u,rfl,zaJ.rd g1.sub h2,g1.sub _ _ h3,h1.ek,m1,m2,h5 i f u i1 i2,q u H1 H01 g1 k2⟩
   | _=>exact q.elim
  | _=>exact q.elim
end
theorem ln1 {α:Type}{us:List α}(h:us.length=1):∃ a,us=[a]:=List.length_eq_one_iff.mp h
theorem ln2 {α:Type}{us:List α}(h:us.length=2):∃ a b,us=[a,b]:=by
 cases us with
 | nil=>cases h
 | cons a us=>obtain⟨b,rfl⟩:=ln1 (sc1 h);exact⟨a,b,rfl⟩
theorem ln3 {α:Type}{us:List α}(h:us.length=3):∃ a b c,us=[a,b,c]:=by
 cases us with
 | nil=>cases h
 | cons a us=>obtain⟨b,c,rfl⟩:=ln2 (sc1 h);exact⟨a,b,c,rfl⟩
theorem ln4 {α:Type}{us:List α}(h:us.length=4):∃ a b c d,us=[a,b,c,d]:=by
 cases us with
 | nil=>cases h
 | cons a us=>obtain⟨b,c,d,rfl⟩:=ln3 (sc1 h);exact⟨a,b,c,d,rfl⟩
theorem ln5 {α:Type}{us:List α}(h:us.length=5):∃ a b c d e,us=[a,b,c,d,e]:=by
 cases us with
 | nil=>cases h
 | cons a us=>obtain⟨b,c,d,e,rfl⟩:=ln4 (sc1 h);exact⟨a,b,c,d,e,rfl⟩
end DL
namespace Com
open PySem L2 DL
theorem zGu {c f:Str}{d:D}:zzL ⟨c,[(f,d)]⟩=.ob (.exf c [f]) [d]:=by
 show(if([f]:List Str).Nodup then D.ob (.exf c [f]) [d] else .exc c)=_;rw[if_pos (by simp)]
theorem zCr {hit:Str->Bool}{ni:Nat}{sh:Ev->Res Fl}{ρ:Ev}{x:Exn}(h:hit x.cls=true):zFq hit ni sh ρ (.exn x)=(sh (ρ.set ni (.sh (zzL x)))).bind (zEb ni):=if_pos h
theorem zjE {tab:Str->Option Bool}{c:Str}{ks:List Str}{ds:List D}{b:Bool}(h:tab c=some b):zr4 tab (.ob (.exf c ks) ds)=.ok (.bl b):=by unfold zr4;simp only[h]
noncomputable def zvV (x:Str) (ks:List Str) (ds:List D):Res Fl:=if ds.length=ks.length then .exn ⟨x,ks.zip ds⟩ else .stuck
theorem zb2 {x:Str}{ks:List Str}{fa:Ev->Res (List D)}{ρ:Ev}:zia x ks fa ρ=(fa (shr ρ)).bind (zvV x ks):=zav rfl
theorem zbB {x f:Str}{d:D}:zvV x [f] [d]=.exn ⟨x,[(f,d)]⟩:=if_pos rfl
theorem zzS {tab:Str->Option Bool}{c f:Str}{d:D}{b:Bool}(h:tab c=some b):zrw tab f (.ob (.exf c [f]) [d])=.ok d:=by
 unfold zrw;simp only[h];rw[show zr1 f [f] [d]=some d by unfold zr1;rw[if_pos rfl]]
end Com
namespace DL
open PySem PySem.Spec PyProof.Rows L2
section
variable {X:Cx}{E:XK}{e o:Expr}{fe fo:Ev->Res D}{pos:Pos}
end
end DL
namespace DL
open PySem PySem.Spec PyProof.Rows L2 PySem.Builtin PySem.Builtin.Str
section
variable {prog:Program}{w:World}{A:Around}{E:Value->Shared->Prop}{s:Shared}{x y:Str}{t u:Tok}{Q:Value->Shared->Prop}
end
section
variable {X:Cx}{E:XK}{e o:Expr}{fe fo:Ev->Res D}{pos:Pos}
end
end DL
namespace DL
open PySem PySem.Spec PyProof.Rows L2
section
variable {X:Cx}{E:XK}{a b:Expr}{f g:Ev->Res D}{pos:Pos}
end
end DL
namespace DL
open PySem PySem.Spec PyProof.Rows
section
variable {prog:Program}{w:World}{A:Around}{E:Value->Shared->Prop}{s:Shared}
end
section
variable {prog:Program}{w:World}{A:Around}{E:Value->Shared->Prop}{s:Shared}
end
section
variable {prog:Program}{w:World}{A:Around}{s:Shared}
end
end DL
namespace DL
open PySem PySem.Spec PyProof.Rows L2
section
variable {X:Cx}{E:XK}{a:Expr}{f:Ev->Res D}{te:TE}{p p2 p3 pos:Pos}
end
def isE (d:D):Bool:=match d with
 | .dic [] []=>true
 | _=>false
section
variable {X:Cx}{E:XK}{pins:List (Addr×Obj)}{σ:L2.St}{H:Hp}{s:Shared}
theorem zvU (I:Inv X pins σ H s){d:D}{v:V}{u:Value}(h:isE d=true)(r:Rep X.K H d v)(q:zcb v u):∃ a,u=.ref a/\(a==sysModules)=false/\s.heap.DictOf (zlx X.prog X.w) a []:=by
 unfold isE at h;split at h
 .rw[Rep] at r
  obtain⟨a,kvs,vs,h1,h2,h3,h4,h5⟩:=r;have:kvs=[]:=by rw[h3];rfl
  subst this h1;obtain rfl:u=saI a:=q;obtain⟨_,n1,vs',k1,d1⟩:=(show zcp X.prog X.w H s.heap a (.dK []) from h2.ok I.hok)
  obtain rfl:vs'=[]:=by cases k1;rfl
  exact⟨a,rfl,n1,d1⟩
 .cases h
end
section
variable {X:Cx}{E:XK}{He H0e:Hp}{e:Expr}{f:Ev->Res D}{is:List Nat}{es:List Expr}{pos:Pos}
end
structure FT (K:sab) (mg:Str->Option Value) (x:Str) (st:Stmt) (ps:List Str) (a:Addr) (d:FuncData):Prop where
 F:Fun K x x st a d
 b:zjc K d ps []
 g:mg x=some (.ref a)
noncomputable def QA (K:sab) (x:Str) (st:Stmt) (a:Addr):Prop:=sa4 K mainGlobals x=some (some (.ref a))/\scj K (.ref a)=true/\∃ oc kV dc pm cd ct od an sl,K.lookup a=some ⟨oc,od,.func (sbY x x (defArgs st) (defBody st) (defScope st) .none kV dc pm an cd ct),sl⟩/\W.codeIn K cd x=true
theorem zwR {K:sab}{h:Heap}{mg:Str->Option Value}{x:Str}{st:Stmt}{ps:List Str}{a:Addr}(X:K.In h)(G:h.Ns mainGlobals mg)(q:QA K x st a)
  (hb:∀ (kV doc pm:Value) (an:Option Addr) (cdv ct:Value) (us:List Value),us.length=ps.length->bindArgs (sbY x x (defArgs st) (defBody st) (defScope st) .none kV doc pm an cdv ct) ⟨us,[]⟩=pure (ps.zip us)) :
  ∃ d,FT K mg x st ps a d/\∃ kV doc pm an cdv ct,d=sbY x x (defArgs st) (defBody st) (defScope st) .none kV doc pm an cdv ct:=by
 obtain⟨e1,e4,oc,kV,dc,pm,cd,ct,od,an,sl,e2,e3⟩:=q;exact⟨_,⟨ztG e2 e3 e4,(ztG (st:=st) e2 e3 e4).binds hb,sbv X G e1⟩,_,_,_,_,_,_,rfl⟩
section
variable {K:sab}{h:Heap}{mg:Str->Option Value}{x:Str}{st:Stmt}{N ps:List Str}{a:Addr}(X:K.In h) (G:h.Ns mainGlobals mg) (q:QA K x st a) (S:zay N ps (defScope st))
include X G q S in
theorem ft1 (hn:ps.length=1:=by rfl)(hb:∀ (kV doc pm:Value) (an:Option Addr) (cdv ct b:Value),bindArgs (sbY x x (defArgs st) (defBody st) (defScope st) .none kV doc pm an cdv ct) ⟨[b],[]⟩=pure (ps.zip [b]):=by intros;rfl):∃ d,FT K mg x st ps a d/\∃ kV doc pm an cdv ct,d=sbY x x (defArgs st) (defBody st) (defScope st) .none kV doc pm an cdv ct :=
 zwR X G q fun _ _ _ _ _ _ us hl=>by
  obtain⟨b,rfl⟩:=ln1 (hl.trans hn);exact hb ..
include X G q S in
theorem ft2 (hn:ps.length=2:=by rfl)(hb:∀ (kV doc pm:Value) (an:Option Addr) (cdv ct b c:Value),bindArgs (sbY x x (defArgs st) (defBody st) (defScope st) .none kV doc pm an cdv ct) ⟨[b,c],[]⟩=pure (ps.zip [b,c]):=by intros;rfl):∃ d,FT K mg x st ps a d/\∃ kV doc pm an cdv ct,d=sbY x x (defArgs st) (defBody st) (defScope st) .none kV doc pm an cdv ct :=
 zwR X G q fun _ _ _ _ _ _ us hl=>by
  obtain⟨b,c,rfl⟩:=ln2 (hl.trans hn);exact hb ..
include X G q S in
theorem ft3 (hn:ps.length=3:=by rfl)(hb:∀ (kV doc pm:Value) (an:Option Addr) (cdv ct b c d:Value),bindArgs (sbY x x (defArgs st) (defBody st) (defScope st) .none kV doc pm an cdv ct) ⟨[b,c,d],[]⟩=pure (ps.zip [b,c,d]):=by intros;rfl):∃ d,FT K mg x st ps a d/\∃ kV doc pm an cdv ct,d=sbY x x (defArgs st) (defBody st) (defScope st) .none kV doc pm an cdv ct :=
 zwR X G q fun _ _ _ _ _ _ us hl=>by
  obtain⟨b,c,d,rfl⟩:=ln3 (hl.trans hn);exact hb ..
include X G q S in
theorem ft4 (hn:ps.length=4:=by rfl)(hb:∀ (kV doc pm:Value) (an:Option Addr) (cdv ct b c d e:Value),bindArgs (sbY x x (defArgs st) (defBody st) (defScope st) .none kV doc pm an cdv ct) ⟨[b,c,d,e],[]⟩=pure (ps.zip [b,c,d,e]):=by intros;rfl):∃ d,FT K mg x st ps a d/\∃ kV doc pm an cdv ct,d=sbY x x (defArgs st) (defBody st) (defScope st) .none kV doc pm an cdv ct :=
 zwR X G q fun _ _ _ _ _ _ us hl=>by
  obtain⟨b,c,d,e,rfl⟩:=ln4 (hl.trans hn);exact hb ..
include X G q S in
theorem ft5 (hn:ps.length=5:=by rfl)(hb:∀ (kV doc pm:Value) (an:Option Addr) (cdv ct b c d e f:Value),bindArgs (sbY x x (defArgs st) (defBody st) (defScope st) .none kV doc pm an cdv ct) ⟨[b,c,d,e,f],[]⟩=pure (ps.zip [b,c,d,e,f]):=by intros;rfl):∃ d,FT K mg x st ps a d/\∃ kV doc pm an cdv ct,d=sbY x x (defArgs st) (defBody st) (defScope st) .none kV doc pm an cdv ct :=
 zwR X G q fun _ _ _ _ _ _ us hl=>by
  obtain⟨b,c,d,e,f,rfl⟩:=ln5 (hl.trans hn);exact hb ..
include X G q S in
end
section
variable {X:Cx}{E:XK}{e:Expr}{es:List Expr}{fa:Ev->Res (List D)}{f g h i j:Ev->Res D}{pos:Pos}{CX:CXT}{k n:Nat}{fn:Addr}{fd:FuncData}{ps:List Str}{m:List D->Res D}{x:Str}{p:Pos}{st:Stmt}
theorem al1 (ρ:Ev)(ds:List D)(h:zab f zaz ρ=.ok ds):ds.length=1:=zhp (fun _ h=>zAb h) h
theorem al2 (ρ:Ev)(ds:List D)(q:zab f (zab g zaz) ρ=.ok ds):ds.length=2:=zhp (al1 ρ) q
theorem al3 (ρ:Ev)(ds:List D)(q:zab f (zab g (zab h zaz)) ρ=.ok ds):ds.length=3:=zhp (al2 ρ) q
theorem al4 (ρ:Ev)(ds:List D)(q:zab f (zab g (zab h (zab i zaz))) ρ=.ok ds):ds.length=4:=zhp (al3 ρ) q
theorem al5 (ρ:Ev)(ds:List D)(q:zab f (zab g (zab h (zab i (zab j zaz)))) ρ=.ok ds):ds.length=5:=zhp (al4 ρ) q
theorem qc (F:zbP X.prog X.w X.K X.mg X.base CX k fn fd ps (spD X.K n m))(hr:zfP k X.A)(t:FT X.K X.mg x st ps fn fd)(hx:zfR CX X E)(ha:DA X E (e::es) fa)(hl:∀ ρ ds,fa ρ=.ok ds->ds.length=(e::es).length)(hn:(e::es).length=n:=by rfl)
  (hg:Gl X x:=by exact rfl)(hdb:(x==("__debug__" : Str))=false:=by decide)(he:starEach (e::es) X.env=(false,eval e X.env)::starEach es X.env:=by exact zaH rfl)(hpl:(backTo pos (starEach es X.env)).any (·.1)=false:=by exact za9 rfl) :
  DE X E (.Call (.Name x p) (e::es) [] pos) (zaj fa m):=zCB F hr hg t.g t.F.kp t.b hx ha hn hl hdb he hpl
theorem qf (F:zbP X.prog X.w X.K X.mg X.base CX k fn fd ps (spF X.K n m))(hr:zfP k X.A)(t:FT X.K X.mg x st ps fn fd)(hx:zfR CX X E)(ha:DA X E (e::es) fa)(hl:∀ ρ ds,fa ρ=.ok ds->ds.length=(e::es).length)(hn:(e::es).length=n:=by rfl)
  (hg:Gl X x:=by exact rfl)(hdb:(x==("__debug__" : Str))=false:=by decide)(he:starEach (e::es) X.env=(false,eval e X.env)::starEach es X.env:=by exact zaH rfl)(hpl:(backTo pos (starEach es X.env)).any (·.1)=false:=by exact za9 rfl) :
  DF X E (.Call (.Name x p) (e::es) [] pos) (zaj fa m):=zCx F hr hg t.g t.F.kp t.b hx ha hn hl hdb he hpl
theorem qt {y:Str}{pos' cpos:Pos}(hN:X.N.Nodup){i:Nat}(hi:X.N[i]?=some y)(hy:Loc X.env.scope y)(F:zbP X.prog X.w X.K X.mg X.base (CXE X.prog X.w) k fn fd ps (spD X.K n m))(hr:zfP k X.A)(t:FT X.K X.mg x st ps fn fd)(ha:DA X.nox E0 (e::es) fa)(hl:∀ ρ ds,fa ρ=.ok ds->ds.length=(e::es).length)(hn:(e::es).length=n:=by rfl)
  (hg:Gl X x:=by exact rfl)(hdb:(x==("__debug__" : Str))=false:=by decide)(he:starEach (e::es) X.env=(false,eval e X.env)::starEach es X.env:=by exact zaH rfl)(hpl:(backTo cpos (starEach es X.env)).any (·.1)=false:=by exact za9 rfl)
  (hs:swapsWith (.Call (.Name x p) (e::es) [] cpos) (some (.Name y pos')) pos.line X.env=pure false:=by rfl)
  (hf:X.fn y=true∨X.env.scope.names.lookup y=some .local := by first | exact .inl rfl | exact .inr rfl | assumption):TB X (.Assign [.Name y pos'] (.Call (.Name x p) (e::es) [] cpos) pos) (zvO i fa m):=zDf hN hi hy F hr hg t.g t.F.kp t.b ha hn hl hdb he hpl hs hf
end
def era (a:Addr)(H:Hp):Hp:=fun b=>if b=a then none else H b
theorem zgm {a b:Addr}{H:Hp}(h:b≠a):era a H b=H b:=if_neg h
theorem zdK {a:Addr}{H:Hp}:era a H a=none:=if_pos rfl
structure MSx (K:sab) (He H0e Ha:Hp) (σ:L2.St) (H:Hp) (ρ:Ev) (a:Addr) (st:List D) (vs:List V):Prop where
 ha:He a=none
 h0:H0e a=none
 hl:H a=some (.lst vs)
 r:Reps K Ha st vs
 s:SRx K (upd He a (.lst vs)) H0e Ha σ H ρ
theorem OX.he {K:sab}{He He' Ha H:Hp}{σ:L2.St}{ρ:Ev}(hn:∀ b,He b=Option.none->He' b=Option.none)(h:OX K He Ha σ H ρ):OX K He' Ha σ H ρ:=⟨fun i j ds e=>by
 obtain⟨a,p,h1,⟨vs,es,us,r1,r2,r3,r⟩,h2⟩:=h.1 i j ds e;exact⟨a,p,h1,⟨vs,es,us,hn _ r1,r2,hn _ r3,r⟩,h2⟩,h.2⟩
section
variable {K:sab}{He H0e Ha H:Hp}{σ:L2.St}{ρ:Ev}{a:Addr}{st st':List D}{vs us:List V}
theorem MSx.n0 (h:MSx K He H0e Ha σ H ρ a st vs):Ha a=none:=by
 cases q:Ha a with
 | none=>rfl
 | some o =>
  have:=h.s.g.nw a (by rw[q];simp) h.h0;rw[zao] at this;cases this
theorem MSx.back (h:MSx K He H0e Ha σ H ρ a st vs){σ':L2.St}{H' Ha':Hp}{ρ':Ev}(z:zaJ Ha Ha')(s':SRx K (upd He a (.lst vs)) H0e Ha' σ' H' ρ'):MSx K He H0e Ha' σ' H' ρ' a st vs :=
 ⟨h.ha,h.h0,s'.g.s _ _ zao,h.r.mono z,s'⟩
theorem MSx.change (h:MSx K He H0e Ha σ H ρ a st vs){H' Ha':Hp}(g:zbK (era a H) Ha H' Ha')(n:Ha' a=none)(hl:H' a=some (.lst us))(r:Reps K Ha' st' us):MSx K He H0e Ha' σ H' ρ a st' us:=by
 have hne:∀ b,upd He a (.lst us) b=none->b≠a/\He b=none:=fun b e=>by
  by_cases c:b=a
  .subst c;rw[zao] at e;cases e
  .rw[zan c] at e;exact⟨c,e⟩
 have hnn:∀ b,upd He a (.lst vs) b=none->upd He a (.lst us) b=none:=fun b e=>by
  by_cases c:b=a
  .subst c;rw[zao] at e;cases e
  .rw[zan c] at e ⊢;exact e
 have gone:∀ b o,b≠a->H b=some o->H' b=some o:=fun b o c e=>g.s _ _ (by rw[zgm c];exact e);have n':∀ b,Ha b=none->(∃ o,H b=some o/\b≠a)->Ha' b=none:=fun b e ⟨o,e1,c⟩=>by
  cases q:Ha' b with
  | none=>rfl
  | some u =>
   have:=g.nw b (by rw[q];simp) e;rw[zgm c,e1] at this;cases this
 refine⟨h.ha,h.h0,hl,r,⟨⟨fun b o e=>?_,h.s.g.z.trans g.z,g.sub,fun b h1 h2=>?_⟩,h.s.rd.mono g.z,fun i d e=>?_,h.s.ap,h.s.ln,(h.s.ex.he hnn).upd (fun j s e=>.inl ⟨e,rfl⟩) g.z (fun b ws hb e=>gone b _ (hne b hb).1 e) fun p ws hp q0 hq _=>⟨gone p _ (hne p hp).1 hq,n' p q0 ⟨_,hq,(hne p hp).1⟩⟩⟩⟩
 .by_cases c:b=a
  .subst c;rw[zao] at e;cases e;exact hl
  .rw[zan c] at e
   exact gone b o c (h.s.g.s _ _ (by rw[zan c];exact e))
 .by_cases c:b=a
  .subst c;exact absurd n h1
  .rw[zan c]
   cases q:Ha b with
   | some u =>
    have:=h.s.g.nw b (by rw[q];simp) h2;rw[zan c] at this;exact this
   | none =>
    have:=g.nw b h1 q;rw[zgm c] at this;cases q2:He b with
    | none=>rfl
    | some u=>rw[h.s.g.s b u (by rw[zan c];exact q2)] at this;cases this
 .obtain⟨b,k1,k2,k3,k4⟩:=h.s.ow i d e
  cases d with
  | lst ds =>
   obtain⟨ws,k5,k6⟩:=k4;have c:b≠a:=(hne b (hnn b k2)).1;exact⟨b,k1,hnn b k2,n' b k3 ⟨_,k5,c⟩,ws,gone b _ c k5,k6.mono g.z⟩
  | _=>exact k4.elim
end
noncomputable def tM (K:sab) (He H0e:Hp) (a:Addr) (f:Ev->List D->Res (D×List D)):TE:=fun σ H Q=>∃ Ha ρ st vs,MSx K He H0e Ha σ H ρ a st vs/\match f ρ st with
 | .ok (d,st')=>∀ v H' Ha' us,zaJ Ha Ha'->MSx K He H0e Ha' σ H' ρ a st' us->Rep K Ha' d v->Q v H'
 | .exn _=>False
 | .stuck=>False
noncomputable def tMA (K:sab) (He H0e:Hp) (a:Addr) (f:Ev->List D->Res (List D×List D)):TA:=fun σ H Q=>∃ Ha ρ st vs,MSx K He H0e Ha σ H ρ a st vs/\match f ρ st with
 | .ok (ds,st')=>∀ xs H' Ha' us,zaJ Ha Ha'->MSx K He H0e Ha' σ H' ρ a st' us->Reps K Ha' ds xs->Q xs H'
 | .exn _=>False
 | .stuck=>False
noncomputable def tMT (K:sab) (He H0e:Hp) (a:Addr) (f:Ev->List D->Res (D×List D)):TT:=fun σ H Q=>∃ Ha ρ st vs,MSx K He H0e Ha σ H ρ a st vs/\match f ρ st with
 | .ok (.bl b,st')=>∀ H' Ha' us,zaJ Ha Ha'->MSx K He H0e Ha' σ H' ρ a st' us->Q b H'
 | .ok _=>False
 | .exn _=>False
 | .stuck=>False
structure DM (X:Cx) (He H0e:Hp) (a:Addr) (e:Expr) (f:Ev->List D->Res (D×List D)):Prop where
 o:PE X e (tM X.K He H0e a f)
structure DMA (X:Cx) (He H0e:Hp) (a:Addr) (es:List Expr) (f:Ev->List D->Res (List D×List D)):Prop where
 o:PA X es (tMA X.K He H0e a f)
structure DMT (X:Cx) (He H0e:Hp) (a:Addr) (e:Expr) (f:Ev->List D->Res (D×List D)):Prop where
 o:PT X e (tMT X.K He H0e a f)
def mP (f:Ev->Res D):Ev->List D->Res (D×List D):=fun ρ st=>(f ρ).bind fun d=>.ok (d,st)
def znx (st:List D)(d:D):Res (D×List D):=if zr2 d=true then .ok (d,st) else .stuck
def mL (f:Ev->Res D):Ev->List D->Res (D×List D):=fun ρ st=>(f (shr ρ)).bind (znx st)
def zqy (s:Option Sl)(a:Addr):Bool:=match s with
 | some (.pt b)=>b==a
 | _=>false
def vw (i:Nat)(ρ:Ev)(st:List D):Ev:=(shr ρ).set i (.sh (.lst st))
noncomputable def mV (i:Nat) (a:Addr) (f:Ev->Res D):Ev->List D->Res (D×List D):=fun ρ st=>if zqy ρ[i]? a=true then(f (vw i ρ st)).bind (znx st) else .stuck
section
variable {X:Cx}{E:XK}{He H0e:Hp}{a:Addr}{e b:Expr}{es:List Expr}{pos:Pos}{f:Ev->Res D}{fm gm:Ev->List D->Res (D×List D)}{fa:Ev->List D->Res (List D×List D)}
theorem zau (he:DE X E e f):DM X He H0e a e (mP f):=⟨zaR he.o fun σ H Q ⟨Ha,ρ,st,vs,h,q⟩=>⟨Ha,ρ,h.s.g.sub,h.s.rd,by
 unfold mP at q;cases e1:f ρ with
 | stuck=>rw[e1] at q;exact q
 | exn x=>rw[e1] at q;exact q.elim
 | ok d =>
  rw[e1] at q;exact fun v H' Ha' g rp=>q v H' Ha' vs g.z (h.back g.z (h.s.grow g)) rp⟩⟩
theorem MSx.view {K:sab}{Ha H:Hp}{σ:L2.St}{ρ:Ev}{i:Nat}{st:List D}{vs:List V}(h:MSx K He H0e Ha σ H ρ a st vs)(hp:zqy ρ[i]? a=true):zaJ (upd (frz (upd He a (.lst vs)) Ha H) a (.lst vs)) H/\zaJ (frz (upd He a (.lst vs)) Ha H) (upd (frz (upd He a (.lst vs)) Ha H) a (.lst vs))/\Reads K (upd (frz (upd He a (.lst vs)) Ha H) a (.lst vs)) σ (vw i ρ st):=by
 have hz:frz (upd He a (.lst vs)) Ha H a=none:=by unfold frz;rw[zao];exact h.n0
 have z:zaJ (frz (upd He a (.lst vs)) Ha H) (upd (frz (upd He a (.lst vs)) Ha H) a (.lst vs)):=fun b o e=>by rw[zan (by intro z;subst z;rw[hz] at e;cases e)];exact e
 refine⟨fun b o e=>?_,z,fun j d e=>?_⟩
 .by_cases c:b=a
  .subst c;rw[zao] at e;cases e;exact h.hl
  .rw[zan c] at e;exact h.s.frz_le _ _ e
 .unfold vw at e
  by_cases c:i=j
  .subst c
   unfold zqy at hp;cases q:ρ[i]? with
   | none=>rw[q] at hp;cases hp
   | some s =>
    rw[q] at hp;cases s with
    | pt b =>
     have hb:b=a:=eq_of_beq hp;subst hb;have hil:i < (shr ρ).length:=by unfold shr;rw[sag];exact(sac.mp q).1
     rw[saF hil] at e;cases e;exact⟨_,h.s.ex.2 i b q,zaq.mpr ⟨b,vs,rfl,SqL.of zao,(h.r.mono h.s.frz_sub).mono z⟩⟩
    | _=>cases hp
  .rw[sah c] at e
   obtain⟨v,h1,h2⟩:=h.s.looks j d e;exact⟨v,h1,h2.mono z⟩
theorem MSx.behind {K:sab}{Ha H H' J:Hp}{σ:L2.St}{ρ:Ev}{st:List D}{vs:List V}(h:MSx K He H0e Ha σ H ρ a st vs)(g:zbK H (upd (frz (upd He a (.lst vs)) Ha H) a (.lst vs)) H' J):zaJ Ha J/\zaJ Ha (zpy Ha J)/\MSx K He H0e (zpy Ha J) σ H' ρ a st vs:=by
 have hz:frz (upd He a (.lst vs)) Ha H a=none:=by unfold frz;rw[zao];exact h.n0
 have z0:zaJ (frz (upd He a (.lst vs)) Ha H) (upd (frz (upd He a (.lst vs)) Ha H) a (.lst vs)):=fun b o e=>by rw[zan (by intro z;subst z;rw[hz] at e;cases e)];exact e
 have hJ:zaJ Ha J:=h.s.frz_sub.trans (z0.trans g.z);have z:zaJ Ha (zpy Ha J):=fun b o e=>by unfold zpy;rw[e]
 refine⟨hJ,z,h.back z ?_⟩;have ja:J a=some (.lst vs):=g.z _ _ zao;have g':zbK H (frz (upd He a (.lst vs)) Ha H) H' (era a J):=⟨g.s,fun b o e=>by
   have c:b≠a:=by intro c;subst c;rw[hz] at e;cases e
   rw[zgm c];exact g.z _ _ (z0 _ _ e),fun b o e=>by
   by_cases c:b=a
   .subst c;rw[zdK] at e;cases e
   .rw[zgm c] at e;exact g.sub _ _ e,fun b h1 h2=>by
   by_cases c:b=a
   .subst c;exact absurd zdK h1
   .rw[zgm c] at h1;exact g.nw b h1 (by rw[zan c];exact h2)⟩
 have hs:=h.s.behind g';have e:zpy Ha (era a J)=zpy Ha J:=by
  funext b;unfold zpy
  by_cases c:b=a
  .subst c;rw[h.n0,zdK,ja]
  .rw[zgm c]
 rw[e] at hs;exact hs
theorem zmJ {i:Nat}(he:DE X E e f):DM X He H0e a e (mV i a f):=⟨zaR he.o fun σ H Q ⟨Ha,ρ,st,vs,h,q⟩=>by
 unfold mV at q
 by_cases hp:zqy ρ[i]? a=true
 .rw[if_pos hp] at q
  obtain⟨v1,v2,v3⟩:=h.view hp;refine⟨_,vw i ρ st,v1,v3,?_⟩;cases e1:f (vw i ρ st) with
  | stuck=>rw[e1] at q;exact q
  | exn x=>rw[e1] at q;exact q.elim
  | ok d =>
   rw[e1] at q;intro v H' J g rp;obtain⟨hJ,z,hm⟩:=h.behind g;replace q:match znx st d with
    | .ok (d,st')=>∀ v H' Ha' us,zaJ Ha Ha'->MSx X.K He H0e Ha' σ H' ρ a st' us->Rep X.K Ha' d v->Q v H'
    | .exn _=>False
    | .stuck=>False:=q
   unfold znx at q
   by_cases fl:zr2 d=true
   .rw[if_pos fl] at q
    exact q v H' (zpy Ha J) vs z hm (rp.flat_to (zCP hJ) fl)
   .rw[if_neg fl] at q;exact q.elim
 .rw[if_neg hp] at q;exact q.elim⟩
noncomputable def mB (f g:Ev->List D->Res (D×List D)) (op:D->D->Res D):Ev->List D->Res (D×List D):=fun ρ st=>(f ρ st).bind fun p=>(g ρ p.2).bind fun q=>(op p.1 q.1).bind fun d=>.ok (d,q.2)
theorem zhq {r:R2}{op:D->D->Res D}(ho:OpD X.K E r op)(σ:L2.St)(H:Hp)(Q:VK)(h:tM X.K He H0e a (mB fm gm op) σ H Q):tOp r (tM X.K He H0e a fm) (tM X.K He H0e a gm) σ H Q:=by
 obtain⟨Ha,ρ,st,vs,h,q⟩:=h;refine⟨Ha,ρ,st,vs,h,?_⟩;unfold mB at q;cases e1:fm ρ st with
 | stuck=>rw[e1] at q;exact q
 | exn x=>rw[e1] at q;exact q
 | ok p =>
  obtain⟨x,s1⟩:=p;rw[e1] at q;intro v H1 H01 us z1 h1 r1;refine⟨H01,ρ,s1,us,h1,?_⟩;simp only[Res.bind] at q;cases e2:gm ρ s1 with
  | stuck=>rw[e2] at q;exact q
  | exn x=>rw[e2] at q;exact q
  | ok p2 =>
   obtain⟨y,s2⟩:=p2;rw[e2] at q;intro u H2 H02 us2 z2 h2 r2;refine ho x y v u H2 H02 Q h2.s.g.sub (r1.mono z2) r2 ?_;simp only at q;cases e3:op x y with
   | stuck=>rw[e3] at q;exact q
   | exn x=>rw[e3] at q;exact q.elim
   | ok d =>
    rw[e3] at q;exact fun v' H' Ha' g rp=>q v' H' Ha' us2 ((z1.trans z2).trans g.z) (h2.back g.z (h2.s.grow g)) rp
theorem zEX {op:Operator}{r:R2}{o:D->D->Res D}(h:OpR X (binaryOp op) r)(ho:OpD X.K E r o){l:Expr}(ha:DM X He H0e a l fm)(hb:DM X He H0e a b gm):DM X He H0e a (.BinOp l op b pos) (mB fm gm o):=⟨zaR (zBQ h ha.o hb.o) (zhq ho)⟩
theorem zEZ {op:CmpOp}{r:R2}{o:D->D->Res D}(h:OpR X (compareOp op) r)(ho:OpD X.K E r o){l:Expr}(ha:DM X He H0e a l fm)(hb:DM X He H0e a b gm)(hm:behindInMarks op b=false):DM X He H0e a (.Compare l [op] [b] pos) (mB fm gm o):=⟨zaR (zv8 h ha.o hb.o hm) (zhq ho)⟩
theorem zGy {r:R2}{o:D->D->Res D}(h:IxR X r)(ho:OpD X.K E r o){l:Expr}(ha:DM X He H0e a l fm)(hb:DM X He H0e a b gm)(hs:znm b:=by intro _ _;rfl):DM X He H0e a (.Subscript l b pos) (mB fm gm o):=⟨zaR (zD6 h ha.o hb.o hs) (zhq ho)⟩
def zdp:Ev->List D->Res (List D×List D):=fun _ st=>.ok ([],st)
noncomputable def zaT (f:Ev->List D->Res (D×List D)) (fa:Ev->List D->Res (List D×List D)):Ev->List D->Res (List D×List D):=fun ρ st=>(f ρ st).bind fun p=>(fa ρ p.2).bind fun q=>.ok (p.1::q.1,q.2)
theorem zaS:DMA X He H0e a [] zdp:=⟨zoL ze7 fun σ H Q ⟨Ha,ρ,st,vs,h,q⟩=>q [] H Ha vs (zaJ.refl _) h Reps.nil⟩
theorem zaC (ha:DM X He H0e a e fm)(hr:DMA X He H0e a es fa)(hs:starEach (e::es) X.env=(false,eval e X.env)::starEach es X.env:=by exact zaH rfl):DMA X He H0e a (e::es) (zaT fm fa):=⟨zoL (zbW ha.o hr.o hs) fun σ H Q ⟨Ha,ρ,st,vs,h,q⟩=>⟨Ha,ρ,st,vs,h,by
 unfold zaT at q;cases e1:fm ρ st with
 | stuck=>rw[e1] at q;exact q
 | exn x=>rw[e1] at q;exact q
 | ok p =>
  obtain⟨x,s1⟩:=p;rw[e1] at q;intro v H1 H01 us z1 h1 r1;refine⟨H01,ρ,s1,us,h1,?_⟩;simp only[Res.bind] at q;cases e2:fa ρ s1 with
  | stuck=>rw[e2] at q;exact q
  | exn x=>rw[e2] at q;exact q
  | ok p2 =>
   obtain⟨ys,s2⟩:=p2;rw[e2] at q;exact fun xs H2 H02 us2 z2 h2 r2=>q _ H2 H02 us2 (z1.trans z2) h2 (Reps.cons (r1.mono z2) r2)⟩⟩
noncomputable def mA (fa:Ev->List D->Res (List D×List D)) (m:List D->Res D):Ev->List D->Res (D×List D):=fun ρ st=>(fa ρ st).bind fun p=>(m p.1).bind fun d=>.ok (d,p.2)
theorem zvi {r:List V->Hp->VK->Prop}{m:List D->Res D}(hd:zhH X E r m)(σ:L2.St)(H:Hp)(Q:VK)(h:tM X.K He H0e a (mA fa m) σ H Q):tMA X.K He H0e a fa σ H fun vs H1=>r vs H1 Q:=by
 obtain⟨Ha,ρ,st,vs,h,q⟩:=h;refine⟨Ha,ρ,st,vs,h,?_⟩;unfold mA at q;cases e1:fa ρ st with
 | stuck=>rw[e1] at q;exact q
 | exn x=>rw[e1] at q;exact q
 | ok p =>
  obtain⟨ds,s1⟩:=p;rw[e1] at q;intro xs H1 H01 us z1 h1 r1;refine hd ds xs H1 H01 Q h1.s.g.sub r1 ?_;simp only[Res.bind] at q;cases e2:m ds with
  | stuck=>rw[e2] at q;exact q
  | exn x=>rw[e2] at q;exact q.elim
  | ok d =>
   rw[e2] at q;exact fun v' H' Ha' g rp=>q v' H' Ha' us (z1.trans g.z) (h1.back g.z (h1.s.grow g)) rp
end
inductive MFl where
 | nx (ρ:Ev) (st:List D) | rt (d:D) (st:List D) | bk (ρ:Ev) (st:List D) | ct (ρ:Ev) (st:List D)
structure zHl (K:sab) (He H0e Ha H:Hp) (a:Addr) (st:List D):Prop where
 g:zbK He H0e H Ha
 n:Ha a=none
 l:∃ us,H a=some (.lst us)/\Reps K Ha st us
noncomputable def zgF (K:sab) (He H0e:Hp) (a:Addr) (Ha:Hp) (r:Res MFl) (D:zjM):Prop:=match r with
 | .ok (.nx ρ st)=>∀ σ H Ha' vs,zaJ Ha Ha'->MSx K He H0e Ha' σ H ρ a st vs->D.nx σ H
 | .ok (.rt d st)=>∀ v H Ha',zaJ Ha Ha'->zHl K He H0e Ha' H a st->Rep K Ha' d v->D.rt v H
 | .ok (.bk ρ st)=>∀ σ H Ha' vs,zaJ Ha Ha'->MSx K He H0e Ha' σ H ρ a st vs->D.bk σ H
 | .ok (.ct ρ st)=>∀ σ H Ha' vs,zaJ Ha Ha'->MSx K He H0e Ha' σ H ρ a st vs->D.ct σ H
 | .exn _=>False
 | .stuck=>False
theorem zgF.grow {K:sab}{He H0e Ha Hb:Hp}{a:Addr}{r:Res MFl}{D:zjM}(h:zgF K He H0e a Ha r D)(s:zaJ Ha Hb):zgF K He H0e a Hb r D:=by
 cases r with
 | ok f =>
  cases f with
  | nx ρ st=>exact fun σ H Ha' vs s'=>h σ H Ha' vs (s.trans s')
  | rt d st=>exact fun v H Ha' s'=>h v H Ha' (s.trans s')
  | bk ρ st=>exact fun σ H Ha' vs s'=>h σ H Ha' vs (s.trans s')
  | ct ρ st=>exact fun σ H Ha' vs s'=>h σ H Ha' vs (s.trans s')
 | exn x=>exact h
 | stuck=>exact h
noncomputable def tSM (K:sab) (He H0e:Hp) (a:Addr) (g:Ev->List D->Res MFl):TS:=fun D σ H=>∃ Ha ρ st vs,MSx K He H0e Ha σ H ρ a st vs/\zgF K He H0e a Ha (g ρ st) D
structure SM (X:Cx) (He H0e:Hp) (a:Addr) (st:Stmt) (g:Ev->List D->Res MFl):Prop where
 o:PS X st (tSM X.K He H0e a g)
structure SMs (X:Cx) (He H0e:Hp) (a:Addr) (st:List Stmt) (g:Ev->List D->Res MFl):Prop where
 o:PSs X st (tSM X.K He H0e a g)
section
variable {X:Cx}{E:XK}{He H0e:Hp}{a:Addr}{st:Stmt}{rest:List Stmt}{e b:Expr}{es:List Expr}{pos:Pos}{f:Ev->Res D}{fm gm:Ev->List D->Res (D×List D)}{s t:Ev->List D->Res MFl}
def zbn:Ev->List D->Res MFl:=fun ρ st=>.ok (.nx ρ st)
def zuM (t:Ev->List D->Res MFl)(r:MFl):Res MFl:=match r with
 | .nx ρ st=>t ρ st
 | r=>.ok r
def zbb (s t:Ev->List D->Res MFl):Ev->List D->Res MFl:=fun ρ st=>(s ρ st).bind (zuM t)
theorem zaX:SMs X He H0e a [] zbn:=⟨zeA zoI fun D σ H ⟨Ha,ρ,st,vs,h,q⟩=>q σ H Ha vs (zaJ.refl _) h⟩
theorem zal (h1:SM X He H0e a st s)(h2:SMs X He H0e a rest t):SMs X He H0e a (st::rest) (zbb s t):=by
 refine⟨?_⟩;refine zeA (zfX h1.o h2.o) fun D σ H ⟨Ha,ρ,st,vs,h,q⟩=>⟨Ha,ρ,st,vs,h,?_⟩
 unfold zbb at q;cases e1:s ρ st with
 | stuck=>rw[e1] at q;exact q
 | exn x=>rw[e1] at q;exact q
 | ok r =>
  rw[e1] at q;cases r with
  | nx ρ' st'=>exact fun σ' H' Ha' vs' s' h'=>⟨Ha',ρ',st',vs',h',zgF.grow (r:=t ρ' st') q s'⟩
  | rt d st'=>exact q
  | bk ρ' st'=>exact q
  | ct ρ' st'=>exact q
noncomputable def zqj (st:List D) (r:Fl):Res MFl:=match r with
 | .nx ρ=>.ok (.nx ρ st)
 | .bk ρ=>.ok (.bk ρ st)
 | .ct ρ=>.ok (.ct ρ st)
 | .rt _=>.stuck
def zdM (g:Ev->Res Fl):Ev->List D->Res MFl:=fun ρ st=>(g ρ).bind (zqj st)
theorem zbG {g:Ev->Res Fl}(h:∀ vs,DS X E (upd He a (.lst vs)) H0e st g):SM X He H0e a st (zdM g):=by
 refine⟨?_⟩;rintro pins sh σ H D I ⟨Ha,ρ,st,vs,hm,q⟩;refine(h vs).o pins sh σ H D I ⟨Ha,ρ,hm.s,?_⟩;unfold zdM at q;cases e1:g ρ with
 | stuck=>rw[e1] at q;exact q
 | exn x=>rw[e1] at q;exact q.elim
 | ok r =>
  rw[e1] at q;cases r with
  | nx ρ'=>exact fun σ' H' Ha' z h'=>q σ' H' Ha' vs z (hm.back z h')
  | bk ρ'=>exact fun σ' H' Ha' z h'=>q σ' H' Ha' vs z (hm.back z h')
  | ct ρ'=>exact fun σ' H' Ha' z h'=>q σ' H' Ha' vs z (hm.back z h')
  | rt d=>exact q.elim
def zB2 (i:Nat)(ρ:Ev)(p:D×List D):Res MFl:=.ok (.nx (ρ.set i (.sh p.1)) p.2)
noncomputable def ze6 (i:Nat) (f:Ev->List D->Res (D×List D)):Ev->List D->Res MFl:=fun ρ st=>(f ρ st).bind (zB2 i ρ)
theorem zbC {i:Nat}{x:Str}{pos':Pos}(hN:X.N.Nodup)(hi:X.N[i]?=some x)(hx:Loc X.env.scope x)(he:DM X He H0e a e fm)(hs:swapsWith e (some (.Name x pos')) pos.line X.env=pure false:=by rfl)
  (hf:X.fn x=true∨X.env.scope.names.lookup x=some .local := by first | exact .inl rfl | exact .inr rfl | assumption):SM X He H0e a (.Assign [.Name x pos'] e pos) (ze6 i fm):=by
 refine⟨?_⟩;refine zbt (ztm hN hi hx he.o hs hf) fun D σ H ⟨Ha,ρ,st,vs,h,q⟩=>⟨Ha,ρ,st,vs,h,?_⟩
 unfold ze6 at q;cases e1:fm ρ st with
 | stuck=>rw[e1] at q;exact q
 | exn x=>rw[e1] at q;exact q
 | ok p =>
  obtain⟨d,st'⟩:=p;rw[e1] at q;exact fun v H' Ha' us z h' rp=>q _ H' Ha' us z (h'.back (zaJ.refl _) (h'.s.put rp))
def zB3 (p:D×List D):Res MFl:=.ok (.rt p.1 p.2)
def zEm (f:Ev->List D->Res (D×List D)):Ev->List D->Res MFl:=fun ρ st=>(f ρ st).bind zB3
theorem MSx.out {K:sab}{Ha H:Hp}{σ:L2.St}{ρ:Ev}{st:List D}{vs:List V}(h:MSx K He H0e Ha σ H ρ a st vs){J:Hp}(z:zaJ Ha J)(hs:zaJ J H)(hw:∀ b,J b≠none->Ha b=none->upd He a (.lst vs) b=none)(n:J a=none):zHl K He H0e J H a st :=
 ⟨⟨fun b o e=>h.s.g.s _ _ (by rw[zan (by intro c;subst c;rw[h.ha] at e;cases e)];exact e),h.s.g.z.trans z,hs,fun b h1 h2=>by
  have key:upd He a (.lst vs) b=none:=by
   cases q:Ha b with
   | none=>exact hw b h1 q
   | some o=>exact h.s.g.nw b (by rw[q];simp) h2
  by_cases c:b=a
  .subst c;exact h.ha
  .rw[zan c] at key;exact key⟩,n,vs,h.hl,h.r.mono z⟩
theorem zAn (he:DM X He H0e a e fm):SM X He H0e a (.Return (some e) pos) (zEm fm):=by
 refine⟨?_⟩;refine zbt (ztn he.o) fun D σ H ⟨Ha,ρ,st,vs,h,q⟩=>⟨Ha,ρ,st,vs,h,?_⟩
 unfold zEm at q;cases e1:fm ρ st with
 | stuck=>rw[e1] at q;exact q
 | exn x=>rw[e1] at q;exact q
 | ok p =>
  obtain⟨d,st'⟩:=p;rw[e1] at q;exact fun v H' Ha' us z h' rp=>q v H' Ha' z (h'.out (zaJ.refl _) h'.s.g.sub (fun b h1 h2=>absurd h2 h1) h'.n0) rp
def zgG (f:Ev->Res D):Ev->List D->Res MFl:=fun ρ st=>(f (shr ρ)).bind fun d=>.ok (.rt d st)
theorem zdR (he:DE X E e f):SM X He H0e a (.Return (some e) pos) (zgG f):=by
 refine⟨?_⟩;refine zbt (ztn he.o) fun D σ H ⟨Ha,ρ,st,vs,h,q⟩=>⟨frz (upd He a (.lst vs)) Ha H,shr ρ,h.s.frz_le,h.s.looks,?_⟩
 unfold zgG at q;cases e1:f (shr ρ) with
 | stuck=>rw[e1] at q;exact q
 | exn x=>rw[e1] at q;exact q.elim
 | ok d =>
  rw[e1] at q;intro v H' J g rp;have hz:frz (upd He a (.lst vs)) Ha H a=none:=by unfold frz;rw[zao];exact h.n0
  have z:zaJ Ha J:=h.s.frz_sub.trans g.z;have n:J a=none:=by
   cases qq:J a with
   | none=>rfl
   | some o=>have:=g.nw a (by rw[qq];simp) hz;rw[h.hl] at this;cases this
  have hg:=h.s.frz_grow.trans g;refine q v H' J z ⟨⟨fun b o e=>hg.s _ _ (by rw[zan (by intro c;subst c;rw[h.ha] at e;cases e)];exact e),hg.z,hg.sub,fun b h1 h2=>?_⟩,n,vs,g.s _ _ h.hl,h.r.mono z⟩ rp;have key:=hg.nw b h1 h2
  by_cases c:b=a
  .subst c;exact h.ha
  .rw[zan c] at key;exact key
noncomputable def zFA (s t:Ev->List D->Res MFl) (ρ:Ev) (p:D×List D):Res MFl:=match p.1 with
 | .bl b=>if b=true then s ρ p.2 else t ρ p.2
 | _=>.stuck
noncomputable def mIf (c:Ev->List D->Res (D×List D)) (s t:Ev->List D->Res MFl):Ev->List D->Res MFl:=fun ρ st=>(c ρ st).bind (zFA s t ρ)
theorem zlb {c:Expr}{sa sb:List Stmt}(hc:DMT X He H0e a c fm)(ha:SMs X He H0e a sa s)(hb:SMs X He H0e a sb t):SM X He H0e a (.If c sa sb pos) (mIf fm s t):=by
 refine⟨?_⟩;refine zbt (zDU hc.o ha.o hb.o) fun D σ H ⟨Ha,ρ,st,vs,h,q⟩=>⟨Ha,ρ,st,vs,h,?_⟩
 unfold mIf at q;cases e1:fm ρ st with
 | stuck=>rw[e1] at q;exact q
 | exn x=>rw[e1] at q;exact q
 | ok p =>
  obtain⟨d,st'⟩:=p;rw[e1] at q;cases d with
  | bl b =>
   intro H' Ha' us z h';replace q:zgF X.K He H0e a Ha (if b=true then s ρ st' else t ρ st') D:=q;cases b with
   | true=>rw[if_pos rfl] at q ⊢;exact⟨Ha',ρ,st',us,h',q.grow z⟩
   | false=>rw[if_neg sa7] at q ⊢;exact⟨Ha',ρ,st',us,h',q.grow z⟩
  | _=>exact q.elim
end
section
variable {X:Cx}{E:XK}{He H0e:Hp}{a:Addr}{st:Stmt}{e l b:Expr}{rest es:List Expr}{pos:Pos}{f:Ev->Res D}{fm gm:Ev->List D->Res (D×List D)}{s t:Ev->List D->Res MFl}
theorem zsS {op:CmpOp}{r:R2}{o:D->D->Res D}(h:OpR X (compareOp op) r)(ho:OpD X.K E r o)(ha:DM X He H0e a l fm)(hb:DM X He H0e a b gm)(hm:behindInMarks op b=false):DMT X He H0e a (.Compare l [op] [b] pos) (mB fm gm o):=by
 refine⟨?_⟩;refine zib (zvZ h ha.o hb.o hm) fun σ H Q h=>?_;have w:tM X.K He H0e a (mB fm gm o) σ H fun x H'=>∃ k,x=.bl k/\Q k H':=by
  obtain⟨Ha,ρ,st,vs,h,q⟩:=h;refine⟨Ha,ρ,st,vs,h,?_⟩;cases e1:mB fm gm o ρ st with
  | stuck=>rw[e1] at q;exact q
  | exn x=>rw[e1] at q;exact q
  | ok p =>
   obtain⟨d,st'⟩:=p;rw[e1] at q;intro v H1 H01 us z h1 r1;cases d with
   | bl b=>rw[zar.mp r1];exact⟨b,rfl,q H1 H01 us z h1⟩
   | _=>exact q.elim
 exact zhq ho σ H _ w
def mT (f:Ev->Res D):Ev->List D->Res (D×List D):=fun ρ st=>(f (shr ρ)).bind fun d=>.ok (d,st)
theorem zgb (h:DT X E e f):DMT X He H0e a e (mT f):=⟨zib h.o fun σ H Q ⟨Ha,ρ,st,vs,h,q⟩=>⟨frz (upd He a (.lst vs)) Ha H,shr ρ,h.s.frz_le,h.s.looks,by
 unfold mT at q;cases e1:f (shr ρ) with
 | stuck=>rw[e1] at q;exact q
 | exn x=>rw[e1] at q;exact q.elim
 | ok d =>
  rw[e1] at q;cases d with
  | bl b=>exact fun H' J g=>q H' Ha vs (zaJ.refl _) (h.back (zaJ.refl _) (h.s.same g.s))
  | _=>exact q.elim⟩⟩
noncomputable def mTV (i:Nat) (a:Addr) (f:Ev->Res D):Ev->List D->Res (D×List D):=fun ρ st=>if zqy ρ[i]? a=true then(f (vw i ρ st)).bind fun d=>.ok (d,st) else .stuck
theorem zzU {i:Nat}(h:DT X E e f):DMT X He H0e a e (mTV i a f):=⟨zib h.o fun σ H Q ⟨Ha,ρ,st,vs,h,q⟩=>by
 unfold mTV at q
 by_cases hp:zqy ρ[i]? a=true
 .rw[if_pos hp] at q
  obtain⟨v1,v2,v3⟩:=h.view hp;refine⟨_,vw i ρ st,v1,v3,?_⟩;cases e1:f (vw i ρ st) with
  | stuck=>rw[e1] at q;exact q
  | exn x=>rw[e1] at q;exact q.elim
  | ok d =>
   rw[e1] at q;cases d with
   | bl b=>exact fun H' J g=>q H' Ha vs (zaJ.refl _) (h.back (zaJ.refl _) (h.s.same g.s))
   | _=>exact q.elim
 .rw[if_neg hp] at q;exact q.elim⟩
noncomputable def zzo (g:Ev->List D->Res (D×List D)) (ρ:Ev) (p:D×List D):Res (D×List D):=match p.1 with
 | .bl b=>if b=true then g ρ p.2 else .ok (.bl false,p.2)
 | _=>.stuck
noncomputable def zHK (f g:Ev->List D->Res (D×List D)):Ev->List D->Res (D×List D):=fun ρ st=>(f ρ st).bind (zzo g ρ)
noncomputable def forM (tg:Ev->D->Res Ev) (body:Ev->List D->Res MFl):List D->Ev->List D->Res MFl
 | [],ρ,st=>.ok (.nx ρ st)
 | d::r,ρ,st=>(tg ρ d).bind fun ρ1=>(body ρ1 st).bind fun x=>match x with
  | .nx ρ2 s2=>forM tg body r ρ2 s2
  | .ct ρ2 s2=>forM tg body r ρ2 s2
  | .bk ρ2 s2=>.ok (.nx ρ2 s2)
  | .rt d s=>.ok (.rt d s)
noncomputable def tGM (K:sab) (He H0e:Hp) (a:Addr) (tg:Ev->D->Res Ev):TG:=fun v σ H Q=>∃ Ha ρ st vs d,MSx K He H0e Ha σ H ρ a st vs/\Rep K Ha d v/\match tg ρ d with
  | .ok ρ'=>∀ σ' H' Ha',zaJ Ha Ha'->MSx K He H0e Ha' σ' H' ρ' a st vs->Q σ' H'
  | _=>False
theorem zGZ {tgt:Expr}{tg:Ev->D->Res Ev}(hg:∀ vs,DG X E (upd He a (.lst vs)) H0e tgt tg):PG X tgt (tGM X.K He H0e a tg):=by
 rintro pins sh σ H v u Q I r ⟨Ha,ρ,st,vs,d,h,rp,q⟩;refine(hg vs).o pins sh σ H v u Q I r ⟨Ha,ρ,d,h.s,rp,?_⟩;cases e1:tg ρ d with
 | stuck=>rw[e1] at q;exact q
 | exn x=>rw[e1] at q;exact q
 | ok ρ' =>
  rw[e1] at q;exact fun σ' H' Ha' z h'=>q σ' H' Ha' z (h.back z h')
noncomputable def zpA (K:sab) (He H0e:Hp) (a:Addr) (Hb:Hp) (tg:Ev->D->Res Ev) (s:Ev->List D->Res MFl) (ds:List D) (D':zjM) (i:Nat) (σ:L2.St) (H:Hp):Prop :=
 ∃ Ha ρ st vs,zaJ Hb Ha/\MSx K He H0e Ha σ H ρ a st vs/\zgF K He H0e a Ha (forM tg s (ds.drop i) ρ st) D'
theorem zpA.done {K:sab}{Hb:Hp}{tg:Ev->D->Res Ev}{ds:List D}{D':zjM}{σ:L2.St}{H:Hp}(h:zpA K He H0e a Hb tg s ds D' ds.length σ H):D'.nx σ H:=by
 obtain⟨Ha,ρ,st,vs,z,h,q⟩:=h;rw[sbU] at q;unfold forM at q;exact q σ H Ha vs (zaJ.refl _) h
end
section
variable {X:Cx}{E:XK}{He H0e:Hp}{a:Addr}{st:Stmt}{e l b:Expr}{rest es:List Expr}{pos:Pos}{f:Ev->Res D}{fm gm:Ev->List D->Res (D×List D)}{fa:Ev->List D->Res (List D×List D)}{s t:Ev->List D->Res MFl}
noncomputable def zuN (i:Nat) (ρ:Ev) (ds:List D) (p:D×List D):Res MFl:=if ds.length < line then .ok (.nx (ρ.set i (.ow (.lst (ds++[p.1])))) p.2) else .stuck
noncomputable def zFy (s:Option Sl) (k:List D->Res MFl):Res MFl:=match s with
 | some (.ow (.lst ds))=>k ds
 | _=>.stuck
noncomputable def zB4 (i:Nat) (f:Ev->List D->Res (D×List D)):Ev->List D->Res MFl:=fun ρ st=>zFy ρ[i]? fun ds=>(f ρ st).bind (zuN i ρ ds)
theorem zp0 {i:Nat}{x:Str}{p1 p2 p3:Pos}(hN:X.N[i]?=some x)(hv:Vis X.env.scope x)(he:DM X He H0e a e fm)
  (hd:(x==("__debug__" : Str))=false:=by decide)(hcd:(x==("__classdict__" : Str))=false:=by decide)
  (hbase:attributeBase (.Name x p1) "append" X.env (eval (.Name x p1) X.env)=eval (.Name x p1) X.env:=by rfl)
  (hfew:((backTo p3 (starEach [e] X.env)).all (fun x=>!x.1)&&(backToKw p3 (keywordEach [] X.env)).all (fun x=>x.1.isSome)
  &&decide ([e].length+([]:List Keyword).length+(if([]:List Keyword).isEmpty then 0 else 1) < 30))=true:=by exact zoZ rfl)
  (hline:(p2.endLine==p3.line)=true:=by rfl) (hs:starEach [e] X.env=(false,eval e X.env)::starEach [] X.env:=by exact zaH rfl) (hplain:(backTo p3 (starEach [] X.env)).any (·.1)=false:=by exact za9 rfl)
  (hw:swapsWith (.Call (.Attribute (.Name x p1) "append" p2) [e] [] p3) none pos.line X.env=pure false:=by rfl) :
  SM X He H0e a (.Expr (.Call (.Attribute (.Name x p1) "append" p2) [e] [] p3) pos) (zB4 i fm):=by
 refine⟨?_⟩;refine zbt (zoJ (zBS PySem.F.plainAttrs_list PySem.F.slot_list_append PySem.F.type_list_append zlw (zir hN hv hd hcd) (zbW he.o ze7 hs) hbase hfew hline hs hplain) hw) fun D σ H ⟨Ha,ρ,st,vs,h,q⟩=>?_;unfold zB4 zFy at q;cases e0:ρ[i]? with
 | none=>rw[e0] at q;exact q.elim
 | some sl =>
  rw[e0] at q;cases sl with
  | ow d =>
   cases d with
   | lst ds =>
    obtain⟨p,k1,k2,k3,ws,k4,k5⟩:=h.s.ow i _ e0;refine⟨.ref p,k1,.inl ⟨rfl,ws,SqL.of k4⟩,?_⟩;refine⟨Ha,ρ,st,vs,h,?_⟩;replace q:zgF X.K He H0e a Ha ((fm ρ st).bind (zuN i ρ ds)) D:=q;cases e1:fm ρ st with
    | stuck=>rw[e1] at q;exact q
    | exn x=>rw[e1] at q;exact q
    | ok pr =>
     obtain⟨d,st'⟩:=pr;rw[e1] at q;intro v H' Ha' us z h' rp;obtain⟨p',k1',k2',k3',ws',k4',k5'⟩:=h'.s.ow i _ e0;rw[k1] at k1';cases k1';replace q:zgF X.K He H0e a Ha (zuN i ρ ds (d,st')) D:=q;unfold zuN at q
     by_cases hl:ds.length < line
     .rw[if_pos hl] at q
      refine⟨p,ws',v,rfl,rfl,k4',by rw[← k5'.length];exact sae hl (by decide),?_⟩;have hpa:p≠a:=by intro c;subst c;rw[zao] at k2';cases k2'
      exact q σ _ Ha' us z ⟨h'.ha,h'.h0,by rw[zan (saT hpa)];exact h'.hl,h'.r,h'.s.write e0 k1 (k5'.app (Reps.cons rp Reps.nil))⟩
     .rw[if_neg hl] at q;exact q.elim
   | _=>exact q.elim
  | _=>exact q.elim
noncomputable def zlq (ρ:Ev) (d:D) (p:D×List D):Res MFl:=match p.1 with
 | .int j=>match ixN p.2.length j with
  | some n=>.ok (.nx ρ (p.2.set n d))
  | none=>.stuck
 | _=>.stuck
noncomputable def zAy (i:Nat) (a:Addr) (f k:Ev->List D->Res (D×List D)):Ev->List D->Res MFl:=fun ρ st=>if zqy ρ[i]? a=true then(f ρ st).bind fun p=>(k ρ p.2).bind (zlq ρ p.1) else .stuck
theorem zwH {s:Option Sl}{a:Addr}(h:zqy s a=true):s=some (.pt a):=by
 unfold zqy at h;split at h
 .rw[eq_of_beq h]
 .cases h
theorem zvJ {i:Nat}{x:Str}{p1 p2:Pos}(hN:X.N[i]?=some x)(hv:Vis X.env.scope x)(he:DM X He H0e a e fm)(hk:DM X He H0e a b gm)
  (hd:(x==("__debug__" : Str))=false:=by decide)(hcd:(x==("__classdict__" : Str))=false:=by decide)
  (ha:∀ v,assign (.Subscript (.Name x p1) b p2) X.env v=(do
   let ov ← holding [v] (eval (.Name x p1) X.env)
   let iv ← holding [v,ov] (eval b X.env)
   standAt p2
   holding [v,ov,iv] (setItem ov iv v)
   release [v,ov,iv] []):=by intro _;rfl)
  (hs:swapsWithSole [.Subscript (.Name x p1) b p2] e pos.line X.env=pure false:=by rfl) (hw:swappedStores [.Subscript (.Name x p1) b p2] e X.env=pure none:=by rfl)
  (h1:(assignEach [.Subscript (.Name x p1) b p2] X.env).map (·.2)=[assign (.Subscript (.Name x p1) b p2) X.env]:=by rfl) :
  SM X He H0e a (.Assign [.Subscript (.Name x p1) b p2] e pos) (zAy i a fm gm):=by
 refine⟨?_⟩;refine zbt (zAu he.o (zAv (zir hN hv hd hcd) hk.o zte ha) hs hw h1) fun D σ H ⟨Ha,ρ,st,vs,h,q⟩=>⟨Ha,ρ,st,vs,h,?_⟩
 unfold zAy at q
 by_cases hp:zqy ρ[i]? a=true
 .rw[if_pos hp] at q
  have hσ:=h.s.ex.2 i a (zwH hp);cases e1:fm ρ st with
  | stuck=>rw[e1] at q;exact q
  | exn x=>rw[e1] at q;exact q
  | ok pr =>
   obtain⟨d,s1⟩:=pr;rw[e1] at q;intro v H1 H01 us1 z1 h1' r1;refine⟨.ref a,hσ,H01,ρ,s1,us1,h1',?_⟩;replace q:zgF X.K He H0e a Ha ((gm ρ s1).bind (zlq ρ d)) D:=q;cases e2:gm ρ s1 with
   | stuck=>rw[e2] at q;exact q
   | exn x=>rw[e2] at q;exact q
   | ok pr2 =>
    obtain⟨j,s2⟩:=pr2;rw[e2] at q;intro u H2 H02 us2 z2 h2 r2;replace q:zgF X.K He H0e a Ha (zlq ρ d (j,s2)) D:=q;unfold zlq at q;cases j with
    | int n =>
     cases en:ixN s2.length n with
     | none=>simp only[en] at q;exact q.elim
     | some m =>
      simp only[en] at q;refine⟨a,us2,n,m,rfl,zak.mp r2,h2.hl,by rw[← h2.r.length];exact en,?_⟩;refine q σ _ H02 (us2.set m v) (z1.trans z2) (h2.change (H':=upd H2 a (.lst (us2.set m v))) ⟨fun b o e=>?_,zaJ.refl _,fun b o e=>?_,fun b k1 k2=>absurd k2 k1⟩ h2.n0 zao (h2.r.set (r1.mono z2) m))
      .have c:b≠a:=by intro c;subst c;rw[zdK] at e;cases e
       rw[zan c];rw[zgm c] at e;exact e
      .have c:b≠a:=by intro c;subst c;rw[h2.n0] at e;cases e
       rw[zan c];exact h2.s.g.sub _ _ e
    | _=>exact q.elim
 .rw[if_neg hp] at q;exact q.elim
variable {CX:CXT}{k n:Nat}{fn:Addr}{fd:FuncData}{ps:List Str}{x:Str}{p:Pos}
theorem zCv {m:List D->Res D}(F:zbP X.prog X.w X.K X.mg X.base CX k fn fd ps (spD X.K n m))(hr:zfP k X.A)(hg:Gl X x)(hm:X.mg x=some (.ref fn))
  (hk:scj X.K (.ref fn)=true)(hb:zjc X.K fd ps [])(hx:zfR CX X E)(ha:DMA X He H0e a (e::es) fa)(hn:(e::es).length=n:=by rfl)(hl:∀ ρ st ds,fa ρ st=.ok ds->ds.1.length=(e::es).length)
  (hdb:(x==("__debug__" : Str))=false:=by decide)(he:starEach (e::es) X.env=(false,eval e X.env)::starEach es X.env:=by exact zaH rfl)(hpl:(backTo pos (starEach es X.env)).any (·.1)=false:=by exact za9 rfl) :
  DM X He H0e a (.Call (.Name x p) (e::es) [] pos) (mA fa m):=by
 refine⟨?_⟩;refine zaR (zoK F hr hg hm hk hb .nil hx ha.o hdb he hpl) fun σ H Q ⟨Ha,ρ,st,vs,h,q⟩=>⟨Ha,ρ,st,vs,h,?_⟩
 unfold mA at q;cases e1:fa ρ st with
 | stuck=>rw[e1] at q;exact q
 | exn x=>rw[e1] at q;exact q
 | ok pr =>
  obtain⟨ds,s1⟩:=pr;rw[e1] at q;intro xs H1 H01 us z1 h1 r1;refine⟨?_,H01,ds,h1.s.g.sub,by simpa using r1,?_⟩
  .have:=r1.length
   have:=hl ρ st _ e1;simp only[saZ] at *;omega
  .simp only[Res.bind] at q
   cases e2:m ds with
   | stuck=>rw[e2] at q;exact q
   | exn x=>rw[e2] at q;exact q.elim
   | ok d =>
    rw[e2] at q;exact fun v' H' Ha' g rp=>q v' H' Ha' us (z1.trans g.z) (h1.back g.z (h1.s.grow g)) rp
noncomputable def spM (K:sab) (n:Nat) (m:Addr->List D->List D->Res (D×List D)):Sp:=fun vs H Q E=>vs.length=n+1/\∃ Ha ds a st us0 vs0,vs=.ref a::vs0/\zaJ Ha H/\Reps K Ha ds vs0/\Ha a=none/\H a=some (.lst us0)/\Reps K Ha st us0/\match m a st ds with
 | .ok (d,st')=>∀ v H' Ha' us,zbK (era a H) Ha H' Ha'->Ha' a=none->H' a=some (.lst us)->Reps K Ha' st' us->Rep K Ha' d v->Q v H'
 | .exn _=>False
 | .stuck=>False
noncomputable def zye (a:Addr) (m:Addr->List D->List D->Res (D×List D)) (p:List D×List D):Res (D×List D):=m a p.2 p.1
noncomputable def zbg (i:Nat) (a:Addr) (fa:Ev->List D->Res (List D×List D)) (m:Addr->List D->List D->Res (D×List D)):Ev->List D->Res (D×List D):=fun ρ st=>if zqy ρ[i]? a=true then(fa ρ st).bind (zye a m) else .stuck
theorem zzV {i:Nat}{y:Str}{p1:Pos}{m:Addr->List D->List D->Res (D×List D)}(F:zbP X.prog X.w X.K X.mg X.base CX k fn fd ps (spM X.K n m))(hr:zfP k X.A)(hg:Gl X x)(hm:X.mg x=some (.ref fn))
  (hk:scj X.K (.ref fn)=true)(hb:zjc X.K fd ps [])(hx:zfR CX X E)(hN:X.N[i]?=some y)(hv:Vis X.env.scope y)(ha:DMA X He H0e a es fa)(hl:∀ ρ st ds,fa ρ st=.ok ds->ds.1.length=n)
  (hd:(y==("__debug__" : Str))=false:=by decide)(hcd:(y==("__classdict__" : Str))=false:=by decide)(hdb:(x==("__debug__" : Str))=false:=by decide)(he:starEach (.Name y p1::es) X.env=(false,eval (.Name y p1) X.env)::starEach es X.env:=by exact zaH rfl)(hpl:(backTo pos (starEach es X.env)).any (·.1)=false:=by exact za9 rfl) :
  DM X He H0e a (.Call (.Name x p) (.Name y p1::es) [] pos) (zbg i a fa m):=by
 refine⟨?_⟩;refine zaR (zoK F hr hg hm hk hb .nil hx (zbW (zir hN hv hd hcd) ha.o he) hdb he hpl) fun σ H Q ⟨Ha,ρ,st,vs,h,q⟩=>?_;unfold zbg at q
 by_cases hp:zqy ρ[i]? a=true
 .rw[if_pos hp] at q
  have hσ:=h.s.ex.2 i a (zwH hp);refine⟨.ref a,hσ,Ha,ρ,st,vs,h,?_⟩;cases e1:fa ρ st with
  | stuck=>rw[e1] at q;exact q
  | exn x=>rw[e1] at q;exact q
  | ok pr =>
   obtain⟨ds,s1⟩:=pr;rw[e1] at q;intro xs H1 H01 us z1 h1 r1;refine⟨?_,H01,ds,a,s1,us,xs,by simp,h1.s.g.sub,r1,h1.n0,h1.hl,h1.r,?_⟩
   .have:=r1.length
    have:=hl ρ st _ e1;simp only[saZ,sau] at *;omega
   .replace q:match m a s1 ds with
     | .ok (d,st')=>∀ v H' Ha' us,zaJ Ha Ha'->MSx X.K He H0e Ha' σ H' ρ a st' us->Rep X.K Ha' d v->Q v H'
     | .exn _=>False
     | .stuck=>False:=q
    cases e2:m a s1 ds with
    | stuck=>rw[e2] at q;exact q
    | exn x=>rw[e2] at q;exact q
    | ok pr2 =>
     obtain⟨d,s2⟩:=pr2;rw[e2] at q;exact fun v H' Ha' us' g n' hl' r' rp=>q v H' Ha' us' (z1.trans g.z) (h1.change g n' hl' r') rp
 .rw[if_neg hp] at q;exact q.elim
end
noncomputable def zyW (r:MFl):Res (D×List D):=match r with
 | .nx _ st=>.ok (.non,st)
 | .rt d st=>.ok (d,st)
 | _=>.stuck
noncomputable def zvR (n:Nat) (s:Addr->Ev->List D->Res MFl) (a:Addr) (st ds:List D):Res (D×List D):=(s a (.pt a::ds.map Sl.sh++saj (n-(ds.length+1)) .no) st).bind zyW
theorem zdg {P:Program}{w:World}{K:sab}{mg:Str->Option Value}{base:Heap}{x qual:Str}{st:Stmt}{f:Addr}{fd:FuncData}{N ps:List Str}{k n:Nat}{s:Addr->Ev->List D->Res MFl}(F:Fun K x qual st f fd)(S:zay N ps (defScope st))(hn:ps.length=n+1)
  (hbody:∀ (cdv:Value) (A:Around) (outer:List sba) (s0:Shared) (H He Ha:Hp) (a:Addr) (E:XK),zfP k (A.deeper (envOfC qual (defScope st) s0.heap.objs.size f cdv)) ->
   SMs (zk0 CX0 P w K mg base N qual (defScope st) f cdv A outer s0 H E).nox He Ha a (defBody st) (s a)):zbP P w K mg base CX0 (k+1) f fd ps (spM K n (zvR N.length s)):=by
 have hpl:ps.length<=N.length:=by have:=congrArg scB S.pre;rw[saQ] at this;omega
 refine F.ok S (fun vs H Q E h=>h.1.trans hn.symm) fun cdv A outer s0 H vs Q E hr h=>?_;obtain⟨hlen,Ha,ds,a,sl,us0,vs0,rfl,hs,hv,h0,hl,hst,q⟩:=h;have lv:=hv.length;have hσ:start N (.ref a::vs0)=some (.ref a)::(vs0.map some++saj (N.length-(vs0.length+1)) none):=by
  unfold L2.start;simp
 have hρ0:∀ (i:Nat) (z:Sl),(Sl.pt a::ds.map Sl.sh++saj (N.length-(ds.length+1)) Sl.no)[i]?=some z->z=.no∨(i=0/\z=.pt a)∨∃ j d,i=j+1/\ds[j]?=some d/\z=.sh d:=fun i z e=>by
  cases i with
  | zero=>simp at e;exact .inr (.inl ⟨rfl,e.symm⟩)
  | succ j =>
   rw[sbV,saW] at e
   by_cases hj:j < ds.length
   .rw[san (by simpa using hj),sai,saa hj] at e
    cases e;exact .inr (.inr ⟨j,ds[j],rfl,saa hj,rfl⟩)
   .rw[sar (by simpa using hj),saw] at e
    split at e
    .cases e;exact .inl rfl
    .cases e
 refine⟨_,(hbody cdv A outer s0 H (era a H) Ha a E hr).o,Ha,.pt a::ds.map Sl.sh++saj (N.length-(ds.length+1)) .no,sl,us0,⟨zdK,h0,hl,hst,?_⟩,?_⟩
 .refine⟨⟨fun b o e=>?_,zaJ.refl _,hs,fun b h1 h2=>absurd h2 h1⟩,fun i d e=>?_,fun i d e=>?_,fun i j d d' hij e=>?_,?_,⟨fun i j es e=>?_,fun i b e=>?_⟩⟩
  .by_cases c:b=a
   .subst c;rw[zao] at e;cases e;exact hl
   .rw[zan c,zgm c] at e;exact e
  .rcases hρ0 i _ e with h | ⟨_,h⟩ | ⟨j,d',rfl,hd,h⟩
   .cases h
   .cases h
   .cases h
    obtain⟨v,h1,h2⟩:=hv.get hd;refine⟨v,?_,h2⟩;rw[hσ,saW,san (by rw[sag];exact(sac.mp h1).1),sai,h1];rfl
  .rcases hρ0 i _ e with h | ⟨_,h⟩ | ⟨j,d',rfl,hd,h⟩<;>cases h
  .rcases hρ0 i _ e with h | ⟨_,h⟩ | ⟨j,d',rfl,hd,h⟩<;>cases h
  .rw[hσ]
   simp only[sau,saR,sag,saV];omega
  .rcases hρ0 i _ e with h | ⟨_,h⟩ | ⟨j,d',rfl,hd,h⟩<;>cases h
  .rcases hρ0 i _ e with h | ⟨rfl,h⟩ | ⟨j,d',rfl,hd,h⟩
   .cases h
   .cases h;rw[hσ];rfl
   .cases h
 .unfold zvR at q
  cases e1:s a (.pt a::ds.map Sl.sh++saj (N.length-(ds.length+1)) .no) sl with
  | stuck=>rw[e1] at q;exact q
  | exn x=>rw[e1] at q;exact q
  | ok r =>
   rw[e1] at q;cases r with
   | nx ρ' st'=>exact fun σ' H' Ha' us z h'=>q .non H' Ha' us ⟨fun b o e=>h'.s.g.s _ _ (by rw[zan (by intro c;subst c;rw[zdK] at e;cases e)];exact e),h'.s.g.z,h'.s.g.sub,fun b h1 h2=>by
      have:=h'.s.g.nw b h1 h2
      by_cases c:b=a
      .subst c;exact zdK
      .rw[zan c] at this;exact this⟩ h'.n0 h'.hl h'.r (zaI.mpr rfl)
   | rt d st'=>exact fun v H' Ha' z o rp=>let ⟨us,l1,l2⟩:=o.l;q v H' Ha' us o.g o.n l1 l2 rp
   | bk ρ' st'=>exact q.elim
   | ct ρ' st'=>exact q.elim
section
variable {K:sab}{He H0e Ha H:Hp}{σ:L2.St}{ρ:Ev}
theorem SRx.enter (h:SRx K He H0e Ha σ H ρ){i:Nat}{p:Addr}{ds:List D}{vs:List V}(hi:i < ρ.length)(he:He p=none)(h0:Ha p=none)(hl:H p=some (.lst vs))(r:Reps K Ha ds vs)
  (ho:∀ (j:Nat) (d:D) (q:Addr),ρ[j]?=some (.ow d)->σ[j]?=some (some (.ref q))->q≠p)(hx:∀ (j k:Nat) (es:List D),ρ[j]?≠some (.ox k es)):MSx K He H0e Ha (σ.set i (some (.ref p))) H (ρ.set i (.pt p)) p ds vs:=by
 have key:∀ (j:Nat) (s:Sl),(ρ.set i (.pt p))[j]?=some s->(j=i/\s=.pt p)∨(j≠i/\ρ[j]?=some s):=fun j s e=>by
  by_cases hj:i=j
  .subst hj;rw[saF hi] at e;cases e;exact .inl ⟨rfl,rfl⟩
  .rw[sah hj] at e;exact .inr ⟨fun z=>hj z.symm,e⟩
 have h0e:H0e p=none:=h.g.z.free h0;refine⟨he,h0e,hl,r,⟨⟨fun b o e=>?_,h.g.z,h.g.sub,fun b h1 h2=>?_⟩,fun j d e=>?_,fun j d e=>?_,fun j k d d' hn e1 e2=>?_,by simp [h.ln],⟨fun j k es e=>?_,fun j b e=>?_⟩⟩⟩
 .by_cases c:b=p
  .subst c;rw[zao] at e;cases e;exact hl
  .rw[zan c] at e;exact h.g.s _ _ e
 .have c:b≠p:=by intro c;subst c;exact h1 h0
  rw[zan c];exact h.g.nw b h1 h2
 .rcases key j _ e with⟨_,e'⟩ | ⟨hj,e'⟩
  .cases e'
  .obtain⟨v,h1,h2⟩:=h.rd j d e'
   exact⟨v,by rw[sah (saT hj)];exact h1,h2⟩
 .rcases key j _ e with⟨_,e'⟩ | ⟨hj,e'⟩
  .cases e'
  .obtain⟨q,h1,h2,h3,h4⟩:=h.ow j d e'
   exact⟨q,by rw[sah (saT hj)];exact h1,by rw[zan (ho j d q e' h1)];exact h2,h3,h4⟩
 .rcases key j _ e1 with⟨_,e'⟩ | ⟨hj,e1'⟩
  .cases e'
  rcases key k _ e2 with⟨_,e'⟩ | ⟨hk,e2'⟩
  .cases e'
  rw[sah (saT hj),sah (saT hk)];exact h.ap j k d d' hn e1' e2'
 .rcases key j _ e with⟨_,e'⟩ | ⟨hj,e'⟩
  .cases e'
  .exact absurd e' (hx j k es)
 .rcases key j _ e with⟨rfl,e'⟩ | ⟨hj,e'⟩
  .cases e'
   rw[saF (by rw[← h.ln];exact hi)]
  .rw[sah (saT hj)];exact h.ex.2 j b e'
def zz3 (i:Nat)(ρ:Ev):Ev:=ρ.take i++saj (ρ.length-i) .no
theorem zz2 {i:Nat}{ρ:Ev}:(zz3 i ρ).length=ρ.length:=by
 unfold zz3;rw[saR,saQ,saV];omega
theorem zCF {i:Nat}{ρ:Ev}{j:Nat}{s:Sl}(e:(zz3 i ρ)[j]?=some s):s=.no∨ρ[j]?=some s:=by
 unfold zz3 at e
 by_cases hj:j < (ρ.take i).length
 .rw[san hj] at e
  rw[List.getElem?_take] at e;split at e
  .exact .inr e
  .cases e
 .rw[sar (by omega),saw] at e
  split at e
  .cases e;exact .inl rfl
  .cases e
theorem MSx.leave {a:Addr}{st:List D}{vs:List V}(h:MSx K He H0e Ha σ H ρ a st vs)(i:Nat):SRx K He H0e Ha σ H (zz3 i ρ):=by
 have hn:∀ b,upd He a (.lst vs) b=none->He b=none:=fun b e=>by
  by_cases c:b=a
  .subst c;exact h.ha
  .rw[zan c] at e;exact e
 have key:∀ (j:Nat) (s:Sl),(zz3 i ρ)[j]?=some s->s=.no∨ρ[j]?=some s:=fun j s e=>zCF e;refine⟨⟨fun b o e=>h.s.g.s _ _ (by rw[zan (by intro c;subst c;rw[h.ha] at e;cases e)];exact e),h.s.g.z,h.s.g.sub,fun b h1 h2=>hn b (h.s.g.nw b h1 h2)⟩,fun j d e=>?_,fun j d e=>?_,fun j k d d' hij e1 e2=>?_,by rw[zz2];exact h.s.ln,(h.s.ex.he hn).upd (fun j s e=>?_) (zaJ.refl _) (fun _ _ _ e=>e) fun p us _ q0 hq _=>⟨hq,q0⟩⟩
 .rcases key j _ e with h' | h'
  .cases h'
  .exact h.s.rd j d h'
 .rcases key j _ e with h' | h'
  .cases h'
  .obtain⟨q,h1,h2,h3⟩:=h.s.ow j d h'
   exact⟨q,h1,hn q h2,h3⟩
 .rcases key j _ e1 with h' | h'
  .cases h'
  rcases key k _ e2 with h'' | h''
  .cases h''
  exact h.s.ap j k d d' hij h' h''
 .rcases key j _ e with h' | h'
  .exact .inr (.inr (.inl h'))
  .exact .inl ⟨h',rfl⟩
end
open Classical in
noncomputable def zB7 (F:Addr->Res Fl):Res Fl:=if h:∃ r,∀ a,F a=r then h.choose else .stuck
theorem zB6 {F:Addr->Res Fl}{r:Res Fl}(h:∀ a,F a=r):zB7 F=r:=by
 have hx:∃ r,∀ a,F a=r:=⟨r,h⟩
 unfold zB7;rw[dif_pos hx];exact(hx.choose_spec 0).symm.trans (h 0)
theorem zB5 {F:Addr->Res Fl}(h:zB7 F≠.stuck)(a:Addr):F a=zB7 F:=by
 unfold zB7 at h ⊢
 by_cases hx:∃ r,∀ a,F a=r
 .rw[dif_pos hx];exact hx.choose_spec a
 .rw[dif_neg hx] at h;exact absurd rfl h
noncomputable def zzJ (i:Nat) (r:Res MFl):Res Fl:=match r with
 | .ok (.nx ρ _)=>.ok (.nx (zz3 i ρ))
 | .ok (.rt d _)=>.ok (.rt d)
 | .ok (.bk ρ _)=>.ok (.bk (zz3 i ρ))
 | .ok (.ct ρ _)=>.ok (.ct (zz3 i ρ))
 | _=>.stuck
def zG5 (ρ:Ev):Bool:=ρ.all fun s=>match s with
 | .ox _ _=>false
 | _=>true
noncomputable def ztZ (i:Nat) (s:Addr->Ev->List D->Res MFl) (ρ:Ev) (d:D):Res Fl:=match d with
 | .lst ds=>if zG5 ρ=true/\i < ρ.length then zB7 fun a=>zzJ i (s a (ρ.set i (.pt a)) ds) else .stuck
 | _=>.stuck
noncomputable def zll (i:Nat) (f:Ev->Res D) (s:Addr->Ev->List D->Res MFl):Ev->Res Fl:=fun ρ=>(f ρ).bind (ztZ i s ρ)
section
variable {X:Cx}{E:XK}{He H0e:Hp}{st:Stmt}{rest:List Stmt}{e:Expr}{es:List Expr}{pos:Pos}{f:Ev->Res D}{s:Addr->Ev->List D->Res MFl}
theorem zxP {i:Nat}{x:Str}{pos':Pos}(hN:X.N.Nodup)(hi:X.N[i]?=some x)(hx:Loc X.env.scope x)(he:DF X E e f)(hr:∀ a,SMs X He H0e a rest (s a))(hs:swapsWith e (some (.Name x pos')) pos.line X.env=pure false:=by rfl)
  (hf:X.fn x=true∨X.env.scope.names.lookup x=some .local := by first | exact .inl rfl | exact .inr rfl | assumption):DSs X E He H0e (.Assign [.Name x pos'] e pos::rest) (zll i f s):=by
 refine⟨?_⟩;have h2:PSs X rest fun G σ H=>∃ p,tSM X.K He H0e p (s p) G σ H:=fun pins sh σ H G I ⟨p,h⟩=>(hr p).o pins sh σ H G I h;refine zeA (zfX (ztm hN hi hx he.o hs hf) h2) fun G σ H ⟨Ha,ρ,h,q⟩=>⟨Ha,ρ,h.g.sub,h.rd,?_⟩
 unfold zll at q;cases e1:f ρ with
 | stuck=>rw[e1] at q;exact q
 | exn x=>rw[e1] at q;exact fun C ox H' Ha' g ex=>q C ox H' Ha' (h.g.trans g) ex
 | ok d =>
  rw[e1] at q;replace q:zca X.K E He H0e Ha (ztZ i s ρ d) G:=q;unfold ztZ at q;cases d with
  | lst ds =>
   simp only at q
   by_cases hc:zG5 ρ=true/\i < ρ.length
   .rw[if_pos hc] at q
    intro p vs H' Ha' g hp h0 hv rp;have hg:=h.grow g;have hnx:∀ (j k:Nat) (es:List D),ρ[j]?≠some (.ox k es):=fun j k es e=>by
     have:=saJ.mp hc.1 _ (saH e);cases this
    have hm:=hg.enter (i:=i) (p:=p) (ds:=ds) (vs:=vs) hc.2 (h.g.s.free hp) h0 hv rp (fun j d q' ej es'=>by
     obtain⟨q2,k1,_,_,k4⟩:=h.ow j d ej;rw[es'] at k1;cases k1;cases d with
     | lst ds'=>obtain⟨ws,k5,_⟩:=k4;intro c;subst c;rw[hp] at k5;cases k5
     | _=>exact k4.elim) hnx
    have hns:zB7 (fun a=>zzJ i (s a (ρ.set i (.pt a)) ds))≠.stuck:=fun z=>by rw[z] at q;exact q
    have hF:=zB5 hns p;rw[← hF] at q;refine⟨p,Ha',_,ds,vs,hm,?_⟩;replace q:=zca.grow q g.z;unfold zzJ at q;cases e2:s p (ρ.set i (.pt p)) ds with
    | stuck=>rw[e2] at q;exact q
    | exn x=>rw[e2] at q;exact q.elim
    | ok r =>
     rw[e2] at q;cases r with
     | nx ρ' st'=>exact fun σ' H2 H02 us z h'=>q σ' H2 H02 z (h'.leave i)
     | rt d st'=>exact fun v H2 H02 z o rp=>q v H2 H02 o.g rp
     | bk ρ' st'=>exact fun σ' H2 H02 us z h'=>q σ' H2 H02 z (h'.leave i)
     | ct ρ' st'=>exact fun σ' H2 H02 us z h'=>q σ' H2 H02 z (h'.leave i)
   .rw[if_neg hc] at q;exact q.elim
  | _=>exact q.elim
end
noncomputable def tMI (K:sab) (He H0e:Hp) (a:Addr) (src:Ev->List D->Res (List D×List D)):TI:=fun σ H R=>∃ Ha ρ st vs,MSx K He H0e Ha σ H ρ a st vs/\match src ρ st with
 | .ok (ds,st')=>∀ J H' Ha' us,zaJ Ha Ha'->MSx K He H0e Ha' σ H' ρ a st' us->ItD K ds J Ha'->R J H'
 | .exn _=>False
 | .stuck=>False
structure MI (X:Cx) (He H0e:Hp) (a:Addr) (tg iter:Expr) (src:Ev->List D->Res (List D×List D)):Prop where
 o:PI X tg iter (tMI X.K He H0e a src)
noncomputable def zzn (src:Ev->Res (List D)):Ev->List D->Res (List D×List D):=fun ρ st=>(src ρ).bind fun ds=>.ok (ds,st)
noncomputable def zty (p:D×List D):Res (List D×List D):=match p.1 with
 | .int j=>if -4611686018427387904<=j/\j < 4611686018427387904 then .ok (intsFrom 0 j.toNat,p.2) else .stuck
 | _=>.stuck
noncomputable def zzm (f:Ev->List D->Res (D×List D)):Ev->List D->Res (List D×List D):=fun ρ st=>(f ρ st).bind zty
section
variable {X:Cx}{E:XK}{He H0e:Hp}{a:Addr}{st:Stmt}{e l b tgt iter:Expr}{rest es:List Expr}{pos:Pos}{f:Ev->Res D}{fm gm:Ev->List D->Res (D×List D)}{fa:Ev->List D->Res (List D×List D)}{s t:Ev->List D->Res MFl}
theorem zly {src:Ev->Res (List D)}(h:DI X E tgt iter src):MI X He H0e a tgt iter (zzn src):=⟨zgX h.o fun σ H R ⟨Ha,ρ,st,vs,h,q⟩=>⟨Ha,ρ,h.s.g.sub,h.s.rd,by
 unfold zzn at q;cases e1:src ρ with
 | stuck=>rw[e1] at q;exact q
 | exn x=>rw[e1] at q;exact q.elim
 | ok ds =>
  rw[e1] at q;exact fun J H' Ha' g it=>q J H' Ha' vs g.z (h.back g.z (h.s.grow g)) it⟩⟩
theorem zws {p pos2:Pos}(hgl:Gl X "range")(hm:X.mg "range"=none)(hi:DM X He H0e a iter fm)(hst:starEach [iter] X.env=[(false,eval iter X.env)]:=by exact zd5 rfl):MI X He H0e a tgt (.Call (.Name "range" p) [iter] [] pos2) (zzm fm):=by
 refine⟨zgX (zlr hgl hm (zbW hi.o ze7 hst) hst) fun σ H R ⟨Ha,ρ,st,vs,h,q⟩=>⟨Ha,ρ,st,vs,h,?_⟩⟩;unfold zzm at q;cases e1:fm ρ st with
 | stuck=>rw[e1] at q;exact q
 | exn x=>rw[e1] at q;exact q
 | ok pr =>
  obtain⟨d,s1⟩:=pr;rw[e1] at q;intro v H1 H01 us z h1 r1;cases d with
  | int j =>
   rw[zak.mp r1];replace q:match (if -4611686018427387904<=j/\j < 4611686018427387904 then Res.ok (intsFrom 0 j.toNat,s1) else .stuck) with
    | .ok (ds,st')=>∀ J H' Ha' us,zaJ Ha Ha'->MSx X.K He H0e Ha' σ H' ρ a st' us->ItD X.K ds J Ha'->R J H'
    | .exn _=>False
    | .stuck=>False:=q
   by_cases hj:-4611686018427387904<=j/\j < 4611686018427387904
   .rw[if_pos hj] at q
    exact⟨j,rfl,hj.1,hj.2,q _ H1 H01 us z h1 zqw⟩
   .rw[if_neg hj] at q;exact q.elim
  | _=>exact q.elim
theorem zpA.step2 {K:sab}{Hb Ha:Hp}{ρ:Ev}{st:List D}{vs:List V}{tg:Ev->D->Res Ev}{ds:List D}{D':zjM}{i:Nat}{σ:L2.St}{H:Hp}{d:D}{v:V}(z:zaJ Hb Ha)(h:MSx K He H0e Ha σ H ρ a st vs)(q:zgF K He H0e a Ha (forM tg s (ds.drop i) ρ st) D')(hd:ds[i]?=some d)(rv:Rep K Ha d v)
  (he:∀ ρ,tg ρ d=.stuck∨∃ ρ',tg ρ d=.ok ρ') :
  tGM K He H0e a tg v σ H fun σ2 H2=>tSM K He H0e a s { D' with nx:=zpA K He H0e a Hb tg s ds D' (i+1),ct:=zpA K He H0e a Hb tg s ds D' (i+1),bk:=D'.nx } σ2 H2:=by
 have hi:i < ds.length:=(sac.mp hd).1;have hdr:ds.drop i=d::ds.drop (i+1):=by
  rw[saL hi];rw[saa hi] at hd;cases hd;rfl
 rw[hdr] at q;refine⟨Ha,ρ,st,vs,d,h,rv,?_⟩;unfold forM at q;rcases he ρ with e1 | ⟨ρ1,e1⟩
 .rw[e1] at q;exact q.elim
 .rw[e1] at q ⊢
  intro σ' H' Ha' z' h';refine⟨Ha',ρ1,st,vs,h',?_⟩;replace q:=zgF.grow (r:=(s ρ1 st).bind fun x=>match x with
   | .nx ρ2 s2=>forM tg s (ds.drop (i+1)) ρ2 s2
   | .ct ρ2 s2=>forM tg s (ds.drop (i+1)) ρ2 s2
   | .bk ρ2 s2=>.ok (.nx ρ2 s2)
   | .rt d s=>.ok (.rt d s)) q z'
  cases e2:s ρ1 st with
  | stuck=>rw[e2] at q;exact q
  | exn x=>rw[e2] at q;exact q
  | ok r =>
   rw[e2] at q;cases r with
   | nx ρ2 s2=>exact fun σ3 H3 H03 vs3 z3 h3=>⟨H03,ρ2,s2,vs3,(z.trans z').trans z3,h3,zgF.grow (r:=forM tg s (ds.drop (i+1)) ρ2 s2) q z3⟩
   | ct ρ2 s2=>exact fun σ3 H3 H03 vs3 z3 h3=>⟨H03,ρ2,s2,vs3,(z.trans z').trans z3,h3,zgF.grow (r:=forM tg s (ds.drop (i+1)) ρ2 s2) q z3⟩
   | bk ρ2 s2=>exact q
   | rt d s2=>exact q
noncomputable def zoU (src:Ev->List D->Res (List D×List D)) (tg:Ev->D->Res Ev) (s:Ev->List D->Res MFl):Ev->List D->Res MFl:=fun ρ st=>(src ρ st).bind fun p=>forM tg s p.1 ρ p.2
theorem zlc {body:List Stmt}{tg:Ev->D->Res Ev}{src:Ev->List D->Res (List D×List D)}(hp:PassesOwn (model X.prog X.w) X.A X.env X.xe)(hc:X.calm=true)(hi:MI X He H0e a tgt iter src)(hg:∀ vs,DG X E (upd He a (.lst vs)) H0e tgt tg)(ht:zvm tg)(hb:SMs X He H0e a body s)
  (hs:∀ x,foldedSetIterable iter X.env x=pure x:=by intro _;rfl):SM X He H0e a (.For tgt iter body [] pos) (zoU src tg s):=by
 refine⟨zbt (zto hp hc hi.o (zGZ hg) hb.o hs) fun D' σ H ⟨Ha,ρ,st,vs,h,q⟩=>⟨Ha,ρ,st,vs,h,?_⟩⟩;unfold zoU at q;cases e1:src ρ st with
 | stuck=>rw[e1] at q;exact q
 | exn x=>rw[e1] at q;exact q
 | ok pr =>
  obtain⟨ds,s1⟩:=pr;rw[e1] at q;intro J H1 H01 us z h1 it;have q1:zgF X.K He H0e a H01 (forM tg s ds ρ s1) D':=zgF.grow (r:=forM tg s ds ρ s1) q z;refine⟨fun i m σ' H'=>m+i=ds.length/\zpA X.K He H0e a H01 tg s ds D' i σ' H',⟨ds.length,rfl,H01,ρ,s1,us,zaJ.refl _,h1,q1⟩,?_⟩;rintro i m σ' H' ⟨hm,Ha',ρ',st',vs',z',h',hq⟩
  by_cases hlt:i < ds.length
  .refine .inr ⟨it.go i H' Ha' z' h'.s.g.sub hlt,fun σ2 H2=>zpA X.K He H0e a H01 tg s ds D' (i+1) σ2 H2,fun σ2 H2 hl=>⟨m-1,by omega,by omega,hl⟩,fun x H2 hy=>?_⟩
   obtain⟨H₀2,g2,rp⟩:=it.yld i H' Ha' x H2 ds[i] z' h'.s.g.sub (saa hlt) hy;exact zpA.step2 (z'.trans g2.z) (h'.back g2.z (h'.s.grow g2)) (zgF.grow (r:=forM tg s (ds.drop i) ρ' st') hq g2.z) (saa hlt) rp fun ρ=>ht ρ _
  .have e:i=ds.length:=by omega
   refine .inl ⟨it.stop i H' Ha' z' h'.s.g.sub (by omega),?_⟩;subst e;exact zpA.done ⟨Ha',ρ',st',vs',z',h',hq⟩
theorem zFb:zhH X E (fun xs H1 Q=>xs.length<=sizeLine/\∀ p,H1 p=none->Q (.ref p) (upd H1 p (.lst xs))) zfz:=fun ds vs H Ha Q hs hr q=>by
 unfold zfz at q
 by_cases hl:ds.length<=line
 .rw[if_pos hl] at q
  refine⟨by rw[← hr.length];exact zcw hl,fun p hp=>q _ _ _ (zaD hs hp) (zaq.mpr ⟨p,vs,rfl,SqL.of zao,hr.mono (zaD hs hp).z⟩)⟩
 .rw[if_neg hl] at q;exact q.elim
theorem zEY (h:DMA X He H0e a es fa):DM X He H0e a (.List es pos) (mA fa zfz):=⟨zaR (zv7 h.o) (zvi (E:=fun _ _ _=>True) zFb)⟩
end
def slM (s:Option Sl):Sl:=match s with
 | some (.sh d)=>.sh d
 | some (.pt b)=>.pt b
 | _=>.no
def zgI (n:Nat)(fr:List Nat)(ρ:Ev):Ev:=saj n .no++fr.map fun(i:Nat)=>slM ρ[i]?
noncomputable def zjI (b:Ev) (tg:Ev->D->Res Ev) (fm:Ev->List D->Res (D×List D)):List D->List D->Res (List D×List D)
 | [],st=>.ok ([],st)
 | d::r,st=>(tg b d).bind fun ρ1=>(fm ρ1 st).bind fun p=>(zjI b tg fm r p.2).bind fun q=>.ok (p.1::q.1,q.2)
noncomputable def zrA (b:Ev) (tg:Ev->D->Res Ev) (fm:Ev->List D->Res (D×List D)) (p:List D×List D):Res (D×List D):=if p.1.length<=line then(zjI b tg fm p.1 p.2).bind fun q=>.ok (.lst q.1,q.2) else .stuck
noncomputable def zrB (n:Nat) (fr:List Nat) (src:Ev->List D->Res (List D×List D)) (tg:Ev->D->Res Ev) (fm:Ev->List D->Res (D×List D)):Ev->List D->Res (D×List D):=fun ρ st=>(src ρ st).bind (zrA (zgI n fr ρ) tg fm)
theorem zyh {n:Nat}{fr:List Nat}{ρ:Ev}:(zgI n fr ρ).length=n+fr.length:=by unfold zgI;simp
theorem zpv {n:Nat}{fr:List Nat}{ρ:Ev}{k:Nat}(h:k < n):(zgI n fr ρ)[k]?=some .no:=by
 unfold zgI;rw[san (by simpa using h),saw,if_pos h]
theorem zpw {n:Nat}{fr:List Nat}{ρ:Ev}{k:Nat}{s:Sl}(h:¬ k < n)(e:(zgI n fr ρ)[k]?=some s):∃ j,fr[k-n]?=some j/\s=slM ρ[j]?:=by
 unfold zgI at e;rw[sar (by simpa using h),saV,sai] at e;cases hf:fr[k-n]? with
 | none=>rw[hf] at e;cases e
 | some j=>rw[hf] at e;cases e;exact⟨j,rfl,rfl⟩
theorem zDu {s:Option Sl}{d:D}(h:Sl.sh d=slM s):s=some (.sh d):=by
 unfold slM at h;split at h<;>cases h
 rfl
theorem zDv {s:Option Sl}{b:Addr}(h:Sl.pt b=slM s):s=some (.pt b):=by
 unfold slM at h;split at h<;>cases h
 rfl
theorem zA1 {n:Nat}{fr:List Nat}{σ:L2.St}{k j:Nat}{v:V}(h:¬ k < n)(hf:fr[k-n]?=some j)(hs:σ[j]?=some (some v)):(zkL n fr σ)[k]?=some (some v):=by
 unfold zkL;rw[sar (by simpa using h),saV,sai,hf];simp [hs]
theorem zrZ {K:sab}{He H0e Ha H:Hp}{σ:L2.St}{ρ:Ev}{a:Addr}{st:List D}{vs:List V}(ha:He a=none)(h0:H0e a=none)(hl:H a=some (.lst vs))(r:Reps K Ha st vs)(g:zbK (upd He a (.lst vs)) H0e H Ha)(rd:Reads K Ha σ ρ)
  (no:∀ (j:Nat) (s:Sl),ρ[j]?=some s->s=.no∨(∃ d,s=.sh d)∨∃ b,s=.pt b/\σ[j]?=some (some (.ref b)))(ln:ρ.length=σ.length):MSx K He H0e Ha σ H ρ a st vs:=by
 refine⟨ha,h0,hl,r,⟨g,rd,fun i d e=>?_,fun i j d d' _ e=>?_,ln,OX.none (fun i j ds e=>?_) fun i b e=>?_⟩⟩
 .rcases no i _ e with h | ⟨_,h⟩ | ⟨_,h,_⟩<;>cases h
 .rcases no i _ e with h | ⟨_,h⟩ | ⟨_,h,_⟩<;>cases h
 .rcases no i _ e with h | ⟨_,h⟩ | ⟨_,h,_⟩<;>cases h
 .rcases no i _ e with h | ⟨_,h⟩ | ⟨_,h,h'⟩
  .cases h
  .cases h
  .cases h;exact h'
noncomputable def zCo (K:sab) (a:Addr) (tg:Ev->D->Res Ev):TG:=fun v σ H Q=>∃ He H0e,tGM K He H0e a tg v σ H Q
noncomputable def zBz (K:sab) (a:Addr) (fm:Ev->List D->Res (D×List D)):TE:=fun σ H Q=>∃ He H0e,tM K He H0e a fm σ H Q
theorem zve {b:Ev}{tg:Ev->D->Res Ev}{fm:Ev->List D->Res (D×List D)}{d:D}{r st es stF:List D}(h:zjI b tg fm (d::r) st=.ok (es,stF)):∃ ρ1 y s1 rest,tg b d=.ok ρ1/\fm ρ1 st=.ok (y,s1)/\zjI b tg fm r s1=.ok (rest,stF)/\es=y::rest:=by
 unfold zjI at h;cases e1:tg b d with
 | stuck=>rw[e1] at h;cases h
 | exn x=>rw[e1] at h;cases h
 | ok ρ1 =>
  rw[e1] at h;simp only[Res.bind] at h;cases e2:fm ρ1 st with
  | stuck=>rw[e2] at h;cases h
  | exn x=>rw[e2] at h;cases h
  | ok p =>
   obtain⟨y,s1⟩:=p;rw[e2] at h;simp only at h;cases e3:zjI b tg fm r s1 with
   | stuck=>rw[e3] at h;cases h
   | exn x=>rw[e3] at h;cases h
   | ok q =>
    obtain⟨rest,sF⟩:=q;rw[e3] at h;cases h;exact⟨ρ1,y,s1,rest,rfl,e2,e3,rfl⟩
theorem zsW {K:sab}{n:Nat}{fr:List Nat}{tg:Ev->D->Res Ev}{fm:Ev->List D->Res (D×List D)}{a:Addr}{σ:L2.St}{ρ:Ev}{He H0e H1 H01:Hp}{st0 ds es stF:List D}{us0:List V}{J:It}{Q:VK}(h1:MSx K He H0e H01 σ H1 ρ a st0 us0)(it:ItD K ds J H01)(hl:ds.length<=line)
  (e2:zjI (zgI n fr ρ) tg fm ds st0=.ok (es,stF))(hok:zA4 n tg)
  (q:∀ p xs H' Ha' us',zbK (era a H1) H01 H' Ha'->Ha' a=none->H' a=some (.lst us')->Reps K Ha' stF us'->H1 p=none->Ha' p=none->H' p=some (.lst xs)->Reps K Ha' es xs->Q (.ref p) H') :
  zpZ n fr (zCo K a tg) zDj (zBz K a fm) J σ H1 Q:=by
 intro Da hDa;have h0D:H01 Da=none:=h1.s.g.sub.free hDa;have aD:a≠Da:=fun z=>by have:=h1.hl;rw[z,hDa] at this;cases this
 have nob:∀ {σ':L2.St}(_:∀ (k:Nat),¬ k < n->∀ b,(zgI n fr ρ)[k]?=some (.pt b)->σ'[k]?=some (some (.ref b))) (j:Nat) (s:Sl),(zgI n fr ρ)[j]?=some s->s=.no∨(∃ d,s=.sh d)∨∃ b,s=.pt b/\σ'[j]?=some (some (.ref b)):=fun {σ'} hp j s e=>by
  by_cases hj:j < n
  .rw[zpv hj] at e;cases e;exact .inl rfl
  .obtain⟨i,_,hs⟩:=zpw hj e
   cases s with
   | no=>exact .inl rfl
   | sh d=>exact .inr (.inl ⟨d,rfl⟩)
   | pt b=>exact .inr (.inr ⟨b,rfl,hp j hj b e⟩)
   | _=>unfold slM at hs;split at hs<;>cases hs
 refine⟨fun i m ys σ' H'=>m=ds.length-i/\i<=ds.length/\∃ Ha' st' us' es1 rest,MSx K (upd (era a H1) Da (.lst ys)) H01 Ha' σ' H' (zgI n fr ρ) a st' us'/\Reps K Ha' es1 ys/\es1.length=i/\zjI (zgI n fr ρ) tg fm (ds.drop i) st'=.ok (rest,stF)/\es=es1++rest,
  ⟨ds.length,by simp,sbE _,H01,st0,us0,[],es,?_,Reps.nil,rfl,by rw[sbq];exact e2,rfl⟩,?_⟩
 .refine zrZ (by rw[zan aD];exact zdK) h1.n0 (by rw[zan aD];exact h1.hl) h1.r ⟨fun b o e=>?_,zaJ.refl _,fun b o e=>?_,fun b k1 k2=>absurd k2 k1⟩ (fun k d e=>?_) (nob fun k hk b e=>?_) (by unfold zkL;rw[zyh];simp)
  .by_cases c:b=a
   .subst c;rw[zao] at e;cases e;rw[zan aD];exact h1.hl
   .rw[zan c] at e
    by_cases c2:b=Da
    .subst c2;rw[zao] at e ⊢;exact e
    .rw[zan c2] at e ⊢;rw[zgm c] at e;exact e
  .rw[zan (by intro z;subst z;rw[h0D] at e;cases e)];exact h1.s.g.sub _ _ e
  .by_cases hk:k < n
   .rw[zpv hk] at e;cases e
   .obtain⟨j,hf,hs⟩:=zpw hk e
    obtain⟨v,k1,k2⟩:=h1.s.rd j d (zDu hs);exact⟨v,zA1 hk hf k1,k2⟩
  .obtain⟨j,hf,hs⟩:=zpw hk e
   exact zA1 hk hf (h1.s.ex.2 j b (zDv hs))
 .rintro i m ys σ' H' ⟨rfl,hile,Ha',st',us',es1,rest,h',hys,hle,hco,hes⟩
  have hDl:H' Da=some (.lst ys):=h'.s.g.s _ _ (by rw[zan (saT aD),zao]);refine⟨hDl,?_⟩
  by_cases hlt:i < ds.length
  .refine .inr ⟨it.go i H' Ha' h'.s.g.z h'.s.g.sub hlt,?_,?_⟩
   .rw[← hys.length,hle]
    have h2:line < sizeLine:=by decide
    omega
   .intro x H2 hy
    obtain⟨H₀2,g2,rp⟩:=it.yld i H' Ha' x H2 ds[i] h'.s.g.z h'.s.g.sub (saa hlt) hy;have hm2:=h'.back g2.z (h'.s.grow g2);rw[saL hlt] at hco;obtain⟨ρ1,y,s1,rest',t1,t2,t3,t4⟩:=zve hco;refine⟨_,_,H₀2,zgI n fr ρ,st',us',ds[i],hm2,rp,?_⟩;rw[t1];intro σ3 H3 H03 z3 h3;unfold zDj;dsimp only;rw[if_pos rfl];refine⟨_,_,H03,ρ1,st',us',h3,?_⟩;rw[t2];intro yv H5 H05 us5 z5 h5 ry;have hD5:H5 Da=some (.lst ys):=h5.s.g.s _ _ (by rw[zan (saT aD),zao]);have n5:H05 Da=none:=by
     cases qq:H05 Da with
     | none=>rfl
     | some o=>have:=h5.s.g.nw Da (by rw[qq];simp) h0D;rw[zan (saT aD),zao] at this;cases this
    have hrl:=hok _ _ _ t1;refine⟨hD5,ds.length-(i+1),by omega,rfl,hlt,H05,s1,us5,es1++[y],rest',?_,(hys.mono ((g2.z.trans z3).trans z5)).app (Reps.cons ry Reps.nil),by simp [hle],t3,by rw[hes,t4];simp⟩;refine zrZ (by rw[zan aD];exact zdK) h1.n0 (by rw[zan aD];exact h5.hl) h5.r ⟨fun b o e=>?_,h5.s.g.z,fun b o e=>?_,fun b k1 k2=>?_⟩ (fun k d e=>?_) (nob fun k hk b e=>?_) (by rw[← h5.s.ln,hrl.1])
    .by_cases c:b=a
     .subst c;rw[zao] at e;cases e;rw[zan aD];exact h5.hl
     .rw[zan c] at e
      by_cases c2:b=Da
      .subst c2;rw[zao] at e ⊢;exact e
      .rw[zan c2] at e ⊢
       exact h5.s.g.s _ _ (by rw[zan c,zan c2];exact e)
    .rw[zan (by intro z;subst z;rw[n5] at e;cases e)];exact h5.s.g.sub _ _ e
    .have:=h5.s.g.nw b k1 k2
     by_cases c:b=a
     .subst c;rw[zao] at this;cases this
     .rw[zan c] at this ⊢
      by_cases c2:b=Da
      .subst c2;rw[zao] at this;cases this
      .rw[zan c2] at this ⊢;exact this
    .by_cases hk:k < n
     .rw[zpv hk] at e;cases e
     .rw[← hrl.2 k (by omega)] at e
      exact h5.s.rd k d e
    .rw[← hrl.2 k (by omega)] at e
     exact h5.s.ex.2 k b e
  .have hi2:i=ds.length:=by omega
   refine .inl ⟨it.stop i H' Ha' h'.s.g.z h'.s.g.sub (by omega),?_⟩;rw[hi2,sbU] at hco;cases hco;rw[saZ] at hes;subst hes;refine q Da ys H' Ha' us' ⟨fun b o e=>?_,h'.s.g.z,h'.s.g.sub,fun b k1 k2=>?_⟩ h'.n0 h'.hl h'.r hDa ?_ hDl hys
   .have c:b≠a:=by intro c;subst c;rw[zdK] at e;cases e
    have c2:b≠Da:=by intro c2;subst c2;rw[zgm c,hDa] at e;cases e
    exact h'.s.g.s _ _ (by rw[zan c,zan c2];exact e)
   .have:=h'.s.g.nw b k1 k2
    by_cases c:b=a
    .subst c;exact zdK
    .rw[zan c] at this
     by_cases c2:b=Da
     .subst c2;rw[zao] at this;cases this
     .rw[zan c2] at this;exact this
   .cases qq:Ha' Da with
    | none=>rfl
    | some o=>have:=h'.s.g.nw Da (by rw[qq];simp) h0D;rw[zan (saT aD),zao] at this;cases this
noncomputable def tMF (K:sab) (He H0e:Hp) (a:Addr) (f:Ev->List D->Res (D×List D)):TE:=fun σ H Q=>∃ Ha ρ st vs,MSx K He H0e Ha σ H ρ a st vs/\match f ρ st with
 | .ok (.lst ds,st')=>∀ p xs H1 H01 st1 us1 H' Ha' us,zaJ Ha H01->MSx K He H0e H01 σ H1 ρ a st1 us1->zbK (era a H1) H01 H' Ha'->Ha' a=none->H' a=some (.lst us)->Reps K Ha' st' us->H1 p=none->Ha' p=none->H' p=some (.lst xs)->Reps K Ha' ds xs->Q (.ref p) H'
 | .ok _=>False
 | .exn _=>False
 | .stuck=>False
structure MCo (X:Cx) (He H0e:Hp) (a:Addr) (e:Expr) (f:Ev->List D->Res (D×List D)):Prop where
 ev:PE X e (tMF X.K He H0e a f)
 st:∀ {i:Nat}{x:Str}{pos' spos:Pos},X.N.Nodup->X.N[i]?=some x->X.env.scope.names.lookup x=some .local -> swapsWith e (some (.Name x pos')) spos.line X.env=pure true->PS X (.Assign [.Name x pos'] e spos) (zFr (tMF X.K He H0e a f) (zzC i))
theorem mco {X:Cx}{E:XK}{He H0e:Hp}{a:Addr}{tgt iter elt:Expr}{scope:Scope}{pos:Pos}(N:List Str)(n:Nat)(fr:List Nat){src:Ev->List D->Res (List D×List D)}{tg:Ev->D->Res Ev}{fm:Ev->List D->Res (D×List D)}(hc:X.calm=true)(hi:MI X He H0e a tgt iter src)(hok:zA4 n tg)
  (blk:∀ s H C fp pn,(∀ He H0e,DG (zdN X N scope s H C fp pn) E He H0e tgt tg)/\∀ He H0e,DM (zdN X N scope s H C fp pn) He H0e a elt fm)
  (hfr:zCU X N n fr scope)(hcell:∀ x∈scope.names,x.2≠.cell)(hfree:∀ x∈scope.names,x.2=.free->X.env.scope.names.lookup x.1=some .cell)(hkind:scope.kind=.function)(hnames:∀ x∈scope.names,x.2=.local -> scope.names.lookup x.1=some .local)
  (hs:∀ x,foldedSetIterable iter X.env x=pure x:=by intro _;rfl):MCo X He H0e a (.ListComp elt [⟨tgt,iter,[],0⟩] scope pos) (zrB n fr src tg fm):=by
 have blk':∀ s H C fp pn,PG (zdN X N scope s H C fp pn) tgt (zCo X.K a tg)/\PIf (zdN X N scope s H C fp pn) [] zDj/\PE (zdN X N scope s H C fp pn) elt (zBz X.K a fm):=fun s H C fp pn =>
  ⟨fun pins s' σ' H' v u Q' I r ⟨He,H0e,q'⟩=>(zGZ (X:=zdN X N scope s H C fp pn) fun vs=>(blk s H C fp pn).1 _ _) pins s' σ' H' v u Q' I r q',zv4,fun pins s' σ' H' Q' I ⟨He,H0e,q'⟩=>((blk s H C fp pn).2 He H0e).o pins s' σ' H' Q' I q'⟩
 have first:∀ {pins:List (Addr×Obj)}{s:Shared}{σ:L2.St}{H:Hp}{Q:VK}{RR:Value->Addr->Result->Shared->Prop},L2.Inv X pins σ H s->tMF X.K He H0e a (zrB n fr src tg fm) σ H Q ->
   (∀ (Da C:Addr) (s6:Shared) (H5:Hp) (m:Str->Option Value),L2.Inv X pins σ H5 s6->s6.heap.Ns C m->zuo X pins H5 C->Q (.ref Da) H5->RR (.ref Da) C (.ok .next) s6) ->
   wpAny (model X.prog X.w) X.A (eval iter X.env) (fun x sf=>wpAny (model X.prog X.w) X.A (pyIter x) (fun it si=>wpAny (model X.prog X.w) X.A (newList []) (fun acc sk =>
    wpAny (model X.prog X.w) X.A (newFunctionEnv scope X.env.globals (zm4 X.env.cells scope.names []) [] X.env.qual none .none (some X.env)) (fun cenv so =>
     codeAny (model X.prog X.w) X.A (.compStart (.ListComp elt [⟨tgt,iter,[],0⟩] scope pos) 0 it acc { cenv with scope:=relabel scope X.env }) (RR acc cenv.locals) so) X.xe sk) X.xe si) X.xe sf) X.xe s:=by
  intro pins s σ H Q RR I ⟨Ha,ρ,st,vs,h,q⟩ fin;refine thn (hi.o pins s σ H (fun J H1=>zpZ n fr (zCo X.K a tg) zDj (zBz X.K a fm) J σ H1 Q) I ⟨Ha,ρ,st,vs,h,?_⟩) fun v s1 h1=>thn h1 fun itv s2 h2=>zrz (N:=N) hc hfr hcell hfree hkind blk' h2 fin;unfold zrB at q;cases e1:src ρ st with
  | stuck=>rw[e1] at q;exact q
  | exn x=>rw[e1] at q;exact q
  | ok pr =>
   obtain⟨ds,st1⟩:=pr;rw[e1] at q;intro J H1 H01 us z h1 it;replace q:match (if ds.length<=line then(zjI (zgI n fr ρ) tg fm ds st1).bind fun q=>Res.ok (D.lst q.1,q.2) else .stuck) with
    | .ok (.lst ds,st')=>∀ p xs H1 H01 st1 us1 H' Ha' us,zaJ Ha H01->MSx X.K He H0e H01 σ H1 ρ a st1 us1->zbK (era a H1) H01 H' Ha'->Ha' a=none->H' a=some (.lst us)->Reps X.K Ha' st' us->H1 p=none->Ha' p=none->H' p=some (.lst xs)->Reps X.K Ha' ds xs->Q (.ref p) H'
    | .ok _=>False
    | .exn _=>False
    | .stuck=>False:=q
   by_cases hl:ds.length<=line
   .rw[if_pos hl] at q
    cases e2:zjI (zgI n fr ρ) tg fm ds st1 with
    | stuck=>rw[e2] at q;exact q.elim
    | exn x=>rw[e2] at q;exact q.elim
    | ok pr2 =>
     obtain⟨es,stF⟩:=pr2;rw[e2] at q;exact zsW h1 it hl e2 hok fun p xs H' Ha' us' g n' hl' r' hp h0 hv rp=>q p xs H1 H01 st1 us H' Ha' us' z h1 g n' hl' r' hp h0 hv rp
   .rw[if_neg hl] at q;exact q.elim
 have hcl:∀ {pins:List (Addr×Obj)}{s:Shared}{σ:L2.St}{H:Hp},L2.Inv X pins σ H s->closureFor scope X.env=pure (zm4 X.env.cells scope.names []):=fun {pins s σ H} I=>ziV fun y hy hf=>I.ok.has y.1 (.inl (hfree y hy hf));refine⟨fun pins s σ H Q I h=>?_,fun {i x pos' spos} hN hi' hx hsw pins s σ H D' I h=>?_⟩
 .rw[eval_ListComp]
  refine wpAny_comprehension_free (use:=none) rfl hs (hcl I) hkind hnames (first (RR:=fun acc C=>compPost (model X.prog X.w) X.A X.xe none (EP X pins σ Q) acc C) I h fun Da C s6 H5 m I6 ns fC q=>?_);refine⟨m,ns,fun h' sb=>⟨.ref Da,H5,?_,rfl,q⟩⟩;exact I6.turned (t':=s6.toks) (it:=C) (fun b o hb e=>(sb.2 b hb).trans e) fC.1 fC.2.1 fC.2.2.2.1 fC.2.2.2.2.1 fC.2.2.2.2.2
 .rw[exec_Assign_Name_used _ _ _ _ hsw]
  refine sad (wpAny_standAt (sad ?_));show wpAny _ X.A (do let _ ← comprehension (.ListComp elt [⟨tgt,iter,[],0⟩] scope pos) scope X.env _ (newList []) false (eval iter X.env) (some (assign (.Name x pos') X.env))) _ _ s;refine sad (sa8 (wpAny_comprehension_free (use:=some (assign (.Name x pos') X.env)) (Q:=fun _ s'=>SP X pins D' .next s') rfl hs (hcl I) hkind hnames
   (first (RR:=fun acc C=>compPost (model X.prog X.w) X.A X.xe (some (assign (.Name x pos') X.env)) (fun _ s'=>SP X pins D' .next s') acc C) I h fun Da C s6 H5 m I6 ns fC q=>?_)) (fun _ s' hq=>saB (saB hq)) fun _ _ e=>e)
  show wpAny _ X.A (assign (.Name x pos') X.env (.ref Da)) _ _ _;refine wpAny_assign_Name (zk9 (v:=.ref Da) I6 hN hi' (.inl hx) rfl (fun s' I' ⟨a,sb,ha⟩=>?_) (.inr hx));have hCa:C≠a:=by
   rcases ha with rfl | ha
   .exact fC.2.1
   .exact fun z=>fC.2.2.2.2.1 x a ha z.symm
  refine⟨m,ns.sameBut sb hCa,fun h' sb'=>⟨_,H5,?_,q⟩⟩;exact I'.turned (t':=s'.toks) (it:=C) (fun b o hb e=>(sb'.2 b hb).trans e) fC.1 fC.2.1 fC.2.2.2.1 fC.2.2.2.2.1 fC.2.2.2.2.2
theorem zvd {n:Nat}{fr:List Nat}{src:Ev->List D->Res (List D×List D)}{tg:Ev->D->Res Ev}{fm:Ev->List D->Res (D×List D)}:∀ ρ st d s',zrB n fr src tg fm ρ st=.ok (d,s')->∃ ds,d=.lst ds:=fun ρ st d s' h=>by
 unfold zrB at h;cases e1:src ρ st with
 | stuck=>rw[e1] at h;cases h
 | exn x=>rw[e1] at h;cases h
 | ok pr =>
  rw[e1] at h;simp only[Res.bind,zrA] at h
  by_cases hl:pr.1.length<=line
  .rw[if_pos hl] at h
   cases e2:zjI (zgI n fr ρ) tg fm pr.1 pr.2 with
   | stuck=>rw[e2] at h;cases h
   | exn x=>rw[e2] at h;cases h
   | ok q=>rw[e2] at h;cases h;exact⟨_,rfl⟩
  .rw[if_neg hl] at h;cases h
theorem MSx.addL {K:sab}{He H0e H1 H01 H' Ha':Hp}{σ:L2.St}{ρ:Ev}{a p:Addr}{st1 st' ds:List D}{us1 us xs:List V}(h1:MSx K He H0e H01 σ H1 ρ a st1 us1)(g:zbK (era a H1) H01 H' Ha')(n:Ha' a=none)(hl:H' a=some (.lst us))(r:Reps K Ha' st' us)(hp:H1 p=none)(h0:Ha' p=none)(hv:H' p=some (.lst xs))(rp:Reps K Ha' ds xs) :
  zaJ H01 (upd Ha' p (.lst xs))/\MSx K He H0e (upd Ha' p (.lst xs)) σ H' ρ a st' us/\Rep K (upd Ha' p (.lst xs)) (.lst ds) (.ref p):=by
 have pa:a≠p:=fun z=>by have:=h1.hl;rw[z,hp] at this;cases this
 have z:zaJ Ha' (upd Ha' p (.lst xs)):=fun b o e=>by rw[zan (by intro z;subst z;rw[h0] at e;cases e)];exact e
 have g':zbK (era a H1) H01 H' (upd Ha' p (.lst xs)):=⟨g.s,g.z.trans z,fun b o e=>by
  by_cases c:b=p
  .subst c;rw[zao] at e;cases e;exact hv
  .rw[zan c] at e;exact g.sub _ _ e,fun b k1 k2=>by
  by_cases c:b=p
  .subst c;rw[zgm (saT pa)];exact hp
  .rw[zan c] at k1;exact g.nw b k1 k2⟩
 exact⟨g'.z,h1.change g' (by rw[zan pa];exact n) hl (r.mono z),zaq.mpr ⟨p,xs,rfl,SqL.of zao,rp.mono z⟩⟩
section
variable {X:Cx}{E:XK}{He H0e:Hp}{a:Addr}{e:Expr}{pos:Pos}{fm:Ev->List D->Res (D×List D)}
theorem zBC {i:Nat}{x:Str}{pos':Pos}(hN:X.N.Nodup)(hi:X.N[i]?=some x)(hx:X.env.scope.names.lookup x=some .local)(h:MCo X He H0e a e fm)(ho:∀ ρ st d s',fm ρ st=.ok (d,s')->∃ ds,d=.lst ds)(hs:swapsWith e (some (.Name x pos')) pos.line X.env=pure true:=by rfl):SM X He H0e a (.Assign [.Name x pos'] e pos) (ze6 i fm):=by
 refine⟨zbt (h.st hN hi hx hs) fun D' σ H ⟨Ha,ρ,st,vs,h,q⟩=>⟨Ha,ρ,st,vs,h,?_⟩⟩;unfold ze6 at q;cases e1:fm ρ st with
 | stuck=>rw[e1] at q;exact q
 | exn x=>rw[e1] at q;exact q
 | ok pr =>
  obtain⟨d,s1⟩:=pr;obtain⟨ds,rfl⟩:=ho _ _ _ _ e1;rw[e1] at q;intro p xs H1 H01 st1 us1 H' Ha' us z h1 g n hl r hp h0 hv rp;obtain⟨k1,k2,k3⟩:=h1.addL g n hl r hp h0 hv rp;exact q _ H' _ us (z.trans k1) (k2.back (zaJ.refl _) (k2.s.put k3))
end
mutual
def zkC:D->Option PyData
 | .non=>some .none
 | .bl b=>some (.bool b)
 | .int i=>some (.int i)
 | .str x=>some (.str x)
 | .tup ds=>(toPys ds).map PyData.tuple
 | .lst ds=>(toPys ds).map PyData.list
 | .dic ks ds=>if ks.isEmpty&&ds.isEmpty then some (.dict []) else none
 | .exc _=>none
 | .ob _ _=>none
def toPys:List D->Option (List PyData)
 | []=>some []
 | d::ds=>match zkC d,toPys ds with
  | some x,some xs=>some (x::xs)
  | _,_=>none
end
section
variable {X:Cx}{E:XK}{pins:List (Addr×Obj)}{σ:L2.St}{H:Hp}{s:Shared}
theorem zB9 (I:L2.Inv X pins σ H s){a:Addr}{vs:List V}(h:SqL X.K H a vs):a≠sysModules:=by
 intro z;subst z;obtain⟨mm,o,es,ep,e,hd,_⟩:=I.ok.mod.sm;have:=(I.bs _ _ e).2;rcases h with h | ⟨o',_,_,h1,h2,_,h3,_⟩
 .rcases h with h | ⟨_,h⟩<;>(rw[this] at h;cases h)
 .have e':=I.ok.mod.kin _ _ h1
  rw[e] at e';cases e';rw[hd] at h3;cases h3
mutual
theorem zti (I:L2.Inv X pins σ H s):∀ (d:D) (v:V) (u:Value) (p:PyData),Rep X.K H d v->zcb v u->zkC d=some p->∃ as,PySem.Reads s.heap u p as/\sysModules∉as
 | .non,v,u,p,r,rv,e=>by
  rw[zkC] at e;cases e;rw[zaI.mp r] at rv;cases rv;exact⟨_,.none,by simp⟩
 | .bl b,v,u,p,r,rv,e=>by
  rw[zkC] at e;cases e;rw[zar.mp r] at rv;cases rv;exact⟨_,.bool b,by simp⟩
 | .int i,v,u,p,r,rv,e=>by
  rw[zkC] at e;cases e;rw[zak.mp r] at rv;obtain⟨t,rfl⟩:=rv;exact⟨_,.int i t,by simp⟩
 | .str x,v,u,p,r,rv,e=>by
  rw[zkC] at e;cases e;rw[Rep.str_iff.mp r] at rv;obtain⟨t,rfl⟩:=rv;exact⟨_,.str x t,by simp⟩
 | .tup ds,v,u,p,r,rv,e=>by
  rw[zkC] at e;cases e1:toPys ds with
  | none=>rw[e1] at e;cases e
  | some ps =>
   rw[e1] at e;cases e;obtain⟨a,vs,its,rfl,rfl,h1,h2,h3,⟨o,k1,k2,n,k3⟩,_⟩:=zaU I r rv;obtain⟨as,h4,h5⟩:=reads_ofs I ds vs its ps h2 h3 e1;exact⟨_,.tuple k1 k2 k3 (by simpa using h4),h5⟩
 | .lst ds,v,u,p,r,rv,e=>by
  rw[zkC] at e;cases e1:toPys ds with
  | none=>rw[e1] at e;cases e
  | some ps =>
   rw[e1] at e;cases e;obtain⟨a,vs,its,rfl,rfl,h1,h2,h3,⟨o,k1,k2,n,k3⟩,_⟩:=zaQ I r rv;obtain⟨as,h4,h5⟩:=reads_ofs I ds vs its ps h2 h3 e1;exact⟨_,.list k1 k2 k3 (by simpa using h4),by rw[sam,not_or];exact⟨saT (zB9 I h1),h5⟩⟩
 | .dic ks ds,v,u,p,r,rv,e=>by
  rw[zkC] at e
  by_cases c:(ks.isEmpty&&ds.isEmpty)=true
  .rw[if_pos c] at e;cases e
   have hE:isE (.dic ks ds)=true:=by
    rw[saA,List.isEmpty_iff,List.isEmpty_iff] at c;rw[c.1,c.2];rfl
   obtain⟨a,rfl,n1,o,es,ep,k1,k2,k3,_,k5,_⟩:=zvU I hE r rv;have he:es.toList=[]:=by
    generalize es.toList=l at k5 ⊢;cases k5;rfl
   refine⟨_,.dict (kvs:=[]) k1 k2.1 k3 (by rw[he];exact .nil) (by rw[he];exact .nil),?_⟩;simp only[saZ,sam,saU,or_false];exact fun z=>by rw[z] at n1;simp at n1
  .rw[if_neg c] at e;cases e
 | .exc _,v,u,p,r,rv,e=>by rw[zkC] at e;cases e
 | .ob _ _,v,u,p,r,rv,e=>by rw[zkC] at e;cases e
theorem reads_ofs (I:L2.Inv X pins σ H s):∀ (ds:List D) (vs:List V) (us:List Value) (ps:List PyData),Reps X.K H ds vs->zbT vs us->toPys ds=some ps->∃ as,PySem.ReadsAll s.heap us ps as/\sysModules∉as
 | [],vs,us,ps,r,rv,e=>by
  rw[toPys] at e;cases e;rw[Reps.nil_iff.mp r] at rv;cases rv;exact⟨_,.nil,by simp⟩
 | d::ds,vs,us,ps,r,rv,e=>by
  obtain⟨v,vr,rfl,h1,h2⟩:=zat.mp r;cases rv with
  | cons ra rb =>
   rw[toPys] at e;cases e1:zkC d with
   | none=>rw[e1] at e;cases e
   | some p =>
    cases e2:toPys ds with
    | none=>rw[e1,e2] at e;cases e
    | some qs =>
     rw[e1,e2] at e;cases e;obtain⟨as,k1,m1⟩:=zti I d v _ p h1 ra e1;obtain⟨bs,k2,m2⟩:=reads_ofs I ds vr _ qs h2 rb e2;exact⟨_,.cons k1 k2,by rw[sbc,not_or];exact⟨m1,m2⟩⟩
end
def zDz (d:D):Bool:=match d with
 | .tup _=>true
 | .lst _=>true
 | _=>false
def zp4 (p:PyData):Bool:=p.showable&&decide (p.depth<=100)&&decide (p.shown.length<=sizeLine)
noncomputable def zsU (d:D):Res D:=match zkC d with
 | some p=>if zDz d=true/\zp4 p=true then .ok (.str p.shown) else .stuck
 | none=>.stuck
theorem zrG {k:Nat}(hr:zfP k X.A):zhG X (.builtin "repr") (fun xs H Q=>∃ v d p,xs=[v]/\Rep X.K H d v/\zkC d=some p/\zDz d=true/\zp4 p=true/\Q (.str p.shown) H):=by
 intro pins s σ H xs us Q I r h;obtain⟨v,d,p,rfl,rd,e,hq,hw,q⟩:=h;obtain⟨u,rfl,rx⟩:=zot r;obtain⟨as,hR,hm⟩:=zti I d v u p rd rx e;have hu:∃ a,u=.ref a:=by
  cases d with
  | tup ds=>obtain⟨a,_,_,_,h,_⟩:=zaU I rd rx;exact⟨a,h⟩
  | lst ds=>obtain⟨a,_,_,_,h,_⟩:=zaQ I rd rx;exact⟨a,h⟩
  | _=>cases hq
 obtain⟨a,rfl⟩:=hu;unfold zp4 at hw;simp only[saA,decide_eq_true_eq] at hw;obtain⟨⟨w1,w3⟩,w4⟩:=hw;refine repr_of_reads' hR w1 (fun _=>hm) hr.gd (by have:=hr.un;omega) (fun b o e=>e) (fun h' u' tk hk=>⟨.str p.shown,H,I.kept hk,⟨u',rfl⟩,q⟩) w4
theorem zx7:zhH X E (fun xs H Q=>∃ v d p,xs=[v]/\Rep X.K H d v/\zkC d=some p/\zDz d=true/\zp4 p=true/\Q (.str p.shown) H) (m1 zsU):=zrI fun x v H Ha Q hs r q=>by
 unfold zsU at q;cases e:zkC x with
 | none=>rw[e] at q;exact q.elim
 | some p =>
  rw[e] at q;replace q:post X.K E H Ha (if zDz x=true/\zp4 p=true then .ok (.str p.shown) else .stuck) Q:=q
  by_cases hc:zDz x=true/\zp4 p=true
  .rw[if_pos hc] at q
   exact⟨v,x,p,rfl,r.mono hs,e,hc.1,hc.2,za0 hs q (Rep.str_iff.mpr rfl)⟩
  .rw[if_neg hc] at q;exact q.elim
end
section
variable {X:Cx}{E:XK}{He H0e:Hp}{a:Addr}{e:Expr}{es:List Expr}{pos:Pos}{f g:Ev->Res D}{fm gm hm im jm:Ev->List D->Res (D×List D)}{fa:Ev->List D->Res (List D×List D)}{s:Ev->List D->Res MFl}{st:Stmt}
def zvP (f:Ev->Res D):Ev->Res Fl:=fun ρ=>(f ρ).bind fun d=>.ok (.rt d)
theorem zxQ (h:DF X E e f):zFF X E He H0e [.Return (some e) pos] (zvP f):=by
 refine⟨zeA (zfX (ztn h.o) zoI) fun D' σ H ⟨Ha,ρ,h,q⟩=>⟨Ha,ρ,h.g.sub,h.rd,?_⟩⟩;unfold zvP at q;cases e1:f ρ with
 | stuck=>rw[e1] at q;exact q
 | exn x=>rw[e1] at q;exact fun C ox H' Ha' g r=>q C ox H' Ha' (h.g.trans g) r
 | ok d =>
  rw[e1] at q;cases d with
  | lst ds=>exact fun p vs H' Ha' g hp h0 hv rp=>q p vs H' Ha' (h.g.trans g) (h.g.s.free hp) h0 hv rp
  | _=>exact q.elim
def zHJ (i:Nat)(s:Ev->List D->Res MFl):Ev->List D->Res MFl:=fun ρ st=>s (unown i ρ) st
theorem zlA {n:Nat}(hr:∀ ρ st ds,fa ρ st=.ok ds->ds.1.length=n)(ρ:Ev)(st:List D)(ds:List D×List D)(h:zaT fm fa ρ st=.ok ds):ds.1.length=n+1:=by
 unfold zaT at h;cases e1:fm ρ st with
 | stuck=>rw[e1] at h;cases h
 | exn x=>rw[e1] at h;cases h
 | ok p =>
  rw[e1] at h;simp only[Res.bind] at h;cases e2:fa ρ p.2 with
  | stuck=>rw[e2] at h;cases h
  | exn x=>rw[e2] at h;cases h
  | ok q=>rw[e2] at h;cases h;simp [hr _ _ _ e2]
theorem am0 (ρ:Ev)(st:List D)(ds:List D×List D)(h:zdp ρ st=.ok ds):ds.1.length=0:=by cases h;rfl
theorem am1 (ρ:Ev)(st:List D)(ds:List D×List D)(h:zaT fm zdp ρ st=.ok ds):ds.1.length=1:=zlA am0 ρ st ds h
theorem am2 (ρ:Ev)(st:List D)(ds:List D×List D)(h:zaT fm (zaT gm zdp) ρ st=.ok ds):ds.1.length=2:=zlA am1 ρ st ds h
theorem am3 (ρ:Ev)(st:List D)(ds:List D×List D)(h:zaT fm (zaT gm (zaT hm zdp)) ρ st=.ok ds):ds.1.length=3:=zlA am2 ρ st ds h
variable {CX:CXT}{k n:Nat}{fn:Addr}{fd:FuncData}{ps:List Str}{x:Str}{p:Pos}{ft:Stmt}
theorem qmc {m:List D->Res D}(F:zbP X.prog X.w X.K X.mg X.base CX k fn fd ps (spD X.K n m))(hr:zfP k X.A)(t:FT X.K X.mg x ft ps fn fd)(hx:zfR CX X E)(ha:DMA X He H0e a (e::es) fa)(hl:∀ ρ st ds,fa ρ st=.ok ds->ds.1.length=(e::es).length)(hn:(e::es).length=n:=by rfl)
  (hg:Gl X x:=by exact rfl)(hdb:(x==("__debug__" : Str))=false:=by decide)(he:starEach (e::es) X.env=(false,eval e X.env)::starEach es X.env:=by exact zaH rfl)(hpl:(backTo pos (starEach es X.env)).any (·.1)=false:=by exact za9 rfl) :
  DM X He H0e a (.Call (.Name x p) (e::es) [] pos) (mA fa m):=zCv F hr hg t.g t.F.kp t.b hx ha hn hl hdb he hpl
theorem qm (i:Nat){y:Str}{p1:Pos}{m:Addr->List D->List D->Res (D×List D)}(F:zbP X.prog X.w X.K X.mg X.base CX k fn fd ps (spM X.K n m))(hr:zfP k X.A)(t:FT X.K X.mg x ft ps fn fd)(hx:zfR CX X E)(ha:DMA X He H0e a es fa)(hl:∀ ρ st ds,fa ρ st=.ok ds->ds.1.length=n)
  (hN:X.N[i]?=some y:=by rfl)(hv:Vis X.env.scope y:=by first | exact sas rfl | exact Or.inr (sas rfl) | exact Or.inr (Or.inr rfl))(hg:Gl X x:=by exact rfl)
  (hd:(y==("__debug__" : Str))=false:=by decide)(hcd:(y==("__classdict__" : Str))=false:=by decide)(hdb:(x==("__debug__" : Str))=false:=by decide)(he:starEach (.Name y p1::es) X.env=(false,eval (.Name y p1) X.env)::starEach es X.env:=by exact zaH rfl)(hpl:(backTo pos (starEach es X.env)).any (·.1)=false:=by exact za9 rfl) :
  DM X He H0e a (.Call (.Name x p) (.Name y p1::es) [] pos) (zbg i a fa m):=zzV (E:=E) F hr hg t.g t.F.kp t.b hx hN hv ha hl hd hcd hdb he hpl
theorem zn1 {l b:Expr}(ha:DM X He H0e a l fm)(hb:DM X He H0e a b gm):DM X He H0e a (.BinOp l .Add b pos) (mB fm gm zd7):=zEX (E:=E0) (OpR.or zAx (OpR.or znK (OpR.or zwg zwf))) (by
 intro x y v u H Ha Q hs r1 r2 q;unfold zd7 at q;cases x with
 | int i =>
  cases y with
  | int j=>exact .inl ⟨i,j,zak.mp r1,zak.mp r2,za0 hs q (ri _)⟩
  | _=>exact q.elim
 | str i =>
  cases y with
  | str j =>
   by_cases h:i.length+j.length<=line
   .simp only[if_pos h] at q
    exact .inr (.inl ⟨i,j,Rep.str_iff.mp r1,Rep.str_iff.mp r2,zcw h,za0 hs q (Rep.str_iff.mpr rfl)⟩)
   .simp only[if_neg h] at q;exact q.elim
  | _=>exact q.elim
 | lst ds =>
  cases y with
  | lst es =>
   by_cases h:ds.length+es.length<=line
   .simp only[if_pos h] at q
    obtain⟨l,vs,rfl,h1,h2⟩:=zaq.mp r1;obtain⟨m,us,rfl,k1,k2⟩:=zaq.mp r2;refine .inr (.inr (.inl ⟨l,m,vs,us,rfl,rfl,zaJ.sqL hs h1,zaJ.sqL hs k1,by rw[← h2.length,← k2.length];exact zcw h,fun p hp=>?_⟩));exact q _ _ _ (zaD hs hp) (zaq.mpr ⟨p,_,rfl,SqL.of zao,(h2.app k2).mono (zaD hs hp).z⟩)
   .simp only[if_neg h] at q;exact q.elim
  | _=>exact q.elim
 | tup ds =>
  cases y with
  | tup es =>
   by_cases h:ds.isEmpty=false/\ds.length+es.length<=line
   .simp only[if_pos h] at q
    obtain⟨l,vs,rfl,h1,h2⟩:=zaw.mp r1;obtain⟨m,us,rfl,k1,k2⟩:=zaw.mp r2;refine .inr (.inr (.inr ⟨l,m,vs,us,rfl,rfl,zaJ.sqT hs h1,zaJ.sqT hs k1,fun z=>?_,by rw[← h2.length,← k2.length];exact zcw h.2,fun z=>?_,fun z p hp=>?_⟩))
    .have:=h2.length
     rw[z] at this;have e:ds=[]:=sbF.mp this;rw[e] at h;exact absurd h.1 (by decide)
    .have:=k2.length
     rw[z] at this;have e:es=[]:=sbF.mp this;rw[e,saZ] at q;exact za0 hs q r1
    .exact q _ _ _ (zaD hs hp) (zaw.mpr ⟨p,_,rfl,SqT.of zao,(h2.app k2).mono (zaD hs hp).z⟩)
   .simp only[if_neg h] at q;exact q.elim
  | _=>exact q.elim
 | _=>exact q.elim) ha hb
theorem zAR {l b:Expr}(ha:DM X He H0e a l fm)(hb:DM X He H0e a b gm):DM X He H0e a (.BinOp l .Mod b pos) (mB fm gm zfL):=zEX (E:=E0) zwc (ztt (fun _ _ h=>of_decide_eq_true h) fun _ _ _ _=>ri _) ha hb
theorem zha {l b:Expr}(ha:DM X He H0e a l fm)(hb:DM X He H0e a b gm)(hs:znm b:=by intro _ _;rfl):DM X He H0e a (.Subscript l b pos) (mB fm gm dIx):=zGy (E:=E0) zAB zEi ha hb hs
theorem zHH {tgt iter elt:Expr}{scope:Scope}(N:List Str)(n:Nat)(fr:List Nat){src:Ev->List D->Res (List D×List D)}{tg:Ev->D->Res Ev}(hc:X.calm=true)(hi:MI X He H0e a tgt iter src)(hok:zA4 n tg)
  (blk:∀ s H C fp pn,(∀ He H0e,DG (zdN X N scope s H C fp pn) E He H0e tgt tg)/\∀ He H0e,DM (zdN X N scope s H C fp pn) He H0e a elt fm)
  (hfr:zCU X N n fr scope)(hcell:(scope.names.all fun x=>!(x.2==.cell))=true)(hfree:(scope.names.all fun x=>!(x.2==.free)||(X.env.scope.names.lookup x.1==some .cell))=true)(hkind:scope.kind=.function)
  (hnames:(scope.names.all fun x=>!(x.2==.local)||(scope.names.lookup x.1==some .local))=true)
  (hs:∀ x,foldedSetIterable iter X.env x=pure x:=by intro _;rfl):MCo X He H0e a (.ListComp elt [⟨tgt,iter,[],0⟩] scope pos) (zrB n fr src tg fm):=by
 refine mco (E:=E) N n fr hc hi hok blk hfr (fun x hx z=>?_) (fun x hx z=>?_) hkind (fun x hx z=>?_) hs
 .have:=saJ.mp hcell x hx
  rw[z] at this;simp at this
 .have:=saJ.mp hfree x hx
  rw[z] at this;simpa using this
 .have:=saJ.mp hnames x hx
  rw[z] at this;simpa using this
end
end DL
namespace Com
open PySem L2 DL
def mpK (st:List D)(d:D):Res (D×List D):=.ok (d,st)
def mrF (st:List D)(d:D):Res MFl:=.ok (.rt d st)
def zwh {α:Type}(b:Bool)(x:Res α):Res α:=if b=true then x else .stuck
noncomputable def mbK (g:Ev->List D->Res (D×List D)) (op:D->D->Res D) (ρ:Ev) (p:D×List D):Res (D×List D):=(g ρ p.2).bind fun q=>(op p.1 q.1).bind fun d=>.ok (d,q.2)
def zG7 (op:D->D->Res D)(x:D)(q:D×List D):Res (D×List D):=(op x q.1).bind (mpK q.2)
noncomputable def mcK (fa:Ev->List D->Res (List D×List D)) (ρ:Ev) (p:D×List D):Res (List D×List D):=(fa ρ p.2).bind fun q=>.ok (p.1::q.1,q.2)
def zG6 (x:D)(q:List D×List D):Res (List D×List D):=.ok (x::q.1,q.2)
def maK (m:List D->Res D)(p:List D×List D):Res (D×List D):=(m p.1).bind fun d=>.ok (d,p.2)
def msK (st ds:List D):Res (List D×List D):=.ok (ds,st)
noncomputable def mfK (tg:Ev->D->Res Ev) (s:Ev->List D->Res MFl) (ρ:Ev) (p:List D×List D):Res MFl:=forM tg s p.1 ρ p.2
def muK (k:Ev->List D->Res (D×List D))(ρ:Ev)(p:D×List D):Res MFl:=(k ρ p.2).bind (zlq ρ p.1)
section
variable {s t:Ev->List D->Res MFl}{S:Ev->Res Fl}{f g h:Ev->List D->Res (D×List D)}{F:Ev->Res D}{fa:Ev->List D->Res (List D×List D)}{src:Ev->Res (List D)}{srm:Ev->List D->Res (List D×List D)}{tg:Ev->D->Res Ev}{ρ r:Ev}{i j n:Nat}{d x y:D}{st ds xs:List D}{op:D->D->Res D}{a:Addr}
theorem zAG:zbb s t ρ st=(s ρ st).bind (zuM t):=zav rfl
theorem zxx:zuM t (.nx ρ st)=t ρ st:=zav rfl
theorem zxw:zuM t (.rt d st)=.ok (.rt d st):=zav rfl
theorem zxv:zuM t (.bk ρ st)=.ok (.bk ρ st):=zav rfl
theorem zxu:zuM t (.ct ρ st)=.ok (.ct ρ st):=zav rfl
theorem zxH:zbn ρ st=.ok (.nx ρ st):=zav rfl
theorem zxE:zdM S ρ st=(S ρ).bind (zqj st):=zav rfl
theorem zt3:zqj st (.nx ρ)=.ok (.nx ρ st):=zav rfl
theorem zt2:zqj st (.bk ρ)=.ok (.bk ρ st):=zav rfl
theorem zt1:zqj st (.ct ρ)=.ok (.ct ρ st):=zav rfl
theorem zAF:ze6 i f ρ st=(f ρ st).bind (zB2 i ρ):=zav rfl
theorem zxt:zB2 i ρ (d,st)=.ok (.nx (ρ.set i (.sh d)) st):=zav rfl
theorem zAI:zEm f ρ st=(f ρ st).bind zB3:=zav rfl
theorem zxB:zB3 (d,st)=.ok (.rt d st):=zav rfl
theorem zxA:zgG F ρ st=(F (shr ρ)).bind (mrF st):=zav rfl
theorem zt0:mrF st d=.ok (.rt d st):=zav rfl
theorem zEI:mIf f s t ρ st=(f ρ st).bind (zFA s t ρ):=zav rfl
theorem zAM:zFA s t ρ (.bl true,st)=s ρ st:=zav rfl
theorem zAL:zFA s t ρ (.bl false,st)=t ρ st:=zav rfl
theorem zHe:mP F ρ st=(F ρ).bind (mpK st):=zav rfl
theorem zEO:mpK st d=.ok (d,st):=zav rfl
theorem zHf:mL F ρ st=(F (shr ρ)).bind (znx st):=zav rfl
theorem zEL {k:Int}:znx st (.int k)=.ok (.int k,st):=zav rfl
theorem zEM {b:Bool}:znx st (.bl b)=.ok (.bl b,st):=zav rfl
theorem zEJ {z:Str}:znx st (.str z)=.ok (.str z,st):=zav rfl
theorem zEK:znx st .non=.ok (.non,st):=zav rfl
theorem zHc:mV i a F ρ st=zwh (zqy ρ[i]? a) ((F (vw i ρ st)).bind (znx st)):=zav rfl
theorem zHd:mT F ρ st=(F (shr ρ)).bind (mpK st):=zav rfl
theorem zEN:mTV i a F ρ st=zwh (zqy ρ[i]? a) ((F (vw i ρ st)).bind (mpK st)):=zav rfl
theorem zEH:zqy (some (.pt a)) a=true:=beq_self_eq_true a
theorem zxG {α:Type}{z:Res α}:zwh true z=z:=if_pos rfl
theorem zEG:vw i ρ st=(shr ρ).set i (.sh (.lst st)):=zav rfl
theorem zAE:zCW (.pt a)=.pt a:=zav rfl
theorem zHg:mB f g op ρ st=(f ρ st).bind (mbK g op ρ):=zav rfl
theorem zEQ:mbK g op ρ (x,st)=(g ρ st).bind (zG7 op x):=zav rfl
theorem zEP:zG7 op x (y,st)=(op x y).bind (mpK st):=zav rfl
theorem zAK:zdp ρ st=.ok ([],st):=zav rfl
theorem zxJ:zaT f fa ρ st=(f ρ st).bind (mcK fa ρ):=zav rfl
theorem zt5:mcK fa ρ (x,st)=(fa ρ st).bind (zG6 x):=zav rfl
theorem zt4:zG6 x (xs,st)=.ok (x::xs,st):=zav rfl
theorem zHh {m:List D->Res D}:mA fa m ρ st=(fa ρ st).bind (maK m):=zav rfl
theorem zER {m:List D->Res D}:maK m (ds,st)=(m ds).bind (mpK st):=zav rfl
theorem zxL {m:Addr->List D->List D->Res (D×List D)}:zbg i a fa m ρ st=zwh (zqy ρ[i]? a) ((fa ρ st).bind (zye a m)):=zav rfl
theorem zt6 {m:Addr->List D->List D->Res (D×List D)}:zye a m (ds,st)=m a st ds:=zav rfl
theorem zAJ:zAy i a f h ρ st=zwh (zqy ρ[i]? a) ((f ρ st).bind (muK h ρ)):=zav rfl
theorem zxD:muK h ρ (d,st)=(h ρ st).bind (zlq ρ d):=zav rfl
theorem zxC {k m:Nat}(e:ixN st.length k=some m):zlq ρ d (.int k,st)=.ok (.nx ρ (st.set m d)):=by unfold zlq;simp only[e]
theorem zAP:zB4 i f ρ st=zFy ρ[i]? fun ds=>(f ρ st).bind (zuN i ρ ds):=zav rfl
theorem zxF {k:List D->Res MFl}:zFy (some (.ow (.lst ds))) k=k ds:=zav rfl
theorem zph (e:decide (ds.length<=999)=true):zuN i ρ ds (d,st)=.ok (.nx (ρ.set i (.ow (.lst (ds++[d])))) st):=if_pos (saG (of_decide_eq_true e) (by decide))
theorem zAN:zHJ i s ρ st=s (unown i ρ) st:=zav rfl
theorem zAQ:zHK f g ρ st=(f ρ st).bind (zzo g ρ):=zav rfl
theorem zxN:zzo g ρ (.bl true,st)=g ρ st:=zav rfl
theorem zxM:zzo g ρ (.bl false,st)=.ok (.bl false,st):=zav rfl
theorem zAD:zzn src ρ st=(src ρ).bind (msK st):=zav rfl
theorem zxs:msK st ds=.ok (ds,st):=zav rfl
theorem zxr:zzm f ρ st=(f ρ st).bind zty:=zav rfl
theorem zpg {k:Int}(e:-4611686018427387904<=k/\k < 4611686018427387904):zty (.int k,st)=.ok (intsFrom 0 k.toNat,st):=if_pos e
theorem zAO:zoU srm tg s ρ st=(srm ρ st).bind (mfK tg s ρ):=zav rfl
theorem zxI:mfK tg s ρ (ds,st)=forM tg s ds ρ st:=zav rfl
theorem zxK {fr:List Nat}:zrB n fr srm tg f ρ st=(srm ρ st).bind (zrA (zgI n fr ρ) tg f):=zav rfl
theorem zAH {b:Addr->Ev->List D->Res MFl}:zvR n b a st ds=(b a (.pt a::ds.map Sl.sh++saj (n-(ds.length+1)) .no) st).bind zyW:=zav rfl
theorem zxz:zyW (.rt d st)=.ok (d,st):=zav rfl
theorem zxy:zyW (.nx ρ st)=.ok (.non,st):=zav rfl
end
theorem zix {tg:Ev->D->Res Ev}{body:Ev->List D->Res MFl}(I:Nat->Ev->List D->Prop)(ds:List D)(step:∀ (j:Nat) (d:D) (ρ:Ev) (st:List D),ds[j]?=some d->I j ρ st->∃ ρ1 ρ2 st2,tg ρ d=.ok ρ1/\(body ρ1 st=.ok (.nx ρ2 st2)∨body ρ1 st=.ok (.ct ρ2 st2))/\I (j+1) ρ2 st2) :
  ∀ (j:Nat) (ρ:Ev) (st:List D),j<=ds.length->I j ρ st->∃ ρ2 st2,forM tg body (ds.drop j) ρ st=.ok (.nx ρ2 st2)/\I ds.length ρ2 st2:=by
 intro j ρ st hj h;generalize hk:ds.length-j=k
 induction k generalizing j ρ st with
 | zero =>
  have:j=ds.length:=by omega
  subst this;exact⟨ρ,st,by rw[sbU];rfl,h⟩
 | succ k ih =>
  have hlt:j < ds.length:=by omega
  obtain⟨ρ1,ρ2,st2,h1,h2,h3⟩:=step j ds[j] ρ st (saa hlt) h;obtain⟨ρ3,st3,h4,h5⟩:=ih (j+1) ρ2 st2 (by omega) h3 (by omega);refine⟨ρ3,st3,?_,h5⟩;rw[saL hlt];unfold DL.forM;rw[h1];rcases h2 with h2 | h2
  .simp only[Res.bind,h2];exact h4
  .simp only[Res.bind,h2];exact h4
theorem zrD {b:Ev}{tg:Ev->D->Res Ev}{fm:Ev->List D->Res (D×List D)}(I:List D->Prop)(P:D->Prop):∀ (ds st:List D),I st->(∀ d st,d∈ds->I st->∃ ρ1 y st2,tg b d=.ok ρ1/\fm ρ1 st=.ok (y,st2)/\P y/\I st2)->∃ es st2,zjI b tg fm ds st=.ok (es,st2)/\es.length=ds.length/\(∀ e∈es,P e)/\I st2
 | [],st,h,_=>⟨[],st,rfl,rfl,fun e he=>by simp at he,h⟩
 | d::ds,st,h,step=>by
  obtain⟨ρ1,y,st1,h1,h2,h3,h4⟩:=step d st (by simp) h;obtain⟨es,st2,k1,k2,k3,k4⟩:=zrD I P ds st1 h4 fun d' st' hd=>step d' st' (sak _ hd);refine⟨y::es,st2,?_,by simp [k2],fun e he=>?_,k4⟩
  .unfold zjI
   rw[h1];simp only[Res.bind,h2,k1]
  .rcases sam.mp he with rfl | he
   .exact h3
   .exact k3 e he
end Com
namespace Bor
open PySem L2 DL
abbrev za4:List D->Res D:=Cod.za4
noncomputable def zhm:Ev->Res Fl :=
 (zuv (zcm 2 (dC (.int 0)))
 (zuv (sIf (zad (zaf 1) (zaj (zab (zaf 0) zaz) (m1 zeJ)) dLt)
 (zax (zcm 2 (zad (zaf 0) (zaf 1) dIx))
 zam)
 zam)
 (zvP (zaj (zab (zaf 2) (zab (zad (zad (zad (zad (zaf 2) (dC (.int 2147483587)) zfL) (zad (zad (dC (.int 104729)) (zaf 1) zbZ) (zaf 1) zbZ) zd7) (dC (.int 7)) zd7) (dC (.int 2147483587)) zfL) (zab (zad (zaf 2) (zad (dC (.int 10)) (dC (.int 18)) zug) dGe) zaz))) zfz))))
def zbq:List D->Res D:=zDF 3 zhm
noncomputable def zij:Addr->Ev->List D->Res MFl:=fun a =>
 (zbb (mIf (mTV 0 a (zad (zaf 0) (dC (.int 2)) dIx))
 (zbb (ze6 2 (mV 0 a (zad (zad (zaf 0) (dC (.int 0)) dIx) (zaf 1) zfL)))
 (zbb (zAy 0 a (mV 0 a (zad (zad (zaf 0) (dC (.int 0)) dIx) (zaf 1) zvb)) (mP (dC (.int 0))))
 (zbb (zAy 0 a (mV 0 a (zad (zad (zaf 0) (dC (.int 0)) dIx) (dC (.int 0)) dGt)) (mP (dC (.int 2))))
 (zbb (zgG (zaf 2))
 zbn))))
 zbn)
 (zbb (zdM (zcm 3 (dC (.int 0))))
 (zbb (zoU (zzn (zim (zad (dC (.int 1)) (zad (dC (.int 2)) (zaj (zab (zad (zaf 1) (zad (dC (.int 10)) (dC (.int 6)) zug) dGt) zaz) (m1 zmW)) zbZ) zd7))) (zd0 4)
 (zbb (zAy 0 a (mV 0 a (zad (zad (zad (zad (zaf 0) (dC (.int 1)) dIx) (dC (.int 39373)) zbZ) (dC (.int 17)) zd7) (dC (.int 2147483647)) zfL)) (mP (dC (.int 1))))
 (zbb (ze6 3 (mV 0 a (zad (zad (zaf 3) (dC (.int 2147483587)) zbZ) (zad (zad (zad (zaf 0) (dC (.int 1)) dIx) (zad (zaf 0) (dC (.int 1)) dIx) zbZ) (dC (.int 2147483587)) zfL) zd7)))
 zbn)))
 (zbb (zgG (zad (zad (zaf 3) (dC (.int 64)) zvb) (zaf 1) zfL))
 zbn))))
def zas:Addr->List D->List D->Res (D×List D):=zvR 5 zij
noncomputable def zks:Addr->Ev->List D->Res MFl:=fun a =>
 (zbb (ze6 2 (zrB 1 [0] (zzn (zim (dC (.int 8)))) (zd0 0) (zbg 1 a (zaT (mP (dC (.int 26))) zdp) zas)))
 (zbb (ze6 3 (mB (mP (dC (.int 1))) (zbg 0 a (zaT (mP (dC (.int 8))) zdp) zas) zd7))
 (zbb (ze6 4 (zbg 0 a (zaT (mP (zaf 3)) zdp) zas))
 (zbb (ze6 5 (zbg 0 a (zaT (mP (dC (.int 26))) zdp) zas))
 (zbb (ze6 6 (mB (mP (zaj (zab (dC (.int 1)) (zab (dC (.int 3)) (zab (dC (.int 5)) (zab (dC (.int 7)) (zab (dC (.int 9)) (zab (dC (.int 11)) zaz)))))) zfz)) (zbg 0 a (zaT (mP (dC (.int 6))) zdp) zas) dIx))
 (zbb (ze6 7 (mB (zbg 0 a (zaT (mP (dC (.int 3))) zdp) zas) (mP (dC (.int 0))) dEq))
 (zbb (zdM (zth 8 (zaj zaz zfz)))
 (zbb (zdM (zuw (zaf 1) (zd0 9)
 (zax (zth 10 (zvs (zaf 2) zfx (zfl (zaf 3))))
 (zax (zDA 10 (zad (zad (zaf 5) (zad (zaf 6) (zaf 9) zbZ) zd7) (dC (.int 26)) zfL) (zaf 4))
 (zax (sIf (zaf 7)
 (zax (zth 10 (zvs (zaf 2) zfx (zfl (zad (dC (.int 1)) (zad (zad (zaf 5) (zaf 9) zd7) (dC (.int 8)) zfL) zd7))))
 zam)
 zam)
 (zax (zDC 10 (zgW 8 (zva (dC (.str "")) (zab (zfM 1 [] (zyr (zaf 10)) (zd0 0) mYes (zad (dC (.str "abcdefghijklmnopqrstuvwxyz")) (zaf 0) dIx)) zaz))))
 zam))))))
 (zbb (zgG (zaf 8))
 zbn)))))))))
def zde:Addr->List D->List D->Res (D×List D):=zvR 11 zks
noncomputable def zi2:Addr->Ev->List D->Res MFl:=fun a =>
 (zbb (ze6 2 (zbg 0 a (zaT (mP (dC (.int 6))) zdp) zas))
 (zbb (ze6 3 (mB (mP (zaf 1)) (zbg 0 a (zaT (mP (zad (zaj (zab (dC (.int 3)) (zab (dC (.int 6)) (zab (dC (.int 20)) (zab (dC (.int 12)) (zab (dC (.int 90)) (zab (zad (dC (.int 10)) (dC (.int 12)) zug) zaz)))))) zfz) (zaf 2) dIx)) zdp) zas) zd7))
 (zbb (zdM (zcm 4 (zad (zaj (zab (dC (.int 1)) (zab (dC (.int 1)) (zab (dC (.int 1)) (zab (dC (.int 4)) (zab (dC (.int 12)) (zab (dC (.int 12)) zaz)))))) zfz) (zaf 2) dIx)))
 (zbb (zdM (zcm 5 (zaj (zab (dC (.int 1)) (zab (dC (.int 2)) (zab (dC (.int 3)) (zab (dC (.int 4)) (zab (dC (.int 5)) (zab (dC (.int 6)) (zab (dC (.int 10)) (zab (dC (.int 12)) (zab (dC (.int 15)) (zab (dC (.int 20)) (zab (dC (.int 30)) (zab (dC (.int 60)) zaz)))))))))))) zfz)))
 (zbb (zEm (mA (zaT (mP (zaf 3)) (zaT (mB (mP (zaf 5)) (zbg 0 a (zaT (mP (zaf 4)) zdp) zas) dIx) zdp)) za4))
 zbn)))))
def za2:Addr->List D->List D->Res (D×List D):=zvR 6 zi2
noncomputable def zfN:Addr->Ev->List D->Res MFl:=fun a =>
 (zbb (zdM (zcm 3 (zaj (zab (zaf 1) zaz) (m1 zeJ))))
 (zbb (ze6 4 (zbg 0 a (zaT (mP (zaf 3)) zdp) zas))
 (zbb (ze6 5 (mB (mB (mP (zad (zaf 4) (dC (.int 1)) zd7)) (zbg 0 a (zaT (mP (zad (zaf 3) (dC (.int 1)) zu9)) zdp) zas) zd7) (mP (zaf 3)) zfL))
 (zbb (mIf (mB (zbg 0 a (zaT (mP (dC (.int 2))) zdp) zas) (mP (dC (.int 0))) dEq)
 (zbb (zdM (zcm 4 (zad (zaf 2) (zaf 3) zfL)))
 (zbb (zdM (zcm 5 (zad (zad (zaf 2) (dC (.int 1)) zd7) (zaf 3) zfL)))
 zbn))
 zbn)
 (zbb (ze6 6 (mB (mP (zaj (zab (dC (.str "one")) (zab (dC (.str "both")) zaz)) zfz)) (zbg 0 a (zaT (mP (dC (.int 2))) zdp) zas) dIx))
 (zbb (ze6 7 (zbg 0 a (zaT (mP (dC (.int 0))) zdp) za2))
 (zbb (ze6 8 (zbg 0 a (zaT (mP (dC (.int 1))) zdp) za2))
 (zbb (mIf (mB (zbg 0 a (zaT (mP (dC (.int 4))) zdp) zas) (mP (dC (.int 0))) dEq)
 (zbb (zdM (zcm 8 (dC (.non))))
 zbn)
 zbn)
 (zbb (zgG (zaj (zab (zad (zaf 1) (zaf 4) dIx) (zab (zad (zaf 1) (zaf 5) dIx) (zab (zaf 6) (zab (zaf 7) (zab (zaf 8) zaz))))) zeH))
 zbn)))))))))
def zb5:Addr->List D->List D->Res (D×List D):=zvR 9 zfN
noncomputable def zjL:Addr->Ev->List D->Res MFl:=fun a =>
 (zbb (ze6 3 (zbg 0 a (zaT (mB (mP (dC (.int 2))) (zbg 0 a (zaT (mP (zad (zaf 1) (dC (.int 1)) zu9)) zdp) zas) zd7) zdp) zde))
 (zbb (zdM (zcm 4 (zaj (zab (zaf 3) zaz) (m1 zeJ))))
 (zbb (zdM (zth 5 (zaj zaz zfz)))
 (zbb (zoU (zzm (zbg 0 a (zaT (mP (zad (zaf 2) (dC (.int 1)) zd7)) zdp) zas)) (zd0 6)
 (zbb (zB4 5 (zbg 0 a (zaT (mP (zaf 3)) (zaT (mP (zaf 6)) zdp)) zb5))
 zbn))
 (zbb (zdM (zcm 7 (dC (.int 0))))
 (zbb (zdM (zcm 8 (zad (zaf 4) (dC (.int 1)) zu9)))
 (zbb (mIf (mB (zbg 0 a (zaT (mP (dC (.int 2))) zdp) zas) (mP (dC (.int 0))) dEq)
 (zbb (ze6 7 (zbg 0 a (zaT (mP (zaf 4)) zdp) zas))
 (zbb (ze6 8 (mB (mB (mP (zad (zaf 7) (dC (.int 1)) zd7)) (zbg 0 a (zaT (mP (zad (zaf 4) (dC (.int 1)) zu9)) zdp) zas) zd7) (mP (zaf 4)) zfL))
 zbn))
 zbn)
 (zbb (zgG (zaj (zab (zaf 3) (zab (zaf 5) (zab (zad (zaf 3) (zaf 7) dIx) (zab (zad (zaf 3) (zaf 8) dIx) zaz)))) zeH))
 zbn))))))))
def zcn:Addr->List D->List D->Res (D×List D):=zvR 9 zjL
end Bor
namespace DL
open PySem PySem.Spec PyProof.Rows L2
section
variable {X:Cx}{E:XK}{He H0e:Hp}{a:Addr}{st:Stmt}{e l b:Expr}{rest es:List Expr}{pos:Pos}{f:Ev->Res D}{fm gm:Ev->List D->Res (D×List D)}
end
section
variable {X:Cx}{e:Expr}{es:List Expr}{fa:Ev->Res (List D)}{pos:Pos}{k n:Nat}{fn:Addr}{fd:FuncData}{ps:List Str}{m:List D->Res D}{x:Str}{p:Pos}{st:Stmt}
end
def zH6 (x y:D):Res D:=match x,y with
 | .bl a,.bl b=>.ok (.bl (a==b))
 | _,_=>.stuck
def zz0 (x y:D):Res D:=match x,y with
 | .bl a,.bl b=>.ok (.bl (!(a==b)))
 | _,_=>.stuck
section
variable {X:Cx}{E:XK}
theorem zBU:OpR X (compareOp .IsNot) (fun x y H Q=>∃ a b,x=.bl a/\y=.bl b/\Q (.bl (!(a==b))) H):=by
 intro pins s σ H x y v u Q I rx ry h;obtain⟨a,b,rfl,rfl,q⟩:=h;cases rx;cases ry;have e:compareOp .IsNot (.bool a) (.bool b)=pure (.bool (!(a==b))):=by cases a<;>cases b<;>rfl
 rw[e];exact saB (ztK I q rfl)
theorem zBY:OpD X.K E (fun x y H Q=>∃ a b,x=.bl a/\y=.bl b/\Q (.bl (!(a==b))) H) zz0:=by
 intro x y v u H Ha Q hs r1 r2 q;unfold zz0 at q;cases x with
 | bl a =>
  cases y with
  | bl b=>exact⟨a,b,zar.mp r1,zar.mp r2,za0 hs q (rb _)⟩
  | _=>exact q.elim
 | _=>exact q.elim
end
def zz1 (x:D):Res D:=match x with
 | .dic ks _=>.ok (.int ks.length)
 | x=>zeJ x
section
variable {X:Cx}{E:XK}
abbrev zDK (K:sab):List V->Hp->VK->Prop:=fun xs H Q=>(∃ x n,xs=[x]/\zGL K x H n/\Q (.int n) H)∨∃ a kvs,xs=[V.ref a]/\Rd H a (.dK kvs)/\Q (.int kvs.length) H
theorem zyc:zhG X (.builtin "len") (zDK X.K):=by
 intro pins s σ H xs us Q I r h;rcases h with h | ⟨a,kvs,rfl,hd,q⟩
 .exact zaY pins s σ H xs us Q I r h
 .obtain⟨u,rfl,rx⟩:=zot r
  cases rx;exact zGD I hd fun t s' I'=>⟨.int kvs.length,H,I',⟨t,rfl⟩,q⟩
theorem zCJ:zhH X E (zDK X.K) (m1 zz1):=zrI fun x v H Ha Q hs r q=>by
 cases x with
 | dic ks ds =>
  rw[Rep] at r;obtain⟨a,kvs,vs,rfl,h1,rfl,h3,h4⟩:=r;refine .inr ⟨a,(ks.map scA).zip vs,rfl,zaJ.rd hs h1,?_⟩;rw[sb8,sag,← h3,Nat.min_self];exact za0 hs q (ri _)
 | lst ds =>
  obtain⟨p,vs,rfl,h1,h2⟩:=zaq.mp r;refine .inl ⟨_,vs.length,rfl,.inl ⟨vs,zaJ.sqL hs h1,rfl⟩,?_⟩;rw[← h2.length];exact za0 hs q (ri _)
 | tup ds =>
  obtain⟨p,vs,rfl,h1,h2⟩:=zaw.mp r;refine .inl ⟨_,vs.length,rfl,.inr ⟨vs,zaJ.sqT hs h1,rfl⟩,?_⟩;rw[← h2.length];exact za0 hs q (ri _)
 | str z =>
  unfold zz1 zeJ at q
  by_cases hz:z.length<=line
  .simp only[if_pos hz] at q
   rw[Rep.str_iff.mp r];exact .inl ⟨_,z.length,rfl,⟨zcw hz,rfl⟩,za0 hs q (ri _)⟩
  .simp only[if_neg hz] at q;exact q.elim
 | _=>exact q.elim
end
end DL
namespace K11
open PySem L2 DL
noncomputable def zpx:Ev->Res Fl :=
 (zax (zcm 1 (zaj (zab (zad (zaf 0) (dC (.int 0)) dIx) (zab (zad (zaf 0) (dC (.int 1)) dIx) zaz)) zeH))
 (zax (sIf (zad (zad (zaf 0) (dC (.int 2)) dIx) (dC (.str "one")) dEq)
 (zax (zb8 (zaj (zab (zaf 1) zaz) zfz))
 zam)
 zam)
 (zax (zb8 (zaj (zab (zaf 1) (zab (zaj (zab (zad (zaf 0) (dC (.int 1)) dIx) (zab (zad (zaf 0) (dC (.int 0)) dIx) zaz)) zeH) zaz)) zfz))
 zam)))
def zeB:List D->Res D:=zdL 2 zpx
end K11
namespace K12
open PySem L2 DL
abbrev za4:List D->Res D:=Cod.za4
abbrev zdV:List D->Res D:=Com.zdV
abbrev zeP:List D->Res D:=Com.zeP
abbrev zfa:List D->Res D:=Com.zfa
noncomputable def zik:Ev->Res Fl :=
 (zax (zb8 (zaj (zab (zad (zad (zad (zaf 0) (dC (.int 0)) dIx) (zad (zaf 1) (dC (.int 1)) dIx) zbZ) (zad (zad (zaf 1) (dC (.int 0)) dIx) (zad (zaf 0) (dC (.int 1)) dIx) zbZ) zd7) (zab (zad (zad (zaf 0) (dC (.int 1)) dIx) (zad (zaf 1) (dC (.int 1)) dIx) zbZ) zaz)) za4))
 zam)
def za6:List D->Res D:=zdL 2 zik
end K12
namespace K51
open PySem L2 DL
def zfA:List (Str×Bool):=[("NoSpread",true)]
def zBu:Str->Option Bool:=zpY [("NoSpread",false)]
def zBt:Str->Option Bool:=zpY [("NoSpread",true)]
def zBs:Str->Option Bool:=zpY [("NoSpread",true)]
def zzD:Str->Option Bool:=zpY [("NoSpread",true)]
abbrev zbq:List D->Res D:=Bor.zbq
abbrev zas:Addr->List D->List D->Res (D×List D):=Bor.zas
abbrev zde:Addr->List D->List D->Res (D×List D):=Bor.zde
abbrev za4:List D->Res D:=Cod.za4
abbrev za2:Addr->List D->List D->Res (D×List D):=Bor.za2
abbrev zb5:Addr->List D->List D->Res (D×List D):=Bor.zb5
abbrev zcn:Addr->List D->List D->Res (D×List D):=Bor.zcn
noncomputable def znc:Addr->Ev->List D->Res MFl:=fun a =>
 (zbb (zdM (zth 2 (zaj zaz zfz)))
 (zbb (zoU (zzn (zyr (zad (zaf 1) (dC (.int 1)) dIx))) (zd0 3)
 (zbb (ze6 4 (zbg 0 a (zaT (mP (dC (.int 0))) zdp) za2))
 (zbb (zB4 2 (mB (mP (zaj (zab (zaf 4) (zab (zaf 4) (zab (zaj (zab (dC (.int 0)) (zab (dC (.int 1)) zaz)) zeH) zaz))) zfz)) (zbg 0 a (zaT (mP (dC (.int 3))) zdp) zas) dIx))
 zbn)))
 (zbb (zgG (zaf 2))
 zbn)))
def zeQ:Addr->List D->List D->Res (D×List D):=zvR 5 znc
noncomputable def zkq:Ev->Res Fl :=
 (zax (zb8 (zaj (zab (zad (zad (zaf 0) (dC (.int 0)) dIx) (zad (zaf 1) (dC (.int 0)) dIx) zbZ) (zab (zad (zad (zaf 0) (dC (.int 1)) dIx) (zad (zaf 1) (dC (.int 1)) dIx) zbZ) zaz)) za4))
 zam)
def zbi:List D->Res D:=zdL 2 zkq
noncomputable def zkr:Addr->Ev->List D->Res MFl:=fun a =>
 (zbb (zdM (zth 3 (zaj zaz zfz)))
 (zbb (zoU (zzn (zim (zaj (zab (zaf 2) zaz) (m1 zeJ)))) (zd0 4)
 (zbb (ze6 5 (mB (mP (zaj (zab (zaj (zab (dC (.int 0)) (zab (dC (.int 1)) zaz)) zeH) (zab (zaj (zab (dC (.int 1)) (zab (dC (.int 1)) zaz)) zeH) (zab (zaj (zab (dC (.int 1)) (zab (dC (.int 2)) zaz)) zeH) (zab (zaj (zab (dC (.int 2)) (zab (dC (.int 3)) zaz)) zeH) (zab (zaj (zab (dC (.int 59)) (zab (dC (.int 60)) zaz)) zeH) zaz))))) zfz)) (zbg 0 a (zaT (mP (dC (.int 5))) zdp) zas) dIx))
 (zbb (zdM (sIf (zad (zad (zad (zad (zaf 1) (dC (.int 1)) dIx) (zaf 4) dIx) (dC (.int 4)) dIx) (dC (.non)) zmV)
 (zax (zcm 5 (zaj (zab (dC (.int 0)) (zab (dC (.int 1)) zaz)) zeH))
 zam)
 zam))
 (zbb (zdM (zgW 3 (zaj (zab (zad (zaf 2) (zaf 4) dIx) (zab (zaf 5) zaz)) zbi)))
 zbn))))
 (zbb (zgG (zaf 3))
 zbn)))
def zed:Addr->List D->List D->Res (D×List D):=zvR 6 zkr
abbrev za6:List D->Res D:=K12.za6
noncomputable def znb:Ev->Res Fl :=
 (zax (zcm 2 (zaj (zab (dC (.int 0)) (zab (dC (.int 1)) zaz)) zeH))
 (zax (zuw (zaj (zab (zaf 1) zaz) (m1 zeJ)) (zd0 3)
 (zax (sIf (zad (zad (zad (zad (zaf 0) (dC (.int 1)) dIx) (zaf 3) dIx) (dC (.int 4)) dIx) (dC (.non)) zhD)
 (zax (zcm 2 (zaj (zab (zaf 2) (zab (zaj (zab (zad (zad (zad (zaf 0) (dC (.int 1)) dIx) (zaf 3) dIx) (dC (.int 4)) dIx) (zab (zad (zaf 1) (zaf 3) dIx) zaz)) zbi) zaz)) za6))
 zam)
 zam)
 zam))
 (zax (zb8 (zaf 2))
 zam)))
def zdY:List D->Res D:=zdL 4 znb
noncomputable def zgy:Ev->Res Fl :=
 (zax (sIf (dOr (zdQ (zbo (zaf 0) (zcz "tuple"))) (zad (zaj (zab (zaf 0) zaz) (m1 zeJ)) (dC (.int 2)) dNe))
 (zax (zb8 (dC (.bl false)))
 zam)
 zam)
 (zax (zns (zFs (zaf 0)) (zd0 1)
 (zax (sIf (dOr (zdQ (zbo (zaf 1) (zcz "int"))) (zbo (zaf 1) (zcz "bool")))
 (zax (zb8 (dC (.bl false)))
 zam)
 zam)
 zam))
 (zax (zb8 (zmX (zad (zad (zaf 0) (dC (.int 0)) dIx) (dC (.int 0)) dGe) (zmX (zad (zad (zaf 0) (dC (.int 1)) dIx) (dC (.int 0)) dGt) (zad (zaj (zab (zad (zaf 0) (dC (.int 0)) dIx) (zab (zad (zaf 0) (dC (.int 1)) dIx) zaz)) za4) (zaf 0) dEq))))
 zam)))
def zbm:List D->Res D:=zdL 2 zgy
noncomputable def zna:Ev->Res Fl :=
 (zax (zb8 (zad (zad (zad (zaf 0) (dC (.int 0)) dIx) (zad (zaf 1) (dC (.int 1)) dIx) zbZ) (zad (zad (zaf 1) (dC (.int 0)) dIx) (zad (zaf 0) (dC (.int 1)) dIx) zbZ) dLt))
 zam)
def zdX:List D->Res D:=zdL 2 zna
noncomputable def zaL:Ev->Res Fl :=
 (zax (sIf (dOr (zdQ (zbo (zaf 3) (zcz "list"))) (zad (zaj (zab (zaf 3) zaz) (m1 zeJ)) (zaj (zab (zad (zaf 0) (dC (.int 1)) dIx) zaz) (m1 zeJ)) dNe))
 (zax (zb8 (zaj (zab (dC (.str "at")) (zab (dC (.non)) zaz)) zeH))
 zam)
 zam)
 (zax (zuw (zaj (zab (zaf 3) zaz) (m1 zeJ)) (zd0 4)
 (zax (sIf (dOr (zdQ (zaj (zab (zad (zaf 3) (zaf 4) dIx) zaz) zbm)) (zaj (zab (zad (zaf 1) (zaf 4) dIx) (zab (zad (zaf 3) (zaf 4) dIx) zaz)) zdX))
 (zax (zb8 (zaj (zab (dC (.str "at")) (zab (zaf 4) zaz)) zeH))
 zam)
 zam)
 (zax (sIf (zmX (zad (zad (zad (zad (zaf 0) (dC (.int 1)) dIx) (zaf 4) dIx) (dC (.int 4)) dIx) (dC (.non)) zmV) (zad (zad (zad (zaf 3) (zaf 4) dIx) (dC (.int 0)) dIx) (dC (.int 0)) dNe))
 (zax (zb8 (zaj (zab (dC (.str "at")) (zab (zaf 4) zaz)) zeH))
 zam)
 zam)
 zam)))
 (zax (sIf (zaj (zab (zaf 2) (zab (zaj (zab (zaf 0) (zab (zaf 3) zaz)) zdY) zaz)) zdX)
 (zax (zb8 (zaj (zab (dC (.str "at")) (zab (dC (.non)) zaz)) zeH))
 zam)
 zam)
 (zax (zb8 (dC (.non)))
 zam))))
def zaF:List D->Res D:=zdL 5 zaL
abbrev zcF:List D->Res D:=Com.zcF
abbrev zbz:List D->Res D:=Com.zbz
abbrev zbO:List D->Res D:=Com.zbO
abbrev zbl:List D->Res D:=Com.zbl
abbrev zdd:List D->Res D:=Com.zdd
abbrev zbf:List D->Res D:=Com.zbf
abbrev zeG:List D->Res D:=Com.zeG
abbrev zf3:List D->Res D:=Com.zf3
abbrev zb4:List D->Res D:=Com.zb4
abbrev zdW:List D->Res D:=Com.zdW
abbrev zbD:List D->Res D:=Com.zbD
noncomputable def zi1:Ev->Res Fl :=
 (zax (sIf (dOr (zdQ (zbo (zaf 1) (zcz "list"))) (zad (zaj (zab (zaf 1) zaz) (m1 zeJ)) (zaj (zab (zad (zaf 0) (dC (.int 1)) dIx) zaz) (m1 zeJ)) dNe))
 (zax (zb8 (dC (.bl false)))
 zam)
 zam)
 (zax (zb8 (zaj (zab (zfM 1 [] (zyr (zaf 1)) (zd0 0) mYes (zaj (zab (zaf 0) zaz) zbf)) zaz) (m1 zAX)))
 zam))
def zeD:List D->Res D:=zdL 2 zi1
noncomputable def zhV:Ev->Res Fl :=
 (zax (zkF (zaj (zab (zaf 0) zaz) zbD))
 (zax (sIf (zdQ (zaj (zab (zaf 0) (zab (zaf 1) zaz)) zeD))
 (zax zdc
 zam)
 zam)
 zam))
def zd6:List D->Res D:=zdL 2 zhV
abbrev zbu:List D->Res D:=Com.zbu
abbrev zcG:List D->Res D:=Com.zcG
abbrev zdV:List D->Res D:=Com.zdV
abbrev zeP:List D->Res D:=Com.zeP
abbrev zfa:List D->Res D:=Com.zfa
noncomputable def zyi:Ev->Res Fl :=
 (zax (zb8 (zaj (zab (zad (zad (zaf 0) (dC (.int 0)) dIx) (zad (zaf 1) (dC (.int 0)) dIx) zbZ) (zab (zad (zad (zaf 0) (dC (.int 1)) dIx) (zad (zaf 1) (dC (.int 1)) dIx) zbZ) zaz)) zdV))
 zam)
def zlz:List D->Res D:=zdL 2 zyi
noncomputable def zgx:Ev->Res Fl :=
 (zax (zb8 (zaj (zab (zfM 2 [] (zAm (zad (zaf 0) (dC (.int 1)) dIx) (zaf 1)) (zkJ [0,1]) (zad (zad (zaf 0) (dC (.int 4)) dIx) (dC (.non)) zhD) (zaj (zab (zad (zaf 0) (dC (.int 4)) dIx) (zab (zaf 1) zaz)) zlz)) zaz) zfa))
 zam)
def zc1:List D->Res D:=zdL 2 zgx
noncomputable def zaW:Ev->Res Fl :=
 (zax (zkF (zaj (zab (zaf 0) (zab (zaf 1) zaz)) zd6))
 (zax (zkF (zaj (zab (zaf 2) zaz) zbu))
 (zax (sIf (dOr (zdQ (zbo (zaf 3) (zcz "list"))) (zad (zaj (zab (zaf 3) zaz) (m1 zeJ)) (zaj (zab (zad (zaf 0) (dC (.int 1)) dIx) zaz) (m1 zeJ)) dNe))
 (zax (zia "NoSpread" ["at"] (zab (dC (.non)) zaz))
 zam)
 zam)
 (zax (zns (zyT (zaf 3)) (zkJ [4,5])
 (zax (zcm 6 (dIf (zad (zad (zad (zad (zaf 0) (dC (.int 1)) dIx) (zaf 4) dIx) (dC (.int 4)) dIx) (dC (.non)) zmV) (dC (.tup [(.int 0),(.int 1)])) (zad (zaf 1) (zaf 4) dIx)))
 (zax (sIf (dOr (zdQ (zaj (zab (zaf 5) zaz) zbf)) (zaj (zab (zaf 6) (zab (zaf 5) zaz)) zcG))
 (zax (zia "NoSpread" ["at"] (zab (zaf 4) zaz))
 zam)
 zam)
 zam)))
 (zax (sIf (zaj (zab (zaf 2) (zab (zaj (zab (zaf 0) (zab (zaf 3) zaz)) zc1) zaz)) zcG)
 (zax (zia "NoSpread" ["at"] (zab (dC (.non)) zaz))
 zam)
 zam)
 zam)))))
def zaA:List D->Res D:=zdL 7 zaW
abbrev zbv:List D->Res D:=Com.zbv
abbrev zbk:List D->Res D:=Com.zbk
noncomputable def zvh:Ev->Res Fl :=
 (zax (zb8 (dOr (zad (zaf 0) (dC (.non)) zmV) (zaj (zab (zaf 0) zaz) zbf)))
 zam)
def znL:List D->Res D:=zdL 1 zvh
noncomputable def zdl:Ev->Res Fl :=
 (zax (sIf (dOr (zdQ (zbo (zaf 1) (zcz "dict"))) (zad (zaj (zab (zaf 1) zaz) (m1 zz1)) (zaj (zab (zaf 0) zaz) (m1 zeJ)) dNe))
 (zax (zb8 (dC (.bl false)))
 zam)
 zam)
 (zax (zb8 (zaj (zab (zfM 1 [1] (zyr (zaf 0)) (zd0 0) mYes (zmX (zad (zaf 0) (zaf 1) dIn) (zaj (zab (zad (zaf 1) (zaf 0) dIx) zaz) znL))) zaz) (m1 zAX)))
 zam))
def zbj:List D->Res D:=zdL 2 zdl
noncomputable def zz8:Ev->Res Fl :=
 (zax (sIf (zad (zaf 0) (dC (.non)) zmV)
 (zax (zb8 (dC (.bl true)))
 zam)
 zam)
 (zax (zb8 (zmX (zad (zaf 2) (dC (.non)) zhD) (zdQ (zaj (zab (zaj (zab (zaf 0) (zab (zaf 1) zaz)) zeP) (zab (zaf 2) zaz)) zcG))))
 zam))
def ztx:List D->Res D:=zdL 3 zz8
abbrev zeB:List D->Res D:=K11.zeB
noncomputable def zrQ:Ev->Res Fl :=
 (zax (zth 2 (zaj zaz zfz))
 (zax (zns (zyT (zad (zaf 0) (dC (.int 1)) dIx)) (zkJ [3,4])
 (zax (sIf (zad (zaf 3) (zaf 1) zhe)
 (zax (zvQ (zaj (zab (zaf 4) zaz) zeB) (zkJ [5,6])
 (zax (zgW 2 (zaj (zab (zaf 3) (zab (zaf 5) (zab (zaf 6) zaz))) zeH))
 zam))
 zam)
 zam)
 zam))
 (zax (zb8 (zaf 2))
 zam)))
def zj2:List D->Res D:=zdL 7 zrQ
noncomputable def zi0:Ev->Res Fl :=
 (zax (zkF (zaj (zab (zaf 0) (zab (zaf 1) zaz)) zbk))
 (zax (sIf (dOr (zdQ (zaj (zab (zad (zaf 0) (dC (.int 0)) dIx) (zab (zaf 2) zaz)) zbj)) (zad (zad (zaf 2) (zad (zaf 0) (dC (.int 2)) dIx) dIx) (dC (.tup [(.int 0),(.int 1)])) dNe))
 (zax (zb8 (dC (.bl false)))
 zam)
 zam)
 (zax (zvQ (zaj (zab (zaf 0) (zab (zaf 1) zaz)) zj2) (zkJ [3,4,5])
 (zax (sIf (zdQ (zaj (zab (zad (zaf 2) (zaf 4) dIx) (zab (zad (zad (zad (zaf 0) (dC (.int 1)) dIx) (zaf 3) dIx) (dC (.int 3)) dIx) (zab (zad (zaf 2) (zaf 5) dIx) zaz))) ztx))
 (zax (zb8 (dC (.bl false)))
 zam)
 zam)
 zam))
 (zax (zb8 (dC (.bl true)))
 zam))))
def zeC:List D->Res D:=zdL 6 zi0
noncomputable def zkp:Ev->Res Fl :=
 (zax (zb8 (zaj (zab (zad (zaf 0) (dC (.int 0)) dIx) (zab (zad (zaf 0) (dC (.int 1)) dIx) (zab (zad (zaf 0) (dC (.int 2)) dIx) (zab (zaj (zab (zad (zaf 0) (dC (.int 3)) dIx) (zab (zaf 1) zaz)) zeP) (zab (zad (zaf 0) (dC (.int 4)) dIx) zaz))))) zeH))
 zam)
def zec:List D->Res D:=zdL 2 zkp
noncomputable def zm8:Ev->Res Fl :=
 (zax (zcm 2 (zfM 2 [] (zAm (zad (zaf 0) (dC (.int 1)) dIx) (zaf 1)) (zkJ [0,1]) mYes (zaj (zab (zaf 0) (zab (zaf 1) zaz)) zec)))
 (zax (zb8 (zaj (zab (zad (zaf 0) (dC (.int 0)) dIx) (zab (zaf 2) (zab (zad (zaf 0) (dC (.int 2)) dIx) (zab (zad (zaf 0) (dC (.int 3)) dIx) zaz)))) zeH))
 zam))
def zf2:List D->Res D:=zdL 3 zm8
noncomputable def zcy:Ev->Res Fl :=
 (zax (zkF (zaj (zab (zaf 0) (zab (zaf 1) (zab (zaf 2) (zab (zaf 3) zaz)))) zaA))
 (zax (zb8 (zaj (zab (zaj (zab (zaf 0) (zab (zaf 3) zaz)) zf2) (zab (zaj zaz zfz) (zab (zaf 4) zaz))) zeC))
 zam))
def zba:List D->Res D:=zdL 5 zcy
noncomputable def zeg:Ev->Res Fl :=
 (zax (sIf (zad (zaf 0) (dC (.int 0)) dEq)
 (zax (zb8 (zaj (zab (zaf 1) (zab (zaf 2) (zab (zaf 3) (zab (zaf 4) zaz)))) zaA))
 zam)
 zam)
 (zax (sIf (zad (zaj (zab (zaf 1) (zab (zaf 2) (zab (zaf 3) (zab (zaf 4) (zab (dC (.dic [] [])) zaz))))) zba) (dC (.bl false)) zz0)
 (zax (zb8 (dC (.str "other")))
 zam)
 zam)
 (zax (zb8 (dC (.non)))
 zam)))
def zbR:List D->Res D:=zdL 5 zeg
noncomputable def zgd:Ev->Res Fl :=
 (zax (zcm 5 (dC (.non)))
 (zax (zcm 6 (dC (.non)))
 (zax (zCX (zvO 6 (zab (zaf 0) (zab (zaf 1) (zab (zaf 2) (zab (zaf 3) (zab (zaf 4) zaz))))) zbR) (zu0 zfA) 7
 (zax (zcm 5 (zaf 7))
 zam))
 (zax (sIf (zad (zaf 5) (dC (.non)) zmV)
 (zax (zb8 (zaf 6))
 zam)
 zam)
 (zax (sIf (zbo (zaf 5) (zr4 zBu))
 (zax (zb8 (dC (.str "other")))
 zam)
 zam)
 (zax (sIf (zdQ (zbo (zaf 5) (zr4 zBt)))
 (zax (zb8 (dC (.str "other")))
 zam)
 zam)
 (zax (sIf (dOr (zdQ (zbo (zaf 5) (zr4 zBs))) (zbo (zbo (zaf 5) (zrw zzD "at")) (zcz "bool")))
 (zax (zb8 (dC (.str "other")))
 zam)
 zam)
 (zax (zb8 (zaj (zab (dC (.str "at")) (zab (zbo (zaf 5) (zrw zzD "at")) zaz)) zeH))
 zam))))))))
def zbX:List D->Res D:=zdL 8 zgd
noncomputable def zfe:Ev->Res Fl :=
 (zax (zcm 4 (zaj (zab (zaj (zab (zaf 0) (zab (zaf 1) (zab (zaf 2) (zab (zaf 3) zaz)))) zfz) zaz) (m1 zsU)))
 (zax (zcm 5 (zaj (zab (zaf 0) (zab (zaf 1) (zab (zaf 2) (zab (zaf 3) zaz)))) zaF))
 (zax (zcm 6 (zfM 1 [0,1,2,3] (zyr (zaj (zab (dC (.int 0)) (zab (dC (.int 1)) (zab (dC (.int 0)) zaz))) zfz)) (zd0 0) mYes (zaj (zab (zaf 0) (zab (zaf 1) (zab (zaf 2) (zab (zaf 3) (zab (zaf 4) zaz))))) zbX)))
 (zax (zb8 (zmX (zad (zaf 6) (zFx (zaj (zab (zaf 5) zaz) zfz) (dC (.int 3))) dEq) (zad (zaj (zab (zaj (zab (zaf 0) (zab (zaf 1) (zab (zaf 2) (zab (zaf 3) zaz)))) zfz) zaz) (m1 zsU)) (zaf 4) dEq)))
 zam))))
def zbE:List D->Res D:=zdL 7 zfe
noncomputable def zd3:Addr->Ev->List D->Res MFl:=fun a =>
 (zbb (ze6 4 (zbg 0 a (zaT (mP (zad (zaj (zab (zaf 3) zaz) (m1 zeJ)) (dC (.int 1)) zd7)) zdp) zas))
 (zbb (ze6 5 (zbg 0 a (zaT (mP (dC (.int 8))) zdp) zas))
 (zbb (zdM (zcm 6 (zaj (zab (dC (.non)) (zab (dC (.bl true)) (zab (dC (.int 0)) (zab (dC (.str "0")) (zab (zaj (zab (dC (.int 0)) (zab (dC (.int 2)) zaz)) zeH) (zab (zaj (zab (dC (.int 2)) (zab (dC (.int 4)) zaz)) zeH) (zab (zaj (zab (zbo (dC (.int 1)) zC0) (zab (dC (.int 2)) zaz)) zeH) (zab (zaj (zab (dC (.int 1)) (zab (dC (.int 0)) zaz)) zeH) (zab (zaj (zab (dC (.bl true)) (zab (dC (.int 1)) zaz)) zeH) (zab (zaj (zab (dC (.int 1)) (zab (dC (.bl true)) zaz)) zeH) (zab (zaj (zab (dC (.int 0)) (zab (dC (.int 1)) zaz)) zfz) zaz))))))))))) zfz)))
 (zbb (ze6 6 (mB (mP (zaf 6)) (zbg 0 a (zaT (mP (dC (.int 11))) zdp) zas) dIx))
 (zbb (ze6 7 (zbg 0 a (zaT (mP (dC (.int 1))) zdp) za2))
 (zbb (mIf (mT (zad (zaf 5) (dC (.int 0)) dEq))
 (zbb (zEm (mB (mP (zaj (zab (zaj (zab (zaf 3) zaz) (m1 zx1)) (zab (dC (.non)) (zab (dC (.int 5)) (zab (dC (.dic [] [])) (zab (dC (.str "spread")) zaz))))) zfz)) (zbg 0 a (zaT (mP (dC (.int 5))) zdp) zas) dIx))
 zbn)
 zbn)
 (zbb (mIf (mT (zad (zaf 5) (dC (.int 1)) dEq))
 (zbb (zgG (zad (zyt (zaf 3) zfx (zfl (zaf 4))) (zyt (zaf 3) (zfl (zad (zaf 4) (dC (.int 1)) zd7)) zfx) zd7))
 zbn)
 zbn)
 (zbb (mIf (mT (zad (zaf 5) (dC (.int 2)) dEq))
 (zbb (zgG (zad (zad (zyt (zaf 3) zfx (zfl (zaf 4))) (zaj (zab (zaj (zab (dC (.int 0)) (zab (dC (.int 1)) zaz)) zeH) zaz) zfz) zd7) (zyt (zaf 3) (zfl (zaf 4)) zfx) zd7))
 zbn)
 zbn)
 (zbb (mIf (mT (zad (zaf 4) (zaj (zab (zaf 3) zaz) (m1 zeJ)) dEq))
 (zbb (zgG (zaj (zab (zaf 3) zaz) (m1 zx2)))
 zbn)
 zbn)
 (zbb (zdM (zcm 8 (zaj (zab (zaj (zab (dC (.int 0)) (zab (dC (.int 1)) zaz)) zeH) (zab (zad (zaf 2) (zaf 4) dIx) (zab (zaj (zab (zad (zaf 2) (zaf 4) dIx) (zab (zaf 7) zaz)) za6) (zab (zaf 6) (zab (zaf 7) zaz))))) zfz)))
 (zbb (zgG (zad (zad (zyt (zaf 3) zfx (zfl (zaf 4))) (zaj (zab (zad (zaf 8) (zad (zaf 5) (dC (.int 3)) zu9) dIx) zaz) zfz) zd7) (zyt (zaf 3) (zfl (zad (zaf 4) (dC (.int 1)) zd7)) zfx) zd7))
 zbn)))))))))))
def zbw:Addr->List D->List D->Res (D×List D):=zvR 9 zd3
noncomputable def zFf:Ev->Res Fl :=
 (zax (zuw (zaj (zab (dC (.int 1)) (zab (zaj (zab (zaj (zab (zaf 0) zaz) (m1 zeJ)) (zab (dC (.int 10)) zaz)) (m2 zFC)) zaz)) (m2 zGE)) (zd0 1)
 (zll 2 (zaj (zab (zaf 0) (zab (zaf 1) zaz)) zbq) fun a=>(zbb (ze6 3 (zbg 2 a (zaT (mP (dC (.int 7))) (zaT (mP (dC (.int 14))) zdp)) zcn))
 (zbb (ze6 4 (zbg 2 a (zaT (mP (zaf 3)) zdp) zeQ))
 (zbb (ze6 5 (zbg 2 a (zaT (mP (zaf 3)) (zaT (mP (zaf 4)) zdp)) zed))
 (zbb (zdM (zcm 6 (zaj (zab (zaf 3) (zab (zaf 5) zaz)) zdY)))
 (zbb (zdM (zcm 7 (zaj (zab (zaf 6) (zab (zaf 6) (zab (zaj (zab (zaf 6) (zab (zaj (zab (dC (.int 1)) (zab (zad (dC (.int 10)) (dC (.int 6)) zug) zaz)) zeH) zaz)) za6) (zab (zaj (zab (zaf 6) (zab (zaj (zab (dC (.int 59)) (zab (dC (.int 60)) zaz)) zeH) zaz)) zbi) zaz)))) zfz)))
 (zbb (ze6 8 (mB (mB (mP (zaf 7)) (mA (zaT (zbg 2 a (zaT (mP (dC (.int 0))) zdp) za2) zdp) zfz) zd7) (zbg 2 a (zaT (mP (dC (.int 5))) zdp) zas) dIx))
 (zbb (mIf (mT (zdQ (zaj (zab (zaf 3) (zab (zaf 4) (zab (zaf 8) (zab (zaf 5) zaz)))) zbE)))
 (zbb (zgG (dC (.bl false)))
 zbn)
 zbn)
 (zbb (zoU (zzn (zim (dC (.int 8)))) (zd0 9)
 (zbb (ze6 10 (zbg 2 a (zaT (mP (zaf 3)) (zaT (mP (zaf 4)) (zaT (mP (zaf 5)) zdp))) zbw))
 (zbb (mIf (mT (zmX (zbo (zaf 10) (zcz "list")) (zmX (zad (zaj (zab (zaf 10) zaz) (m1 zeJ)) (zaj (zab (zaf 4) zaz) (m1 zeJ)) dEq) (zad (zad (zaf 9) (dC (.int 2)) zfL) (dC (.int 1)) dEq))))
 (zbb (ze6 10 (zbg 2 a (zaT (mP (zaf 3)) (zaT (mP (zaf 4)) (zaT (mP (zaf 10)) zdp))) zbw))
 zbn)
 zbn)
 (zbb (mIf (mT (zdQ (zaj (zab (zaf 3) (zab (zaf 4) (zab (zaf 8) (zab (zaf 10) zaz)))) zbE)))
 (zbb (zgG (dC (.bl false)))
 zbn)
 zbn)
 zbn))))
 zbn))))))))))
 (zax (zb8 (dC (.bl true)))
 zam))
noncomputable def zwt:List D->Res D:=zdL 11 zFf
def top (i:Nat):Stmt:=PySem.Challenge.pw_farthestcut_k51_spreads_looked_at.main.body.getD i (.Pass ⟨0,0,0,0⟩)
abbrev zgU:Stmt:=top 67
abbrev zh4:Stmt:=top 68
abbrev zgT:Stmt:=top 71
abbrev zjm:Stmt:=top 69
abbrev zfW:Stmt:=top 70
abbrev zjl:Stmt:=top 72
abbrev zjk:Stmt:=top 73
abbrev zh9:Stmt:=top 77
abbrev zgQ:Stmt:=top 76
abbrev zgS:Stmt:=top 78
abbrev zh5:Stmt:=top 74
abbrev zh7:Stmt:=top 79
abbrev zem:Stmt:=top 80
abbrev zh6:Stmt:=top 75
abbrev zc4:Stmt:=top 81
abbrev zli:Stmt:=top 16
abbrev zej:Stmt:=top 44
abbrev zjg:Stmt:=top 14
abbrev zel:Stmt:=top 10
abbrev zjh:Stmt:=top 15
abbrev zh2:Stmt:=top 39
abbrev zjf:Stmt:=top 40
abbrev zoC:Stmt:=top 38
abbrev zfh:Stmt:=top 45
abbrev zjj:Stmt:=top 46
abbrev zfT:Stmt:=top 43
abbrev zfV:Stmt:=top 42
abbrev zfi:Stmt:=top 59
abbrev zeM:Stmt:=top 51
abbrev zlj:Stmt:=top 22
abbrev zsg:Stmt:=top 19
abbrev zvN:Stmt:=top 20
abbrev zoA:Stmt:=top 23
abbrev zsf:Stmt:=top 21
abbrev zek:Stmt:=top 64
abbrev zei:Stmt:=top 63
abbrev zeN:Stmt:=top 41
abbrev zeh:Stmt:=top 52
abbrev zji:Stmt:=top 56
abbrev zbN:Stmt:=top 55
abbrev zoD:Stmt:=top 57
abbrev zfS:Stmt:=top 48
abbrev zgO:Stmt:=top 49
abbrev zfU:Stmt:=top 54
abbrev zgP:Stmt:=top 61
abbrev zh1:Stmt:=top 60
abbrev zcu:Stmt:=top 65
abbrev zgV:Stmt:=top 83
abbrev zh3:Stmt:=top 84
abbrev zgR:Stmt:=top 85
abbrev zh8:Stmt:=top 82
abbrev zoB:Stmt:=top 86
theorem zez:zay ["_law_script","_law_k","_law_cell"] ["_law_script","_law_k"] (defScope zgU):=⟨rfl,rfl,rfl,by decide +kernel,rfl,by decide +kernel,by decide +kernel⟩
theorem zdb:zay ["_law_state","_law_many","_law_digit","_law_made","_law_turn"] ["_law_state","_law_many"] (defScope zh4):=⟨rfl,rfl,rfl,by decide +kernel,rfl,by decide +kernel,by decide +kernel⟩
theorem za1:zay ["_law_state","_law_many","_law_letters","_law_long","_law_at","_law_turn","_law_step","_law_nested","_law_found","_law_k","_law_one"] ["_law_state","_law_many"] (defScope zgT):=⟨rfl,rfl,rfl,by decide +kernel,rfl,by decide +kernel,by decide +kernel⟩
theorem zeL:zay ["_law_top","_law_bottom","_law_one","_law_other"] ["_law_top","_law_bottom"] (defScope zjm):=⟨rfl,rfl,rfl,by decide +kernel,rfl,by decide +kernel,by decide +kernel⟩
theorem zb3:zay ["_law_state","_law_least","_law_way","_law_top","_law_many","_law_bottoms"] ["_law_state","_law_least"] (defScope zfW):=⟨rfl,rfl,rfl,by decide +kernel,rfl,by decide +kernel,by decide +kernel⟩
theorem zbs:zay ["_law_state","_law_names_here","_law_k","_law_many","_law_one","_law_other","_law_word","_law_length","_law_worth"] ["_law_state","_law_names_here","_law_k"] (defScope zjl):=⟨rfl,rfl,rfl,by decide +kernel,rfl,by decide +kernel,by decide +kernel⟩
theorem zbH:zay ["_law_state","_law_most","_law_more","_law_names_here","_law_many","_law_ties","_law_k","_law_first","_law_last"] ["_law_state","_law_most","_law_more"] (defScope zjk):=⟨rfl,rfl,rfl,by decide +kernel,rfl,by decide +kernel,by decide +kernel⟩
theorem zeb:zay ["_law_state","_law_web_here","_law_found","_law_tie_here","_law_one"] ["_law_state","_law_web_here"] (defScope zh9):=⟨rfl,rfl,rfl,by decide +kernel,rfl,by decide +kernel,by decide +kernel⟩
theorem zio:zay ["_law_one","_law_other"] ["_law_one","_law_other"] (defScope zgQ):=⟨rfl,rfl,rfl,by decide +kernel,rfl,by decide +kernel,by decide +kernel⟩
theorem zcl:zay ["_law_state","_law_web_here","_law_adds_here","_law_found","_law_k","_law_share"] ["_law_state","_law_web_here","_law_adds_here"] (defScope zgS):=⟨rfl,rfl,rfl,by decide +kernel,rfl,by decide +kernel,by decide +kernel⟩
theorem zjS:zay ["_law_one","_law_other"] ["_law_one","_law_other"] (defScope zh5):=⟨rfl,rfl,rfl,by decide +kernel,rfl,by decide +kernel,by decide +kernel⟩
theorem zea:zay ["_law_web_here","_law_parts_here","_law_total","_law_k"] ["_law_web_here","_law_parts_here"] (defScope zh7):=⟨rfl,rfl,rfl,by decide +kernel,rfl,by decide +kernel,by decide +kernel⟩
theorem zdT:zay ["_law_thing","_law_one"] ["_law_thing"] (defScope zem):=⟨rfl,rfl,rfl,by decide +kernel,rfl,by decide +kernel,by decide +kernel⟩
theorem zjT:zay ["_law_one","_law_other"] ["_law_one","_law_other"] (defScope zh6):=⟨rfl,rfl,rfl,by decide +kernel,rfl,by decide +kernel,by decide +kernel⟩
theorem zct:zay ["_law_web_here","_law_adds_here","_law_purse","_law_thing","_law_k"] ["_law_web_here","_law_adds_here","_law_purse","_law_thing"] (defScope zc4):=⟨rfl,rfl,rfl,by decide +kernel,rfl,by decide +kernel,by decide +kernel⟩
theorem znE:zay ["thing"] ["thing"] (defScope zli):=⟨rfl,rfl,rfl,by decide +kernel,rfl,by decide +kernel,by decide +kernel⟩
theorem zck:zay ["places","number","place"] ["places"] (defScope zej):=⟨rfl,rfl,rfl,by decide +kernel,rfl,by decide +kernel,by decide +kernel⟩
theorem zle:zay ["thing"] ["thing"] (defScope zjg):=⟨rfl,rfl,rfl,by decide +kernel,rfl,by decide +kernel,by decide +kernel⟩
theorem zbe:zay ["one","other","larger","smaller","rest"] ["one","other"] (defScope zel):=⟨rfl,rfl,rfl,by decide +kernel,rfl,by decide +kernel,by decide +kernel⟩
theorem zlf:zay ["thing"] ["thing"] (defScope zjh):=⟨rfl,rfl,rfl,by decide +kernel,rfl,by decide +kernel,by decide +kernel⟩
theorem zjR:zay ["thing"] ["thing"] (defScope zh2):=⟨rfl,rfl,rfl,by decide +kernel,rfl,by decide +kernel,by decide +kernel⟩
theorem zld:zay ["thing"] ["thing"] (defScope zjf):=⟨rfl,rfl,rfl,by decide +kernel,rfl,by decide +kernel,by decide +kernel⟩
theorem zp7:zay ["thing"] ["thing"] (defScope zoC):=⟨rfl,rfl,rfl,by decide +kernel,rfl,by decide +kernel,by decide +kernel⟩
theorem zdq:zay ["ties","places","number","tie"] ["ties","places"] (defScope zfh):=⟨rfl,rfl,rfl,by decide +kernel,rfl,by decide +kernel,by decide +kernel⟩
theorem zlh:zay ["thing","places"] ["thing","places"] (defScope zjj):=⟨rfl,rfl,rfl,by decide +kernel,rfl,by decide +kernel,by decide +kernel⟩
theorem zhK:zay ["thing"] ["thing"] (defScope zfT):=⟨rfl,rfl,rfl,by decide +kernel,rfl,by decide +kernel,by decide +kernel⟩
theorem zhL:zay ["web","thing"] ["web","thing"] (defScope zfV):=⟨rfl,rfl,rfl,by decide +kernel,rfl,by decide +kernel,by decide +kernel⟩
theorem zgM:zay ["web","thing"] ["web","thing"] (defScope zfi):=⟨rfl,rfl,rfl,by decide +kernel,rfl,by decide +kernel,by decide +kernel⟩
theorem zgf:zay ["thing"] ["thing"] (defScope zeM):=⟨rfl,rfl,rfl,by decide +kernel,rfl,by decide +kernel,by decide +kernel⟩
theorem znF:zay ["one","other"] ["one","other"] (defScope zlj):=⟨rfl,rfl,rfl,by decide +kernel,rfl,by decide +kernel,by decide +kernel⟩
theorem zkM:zay ["top","bottom","divisor"] ["top","bottom"] (defScope zsg):=⟨rfl,rfl,rfl,by decide +kernel,rfl,by decide +kernel,by decide +kernel⟩
theorem zvM:zay ["one","other"] ["one","other"] (defScope zvN):=⟨rfl,rfl,rfl,by decide +kernel,rfl,by decide +kernel,by decide +kernel⟩
theorem zgL:zay ["some","total","one"] ["some"] (defScope zoA):=⟨rfl,rfl,rfl,by decide +kernel,rfl,by decide +kernel,by decide +kernel⟩
theorem ztg:zay ["one","other"] ["one","other"] (defScope zsf):=⟨rfl,rfl,rfl,by decide +kernel,rfl,by decide +kernel,by decide +kernel⟩
theorem zft:zay ["web","spread"] ["web","spread"] (defScope zek):=⟨rfl,rfl,rfl,by decide +kernel,rfl,by decide +kernel,by decide +kernel⟩
theorem zbM:zay ["web","adds","purse","thing","number","more","most"] ["web","adds","purse","thing"] (defScope zei):=⟨rfl,rfl,rfl,by decide +kernel,rfl,by decide +kernel,by decide +kernel⟩
theorem zgg:zay ["web","thing"] ["web","thing"] (defScope zeN):=⟨rfl,rfl,rfl,by decide +kernel,rfl,by decide +kernel,by decide +kernel⟩
theorem zbL:zay ["web","thing","ahead","number"] ["web","thing"] (defScope zeh):=⟨rfl,rfl,rfl,by decide +kernel,rfl,by decide +kernel,by decide +kernel⟩
theorem zlg:zay ["thing"] ["thing"] (defScope zji):=⟨rfl,rfl,rfl,by decide +kernel,rfl,by decide +kernel,by decide +kernel⟩
theorem zcB:zay ["places","thing"] ["places","thing"] (defScope zbN):=⟨rfl,rfl,rfl,by decide +kernel,rfl,by decide +kernel,by decide +kernel⟩
theorem zp8:zay ["here","length","there"] ["here","length","there"] (defScope zoD):=⟨rfl,rfl,rfl,by decide +kernel,rfl,by decide +kernel,by decide +kernel⟩
theorem zfg:zay ["tie","there"] ["tie"] (defScope zfS):=⟨rfl,rfl,rfl,by decide +kernel,rfl,by decide +kernel,by decide +kernel⟩
theorem zbV:zay ["web","taken","steps","number","tie","here","there"] ["web","taken"] (defScope zgO):=⟨rfl,rfl,rfl,by decide +kernel,rfl,by decide +kernel,by decide +kernel⟩
theorem zcC:zay ["web","taking","thing","number","here","there"] ["web","taking","thing"] (defScope zfU):=⟨rfl,rfl,rfl,by decide +kernel,rfl,by decide +kernel,by decide +kernel⟩
theorem zin:zay ["tie","more"] ["tie","more"] (defScope zgP):=⟨rfl,rfl,rfl,by decide +kernel,rfl,by decide +kernel,by decide +kernel⟩
theorem zgN:zay ["web","more","ties"] ["web","more"] (defScope zh1):=⟨rfl,rfl,rfl,by decide +kernel,rfl,by decide +kernel,by decide +kernel⟩
theorem zd9:zay ["web","adds","purse","spread","thing"] ["web","adds","purse","spread","thing"] (defScope zcu):=⟨rfl,rfl,rfl,by decide +kernel,rfl,by decide +kernel,by decide +kernel⟩
theorem ziq:zay ["_law_asked_here","_law_web_here","_law_adds_here","_law_purse","_law_thing"] ["_law_asked_here","_law_web_here","_law_adds_here","_law_purse","_law_thing"] (defScope zgV):=⟨rfl,rfl,rfl,by decide +kernel,rfl,by decide +kernel,by decide +kernel⟩
theorem zcc:zay ["_law_asked_here","_law_web_here","_law_adds_here","_law_purse","_law_thing","_law_caught","_law_found","e"] ["_law_asked_here","_law_web_here","_law_adds_here","_law_purse","_law_thing"] (defScope zh3):=⟨rfl,rfl,rfl,by decide +kernel,rfl,by decide +kernel,by decide +kernel⟩
theorem zdr:zay ["_law_web_here","_law_adds_here","_law_purse","_law_thing","_law_kept","_law_due","_law_told_here"] ["_law_web_here","_law_adds_here","_law_purse","_law_thing"] (defScope zgR):=⟨rfl,rfl,rfl,by decide +kernel,rfl,by decide +kernel,by decide +kernel⟩
theorem zbQ:zay ["_law_state","_law_web_here","_law_adds_here","_law_parts_here","_law_at","_law_kind","_law_odd","_law_one","_law_some"] ["_law_state","_law_web_here","_law_adds_here","_law_parts_here"] (defScope zh8):=⟨rfl,rfl,rfl,by decide +kernel,rfl,by decide +kernel,by decide +kernel⟩
theorem zfs:zay ["_law_script","_law_k","_law_state","_law_web_here","_law_adds_here","_law_parts_here","_law_cost_here","_law_some","_law_purse","_law_turn","_law_thing"] ["_law_script"] (defScope zoB):=⟨rfl,rfl,rfl,by decide +kernel,rfl,by decide +kernel,by decide +kernel⟩
abbrev zdS:Stmt:=zCi (top 7) 0
theorem zp6:zay ["self","at"] ["self","at"] (defScope zdS):=⟨rfl,rfl,rfl,by decide +kernel,rfl,by decide +kernel,by decide +kernel⟩
set_option genInjectivity false in
set_option genSizeOfSpec false in
structure Adr where
 zbI:Addr
 zie:FuncData
 za5:Addr
 zc2:Addr
 zeq:Addr
 zb1:Addr
 zap:Addr
 zbA:Addr
 zep:Addr
 zkz:Addr
 zkm:FuncData
 zng:Addr
 zmP:FuncData
 zky:Addr
 zkl:FuncData
 zoo:Addr
 zob:FuncData
 zja:Addr
 ziU:FuncData
 zon:Addr
 zoa:FuncData
 zom:Addr
 zn9:FuncData
 znl:Addr
 zmU:FuncData
 zkv:Addr
 zki:FuncData
 zkx:Addr
 zkk:FuncData
 znh:Addr
 zmQ:FuncData
 znj:Addr
 zmS:FuncData
 zgE:Addr
 zgt:FuncData
 zni:Addr
 zmR:FuncData
 ze5:Addr
 ze1:FuncData
 zrV:Addr
 zru:FuncData
 zgB:Addr
 zgq:FuncData
 zoi:Addr
 zn5:FuncData
 zgD:Addr
 zgs:FuncData
 zoj:Addr
 zn6:FuncData
 zne:Addr
 zmN:FuncData
 zoh:Addr
 zn4:FuncData
 zum:Addr
 zue:FuncData
 zhW:Addr
 zhR:FuncData
 zol:Addr
 zn8:FuncData
 zi7:Addr
 ziR:FuncData
 zi9:Addr
 ziT:FuncData
 zhX:Addr
 zhS:FuncData
 zhn:Addr
 zhc:FuncData
 zrW:Addr
 zrv:FuncData
 zym:Addr
 zxZ:FuncData
 zA2:Addr
 zAV:FuncData
 zul:Addr
 zud:FuncData
 zyl:Addr
 zxY:FuncData
 zgC:Addr
 zgr:FuncData
 zgA:Addr
 zgp:FuncData
 zho:Addr
 zhd:FuncData
 zgz:Addr
 zgo:FuncData
 zok:Addr
 zn7:FuncData
 zdn:Addr
 zdk:FuncData
 zun:Addr
 zuf:FuncData
 zi6:Addr
 ziQ:FuncData
 zkt:Addr
 zkg:FuncData
 zi8:Addr
 ziS:FuncData
 zku:Addr
 zkh:FuncData
 znd:Addr
 zmM:FuncData
 zex:Addr
 zew:FuncData
 zkA:Addr
 zkn:FuncData
 znf:Addr
 zmO:FuncData
 zkw:Addr
 zkj:FuncData
 znk:Addr
 zmT:FuncData
 zvl:Addr
 zx0:FuncData
set_option genInjectivity false in
set_option genSizeOfSpec false in
structure Txt (K:sab) (mg:Str->Option Value) (t:Adr):Prop where
 zkc:FT K mg "_law_begun" zgU ["_law_script","_law_k"] t.zkz t.zkm
 zaG:FT K mg "_law_take" zh4 ["_law_state","_law_many"] t.zng t.zmP
 zkb:FT K mg "_law_names" zgT ["_law_state","_law_many"] t.zky t.zkl
 zfB:FT K mg "_law_low" zjm ["_law_top","_law_bottom"] t.zoo t.zob
 zco:FT K mg "_law_amount" zfW ["_law_state","_law_least"] t.zja t.ziU
 znX:FT K mg "_law_tie" zjl ["_law_state","_law_names_here","_law_k"] t.zon t.zoa
 znW:FT K mg "_law_web" zjk ["_law_state","_law_most","_law_more"] t.zom t.zn9
 zlO:FT K mg "_law_adds" zh9 ["_law_state","_law_web_here"] t.znl t.zmU
 zfc:FT K mg "_law_times" zgQ ["_law_one","_law_other"] t.zkv t.zki
 zka:FT K mg "_law_parts" zgS ["_law_state","_law_web_here","_law_adds_here"] t.zkx t.zkk
 zf6:FT K mg "_law_plus" zh5 ["_law_one","_law_other"] t.znh t.zmQ
 zig:FT K mg "_law_cost" zh7 ["_law_web_here","_law_parts_here"] t.znj t.zmS
 zgl:FT K mg "_law_is_length" zem ["_law_thing"] t.zgE t.zgt
 zif:FT K mg "_law_less" zh6 ["_law_one","_law_other"] t.zni t.zmR
 zeT:FT K mg "_law_spread_wrong" zc4 ["_law_web_here","_law_adds_here","_law_purse","_law_thing"] t.ze5 t.ze1
 zg5:FT K mg "is_name" zli ["thing"] t.zrV t.zru
 zgj:FT K mg "look_at_places" zej ["places"] t.zgB t.zgq
 zeI:FT K mg "is_whole" zjg ["thing"] t.zoi t.zn5
 zes:FT K mg "common_divisor" zel ["one","other"] t.zgD t.zgs
 zhx:FT K mg "is_ratio" zjh ["thing"] t.zoj t.zn6
 zeS:FT K mg "is_length" zh2 ["thing"] t.zne t.zmN
 znU:FT K mg "is_worth" zjf ["thing"] t.zoh t.zn4
 ztO:FT K mg "is_tie" zoC ["thing"] t.zum t.zue
 zhP:FT K mg "look_at_ties" zfh ["ties","places"] t.zhW t.zhR
 zjB:FT K mg "is_place" zjj ["thing","places"] t.zol t.zn8
 zf5:FT K mg "look_at_web" zfT ["thing"] t.zi7 t.ziR
 ziC:FT K mg "has_lengths" zfV ["web","thing"] t.zi9 t.ziT
 zhQ:FT K mg "look_at_adds" zfi ["web","thing"] t.zhX t.zhS
 zg3:FT K mg "look_at_purse" zeM ["thing"] t.zhn t.zhc
 ziB:FT K mg "is_less" zlj ["one","other"] t.zrW t.zrv
 zsO:FT K mg "ratio" zsg ["top","bottom"] t.zym t.zxZ
 ztN:FT K mg "plus" zvN ["one","other"] t.zA2 t.zAV
 ztM:FT K mg "sum_of" zoA ["some"] t.zul t.zud
 zwX:FT K mg "times" zsf ["one","other"] t.zyl t.zxY
 zgk:FT K mg "cost_of_spread" zek ["web","spread"] t.zgC t.zgr
 zer:FT K mg "look_at_spread" zei ["web","adds","purse","thing"] t.zgA t.zgp
 zg4:FT K mg "is_tie_number" zeN ["web","thing"] t.zho t.zhd
 zgi:FT K mg "look_at_taking" zeh ["web","thing"] t.zgz t.zgo
 znV:FT K mg "is_price" zji ["thing"] t.zok t.zn7
 zdh:FT K mg "prices_just_the_places" zbN ["places","thing"] t.zdn t.zdk
 ztP:FT K mg "is_let" zoD ["here","length","there"] t.zun t.zuf
 ziz:FT K mg "steps_along" zfS ["tie"] t.zi6 t.ziQ
 zj8:FT K mg "steps_left" zgO ["web","taken"] t.zkt t.zkg
 ziA:FT K mg "lets_prices" zfU ["web","taking","thing"] t.zi8 t.ziS
 zj9:FT K mg "longer_tie" zgP ["tie","more"] t.zku t.zkh
 zlM:FT K mg "longer_by" zh1 ["web","more"] t.znd t.zmM
 zeu:FT K mg "lets_spread_prices" zcu ["web","adds","purse","spread","thing"] t.zex t.zew
 zkd:FT K mg "_law_asked" zgV ["_law_asked_here","_law_web_here","_law_adds_here","_law_purse","_law_thing"] t.zkA t.zkn
 zlN:FT K mg "_law_told" zh3 ["_law_asked_here","_law_web_here","_law_adds_here","_law_purse","_law_thing"] t.znf t.zmO
 zg6:FT K mg "_law_right" zgR ["_law_web_here","_law_adds_here","_law_purse","_law_thing"] t.zkw t.zkj
 zih:FT K mg "_law_bent" zh8 ["_law_state","_law_web_here","_law_adds_here","_law_parts_here"] t.znk t.zmT
 zED:FT K mg "law" zoB ["_law_script"] t.zvl t.zx0
 n_ValueError:mg "ValueError"=none
 n_abs:mg "abs"=none
 n_all:mg "all"=none
 n_bool:mg "bool"=none
 n_dict:mg "dict"=none
 n_enumerate:mg "enumerate"=none
 n_int:mg "int"=none
 n_isinstance:mg "isinstance"=none
 n_len:mg "len"=none
 n_list:mg "list"=none
 n_max:mg "max"=none
 n_min:mg "min"=none
 n_range:mg "range"=none
 n_repr:mg "repr"=none
 n_str:mg "str"=none
 n_tuple:mg "tuple"=none
 n_zip:mg "zip"=none
 znT:mg "CutError"=some (.ref t.za5)
 zuZ:zr6 K "CutError" t.za5
 zzB:mg "NoAdds"=some (.ref t.zc2)
 zzw:zr6 K "NoAdds" t.zc2
 zCn:mg "NoMix"=some (.ref t.zeq)
 zCk:zr6 K "NoMix" t.zeq
 zwQ:mg "NoPurse"=some (.ref t.zb1)
 zwM:zr6 K "NoPurse" t.zb1
 zhv:mg "NoSpread"=some (.ref t.zap)
 zuY:zr6 K "NoSpread" t.zap
 zu1:mg "NoTaking"=some (.ref t.zbA)
 zuX:zr6 K "NoTaking" t.zbA
 zCm:mg "NoWeb"=some (.ref t.zep)
 zCj:zr6 K "NoWeb" t.zep
 zbd:zCR K "NoSpread" t.zap
 zs6:Fun K "__init__" "NoSpread.__init__" zdS t.zbI t.zie
 ze4:zjc K t.zie ["self","at"] []
 zhY:XIn K t.zap t.zbI
 zeK:XSt K t.zap ["at"]
 zhZ:W.isFn K (.ref t.zbI)=true
 zr8:zCS K t.za5
 zc8:sa0 K (.ref t.zap) (.ref t.za5)=some true
 zdU:sa0 K (.ref t.zap) (.ref t.zc2)=some false
 zeo:sa0 K (.ref t.zap) (.ref t.zeq)=some false
 zds:sa0 K (.ref t.zap) (.ref t.zb1)=some false
 zc7:sa0 K (.ref t.zap) (.ref t.zap)=some true
 zc6:sa0 K (.ref t.zap) (.ref t.zbA)=some false
 zen:sa0 K (.ref t.zap) (.ref t.zep)=some false
 ze2:Kon K mg "FEWEST_PLACES" (.int 2)
 zjJ:Kon K mg "FIRST" (.int 2)
 zrK:Kon K mg "LAST" (.int 3)
 ziX:Kon K mg "LENGTH" (.int 3)
 zm6:Kon K mg "LETTERS" (.str "abcdefghijklmnopqrstuvwxyz")
 zfo:Kon K mg "LONGEST_NAME" (.int 8)
 zgc:Kon K mg "MOST_PLACES" (.int 7)
 zii:Kon K mg "MOST_TIES" (.int 14)
 ziW:Kon K mg "NOUGHT" (.tup [(.int 0),(.int 1)])
 zrJ:Kon K mg "ONE" (.int 0)
 zhh:Kon K mg "OTHER" (.int 1)
 zfd:Kon K mg "PLACES" (.int 0)
 zgu:Kon K mg "TIES" (.int 1)
 zoc:Kon K mg "WORD" (.int 2)
 zsY:Kon K mg "WORDS" (.tup [(.str "one"),(.str "both")])
 zhg:Kon K mg "WORTH" (.int 4)
section
variable {P:Program}{w:World}{K:sab}{mg:Str->Option Value}{base:Heap}{t:Adr}
theorem zlJ (T:Txt K mg t):∀ x C,zu0 zfA x=true->XC K x C->W.exmOne K (.ref C) (.ref t.za5)=some true :=
 zzy fun q hq=>by
  unfold zfA at hq;simp only[sam,saU,or_false] at hq;rcases hq with rfl
  .exact⟨t.zap,T.zbd.xc,T.zuZ.exm T.zc8⟩
theorem zyQ (T:Txt K mg t):zyo K zBu [t.zep,t.zc2,t.zb1,t.zbA,t.zeq] :=
 zfq (p:=fun _ C b=>W.kitAny K (.ref C) ([t.zep,t.zc2,t.zb1,t.zbA,t.zeq].map saI)=some b) fun q hq=>by
  simp only[sam,saU,or_false] at hq;rcases hq with rfl
  .exact⟨t.zap,T.zbd.xc,(ziv (T.zCj.kit T.zbd.self T.zen) (ziv (T.zzw.kit T.zbd.self T.zdU) (ziv (T.zwM.kit T.zbd.self T.zds) (ziv (T.zuX.kit T.zbd.self T.zc6) (ziv (T.zCk.kit T.zbd.self T.zeo) zuS)))))⟩
theorem zyP (T:Txt K mg t):zvo K zBt (.type "ValueError") :=
 zfq (p:=fun _ C b=>sc6 K (.ref C) (.type "ValueError")=some b) fun q hq=>by
  simp only[sam,saU,or_false] at hq;rcases hq with rfl
  .exact⟨t.zap,T.zbd.xc,zAA zuR T.zbd.ve⟩
theorem zyO (T:Txt K mg t):zvo K zBs (.ref t.zap) :=
 zfq (p:=fun _ C b=>sc6 K (.ref C) (.ref t.zap)=some b) fun q hq=>by
  simp only[sam,saU,or_false] at hq;rcases hq with rfl
  .exact⟨t.zap,T.zbd.xc,T.zuY.kit T.zbd.self T.zc7⟩
theorem ztH (T:Txt K mg t):zFp K zzD "at" :=
 zfq (p:=fun _ C _=>scm K C=true/\zjb K C "at") fun q hq=>by
  simp only[sam,saU,or_false] at hq;rcases hq with rfl
  .exact⟨t.zap,T.zbd.xc,T.zeK.hd,T.zeK.no _ (by decide)⟩
theorem zf4 (T:Txt K mg t):zbP P w K mg base CX0 1 t.zbI t.zie ["self","at"] (zFu K ["at"]) :=
 zGt T.zs6 zp6 rfl (by decide) fun cdv A outer s0 H E=>(zFJ (i:=1) T.zr8 rfl T.znT (zvY (i:=1) rfl (sas rfl) zDO) rfl rfl (sas rfl) (sas rfl) zC7)
theorem znw (T:Txt K mg t):zbP P w K mg base CX0 1 t.zkz t.zkm ["_law_script","_law_k"] (spF K 2 zbq) :=
 zu2 T.zkc.F zez fun cdv A outer s0 H Ha E hr=>(
 (zrq (za7 (i:=2) zez.nd rfl (sas rfl) zae)
 (zrq (zbx (za3 zuD (zcv fun _ _ _ _=>rb _) (dv 1) (zaM zaY zbS rfl T.n_len PyProof.Rows.Boot.«len» (zaa (dv 0) zai)) nm)
 (zac (za7 (i:=2) zez.nd rfl (sas rfl) (zah (dv 0) (dv 1)))
 zag)
 zag)
 (zxQ (zmL (zaa (dv 2) (zaa (zfK (zcr (zcr (zfK (dv 2) zae) (zc0 (zc0 zae (dv 1)) (dv 1))) zae) zae) (zaa (zdj zzd (zcv fun _ _ _ _=>rb _) (dv 2) (zuc zae zae) nm) zai))))))))
theorem zaE (T:Txt K mg t):zbP P w K mg base CX0 1 t.zng t.zmP ["_law_state","_law_many"] (spM K 1 zas) :=
 zdg T.zaG.F zdb rfl fun cdv A outer s0 H He Ha a E hr=>(
 (zal (zlb (zzU (i:=0) (E:=E0) (zaZ (zah (dv 0) zae)))
 (zal (zbC (i:=2) zdb.nd rfl (sas rfl) (zmJ (i:=0) (E:=E0) (zfK (zah (dv 0) zae) (dv 1))))
 (zal (zvJ (i:=0) rfl (sas rfl) (zmJ (i:=0) (E:=E0) (zn3 (zah (dv 0) zae) (dv 1))) (zau (E:=E0) zae))
 (zal (zvJ (i:=0) rfl (sas rfl) (zmJ (i:=0) (E:=E0) (zdj zwe (zcv fun _ _ _ _=>rb _) (zah (dv 0) zae) zae nm)) (zau (E:=E0) zae))
 (zal (zdR (E:=E0) (dv 2))
 zaX))))
 zaX)
 (zal (zbG (E:=E0) fun vs=>(za7 (i:=3) zdb.nd rfl (sas rfl) zae))
 (zal (zlc (E:=E0) saM rfl (zly (E:=E0) (ziP rfl T.n_range (zcr zae (zc0 zae (zpk zyd zFc rfl T.n_int PyProof.Rows.Boot.«int» (zaa (zdj zwe (zcv fun _ _ _ _=>rb _) (dv 1) (zuc zae zae) nm) zai)))))) (fun vs=>(zb6 (i:=4) zdb.nd rfl (sas rfl))) zb0
 (zal (zvJ (i:=0) rfl (sas rfl) (zmJ (i:=0) (E:=E0) (zfK (zcr (zc0 (zah (dv 0) zae) zae) zae) zae)) (zau (E:=E0) zae))
 (zal (zbC (i:=3) zdb.nd rfl (sas rfl) (zmJ (i:=0) (E:=E0) (zcr (zc0 (dv 3) zae) (zfK (zc0 (zah (dv 0) zae) (zah (dv 0) zae)) zae))))
 zaX)))
 (zal (zdR (E:=E0) (zfK (zn3 (dv 3) zae) (dv 1)))
 zaX)))))
theorem zoQ (T:Txt K mg t):zbP P w K mg base CX0 2 t.zky t.zkl ["_law_state","_law_many"] (spM K 1 zde) :=
 zdg T.zkb.F za1 rfl fun cdv A outer s0 H He Ha a E hr=>(
 (zal (zBC (i:=2) za1.nd rfl rfl (zHH (E:=E0) ["_law_k","_law_state"] 1 [0] rfl (zly (E:=E0) (ziP rfl T.n_range zae)) (zhr (by decide)) (fun s H C fp pn=>⟨fun He H0e=>(zb6 (i:=0) (show sb1 (["_law_k","_law_state"]:List Str) from by decide) rfl (sas rfl)),fun He H0e=>(qm 1 (E:=E0) ((zaE T).mono (by decide:1<=1)) hr T.zaG zaK (zaC (zau (E:=E0) zae) zaS) am1)⟩) ⟨rfl,rfl⟩ rfl rfl rfl rfl) zvd)
 (zal (zbC (i:=3) za1.nd rfl (sas rfl) (zn1 (zau (E:=E0) zae) (qm 0 (E:=E0) ((zaE T).mono (by decide:1<=1)) hr T.zaG zaK (zaC (zau (E:=E0) zae) zaS) am1)))
 (zal (zbC (i:=4) za1.nd rfl (sas rfl) (qm 0 (E:=E0) ((zaE T).mono (by decide:1<=1)) hr T.zaG zaK (zaC (zau (E:=E0) (dv 3)) zaS) am1))
 (zal (zbC (i:=5) za1.nd rfl (sas rfl) (qm 0 (E:=E0) ((zaE T).mono (by decide:1<=1)) hr T.zaG zaK (zaC (zau (E:=E0) zae) zaS) am1))
 (zal (zbC (i:=6) za1.nd rfl (sas rfl) (zha (zau (E:=E0) (zdi (zaa zae (zaa zae (zaa zae (zaa zae (zaa zae (zaa zae zai)))))))) (qm 0 (E:=E0) ((zaE T).mono (by decide:1<=1)) hr T.zaG zaK (zaC (zau (E:=E0) zae) zaS) am1)))
 (zal (zbC (i:=7) za1.nd rfl (sas rfl) (zEZ (E:=E0) (zdt hr.units) zf0 (qm 0 (E:=E0) ((zaE T).mono (by decide:1<=1)) hr T.zaG zaK (zaC (zau (E:=E0) zae) zaS) am1) (zau (E:=E0) zae) nm))
 (zal (zbG (E:=E0) fun vs=>(zmG (i:=8) za1.nd rfl (sas rfl) (zmL zai)))
 (zal (zbG (E:=E0) fun vs=>(zpi saM rfl rfl T.n_range (dv 1) (zb6 (i:=9) za1.nd rfl (sas rfl)) zb0
 (zac (zmG (i:=10) za1.nd rfl (sas rfl) (zub (dv 2) zga (zf9 (dv 3))))
 (zac (zEU (i:=10) rfl (sas rfl) (zfK (zcr (dv 5) (zc0 (dv 6) (dv 9))) zae) (dv 4))
 (zac (zbx (zaZ (dv 7))
 (zac (zmG (i:=10) za1.nd rfl (sas rfl) (zub (dv 2) zga (zf9 (zcr zae (zfK (zcr (dv 5) (dv 9)) zae)))))
 zag)
 zag)
 (zac (zEW 10 (zmI (i:=8) rfl (sas rfl) (zCy zev (zaa (zxX (zCC ["_law_letter"] 1 [] rfl (zmK (dv 10)) (zhr (by decide)) (fun s H C fp pn=>⟨fun He H0e=>(zb6 (i:=0) (show sb1 (["_law_letter"]:List Str) from by decide) rfl (sas rfl)),zjH,(zah zev (dv 0))⟩) ⟨rfl,rfl⟩ rfl rfl rfl rfl)) zai))))
 zag))))))
 (zal (zdR (E:=E0) (dv 8))
 zaX))))))))))
theorem zfZ (T:Txt K mg t):zbP P w K mg base CX0 1 t.zoo t.zob ["_law_top","_law_bottom"] (spD K 2 za4) :=
 zaB T.zfB.F zeL fun cdv A outer s0 H Ha E hr=>(
 (zac (za7 (i:=2) zeL.nd rfl (sas rfl) (zaM zpt zx9 rfl T.n_abs PyProof.Rows.Boot.«abs» (zaa (dv 0) zai)))
 (zac (za7 (i:=3) zeL.nd rfl (sas rfl) (dv 1))
 (zac (zt8 _ saM (za3 (zgh hr.units) zkI (dv 3) zae nm)
 (zac (zEV (i:=2) (j:=3) rfl zeL.nd rfl rfl (by decide) rfl rfl (zaa (dv 3) (zaa (zfK (dv 2) (dv 3)) zai)) rfl)
 zag))
 (zac (zaN (zbr (zaa (zn3 (dv 0) (dv 2)) (zaa (zn3 (dv 1) (dv 2)) zai))))
 zag)))))
theorem zcD (T:Txt K mg t):zbP P w K mg base CX0 2 t.zja t.ziU ["_law_state","_law_least"] (spM K 1 za2) :=
 zdg T.zco.F zb3 rfl fun cdv A outer s0 H He Ha a E hr=>(
 (zal (zbC (i:=2) zb3.nd rfl (sas rfl) (qm 0 (E:=E0) ((zaE T).mono (by decide:1<=1)) hr T.zaG zaK (zaC (zau (E:=E0) zae) zaS) am1))
 (zal (zbC (i:=3) zb3.nd rfl (sas rfl) (zn1 (zau (E:=E0) (dv 1)) (qm 0 (E:=E0) ((zaE T).mono (by decide:1<=1)) hr T.zaG zaK (zaC (zau (E:=E0) (zah (zdi (zaa zae (zaa zae (zaa zae (zaa zae (zaa zae (zaa (zuc zae zae) zai))))))) (dv 2))) zaS) am1)))
 (zal (zbG (E:=E0) fun vs=>(za7 (i:=4) zb3.nd rfl (sas rfl) (zah (zdi (zaa zae (zaa zae (zaa zae (zaa zae (zaa zae (zaa zae zai))))))) (dv 2))))
 (zal (zbG (E:=E0) fun vs=>(za7 (i:=5) zb3.nd rfl (sas rfl) (zdi (zaa zae (zaa zae (zaa zae (zaa zae (zaa zae (zaa zae (zaa zae (zaa zae (zaa zae (zaa zae (zaa zae (zaa zae zai)))))))))))))))
 (zal (zAn (qmc (E:=E0) ((zfZ T).mono (by decide:1<=1)) hr T.zfB zaK (zaC (zau (E:=E0) (dv 3)) (zaC (zha (zau (E:=E0) (dv 5)) (qm 0 (E:=E0) ((zaE T).mono (by decide:1<=1)) hr T.zaG zaK (zaC (zau (E:=E0) (dv 4)) zaS) am1)) zaS)) am2))
 zaX))))))
theorem zsv (T:Txt K mg t):zbP P w K mg base CX0 3 t.zon t.zoa ["_law_state","_law_names_here","_law_k"] (spM K 2 zb5) :=
 zdg T.znX.F zbs rfl fun cdv A outer s0 H He Ha a E hr=>(
 (zal (zbG (E:=E0) fun vs=>(za7 (i:=3) zbs.nd rfl (sas rfl) (zaM zaY zbS rfl T.n_len PyProof.Rows.Boot.«len» (zaa (dv 1) zai))))
 (zal (zbC (i:=4) zbs.nd rfl (sas rfl) (qm 0 (E:=E0) ((zaE T).mono (by decide:1<=2)) hr T.zaG zaK (zaC (zau (E:=E0) (dv 3)) zaS) am1))
 (zal (zbC (i:=5) zbs.nd rfl (sas rfl) (zAR (zn1 (zau (E:=E0) (zcr (dv 4) zae)) (qm 0 (E:=E0) ((zaE T).mono (by decide:1<=2)) hr T.zaG zaK (zaC (zau (E:=E0) (zrs (dv 3) zae)) zaS) am1)) (zau (E:=E0) (dv 3))))
 (zal (zlb (zsS (E:=E0) (zdt hr.units) zf0 (qm 0 (E:=E0) ((zaE T).mono (by decide:1<=2)) hr T.zaG zaK (zaC (zau (E:=E0) zae) zaS) am1) (zau (E:=E0) zae) nm)
 (zal (zbG (E:=E0) fun vs=>(za7 (i:=4) zbs.nd rfl (sas rfl) (zfK (dv 2) (dv 3))))
 (zal (zbG (E:=E0) fun vs=>(za7 (i:=5) zbs.nd rfl (sas rfl) (zfK (zcr (dv 2) zae) (dv 3))))
 zaX))
 zaX)
 (zal (zbC (i:=6) zbs.nd rfl (sas rfl) (zha (zau (E:=E0) (zdi (zaa zev (zaa zev zai)))) (qm 0 (E:=E0) ((zaE T).mono (by decide:1<=2)) hr T.zaG zaK (zaC (zau (E:=E0) zae) zaS) am1)))
 (zal (zbC (i:=7) zbs.nd rfl (sas rfl) (qm 0 (E:=E0) ((zcD T).mono (by decide:2<=2)) hr T.zco zaK (zaC (zau (E:=E0) zae) zaS) am1))
 (zal (zbC (i:=8) zbs.nd rfl (sas rfl) (qm 0 (E:=E0) ((zcD T).mono (by decide:2<=2)) hr T.zco zaK (zaC (zau (E:=E0) zae) zaS) am1))
 (zal (zlb (zsS (E:=E0) (zdt hr.units) zf0 (qm 0 (E:=E0) ((zaE T).mono (by decide:1<=2)) hr T.zaG zaK (zaC (zau (E:=E0) zae) zaS) am1) (zau (E:=E0) zae) nm)
 (zal (zbG (E:=E0) fun vs=>(za7 (i:=8) zbs.nd rfl (sas rfl) zcq))
 zaX)
 zaX)
 (zal (zdR (E:=E0) (zbr (zaa (zah (dv 1) (dv 4)) (zaa (zah (dv 1) (dv 5)) (zaa (dv 6) (zaa (dv 7) (zaa (dv 8) zai)))))))
 zaX))))))))))
theorem zsu (T:Txt K mg t):zbP P w K mg base CX0 4 t.zom t.zn9 ["_law_state","_law_most","_law_more"] (spM K 2 zcn) :=
 zdg T.znW.F zbH rfl fun cdv A outer s0 H He Ha a E hr=>(
 (zal (zbC (i:=3) zbH.nd rfl (sas rfl) (qm 0 (E:=E0) ((zoQ T).mono (by decide:2<=3)) hr T.zkb zaK (zaC (zn1 (zau (E:=E0) zae) (qm 0 (E:=E0) ((zaE T).mono (by decide:1<=3)) hr T.zaG zaK (zaC (zau (E:=E0) (zrs (dv 1) zae)) zaS) am1)) zaS) am1))
 (zal (zbG (E:=E0) fun vs=>(za7 (i:=4) zbH.nd rfl (sas rfl) (zaM zaY zbS rfl T.n_len PyProof.Rows.Boot.«len» (zaa (dv 3) zai))))
 (zal (zbG (E:=E0) fun vs=>(zmG (i:=5) zbH.nd rfl (sas rfl) (zmL zai)))
 (zal (zlc (E:=E0) saM rfl (zws rfl T.n_range (qm 0 (E:=E0) ((zaE T).mono (by decide:1<=3)) hr T.zaG zaK (zaC (zau (E:=E0) (zcr (dv 2) zae)) zaS) am1)) (fun vs=>(zb6 (i:=6) zbH.nd rfl (sas rfl))) zb0
 (zal (zp0 (i:=5) rfl (sas rfl) (qm 0 (E:=E0) ((zsv T).mono (by decide:3<=3)) hr T.znX zaK (zaC (zau (E:=E0) (dv 3)) (zaC (zau (E:=E0) (dv 6)) zaS)) am2))
 zaX))
 (zal (zbG (E:=E0) fun vs=>(za7 (i:=7) zbH.nd rfl (sas rfl) zae))
 (zal (zbG (E:=E0) fun vs=>(za7 (i:=8) zbH.nd rfl (sas rfl) (zrs (dv 4) zae)))
 (zal (zlb (zsS (E:=E0) (zdt hr.units) zf0 (qm 0 (E:=E0) ((zaE T).mono (by decide:1<=3)) hr T.zaG zaK (zaC (zau (E:=E0) zae) zaS) am1) (zau (E:=E0) zae) nm)
 (zal (zbC (i:=7) zbH.nd rfl (sas rfl) (qm 0 (E:=E0) ((zaE T).mono (by decide:1<=3)) hr T.zaG zaK (zaC (zau (E:=E0) (dv 4)) zaS) am1))
 (zal (zbC (i:=8) zbH.nd rfl (sas rfl) (zAR (zn1 (zau (E:=E0) (zcr (dv 7) zae)) (qm 0 (E:=E0) ((zaE T).mono (by decide:1<=3)) hr T.zaG zaK (zaC (zau (E:=E0) (zrs (dv 4) zae)) zaS) am1)) (zau (E:=E0) (dv 4))))
 zaX))
 zaX)
 (zal (zdR (E:=E0) (zbr (zaa (dv 3) (zaa (dv 5) (zaa (zah (dv 3) (dv 7)) (zaa (zah (dv 3) (dv 8)) zai))))))
 zaX)))))))))
theorem zqg (T:Txt K mg t):zbP P w K mg base CX0 3 t.znl t.zmU ["_law_state","_law_web_here"] (spM K 1 zeQ) :=
 zdg T.zlO.F zeb rfl fun cdv A outer s0 H He Ha a E hr=>(
 (zal (zbG (E:=E0) fun vs=>(zmG (i:=2) zeb.nd rfl (sas rfl) (zmL zai)))
 (zal (zlc (E:=E0) saM rfl (zly (E:=E0) (zmK (zah (dv 1) zae))) (fun vs=>(zb6 (i:=3) zeb.nd rfl (sas rfl))) zb0
 (zal (zbC (i:=4) zeb.nd rfl (sas rfl) (qm 0 (E:=E0) ((zcD T).mono (by decide:2<=2)) hr T.zco zaK (zaC (zau (E:=E0) zae) zaS) am1))
 (zal (zp0 (i:=2) rfl (sas rfl) (zha (zau (E:=E0) (zdi (zaa (dv 4) (zaa (dv 4) (zaa (zbr (zaa zae (zaa zae zai))) zai))))) (qm 0 (E:=E0) ((zaE T).mono (by decide:1<=2)) hr T.zaG zaK (zaC (zau (E:=E0) zae) zaS) am1)))
 zaX)))
 (zal (zdR (E:=E0) (dv 2))
 zaX))))
theorem zfY (T:Txt K mg t):zbP P w K mg base CX0 2 t.zkv t.zki ["_law_one","_law_other"] (spD K 2 zbi) :=
 zaB T.zfc.F zio fun cdv A outer s0 H Ha E hr=>(
 (zac (zaN (qc ((zfZ T).mono (by decide:1<=1)) hr T.zfB zaK (zaa (zc0 (zah (dv 0) zae) (zah (dv 1) zae)) (zaa (zc0 (zah (dv 0) zae) (zah (dv 1) zae)) zai)) al2))
 zag))
theorem zoP (T:Txt K mg t):zbP P w K mg base CX0 3 t.zkx t.zkk ["_law_state","_law_web_here","_law_adds_here"] (spM K 2 zed) :=
 zdg T.zka.F zcl rfl fun cdv A outer s0 H He Ha a E hr=>(
 (zal (zbG (E:=E0) fun vs=>(zmG (i:=3) zcl.nd rfl (sas rfl) (zmL zai)))
 (zal (zlc (E:=E0) saM rfl (zly (E:=E0) (ziP rfl T.n_range (zaM zaY zbS rfl T.n_len PyProof.Rows.Boot.«len» (zaa (dv 2) zai)))) (fun vs=>(zb6 (i:=4) zcl.nd rfl (sas rfl))) zb0
 (zal (zbC (i:=5) zcl.nd rfl (sas rfl) (zha (zau (E:=E0) (zdi (zaa (zbr (zaa zae (zaa zae zai))) (zaa (zbr (zaa zae (zaa zae zai))) (zaa (zbr (zaa zae (zaa zae zai))) (zaa (zbr (zaa zae (zaa zae zai))) (zaa (zbr (zaa zae (zaa zae zai))) zai))))))) (qm 0 (E:=E0) ((zaE T).mono (by decide:1<=2)) hr T.zaG zaK (zaC (zau (E:=E0) zae) zaS) am1)))
 (zal (zbG (E:=E0) fun vs=>(zbx (za3 zjV zjZ (zah (zah (zah (dv 1) zae) (dv 4)) zae) zcq nm)
 (zac (za7 (i:=5) zcl.nd rfl (sas rfl) (zbr (zaa zae (zaa zae zai))))
 zag)
 zag))
 (zal (zbG (E:=E0) fun vs=>(zmI (i:=3) rfl (sas rfl) (qc ((zfY T).mono (by decide:2<=2)) hr T.zfc zaK (zaa (zah (dv 2) (dv 4)) (zaa (dv 5) zai)) al2)))
 zaX))))
 (zal (zdR (E:=E0) (dv 3))
 zaX))))
theorem zgZ (T:Txt K mg t):zbP P w K mg base CX0 2 t.znh t.zmQ ["_law_one","_law_other"] (spD K 2 za6) :=
 zaB T.zf6.F zjS fun cdv A outer s0 H Ha E hr=>(
 (zac (zaN (qc ((zfZ T).mono (by decide:1<=1)) hr T.zfB zaK (zaa (zcr (zc0 (zah (dv 0) zae) (zah (dv 1) zae)) (zc0 (zah (dv 1) zae) (zah (dv 0) zae))) (zaa (zc0 (zah (dv 0) zae) (zah (dv 1) zae)) zai)) al2))
 zag))
theorem zjX (T:Txt K mg t):zbP P w K mg base CX0 3 t.znj t.zmS ["_law_web_here","_law_parts_here"] (spD K 2 zdY) :=
 zaB T.zig.F zea fun cdv A outer s0 H Ha E hr=>(
 (zac (za7 (i:=2) zea.nd rfl (sas rfl) (zbr (zaa zae (zaa zae zai))))
 (zac (zpi saM rfl rfl T.n_range (zaM zaY zbS rfl T.n_len PyProof.Rows.Boot.«len» (zaa (dv 1) zai)) (zb6 (i:=3) zea.nd rfl (sas rfl)) zb0
 (zac (zbx (za3 zsq zsw (zah (zah (zah (dv 0) zae) (dv 3)) zae) zcq nm)
 (zac (za7 (i:=2) zea.nd rfl (sas rfl) (qc ((zgZ T).mono (by decide:2<=2)) hr T.zf6 zaK (zaa (dv 2) (zaa (qc ((zfY T).mono (by decide:2<=2)) hr T.zfc zaK (zaa (zah (zah (zah (dv 0) zae) (dv 3)) zae) (zaa (zah (dv 1) (dv 3)) zai)) al2) zai)) al2))
 zag)
 zag)
 zag))
 (zac (zaN (dv 2))
 zag))))
theorem zju (T:Txt K mg t):zbP P w K mg base CX0 2 t.zgE t.zgt ["_law_thing"] (spD K 1 zbm) :=
 zaB T.zgl.F zdT fun cdv A outer s0 H Ha E hr=>(
 (zac (zbx (DW.dt (zd1 (zbc (zaZ (za8 zfb rfl T.n_isinstance rfl T.n_tuple PyProof.Rows.Boot.«tuple» (dv 0)))) (zaV (za3 (zgh hr.units) zkI (zaM zaY zbS rfl T.n_len PyProof.Rows.Boot.«len» (zaa (dv 0) zai)) zae nm))))
 (zac (zaN zfn)
 zag)
 zag)
 (zac (zmH saM rfl (zE1 (dv 0)) (zb6 (i:=1) zdT.nd rfl (sas rfl)) zb0
 (zac (zbx (DW.dt (zd1 (zbc (zaZ (za8 znR rfl T.n_isinstance rfl T.n_int PyProof.Rows.Boot.«int» (dv 1)))) (zaV (zaZ (za8 zid rfl T.n_isinstance rfl T.n_bool PyProof.Rows.Boot.«bool» (dv 1))))))
 (zac (zaN zfn)
 zag)
 zag)
 zag))
 (zac (zaN (zgn (zdj zzd (zcv fun _ _ _ _=>rb _) (zah (dv 0) zae) zae nm) (zgn (zdj zwe (zcv fun _ _ _ _=>rb _) (zah (dv 0) zae) zae nm) (zfJ (zdj (zdt hr.units) zf0 (qc ((zfZ T).mono (by decide:1<=1)) hr T.zfB zaK (zaa (zah (dv 0) zae) (zaa (zah (dv 0) zae) zai)) al2) (dv 0) nm)))))
 zag))))
theorem zjW (T:Txt K mg t):zbP P w K mg base CX0 1 t.zni t.zmR ["_law_one","_law_other"] (spD K 2 zdX) :=
 zaB T.zif.F zjT fun cdv A outer s0 H Ha E hr=>(
 (zac (zaN (zdj zuD (zcv fun _ _ _ _=>rb _) (zc0 (zah (dv 0) zae) (zah (dv 1) zae)) (zc0 (zah (dv 1) zae) (zah (dv 0) zae)) nm))
 zag))
theorem zhB (T:Txt K mg t):zbP P w K mg base CX0 4 t.ze5 t.ze1 ["_law_web_here","_law_adds_here","_law_purse","_law_thing"] (spD K 4 zaF) :=
 zaB T.zeT.F zct fun cdv A outer s0 H Ha E hr=>(
 (zac (zbx (DW.dt (zd1 (zbc (zaZ (za8 zc9 rfl T.n_isinstance rfl T.n_list PyProof.Rows.Boot.«list» (dv 3)))) (zaV (za3 (zgh hr.units) zkI (zaM zaY zbS rfl T.n_len PyProof.Rows.Boot.«len» (zaa (dv 3) zai)) (zaM zaY zbS rfl T.n_len PyProof.Rows.Boot.«len» (zaa (zah (dv 0) zae) zai)) nm))))
 (zac (zaN (zbr (zaa zev (zaa zcq zai))))
 zag)
 zag)
 (zac (zpi saM rfl rfl T.n_range (zaM zaY zbS rfl T.n_len PyProof.Rows.Boot.«len» (zaa (dv 3) zai)) (zb6 (i:=4) zct.nd rfl (sas rfl)) zb0
 (zac (zbx (DW.dt (zd1 (zbc (zaZ (qc ((zju T).mono (by decide:2<=3)) hr T.zgl zaK (zaa (zah (dv 3) (dv 4)) zai) al1))) (zaV (zaZ (qc ((zjW T).mono (by decide:1<=3)) hr T.zif zaK (zaa (zah (dv 1) (dv 4)) (zaa (zah (dv 3) (dv 4)) zai)) al2)))))
 (zac (zaN (zbr (zaa zev (zaa (dv 4) zai))))
 zag)
 zag)
 (zac (zbx (DW.dt (zxO (za3 zjV zjZ (zah (zah (zah (dv 0) zae) (dv 4)) zae) zcq nm) (zn0 (za3 (zgh hr.units) zkI (zah (zah (dv 3) (dv 4)) zae) zae nm))))
 (zac (zaN (zbr (zaa zev (zaa (dv 4) zai))))
 zag)
 zag)
 zag)))
 (zac (zbx (zaZ (qc ((zjW T).mono (by decide:1<=3)) hr T.zif zaK (zaa (dv 2) (zaa (qc ((zjX T).mono (by decide:3<=3)) hr T.zig zaK (zaa (dv 0) (zaa (dv 3) zai)) al2) zai)) al2))
 (zac (zaN (zbr (zaa zev (zaa zcq zai))))
 zag)
 zag)
 (zac (zaN zcq)
 zag)))))
theorem zht (T:Txt K mg t):zbP P w K mg base CX0 1 t.zrV t.zru ["thing"] (spD K 1 zcF) :=
 zaB T.zg5.F znE fun cdv A outer s0 H Ha E hr=>(
 (zac (zbx (DW.dt (zd1 (zbc (zaZ (za8 znQ rfl T.n_isinstance rfl T.n_str PyProof.Rows.Boot.«str» (dv 0)))) (zaV (zbc (zt7 zuE zuE (zfu fun _ _ _ _=>rb _) (zfu fun _ _ _ _=>rb _) zfy zfy zae (zaM zaY zbS rfl T.n_len PyProof.Rows.Boot.«len» (zaa (dv 0) zai)) (zaO T.zfo rfl))))))
 (zac (zaN zfn)
 zag)
 zag)
 (zac (zaN (zaM (zps rfl) zx8 rfl T.n_all PyProof.Rows.Boot.«all» (zaa (zxX (zCC ["sign"] 1 [] rfl (zE2 (dv 0)) (zhr (by decide)) (fun s H C fp pn=>⟨fun He H0e=>(zb6 (i:=0) (show sb1 (["sign"]:List Str) from by decide) rfl (sas rfl)),zjH,(zdj (zzc hr.units) zzf (dv 0) (zaO T.zm6 rfl) rfl)⟩) ⟨rfl,rfl⟩ rfl rfl rfl rfl)) zai)))
 zag)))
theorem zjr (T:Txt K mg t):zbP P w K mg base CX0 2 t.zgB t.zgq ["places"] (spD K 1 zbz) :=
 zaB T.zgj.F zck fun cdv A outer s0 H Ha E hr=>(
 (zac (zbx (DW.dt (zd1 (zbc (zaZ (za8 zc9 rfl T.n_isinstance rfl T.n_list PyProof.Rows.Boot.«list» (dv 0)))) (zaV (zbc (zt7 zuE zuE (zfu fun _ _ _ _=>rb _) (zfu fun _ _ _ _=>rb _) zfy zfy (zaO T.ze2 rfl) (zaM zaY zbS rfl T.n_len PyProof.Rows.Boot.«len» (zaa (dv 0) zai)) (zaO T.zgc rfl))))))
 (zac zb9
 zag)
 zag)
 (zac (zmH saM rfl (zpj rfl T.n_enumerate (dv 0)) (zkf rfl (zbF (i:=1) zck.nd rfl (sas rfl) (zbF (i:=2) zck.nd rfl (sas rfl) zhb))) zfp
 (zac (zbx (DW.dt (zd1 (zbc (zaZ (qc ((zht T).mono (by decide:1<=1)) hr T.zg5 zaK (zaa (dv 2) zai) al1))) (zaV (za3 (zzc hr.units) zzf (dv 2) (ze0 (dv 0) zga (zf9 (dv 1))) rfl))))
 (zac zb9
 zag)
 zag)
 zag))
 zag)))
theorem zeO (T:Txt K mg t):zbP P w K mg base CX0 1 t.zoi t.zn5 ["thing"] (spD K 1 zbO) :=
 zaB T.zeI.F zle fun cdv A outer s0 H Ha E hr=>(
 (zac (zaN (zgn (za8 znR rfl T.n_isinstance rfl T.n_int PyProof.Rows.Boot.«int» (dv 0)) (zfJ (zAT (za8 zid rfl T.n_isinstance rfl T.n_bool PyProof.Rows.Boot.«bool» (dv 0))))))
 zag))
theorem zfw (T:Txt K mg t):zbP P w K mg base CX0 1 t.zgD t.zgs ["one","other"] (spD K 2 zbl) :=
 zaB T.zes.F zbe fun cdv A outer s0 H Ha E hr=>(
 (zac (za7 (i:=2) zbe.nd rfl (sas rfl) (zaM zpt zx9 rfl T.n_abs PyProof.Rows.Boot.«abs» (zaa (dv 0) zai)))
 (zac (za7 (i:=3) zbe.nd rfl (sas rfl) (zaM zpt zx9 rfl T.n_abs PyProof.Rows.Boot.«abs» (zaa (dv 1) zai)))
 (zac (zt8 _ saM (za3 (zgh hr.units) zkI (dv 3) zae nm)
 (zac (za7 (i:=4) zbe.nd rfl (sas rfl) (zfK (dv 2) (dv 3)))
 (zac (za7 (i:=2) zbe.nd rfl (sas rfl) (dv 3))
 (zac (za7 (i:=3) zbe.nd rfl (sas rfl) (dv 4))
 zag))))
 (zac (zaN (dv 2))
 zag)))))
theorem zic (T:Txt K mg t):zbP P w K mg base CX0 2 t.zoj t.zn6 ["thing"] (spD K 1 zdd) :=
 zaB T.zhx.F zlf fun cdv A outer s0 H Ha E hr=>(
 (zac (zbx (DW.dt (zd1 (zbc (zaZ (za8 zfb rfl T.n_isinstance rfl T.n_tuple PyProof.Rows.Boot.«tuple» (dv 0)))) (zaV (za3 (zgh hr.units) zkI (zaM zaY zbS rfl T.n_len PyProof.Rows.Boot.«len» (zaa (dv 0) zai)) zae nm))))
 (zac (zaN zfn)
 zag)
 zag)
 (zac (zbx (DW.dt (zd1 (zbc (zaZ (qc ((zeO T).mono (by decide:1<=1)) hr T.zeI zaK (zaa (zah (dv 0) zae) zai) al1))) (zaV (zbc (zaZ (qc ((zeO T).mono (by decide:1<=1)) hr T.zeI zaK (zaa (zah (dv 0) zae) zai) al1))))))
 (zac (zaN zfn)
 zag)
 zag)
 (zac (zaN (zgn (zdj zzd (zcv fun _ _ _ _=>rb _) (zah (dv 0) zae) zae nm) (zfJ (zdj (zdt hr.units) zf0 (qc ((zfw T).mono (by decide:1<=1)) hr T.zes zaK (zaa (zah (dv 0) zae) (zaa (zah (dv 0) zae) zai)) al2) zae nm))))
 zag))))
theorem ze8 (T:Txt K mg t):zbP P w K mg base CX0 3 t.zne t.zmN ["thing"] (spD K 1 zbf) :=
 zaB T.zeS.F zjR fun cdv A outer s0 H Ha E hr=>(
 (zac (zaN (zgn (qc ((zic T).mono (by decide:2<=2)) hr T.zhx zaK (zaa (dv 0) zai) al1) (zfJ (zdj zzd (zcv fun _ _ _ _=>rb _) (zah (dv 0) zae) zae nm))))
 zag))
theorem zss (T:Txt K mg t):zbP P w K mg base CX0 3 t.zoh t.zn4 ["thing"] (spD K 1 zeG) :=
 zaB T.znU.F zld fun cdv A outer s0 H Ha E hr=>(
 (zac (zaN (zE5 (zdj zjV zjZ (dv 0) zcq nm) (zfJ (zgn (qc ((zic T).mono (by decide:2<=2)) hr T.zhx zaK (zaa (dv 0) zai) al1) (zfJ (zdj zwe (zcv fun _ _ _ _=>rb _) (zah (dv 0) zae) zae nm))))))
 zag))
theorem zwj (T:Txt K mg t):zbP P w K mg base CX0 4 t.zum t.zue ["thing"] (spD K 1 zf3) :=
 zaB T.ztO.F zp7 fun cdv A outer s0 H Ha E hr=>(
 (zac (zbx (DW.dt (zd1 (zbc (zaZ (za8 zfb rfl T.n_isinstance rfl T.n_tuple PyProof.Rows.Boot.«tuple» (dv 0)))) (zaV (za3 (zgh hr.units) zkI (zaM zaY zbS rfl T.n_len PyProof.Rows.Boot.«len» (zaa (dv 0) zai)) zae nm))))
 (zac (zaN zfn)
 zag)
 zag)
 (zac (zbx (DW.dt (zd1 (zbc (zaZ (qc ((zht T).mono (by decide:1<=3)) hr T.zg5 zaK (zaa (zah (dv 0) (zaO T.zrJ rfl)) zai) al1))) (zd1 (zbc (zaZ (qc ((zht T).mono (by decide:1<=3)) hr T.zg5 zaK (zaa (zah (dv 0) (zaO T.zhh rfl)) zai) al1))) (zaV (za3 (zdt hr.units) zf0 (zah (dv 0) (zaO T.zrJ rfl)) (zah (dv 0) (zaO T.zhh rfl)) nm)))))
 (zac (zaN zfn)
 zag)
 zag)
 (zac (zbx (DW.dt (zd1 (zbc (zaZ (za8 znQ rfl T.n_isinstance rfl T.n_str PyProof.Rows.Boot.«str» (zah (dv 0) (zaO T.zoc rfl))))) (zaV (za3 (zkO hr.units) zkP (zah (dv 0) (zaO T.zoc rfl)) (zaO T.zsY rfl) rfl))))
 (zac (zaN zfn)
 zag)
 zag)
 (zac (zaN (zgn (qc ((ze8 T).mono (by decide:3<=3)) hr T.zeS zaK (zaa (zah (dv 0) (zaO T.ziX rfl)) zai) al1) (zfJ (qc ((zss T).mono (by decide:3<=3)) hr T.znU zaK (zaa (zah (dv 0) (zaO T.zhg rfl)) zai) al1))))
 zag)))))
theorem zls (T:Txt K mg t):zbP P w K mg base CX0 5 t.zhW t.zhR ["ties","places"] (spD K 2 zb4) :=
 zaB T.zhP.F zdq fun cdv A outer s0 H Ha E hr=>(
 (zac (zbx (DW.dt (zd1 (zbc (zaZ (za8 zc9 rfl T.n_isinstance rfl T.n_list PyProof.Rows.Boot.«list» (dv 0)))) (zaV (za3 zwe (zcv fun _ _ _ _=>rb _) (zaM zaY zbS rfl T.n_len PyProof.Rows.Boot.«len» (zaa (dv 0) zai)) (zaO T.zii rfl) nm))))
 (zac zb9
 zag)
 zag)
 (zac (zmH saM rfl (zpj rfl T.n_enumerate (dv 0)) (zkf rfl (zbF (i:=2) zdq.nd rfl (sas rfl) (zbF (i:=3) zdq.nd rfl (sas rfl) zhb))) zfp
 (zac (zbx (DW.dt (zd1 (zbc (zaZ (qc ((zwj T).mono (by decide:4<=4)) hr T.ztO zaK (zaa (dv 3) zai) al1))) (zd1 (za3 (zkO hr.units) zkP (zah (dv 3) (zaO T.zrJ rfl)) (dv 1) rfl) (zaV (za3 (zkO hr.units) zkP (zah (dv 3) (zaO T.zhh rfl)) (dv 1) rfl)))))
 (zac zb9
 zag)
 zag)
 zag))
 zag)))
theorem zlu (T:Txt K mg t):zbP P w K mg base CX0 2 t.zol t.zn8 ["thing","places"] (spD K 2 zdW) :=
 zaB T.zjB.F zlh fun cdv A outer s0 H Ha E hr=>(
 (zac (zaN (zgn (qc ((zht T).mono (by decide:1<=1)) hr T.zg5 zaK (zaa (dv 0) zai) al1) (zfJ (zdj (zzc hr.units) zzf (dv 0) (dv 1) rfl))))
 zag))
theorem zhM (T:Txt K mg t):zbP P w K mg base CX0 6 t.zi7 t.ziR ["thing"] (spD K 1 zbD) :=
 zaB T.zf5.F zhK fun cdv A outer s0 H Ha E hr=>(
 (zac (zbx (DW.dt (zd1 (zbc (zaZ (za8 zfb rfl T.n_isinstance rfl T.n_tuple PyProof.Rows.Boot.«tuple» (dv 0)))) (zaV (za3 (zgh hr.units) zkI (zaM zaY zbS rfl T.n_len PyProof.Rows.Boot.«len» (zaa (dv 0) zai)) zae nm))))
 (zac zb9
 zag)
 zag)
 (zac (zg9 (qc ((zjr T).mono (by decide:2<=5)) hr T.zgj zaK (zaa (zah (dv 0) (zaO T.zfd rfl)) zai) al1))
 (zac (zg9 (qc ((zls T).mono (by decide:5<=5)) hr T.zhP zaK (zaa (zah (dv 0) (zaO T.zgu rfl)) (zaa (zah (dv 0) (zaO T.zfd rfl)) zai)) al2))
 (zac (zbx (zbc (zaZ (qc ((zlu T).mono (by decide:2<=5)) hr T.zjB zaK (zaa (zah (dv 0) (zaO T.zjJ rfl)) (zaa (zah (dv 0) (zaO T.zfd rfl)) zai)) al2)))
 (zac zb9
 zag)
 zag)
 (zac (zbx (DW.dt (zd1 (zbc (zaZ (qc ((zlu T).mono (by decide:2<=5)) hr T.zjB zaK (zaa (zah (dv 0) (zaO T.zrK rfl)) (zaa (zah (dv 0) (zaO T.zfd rfl)) zai)) al2))) (zaV (za3 (zdt hr.units) zf0 (zah (dv 0) (zaO T.zrK rfl)) (zah (dv 0) (zaO T.zjJ rfl)) nm))))
 (zac zb9
 zag)
 zag)
 zag))))))
theorem znv (T:Txt K mg t):zbP P w K mg base CX0 4 t.zi9 t.ziT ["web","thing"] (spD K 2 zeD) :=
 zaB T.ziC.F zhL fun cdv A outer s0 H Ha E hr=>(
 (zac (zbx (DW.dt (zd1 (zbc (zaZ (za8 zc9 rfl T.n_isinstance rfl T.n_list PyProof.Rows.Boot.«list» (dv 1)))) (zaV (za3 (zgh hr.units) zkI (zaM zaY zbS rfl T.n_len PyProof.Rows.Boot.«len» (zaa (dv 1) zai)) (zaM zaY zbS rfl T.n_len PyProof.Rows.Boot.«len» (zaa (zah (dv 0) (zaO T.zgu rfl)) zai)) nm))))
 (zac (zaN zfn)
 zag)
 zag)
 (zac (zaN (zaM (zps rfl) zx8 rfl T.n_all PyProof.Rows.Boot.«all» (zaa (zxX (zCC ["one"] 1 [] rfl (zmK (dv 1)) (zhr (by decide)) (fun s H C fp pn=>⟨fun He H0e=>(zb6 (i:=0) (show sb1 (["one"]:List Str) from by decide) rfl (sas rfl)),zjH,(qc ((ze8 T).mono (by decide:3<=3)) hr T.zeS zaK (zaa (dv 0) zai) al1)⟩) ⟨rfl,rfl⟩ rfl rfl rfl rfl)) zai)))
 zag)))
theorem zlt (T:Txt K mg t):zbP P w K mg base CX0 7 t.zhX t.zhS ["web","thing"] (spD K 2 zd6) :=
 zaB T.zhQ.F zgM fun cdv A outer s0 H Ha E hr=>(
 (zac (zg9 (qc ((zhM T).mono (by decide:6<=6)) hr T.zf5 zaK (zaa (dv 0) zai) al1))
 (zac (zbx (zbc (zaZ (qc ((znv T).mono (by decide:4<=6)) hr T.ziC zaK (zaa (dv 0) (zaa (dv 1) zai)) al2)))
 (zac zb9
 zag)
 zag)
 zag)))
theorem zkG (T:Txt K mg t):zbP P w K mg base CX0 3 t.zhn t.zhc ["thing"] (spD K 1 zbu) :=
 zaB T.zg3.F zgf fun cdv A outer s0 H Ha E hr=>(
 (zac (zbx (DW.dt (zd1 (zbc (zaZ (qc ((zic T).mono (by decide:2<=2)) hr T.zhx zaK (zaa (dv 0) zai) al1))) (zaV (za3 zuD (zcv fun _ _ _ _=>rb _) (zah (dv 0) zae) zae nm))))
 (zac zb9
 zag)
 zag)
 zag))
theorem zjs (T:Txt K mg t):zbP P w K mg base CX0 1 t.zrW t.zrv ["one","other"] (spD K 2 zcG) :=
 zaB T.ziB.F znF fun cdv A outer s0 H Ha E hr=>(
 (zac (zaN (zdj zuD (zcv fun _ _ _ _=>rb _) (zc0 (zah (dv 0) zae) (zah (dv 1) zae)) (zc0 (zah (dv 1) zae) (zah (dv 0) zae)) nm))
 zag))
theorem zts (T:Txt K mg t):zbP P w K mg base CX0 2 t.zym t.zxZ ["top","bottom"] (spD K 2 zdV) :=
 zaB T.zsO.F zkM fun cdv A outer s0 H Ha E hr=>(
 (zac (zbx (DW.dt (zd1 (zbc (zaZ (qc ((zeO T).mono (by decide:1<=1)) hr T.zeI zaK (zaa (dv 0) zai) al1))) (zaV (zbc (zaZ (qc ((zeO T).mono (by decide:1<=1)) hr T.zeI zaK (zaa (dv 1) zai) al1))))))
 (zac zb9
 zag)
 zag)
 (zac (zbx (za3 (zdt hr.units) zf0 (dv 1) zae nm)
 (zac zb9
 zag)
 zag)
 (zac (za7 (i:=2) zkM.nd rfl (sas rfl) (qc ((zfw T).mono (by decide:1<=1)) hr T.zes zaK (zaa (dv 0) (zaa (dv 1) zai)) al2))
 (zac (zbx (za3 zuD (zcv fun _ _ _ _=>rb _) (dv 1) zae nm)
 (zac (za7 (i:=2) zkM.nd rfl (sas rfl) (zxS (dv 2)))
 zag)
 zag)
 (zac (zaN (zbr (zaa (zn3 (dv 0) (dv 2)) (zaa (zn3 (dv 1) (dv 2)) zai))))
 zag))))))
theorem zsr (T:Txt K mg t):zbP P w K mg base CX0 3 t.zA2 t.zAV ["one","other"] (spD K 2 zeP) :=
 zaB T.ztN.F zvM fun cdv A outer s0 H Ha E hr=>(
 (zac (zaN (qc ((zts T).mono (by decide:2<=2)) hr T.zsO zaK (zaa (zcr (zc0 (zah (dv 0) zae) (zah (dv 1) zae)) (zc0 (zah (dv 1) zae) (zah (dv 0) zae))) (zaa (zc0 (zah (dv 0) zae) (zah (dv 1) zae)) zai)) al2))
 zag))
theorem zwi (T:Txt K mg t):zbP P w K mg base CX0 4 t.zul t.zud ["some"] (spD K 1 zfa) :=
 zaB T.ztM.F zgL fun cdv A outer s0 H Ha E hr=>(
 (zac (za7 (i:=1) zgL.nd rfl (sas rfl) (zaO T.ziW rfl))
 (zac (zt9 saM rfl (dv 0) (zb6 (i:=2) zgL.nd rfl (sas rfl)) zb0
 (zac (za7 (i:=1) zgL.nd rfl (sas rfl) (qc ((zsr T).mono (by decide:3<=3)) hr T.ztN zaK (zaa (dv 1) (zaa (dv 2) zai)) al2))
 zag))
 (zac (zaN (dv 1))
 zag))))
theorem zze (T:Txt K mg t):zbP P w K mg base CX0 3 t.zyl t.zxY ["one","other"] (spD K 2 zlz) :=
 zaB T.zwX.F ztg fun cdv A outer s0 H Ha E hr=>(
 (zac (zaN (qc ((zts T).mono (by decide:2<=2)) hr T.zsO zaK (zaa (zc0 (zah (dv 0) zae) (zah (dv 1) zae)) (zaa (zc0 (zah (dv 0) zae) (zah (dv 1) zae)) zai)) al2))
 zag))
theorem zjt (T:Txt K mg t):zbP P w K mg base CX0 5 t.zgC t.zgr ["web","spread"] (spD K 2 zc1) :=
 zaB T.zgk.F zft fun cdv A outer s0 H Ha E hr=>(
 (zac (zaN (qc ((zwi T).mono (by decide:4<=4)) hr T.ztM zaK (zaa (zxX (zCC ["tie","more"] 2 [] rfl (zAS rfl T.n_zip (zah (dv 0) (zaO T.zgu rfl)) (dv 1)) (zta (by decide)) (fun s H C fp pn=>⟨fun He H0e=>(zkf rfl (zbF (i:=0) (show sb1 (["tie","more"]:List Str) from by decide) rfl (sas rfl) (zbF (i:=1) (show sb1 (["tie","more"]:List Str) from by decide) rfl (sas rfl) zhb))),(zCw (za3 zsq zsw (zah (dv 0) (zaO T.zhg rfl)) zcq nm)),(qc ((zze T).mono (by decide:3<=4)) hr T.zwX zaK (zaa (zah (dv 0) (zaO T.zhg rfl)) (zaa (dv 1) zai)) al2)⟩) ⟨rfl,rfl⟩ rfl rfl rfl rfl)) zai) al1))
 zag))
theorem zfv (T:Txt K mg t):zbP P w K mg base (CXE P w) 8 t.zgA t.zgp ["web","adds","purse","thing"] (spD K 4 zaA) :=
 zjA T.zer.F zbM fun cdv A outer s0 H Ha E hr=>(
 (zac (zg9 (qc ((zlt T).mono (by decide:7<=7)) hr T.zhQ zjU (zaa (dv 0) (zaa (dv 1) zai)) al2))
 (zac (zg9 (qc ((zkG T).mono (by decide:3<=7)) hr T.zg3 zjU (zaa (dv 2) zai) al1))
 (zac (zbx (DW.dt (zd1 (zbc (zaZ (za8 zc9 rfl T.n_isinstance rfl T.n_list PyProof.Rows.Boot.«list» (dv 3)))) (zaV (za3 (zgh hr.units) zkI (zaM zaY zbS rfl T.n_len PyProof.Rows.Boot.«len» (zaa (dv 3) zai)) (zaM zaY zbS rfl T.n_len PyProof.Rows.Boot.«len» (zaa (zah (dv 0) (zaO T.zgu rfl)) zai)) nm))))
 (zac (zmF T.zbd.xc T.zhY T.zeK T.zhZ ((zf4 T).mono (by decide:1<=6)) T.ze4 (by decide) (by decide) hr T.zhv hr.hd rfl (zaa zcq zai))
 zag)
 zag)
 (zac (zmH PassesOwn.leaving rfl (zpj rfl T.n_enumerate (dv 3)) (zkf rfl (zbF (i:=4) zbM.nd rfl (sas rfl) (zbF (i:=5) zbM.nd rfl (sas rfl) zhb))) zfp
 (zac (za7 (i:=6) zbM.nd rfl (sas rfl) (zzY (za3 zjV zjZ (zah (zah (zah (dv 0) (zaO T.zgu rfl)) (dv 4)) (zaO T.zhg rfl)) zcq nm) (zaO T.ziW rfl) (zah (dv 1) (dv 4))))
 (zac (zbx (DW.dt (zd1 (zbc (zaZ (qc ((ze8 T).mono (by decide:3<=7)) hr T.zeS zjU (zaa (dv 5) zai) al1))) (zaV (zaZ (qc ((zjs T).mono (by decide:1<=7)) hr T.ziB zjU (zaa (dv 6) (zaa (dv 5) zai)) al2)))))
 (zac (zmF T.zbd.xc T.zhY T.zeK T.zhZ ((zf4 T).mono (by decide:1<=6)) T.ze4 (by decide) (by decide) hr T.zhv hr.hd rfl (zaa (dv 4) zai))
 zag)
 zag)
 zag)))
 (zac (zbx (zaZ (qc ((zjs T).mono (by decide:1<=7)) hr T.ziB zjU (zaa (dv 2) (zaa (qc ((zjt T).mono (by decide:5<=7)) hr T.zgk zjU (zaa (dv 0) (zaa (dv 3) zai)) al2) zai)) al2))
 (zac (zmF T.zbd.xc T.zhY T.zeK T.zhZ ((zf4 T).mono (by decide:1<=6)) T.ze4 (by decide) (by decide) hr T.zhv hr.hd rfl (zaa zcq zai))
 zag)
 zag)
 zag))))))
theorem zkH (T:Txt K mg t):zbP P w K mg base CX0 2 t.zho t.zhd ["web","thing"] (spD K 2 zbv) :=
 zaB T.zg4.F zgg fun cdv A outer s0 H Ha E hr=>(
 (zac (zaN (zgn (qc ((zeO T).mono (by decide:1<=1)) hr T.zeI zaK (zaa (dv 1) zai) al1) (zfJ (zzZ zuE zuD (zfu fun _ _ _ _=>rb _) (zfu fun _ _ _ _=>rb _) zfy zfy zae (dv 1) (zaM zaY zbS rfl T.n_len PyProof.Rows.Boot.«len» (zaa (zah (dv 0) (zaO T.zgu rfl)) zai))))))
 zag))
theorem zjq (T:Txt K mg t):zbP P w K mg base CX0 7 t.zgz t.zgo ["web","thing"] (spD K 2 zbk) :=
 zaB T.zgi.F zbL fun cdv A outer s0 H Ha E hr=>(
 (zac (zg9 (qc ((zhM T).mono (by decide:6<=6)) hr T.zf5 zaK (zaa (dv 0) zai) al1))
 (zac (zbx (zbc (zaZ (za8 zc9 rfl T.n_isinstance rfl T.n_list PyProof.Rows.Boot.«list» (dv 1))))
 (zac zb9
 zag)
 zag)
 (zac (za7 (i:=2) zbL.nd rfl (sas rfl) (zxS zae))
 (zac (zt9 saM rfl (dv 1) (zb6 (i:=3) zbL.nd rfl (sas rfl)) zb0
 (zac (zbx (DW.dt (zd1 (zbc (zaZ (qc ((zkH T).mono (by decide:2<=6)) hr T.zg4 zaK (zaa (dv 0) (zaa (dv 3) zai)) al2))) (zaV (za3 zuE (zcv fun _ _ _ _=>rb _) (dv 3) (dv 2) nm))))
 (zac zb9
 zag)
 zag)
 (zac (zbx (za3 zjV zjZ (zah (zah (zah (dv 0) (zaO T.zgu rfl)) (dv 3)) (zaO T.zhg rfl)) zcq nm)
 (zac zb9
 zag)
 zag)
 (zac (za7 (i:=2) zbL.nd rfl (sas rfl) (dv 3))
 zag))))
 zag)))))
theorem zst (T:Txt K mg t):zbP P w K mg base CX0 4 t.zok t.zn7 ["thing"] (spD K 1 znL) :=
 zaB T.znV.F zlg fun cdv A outer s0 H Ha E hr=>(
 (zac (zaN (zE5 (zdj zjV zjZ (dv 0) zcq nm) (zfJ (qc ((ze8 T).mono (by decide:3<=3)) hr T.zeS zaK (zaa (dv 0) zai) al1))))
 zag))
theorem zfk (T:Txt K mg t):zbP P w K mg base CX0 5 t.zdn t.zdk ["places","thing"] (spD K 2 zbj) :=
 zaB T.zdh.F zcB fun cdv A outer s0 H Ha E hr=>(
 (zac (zbx (DW.dt (zd1 (zbc (zaZ (za8 zsC rfl T.n_isinstance rfl T.n_dict PyProof.Rows.Boot.«dict» (dv 1)))) (zaV (za3 (zgh hr.units) zkI (zaM zyc zCJ rfl T.n_len PyProof.Rows.Boot.«len» (zaa (dv 1) zai)) (zaM zaY zbS rfl T.n_len PyProof.Rows.Boot.«len» (zaa (dv 0) zai)) nm))))
 (zac (zaN zfn)
 zag)
 zag)
 (zac (zaN (zaM (zps rfl) zx8 rfl T.n_all PyProof.Rows.Boot.«all» (zaa (zxX (zCC ["place","thing"] 1 [1] rfl (zmK (dv 0)) (zhr (by decide)) (fun s H C fp pn=>⟨fun He H0e=>(zb6 (i:=0) (show sb1 (["place","thing"]:List Str) from by decide) rfl (sas rfl)),zjH,(zgn (zdj (zzc hr.units) zzf (dv 0) (dv 1) rfl) (zfJ (qc ((zst T).mono (by decide:4<=4)) hr T.znV zaK (zaa (zah (dv 1) (dv 0)) zai) al1)))⟩) ⟨rfl,rfl⟩ rfl rfl rfl rfl)) zai)))
 zag)))
theorem zwk (T:Txt K mg t):zbP P w K mg base CX0 4 t.zun t.zuf ["here","length","there"] (spD K 3 ztx) :=
 zaB T.ztP.F zp8 fun cdv A outer s0 H Ha E hr=>(
 (zac (zbx (za3 zjV zjZ (dv 0) zcq nm)
 (zac (zaN zfn)
 zag)
 zag)
 (zac (zaN (zgn (zdj zsq zsw (dv 2) zcq nm) (zfJ (zAT (qc ((zjs T).mono (by decide:1<=3)) hr T.ziB zaK (zaa (qc ((zsr T).mono (by decide:3<=3)) hr T.ztN zaK (zaa (dv 0) (zaa (dv 1) zai)) al2) (zaa (dv 2) zai)) al2)))))
 zag)))
theorem znt (T:Txt K mg t):zbP P w K mg base CX0 1 t.zi6 t.ziQ ["tie"] (spD K 1 zeB) :=
 zaB T.ziz.F zfg fun cdv A outer s0 H Ha E hr=>(
 (zac (za7 (i:=1) zfg.nd rfl (sas rfl) (zbr (zaa (zah (dv 0) (zaO T.zrJ rfl)) (zaa (zah (dv 0) (zaO T.zhh rfl)) zai))))
 (zac (zbx (za3 (zdt hr.units) zf0 (zah (dv 0) (zaO T.zoc rfl)) zev nm)
 (zac (zaN (zdi (zaa (dv 1) zai)))
 zag)
 zag)
 (zac (zaN (zdi (zaa (dv 1) (zaa (zbr (zaa (zah (dv 0) (zaO T.zhh rfl)) (zaa (zah (dv 0) (zaO T.zrJ rfl)) zai))) zai))))
 zag))))
theorem zoN (T:Txt K mg t):zbP P w K mg base CX0 2 t.zkt t.zkg ["web","taken"] (spD K 2 zj2) :=
 zaB T.zj8.F zbV fun cdv A outer s0 H Ha E hr=>(
 (zac (zmG (i:=2) zbV.nd rfl (sas rfl) (zmL zai))
 (zac (zmH saM rfl (zpj rfl T.n_enumerate (zah (dv 0) (zaO T.zgu rfl))) (zkf rfl (zbF (i:=3) zbV.nd rfl (sas rfl) (zbF (i:=4) zbV.nd rfl (sas rfl) zhb))) zfp
 (zac (zbx (za3 (zkO hr.units) zkP (dv 3) (dv 1) rfl)
 (zac (zt9 saM rfl (qc ((znt T).mono (by decide:1<=1)) hr T.ziz zaK (zaa (dv 4) zai) al1) (zkf rfl (zbF (i:=5) zbV.nd rfl (sas rfl) (zbF (i:=6) zbV.nd rfl (sas rfl) zhb))) zfp
 (zac (zmI (i:=2) rfl (sas rfl) (zbr (zaa (dv 3) (zaa (dv 5) (zaa (dv 6) zai)))))
 zag))
 zag)
 zag)
 zag))
 (zac (zaN (dv 2))
 zag))))
theorem znu (T:Txt K mg t):zbP P w K mg base CX0 8 t.zi8 t.ziS ["web","taking","thing"] (spD K 3 zeC) :=
 zaB T.ziA.F zcC fun cdv A outer s0 H Ha E hr=>(
 (zac (zg9 (qc ((zjq T).mono (by decide:7<=7)) hr T.zgi zaK (zaa (dv 0) (zaa (dv 1) zai)) al2))
 (zac (zbx (DW.dt (zd1 (zbc (zaZ (qc ((zfk T).mono (by decide:5<=7)) hr T.zdh zaK (zaa (zah (dv 0) (zaO T.zfd rfl)) (zaa (dv 2) zai)) al2))) (zaV (za3 (zgh hr.units) zkI (zah (dv 2) (zah (dv 0) (zaO T.zjJ rfl))) (zaO T.ziW rfl) nm))))
 (zac (zaN zfn)
 zag)
 zag)
 (zac (zt9 saM rfl (qc ((zoN T).mono (by decide:2<=7)) hr T.zj8 zaK (zaa (dv 0) (zaa (dv 1) zai)) al2) (zkf rfl (zbF (i:=3) zcC.nd rfl (sas rfl) (zbF (i:=4) zcC.nd rfl (sas rfl) (zbF (i:=5) zcC.nd rfl (sas rfl) zhb)))) zfp
 (zac (zbx (zbc (zaZ (qc ((zwk T).mono (by decide:4<=7)) hr T.ztP zaK (zaa (zah (dv 2) (dv 4)) (zaa (zah (zah (zah (dv 0) (zaO T.zgu rfl)) (dv 3)) (zaO T.ziX rfl)) (zaa (zah (dv 2) (dv 5)) zai))) al3)))
 (zac (zaN zfn)
 zag)
 zag)
 zag))
 (zac (zaN zfn)
 zag)))))
theorem zoO (T:Txt K mg t):zbP P w K mg base CX0 4 t.zku t.zkh ["tie","more"] (spD K 2 zec) :=
 zaB T.zj9.F zin fun cdv A outer s0 H Ha E hr=>(
 (zac (zaN (zbr (zaa (zah (dv 0) (zaO T.zrJ rfl)) (zaa (zah (dv 0) (zaO T.zhh rfl)) (zaa (zah (dv 0) (zaO T.zoc rfl)) (zaa (qc ((zsr T).mono (by decide:3<=3)) hr T.ztN zaK (zaa (zah (dv 0) (zaO T.ziX rfl)) (zaa (dv 1) zai)) al2) (zaa (zah (dv 0) (zaO T.zhg rfl)) zai)))))))
 zag))
theorem zqe (T:Txt K mg t):zbP P w K mg base CX0 5 t.znd t.zmM ["web","more"] (spD K 2 zf2) :=
 zaB T.zlM.F zgN fun cdv A outer s0 H Ha E hr=>(
 (zac (zxR (i:=2) zgN.nd rfl rfl zmZ (zCC ["tie","one"] 2 [] rfl (zAS rfl T.n_zip (zah (dv 0) (zaO T.zgu rfl)) (dv 1)) (zta (by decide)) (fun s H C fp pn=>⟨fun He H0e=>(zkf rfl (zbF (i:=0) (show sb1 (["tie","one"]:List Str) from by decide) rfl (sas rfl) (zbF (i:=1) (show sb1 (["tie","one"]:List Str) from by decide) rfl (sas rfl) zhb))),zjH,(qc ((zoO T).mono (by decide:4<=4)) hr T.zj9 zaK (zaa (dv 0) (zaa (dv 1) zai)) al2)⟩) ⟨rfl,rfl⟩ rfl rfl rfl rfl))
 (zac (zaN (zbr (zaa (zah (dv 0) (zaO T.zfd rfl)) (zaa (dv 2) (zaa (zah (dv 0) (zaO T.zjJ rfl)) (zaa (zah (dv 0) (zaO T.zrK rfl)) zai))))))
 zag)))
theorem zgY (T:Txt K mg t):zbP P w K mg base (CXE P w) 9 t.zex t.zew ["web","adds","purse","spread","thing"] (spD K 5 zba) :=
 zjA T.zeu.F zd9 fun cdv A outer s0 H Ha E hr=>(
 (zac (zg9 (qc ((zfv T).mono (by decide:8<=8)) hr T.zer zsn (zaa (dv 0) (zaa (dv 1) (zaa (dv 2) (zaa (dv 3) zai)))) al4))
 (zac (zaN (qc ((znu T).mono (by decide:8<=8)) hr T.ziA zjU (zaa (qc ((zqe T).mono (by decide:5<=8)) hr T.zlM zjU (zaa (dv 0) (zaa (dv 3) zai)) al2) (zaa (zdi zai) (zaa (dv 4) zai))) al3))
 zag)))
theorem zoR (T:Txt K mg t):zbP P w K mg base (CXE P w) 10 t.zkA t.zkn ["_law_asked_here","_law_web_here","_law_adds_here","_law_purse","_law_thing"] (spD K 5 zbR) :=
 zjA T.zkd.F ziq fun cdv A outer s0 H Ha E hr=>(
 (zac (zbx (za3 (zdt hr.units) zf0 (dv 0) zae nm)
 (zac (zaN (qc ((zfv T).mono (by decide:8<=9)) hr T.zer zsn (zaa (dv 1) (zaa (dv 2) (zaa (dv 3) (zaa (dv 4) zai)))) al4))
 zag)
 zag)
 (zac (zbx (za3 zBU zBY (qc ((zgY T).mono (by decide:9<=9)) hr T.zeu zsn (zaa (dv 1) (zaa (dv 2) (zaa (dv 3) (zaa (dv 4) (zaa zxW zai))))) al5) zfn nm)
 (zac (zaN zev)
 zag)
 zag)
 (zac (zaN zcq)
 zag))))
theorem zqf (T:Txt K mg t):zbP P w K mg base CX0 11 t.znf t.zmO ["_law_asked_here","_law_web_here","_law_adds_here","_law_purse","_law_thing"] (spD K 5 zbX) :=
 zaB T.zlN.F zcc fun cdv A outer s0 H Ha E hr=>(
 (zac (za7 (i:=5) zcc.nd rfl (sas rfl) zcq)
 (zac (za7 (i:=6) zcc.nd rfl (sas rfl) zcq)
 (zac (zET ⟨rfl,rfl⟩ (qt (i:=6) zcc.nd rfl (sas rfl) ((zoR T).mono (by decide:10<=10)) hr T.zkd (zaa (dv 0) (zaa (dv 1) (zaa (dv 2) (zaa (dv 3) (zaa (dv 4) zai))))) al5) rfl T.znT (zlJ T) zcc.nd rfl rfl (fun ea=>(zac (za7 (i:=5) zcc.nd rfl (sas rfl) (dv 7))
 zag)))
 (zac (zbx (za3 zjV zjZ (dv 5) zcq nm)
 (zac (zaN (dv 6))
 zag)
 zag)
 (zac (zbx (zaZ (zCz (zyQ T) (zm3 rfl T.zCm (zm3 rfl T.zzB (zm3 rfl T.zwQ (zm3 rfl T.zu1 (zm3 rfl T.zCn zE8))))) (by simp) rfl T.n_isinstance (dv 5)))
 (zac (zaN zev)
 zag)
 zag)
 (zac (zbx (zbc (zaZ (zxU rfl T.n_ValueError PyProof.Rows.Boot.«ValueError» (zyP T) rfl T.n_isinstance (dv 5))))
 (zac (zaN zev)
 zag)
 zag)
 (zac (zbx (DW.dt (zd1 (zbc (zaZ (zxT rfl T.zhv (zyO T) rfl T.n_isinstance (dv 5)))) (zaV (zaZ (za8 zid rfl T.n_isinstance rfl T.n_bool PyProof.Rows.Boot.«bool» (zxV (ztH T) (dv 5)))))))
 (zac (zaN zev)
 zag)
 zag)
 (zac (zaN (zbr (zaa zev (zaa (zxV (ztH T) (dv 5)) zai))))
 zag)))))))))
theorem zis (T:Txt K mg t):zbP P w K mg base CX0 12 t.zkw t.zkj ["_law_web_here","_law_adds_here","_law_purse","_law_thing"] (spD K 4 zbE) :=
 zaB T.zg6.F zdr fun cdv A outer s0 H Ha E hr=>(
 (zac (za7 (i:=4) zdr.nd rfl (sas rfl) (zaM (zrG hr) zx7 rfl T.n_repr PyProof.Rows.Boot.«repr» (zaa (zdi (zaa (dv 0) (zaa (dv 1) (zaa (dv 2) (zaa (dv 3) zai))))) zai)))
 (zac (za7 (i:=5) zdr.nd rfl (sas rfl) (qc ((zhB T).mono (by decide:4<=11)) hr T.zeT zaK (zaa (dv 0) (zaa (dv 1) (zaa (dv 2) (zaa (dv 3) zai)))) al4))
 (zac (zxR (i:=6) zdr.nd rfl rfl zmZ (zCC ["_law_asked_here","_law_web_here","_law_adds_here","_law_purse","_law_thing"] 1 [0,1,2,3] rfl (zmK (zdi (zaa zae (zaa zae (zaa zae zai))))) (zhr (by decide)) (fun s H C fp pn=>⟨fun He H0e=>(zb6 (i:=0) (show sb1 (["_law_asked_here","_law_web_here","_law_adds_here","_law_purse","_law_thing"]:List Str) from by decide) rfl (sas rfl)),zjH,(qc ((zqf T).mono (by decide:11<=11)) hr T.zlN zaK (zaa (dv 0) (zaa (dv 1) (zaa (dv 2) (zaa (dv 3) (zaa (dv 4) zai))))) al5)⟩) ⟨rfl,rfl⟩ rfl rfl rfl rfl))
 (zac (zaN (zgn (zdj (zdt hr.units) zf0 (dv 6) (zE4 (zmL (zaa (dv 5) zai)) zae) nm) (zfJ (zdj (zdt hr.units) zf0 (zaM (zrG hr) zx7 rfl T.n_repr PyProof.Rows.Boot.«repr» (zaa (zdi (zaa (dv 0) (zaa (dv 1) (zaa (dv 2) (zaa (dv 3) zai))))) zai)) (dv 4) nm))))
 zag)))))
theorem zjY (T:Txt K mg t):zbP P w K mg base CX0 3 t.znk t.zmT ["_law_state","_law_web_here","_law_adds_here","_law_parts_here"] (spM K 3 zbw) :=
 zdg T.zih.F zbQ rfl fun cdv A outer s0 H He Ha a E hr=>(
 (zal (zbC (i:=4) zbQ.nd rfl (sas rfl) (qm 0 (E:=E0) ((zaE T).mono (by decide:1<=2)) hr T.zaG zaK (zaC (zau (E:=E0) (zcr (zaM zaY zbS rfl T.n_len PyProof.Rows.Boot.«len» (zaa (dv 3) zai)) zae)) zaS) am1))
 (zal (zbC (i:=5) zbQ.nd rfl (sas rfl) (qm 0 (E:=E0) ((zaE T).mono (by decide:1<=2)) hr T.zaG zaK (zaC (zau (E:=E0) zae) zaS) am1))
 (zal (zbG (E:=E0) fun vs=>(za7 (i:=6) zbQ.nd rfl (sas rfl) (zdi (zaa zcq (zaa zfn (zaa zae (zaa zev (zaa (zbr (zaa zae (zaa zae zai))) (zaa (zbr (zaa zae (zaa zae zai))) (zaa (zbr (zaa (zxS zae) (zaa zae zai))) (zaa (zbr (zaa zae (zaa zae zai))) (zaa (zbr (zaa zfn (zaa zae zai))) (zaa (zbr (zaa zae (zaa zfn zai))) (zaa (zdi (zaa zae (zaa zae zai))) zai))))))))))))))
 (zal (zbC (i:=6) zbQ.nd rfl (sas rfl) (zha (zau (E:=E0) (dv 6)) (qm 0 (E:=E0) ((zaE T).mono (by decide:1<=2)) hr T.zaG zaK (zaC (zau (E:=E0) zae) zaS) am1)))
 (zal (zbC (i:=7) zbQ.nd rfl (sas rfl) (qm 0 (E:=E0) ((zcD T).mono (by decide:2<=2)) hr T.zco zaK (zaC (zau (E:=E0) zae) zaS) am1))
 (zal (zlb (zgb (E:=E0) (za3 (zdt hr.units) zf0 (dv 5) zae nm))
 (zal (zAn (zha (zau (E:=E0) (zdi (zaa (zpk zpr zz5 rfl T.n_tuple PyProof.Rows.Boot.«tuple» (zaa (dv 3) zai)) (zaa zcq (zaa zae (zaa zxW (zaa zev zai))))))) (qm 0 (E:=E0) ((zaE T).mono (by decide:1<=2)) hr T.zaG zaK (zaC (zau (E:=E0) zae) zaS) am1)))
 zaX)
 zaX)
 (zal (zlb (zgb (E:=E0) (za3 (zdt hr.units) zf0 (dv 5) zae nm))
 (zal (zdR (E:=E0) (zcr (ze0 (dv 3) zga (zf9 (dv 4))) (ze0 (dv 3) (zf9 (zcr (dv 4) zae)) zga)))
 zaX)
 zaX)
 (zal (zlb (zgb (E:=E0) (za3 (zdt hr.units) zf0 (dv 5) zae nm))
 (zal (zdR (E:=E0) (zcr (zcr (ze0 (dv 3) zga (zf9 (dv 4))) (zdi (zaa (zbr (zaa zae (zaa zae zai))) zai))) (ze0 (dv 3) (zf9 (dv 4)) zga)))
 zaX)
 zaX)
 (zal (zlb (zgb (E:=E0) (za3 (zdt hr.units) zf0 (dv 4) (zaM zaY zbS rfl T.n_len PyProof.Rows.Boot.«len» (zaa (dv 3) zai)) nm))
 (zal (zdR (E:=E0) (zpk zrH zCI rfl T.n_list PyProof.Rows.Boot.«list» (zaa (dv 3) zai)))
 zaX)
 zaX)
 (zal (zbG (E:=E0) fun vs=>(za7 (i:=8) zbQ.nd rfl (sas rfl) (zdi (zaa (zbr (zaa zae (zaa zae zai))) (zaa (zah (dv 2) (dv 4)) (zaa (qc ((zgZ T).mono (by decide:2<=2)) hr T.zf6 zaK (zaa (zah (dv 2) (dv 4)) (zaa (dv 7) zai)) al2) (zaa (dv 6) (zaa (dv 7) zai))))))))
 (zal (zdR (E:=E0) (zcr (zcr (ze0 (dv 3) zga (zf9 (dv 4))) (zdi (zaa (zah (dv 8) (zrs (dv 5) zae)) zai))) (ze0 (dv 3) (zf9 (zcr (dv 4) zae)) zga)))
 zaX))))))))))))
theorem zEg (T:Txt K mg t):zbP P w K mg base CX0 13 t.zvl t.zx0 ["_law_script"] (spD K 1 zwt) :=
 zaB T.zED.F zfs fun cdv A outer s0 H Ha E hr=>(
 (zac (zpi saM rfl rfl T.n_range (zaM (zyb rfl) zFa rfl T.n_max PyProof.Rows.Boot.«max» (zaa zae (zaa (zaM (zya rfl) zE9 rfl T.n_min PyProof.Rows.Boot.«min» (zaa (zaM zaY zbS rfl T.n_len PyProof.Rows.Boot.«len» (zaa (dv 0) zai)) (zaa zae zai))) zai))) (zb6 (i:=1) zfs.nd rfl (sas rfl)) zb0
 (zxP (i:=2) zfs.nd rfl (sas rfl) (qf ((znw T).mono (by decide:1<=12)) hr T.zkc zaK (zaa (dv 0) (zaa (dv 1) zai)) al2) fun a=>(zal (zbC (i:=3) zfs.nd rfl (sas rfl) (qm 2 (E:=E0) ((zsu T).mono (by decide:4<=12)) hr T.znW zaK (zaC (zau (E:=E0) zae) (zaC (zau (E:=E0) zae) zaS)) am2))
 (zal (zbC (i:=4) zfs.nd rfl (sas rfl) (qm 2 (E:=E0) ((zqg T).mono (by decide:3<=12)) hr T.zlO zaK (zaC (zau (E:=E0) (dv 3)) zaS) am1))
 (zal (zbC (i:=5) zfs.nd rfl (sas rfl) (qm 2 (E:=E0) ((zoP T).mono (by decide:3<=12)) hr T.zka zaK (zaC (zau (E:=E0) (dv 3)) (zaC (zau (E:=E0) (dv 4)) zaS)) am2))
 (zal (zbG (E:=E0) fun vs=>(za7 (i:=6) zfs.nd rfl (sas rfl) (qc ((zjX T).mono (by decide:3<=12)) hr T.zig zaK (zaa (dv 3) (zaa (dv 5) zai)) al2)))
 (zal (zbG (E:=E0) fun vs=>(za7 (i:=7) zfs.nd rfl (sas rfl) (zdi (zaa (dv 6) (zaa (dv 6) (zaa (qc ((zgZ T).mono (by decide:2<=12)) hr T.zf6 zaK (zaa (dv 6) (zaa (zbr (zaa zae (zaa (zuc zae zae) zai))) zai)) al2) (zaa (qc ((zfY T).mono (by decide:2<=12)) hr T.zfc zaK (zaa (dv 6) (zaa (zbr (zaa zae (zaa zae zai))) zai)) al2) zai)))))))
 (zal (zbC (i:=8) zfs.nd rfl (sas rfl) (zha (zn1 (zau (E:=E0) (dv 7)) (zEY (zaC (qm 2 (E:=E0) ((zcD T).mono (by decide:2<=12)) hr T.zco zaK (zaC (zau (E:=E0) zae) zaS) am1) zaS))) (qm 2 (E:=E0) ((zaE T).mono (by decide:1<=12)) hr T.zaG zaK (zaC (zau (E:=E0) zae) zaS) am1)))
 (zal (zlb (zgb (E:=E0) (zbc (zaZ (qc ((zis T).mono (by decide:12<=12)) hr T.zg6 zaK (zaa (dv 3) (zaa (dv 4) (zaa (dv 8) (zaa (dv 5) zai)))) al4))))
 (zal (zdR (E:=E0) zfn)
 zaX)
 zaX)
 (zal (zlc (E:=E0) saM rfl (zly (E:=E0) (ziP rfl T.n_range zae)) (fun vs=>(zb6 (i:=9) zfs.nd rfl (sas rfl))) zb0
 (zal (zbC (i:=10) zfs.nd rfl (sas rfl) (qm 2 (E:=E0) ((zjY T).mono (by decide:3<=12)) hr T.zih zaK (zaC (zau (E:=E0) (dv 3)) (zaC (zau (E:=E0) (dv 4)) (zaC (zau (E:=E0) (dv 5)) zaS))) am3))
 (zal (zlb (zgb (E:=E0) (DW.dt (zxO (zaZ (za8 zc9 rfl T.n_isinstance rfl T.n_list PyProof.Rows.Boot.«list» (dv 10))) (zxO (za3 (zdt hr.units) zf0 (zaM zaY zbS rfl T.n_len PyProof.Rows.Boot.«len» (zaa (dv 10) zai)) (zaM zaY zbS rfl T.n_len PyProof.Rows.Boot.«len» (zaa (dv 4) zai)) nm) (zn0 (za3 (zdt hr.units) zf0 (zfK (dv 9) zae) zae nm))))))
 (zal (zbC (i:=10) zfs.nd rfl (sas rfl) (qm 2 (E:=E0) ((zjY T).mono (by decide:3<=12)) hr T.zih zaK (zaC (zau (E:=E0) (dv 3)) (zaC (zau (E:=E0) (dv 4)) (zaC (zau (E:=E0) (dv 10)) zaS))) am3))
 zaX)
 zaX)
 (zal (zlb (zgb (E:=E0) (zbc (zaZ (qc ((zis T).mono (by decide:12<=12)) hr T.zg6 zaK (zaa (dv 3) (zaa (dv 4) (zaa (dv 8) (zaa (dv 10) zai)))) al4))))
 (zal (zdR (E:=E0) zfn)
 zaX)
 zaX)
 zaX))))
 zaX))))))))))
 (zac (zaN zfn)
 zag)))
end
theorem txt_mk {K:sab}{h:Heap}{mg:Str->Option Value}(X:K.In h)(G:h.Ns mainGlobals mg){zbI:Addr}{za5:Addr}{zc2:Addr}{zeq:Addr}{zb1:Addr}{zap:Addr}{zbA:Addr}{zep:Addr}{a_0:Addr}{a_1:Addr}{a_2:Addr}{a_3:Addr}{a_4:Addr}{a_5:Addr}{a_6:Addr}{a_7:Addr}{a_8:Addr}{a_9:Addr}{a_10:Addr}{a_11:Addr}{a_12:Addr}{a_13:Addr}{a_14:Addr}{a_15:Addr}{a_16:Addr}{a_17:Addr}{a_18:Addr}{a_19:Addr}{a_20:Addr}{a_21:Addr}{a_22:Addr}{a_23:Addr}{a_24:Addr}{a_25:Addr}{a_26:Addr}{a_27:Addr}{a_28:Addr}{a_29:Addr}{a_30:Addr}{a_31:Addr}{a_32:Addr}{a_33:Addr}{a_34:Addr}{a_35:Addr}{a_36:Addr}{a_37:Addr}{a_38:Addr}{a_39:Addr}{a_40:Addr}{a_41:Addr}{a_42:Addr}{a_43:Addr}{a_44:Addr}{a_45:Addr}{a_46:Addr}{a_47:Addr}{a_48:Addr}{a_49:Addr}{a_50:Addr}{a_51:Addr}(q_0:QA K "_law_begun" zgU a_0)(q_1:QA K "_law_take" zh4 a_1)(q_2:QA K "_law_names" zgT a_2)(q_3:QA K "_law_low" zjm a_3)(q_4:QA K "_law_amount" zfW a_4)(q_5:QA K "_law_tie" zjl a_5)(q_6:QA K "_law_web" zjk a_6)(q_7:QA K "_law_adds" zh9 a_7)(q_8:QA K "_law_times" zgQ a_8)(q_9:QA K "_law_parts" zgS a_9)(q_10:QA K "_law_plus" zh5 a_10)(q_11:QA K "_law_cost" zh7 a_11)(q_12:QA K "_law_is_length" zem a_12)(q_13:QA K "_law_less" zh6 a_13)(q_14:QA K "_law_spread_wrong" zc4 a_14)(q_15:QA K "is_name" zli a_15)(q_16:QA K "look_at_places" zej a_16)(q_17:QA K "is_whole" zjg a_17)(q_18:QA K "common_divisor" zel a_18)(q_19:QA K "is_ratio" zjh a_19)(q_20:QA K "is_length" zh2 a_20)(q_21:QA K "is_worth" zjf a_21)(q_22:QA K "is_tie" zoC a_22)(q_23:QA K "look_at_ties" zfh a_23)(q_24:QA K "is_place" zjj a_24)(q_25:QA K "look_at_web" zfT a_25)(q_26:QA K "has_lengths" zfV a_26)(q_27:QA K "look_at_adds" zfi a_27)(q_28:QA K "look_at_purse" zeM a_28)(q_29:QA K "is_less" zlj a_29)(q_30:QA K "ratio" zsg a_30)(q_31:QA K "plus" zvN a_31)(q_32:QA K "sum_of" zoA a_32)(q_33:QA K "times" zsf a_33)(q_34:QA K "cost_of_spread" zek a_34)(q_35:QA K "look_at_spread" zei a_35)(q_36:QA K "is_tie_number" zeN a_36)(q_37:QA K "look_at_taking" zeh a_37)(q_38:QA K "is_price" zji a_38)(q_39:QA K "prices_just_the_places" zbN a_39)(q_40:QA K "is_let" zoD a_40)(q_41:QA K "steps_along" zfS a_41)(q_42:QA K "steps_left" zgO a_42)(q_43:QA K "lets_prices" zfU a_43)(q_44:QA K "longer_tie" zgP a_44)(q_45:QA K "longer_by" zh1 a_45)(q_46:QA K "lets_spread_prices" zcu a_46)(q_47:QA K "_law_asked" zgV a_47)(q_48:QA K "_law_told" zh3 a_48)(q_49:QA K "_law_right" zgR a_49)(q_50:QA K "_law_bent" zh8 a_50)(q_51:QA K "law" zoB a_51)
  (z_ValueError:sa4 K mainGlobals "ValueError"=some none)
  (z_abs:sa4 K mainGlobals "abs"=some none)
  (z_all:sa4 K mainGlobals "all"=some none)
  (z_bool:sa4 K mainGlobals "bool"=some none)
  (z_dict:sa4 K mainGlobals "dict"=some none)
  (z_enumerate:sa4 K mainGlobals "enumerate"=some none)
  (z_int:sa4 K mainGlobals "int"=some none)
  (z_isinstance:sa4 K mainGlobals "isinstance"=some none)
  (z_len:sa4 K mainGlobals "len"=some none)
  (z_list:sa4 K mainGlobals "list"=some none)
  (z_max:sa4 K mainGlobals "max"=some none)
  (z_min:sa4 K mainGlobals "min"=some none)
  (z_range:sa4 K mainGlobals "range"=some none)
  (z_repr:sa4 K mainGlobals "repr"=some none)
  (z_str:sa4 K mainGlobals "str"=some none)
  (z_tuple:sa4 K mainGlobals "tuple"=some none)
  (z_zip:sa4 K mainGlobals "zip"=some none)
  (zj6:sa4 K mainGlobals "CutError"=some (some (.ref za5)))(zqo:scP K (.ref za5)=some (.type "type"))(zqq:scE K za5 (.type "object")=some true)(zqu:sa0 K (.ref za5) (.type "BaseException")=some true)
  (znP:sa4 K mainGlobals "NoAdds"=some (some (.ref zc2)))(zuP:scP K (.ref zc2)=some (.type "type"))(zuQ:scE K zc2 (.type "object")=some true)(zuT:sa0 K (.ref zc2) (.type "BaseException")=some true)
  (zqs:sa4 K mainGlobals "NoMix"=some (some (.ref zeq)))(zwz:scP K (.ref zeq)=some (.type "type"))(zwC:scE K zeq (.type "object")=some true)(zwE:sa0 K (.ref zeq) (.type "BaseException")=some true)
  (zlG:sa4 K mainGlobals "NoPurse"=some (some (.ref zb1)))(zsA:scP K (.ref zb1)=some (.type "type"))(zsB:scE K zb1 (.type "object")=some true)(zsE:sa0 K (.ref zb1) (.type "BaseException")=some true)
  (zg1:sa4 K mainGlobals "NoSpread"=some (some (.ref zap)))(zj3:scP K (.ref zap)=some (.type "type"))(zj4:scE K zap (.type "object")=some true)(zj7:sa0 K (.ref zap) (.type "BaseException")=some true)
  (zj5:sa4 K mainGlobals "NoTaking"=some (some (.ref zbA)))(zqn:scP K (.ref zbA)=some (.type "type"))(zqp:scE K zbA (.type "object")=some true)(zqt:sa0 K (.ref zbA) (.type "BaseException")=some true)
  (zqr:sa4 K mainGlobals "NoWeb"=some (some (.ref zep)))(zwy:scP K (.ref zep)=some (.type "type"))(zwB:scE K zep (.type "object")=some true)(zwD:sa0 K (.ref zep) (.type "BaseException")=some true)
  (zos:sbO K (.ref zap) "__class__"=some (some (.builtin "object.__class__")))(zpP:sbO K (.ref zap) "__getattribute__"=some (some (.builtin "BaseException.__getattribute__")))(zpO:sbO K (.ref zap) "__getattr__"=some none)(zpJ:sa0 K (.ref zap) (.type "NoneType")=some false)(zpI:sa0 K (.ref zap) (.type "bool")=some false)(zpH:sa0 K (.ref zap) (.type "int")=some false)(zpG:sa0 K (.ref zap) (.type "str")=some false)(zpF:sa0 K (.ref zap) (.type "tuple")=some false)(zpE:sa0 K (.ref zap) (.type "list")=some false)(zpD:sa0 K (.ref zap) (.type "dict")=some false)(zpC:sa0 K (.ref zap) (.type "ValueError")=some true)(znq:sa0 K (.ref zap) (.ref zap)=some true)
  {zqi zqv zrt zqb zko zrx:Value}{zqh zrT:Option Addr}{zp3:Array (Option Value)}
  {zsy zsj:Str}{zjv:Addr}{zsZ zsa:List Value}{zsL zs2:Bool}{zsd:List Str}{zrF:Option Bool}{zsT zsR:Option Addr}{zsJ zsI zsH zsG zsF:Option Value}{zsX:Value}{zmD:Array DictEntry}{zsQ:Nat}{zsb:Array (Option Value)}
  (zk6:K.lookup zap=some (excClassObj zsy zsj zap zjv zsZ [.ref za5,.type "ValueError",.type "Exception",.type "BaseException",.type "object"] zsL zsd zsa zs2 zrF zsT zsJ zsI zsH zsG zsF "ValueError.__new__")) (zk5:K.lookup zjv=some ⟨zsX,zsR,.dict zmD zsQ,zsb⟩) (zk7:zmD.toList.all zEj=true) (zk3:sa4 K zjv "__init__"=some (some (.ref zbI)))
  (zsi:W.isFn K (.ref zbI)=true) (zlp:K.lookup zbI=some ⟨zqi,zqh,.func (sbY "__init__" "NoSpread.__init__" (defArgs zdS) (defBody zdS) (defScope zdS) .none zqv zrt zqb zrT zko zrx),zp3⟩) (zlo:W.codeIn K zko "NoSpread.__init__"=true) (zln:scj K (.ref zbI)=true)
  (zpL:sbO K (.ref zap) "__setattr__"=some (some (.builtin "object.__setattr__"))) (zpN:scm K zap=true) (zk4:sbO K (.ref zap) "at"=some none)
  (zjN:W.excIn K za5 [.type "ValueError",.type "Exception",.type "BaseException",.type "object"] "ValueError.__new__"=true) (zpM:W.readsIn K za5 (.type "type")=true) (zpQ:W.findCls K (.ref za5) (.type "type") "__init__"=some (.val (.builtin "ValueError.__init__"))) (zpK:W.specialIn K (.ref za5) "__getattribute__"=some (some (.builtin "type.__getattribute__")))
  (zc8:sa0 K (.ref zap) (.ref za5)=some true)
  (zdU:sa0 K (.ref zap) (.ref zc2)=some false)
  (zeo:sa0 K (.ref zap) (.ref zeq)=some false)
  (zds:sa0 K (.ref zap) (.ref zb1)=some false)
  (zc7:sa0 K (.ref zap) (.ref zap)=some true)
  (zc6:sa0 K (.ref zap) (.ref zbA)=some false)
  (zen:sa0 K (.ref zap) (.ref zep)=some false)
  {zk8:Tok}(zk2:sa4 K mainGlobals "FEWEST_PLACES"=some (some (.int 2 zk8)))
  {zBx:Tok}(zA9:sa4 K mainGlobals "FIRST"=some (some (.int 2 zBx)))
  {zDi:Tok}(zC5:sa4 K mainGlobals "LAST"=some (some (.int 3 zDi)))
  {zyS:Tok}(zyw:sa4 K mainGlobals "LENGTH"=some (some (.int 3 zyS)))
  {zvE:Tok}(zvu:sa4 K mainGlobals "LETTERS"=some (some (.str "abcdefghijklmnopqrstuvwxyz" zvE)))
  {znr:Tok}(znp:sa4 K mainGlobals "LONGEST_NAME"=some (some (.int 8 znr)))
  {zow:Tok}(zor:sa4 K mainGlobals "MOST_PLACES"=some (some (.int 7 zow)))
  {zr9:Tok}(zr7:sa4 K mainGlobals "MOST_TIES"=some (some (.int 14 zr9)))
  {ztk:Addr}{ztv:Obj}(zyv:sa4 K mainGlobals "NOUGHT"=some (some (.ref ztk))) (zyC:K.lookup ztk=some ztv) (zyE:∃ od its n sl vs,ztv=⟨.type "tuple",od,.seq its n,sl⟩/\zbT vs its.toList/\its.size<=sizeLine/\∀ H,Reps K H [.int 0,.int 1] vs)
  {zFL:Tok}(zFG:sa4 K mainGlobals "ONE"=some (some (.int 0 zFL)))
  {zBw:Tok}(zA8:sa4 K mainGlobals "OTHER"=some (some (.int 1 zBw)))
  {zyR:Tok}(zyu:sa4 K mainGlobals "PLACES"=some (some (.int 0 zyR)))
  {zDh:Tok}(zC4:sa4 K mainGlobals "TIES"=some (some (.int 1 zDh)))
  {zDg:Tok}(zC3:sa4 K mainGlobals "WORD"=some (some (.int 2 zDg)))
  {zvW:Addr}{zwm:Obj}(zA7:sa4 K mainGlobals "WORDS"=some (some (.ref zvW))) (zBi:K.lookup zvW=some zwm) (zBm:∃ od its n sl vs,zwm=⟨.type "tuple",od,.seq its n,sl⟩/\zbT vs its.toList/\its.size<=sizeLine/\∀ H,Reps K H [.str "one",.str "both"] vs)
  {zBv:Tok}(zA6:sa4 K mainGlobals "WORTH"=some (some (.int 4 zBv))) :
  ∃ t:Adr,Txt K mg t/\t.zvl=a_51/\∃ kV doc pm an cdv ct,t.zx0=sbY "law" "law" (defArgs zoB) (defBody zoB) (defScope zoB) .none kV doc pm an cdv ct:=by
 obtain⟨d_0,T_0,_⟩:=ft2 X G q_0 zez;obtain⟨d_1,T_1,_⟩:=ft2 X G q_1 zdb;obtain⟨d_2,T_2,_⟩:=ft2 X G q_2 za1;obtain⟨d_3,T_3,_⟩:=ft2 X G q_3 zeL;obtain⟨d_4,T_4,_⟩:=ft2 X G q_4 zb3;obtain⟨d_5,T_5,_⟩:=ft3 X G q_5 zbs;obtain⟨d_6,T_6,_⟩:=ft3 X G q_6 zbH;obtain⟨d_7,T_7,_⟩:=ft2 X G q_7 zeb;obtain⟨d_8,T_8,_⟩:=ft2 X G q_8 zio;obtain⟨d_9,T_9,_⟩:=ft3 X G q_9 zcl;obtain⟨d_10,T_10,_⟩:=ft2 X G q_10 zjS;obtain⟨d_11,T_11,_⟩:=ft2 X G q_11 zea;obtain⟨d_12,T_12,_⟩:=ft1 X G q_12 zdT;obtain⟨d_13,T_13,_⟩:=ft2 X G q_13 zjT;obtain⟨d_14,T_14,_⟩:=ft4 X G q_14 zct;obtain⟨d_15,T_15,_⟩:=ft1 X G q_15 znE;obtain⟨d_16,T_16,_⟩:=ft1 X G q_16 zck;obtain⟨d_17,T_17,_⟩:=ft1 X G q_17 zle;obtain⟨d_18,T_18,_⟩:=ft2 X G q_18 zbe;obtain⟨d_19,T_19,_⟩:=ft1 X G q_19 zlf;obtain⟨d_20,T_20,_⟩:=ft1 X G q_20 zjR;obtain⟨d_21,T_21,_⟩:=ft1 X G q_21 zld;obtain⟨d_22,T_22,_⟩:=ft1 X G q_22 zp7;obtain⟨d_23,T_23,_⟩:=ft2 X G q_23 zdq;obtain⟨d_24,T_24,_⟩:=ft2 X G q_24 zlh;obtain⟨d_25,T_25,_⟩:=ft1 X G q_25 zhK;obtain⟨d_26,T_26,_⟩:=ft2 X G q_26 zhL;obtain⟨d_27,T_27,_⟩:=ft2 X G q_27 zgM;obtain⟨d_28,T_28,_⟩:=ft1 X G q_28 zgf;obtain⟨d_29,T_29,_⟩:=ft2 X G q_29 znF;obtain⟨d_30,T_30,_⟩:=ft2 X G q_30 zkM;obtain⟨d_31,T_31,_⟩:=ft2 X G q_31 zvM;obtain⟨d_32,T_32,_⟩:=ft1 X G q_32 zgL;obtain⟨d_33,T_33,_⟩:=ft2 X G q_33 ztg;obtain⟨d_34,T_34,_⟩:=ft2 X G q_34 zft;obtain⟨d_35,T_35,_⟩:=ft4 X G q_35 zbM;obtain⟨d_36,T_36,_⟩:=ft2 X G q_36 zgg;obtain⟨d_37,T_37,_⟩:=ft2 X G q_37 zbL;obtain⟨d_38,T_38,_⟩:=ft1 X G q_38 zlg;obtain⟨d_39,T_39,_⟩:=ft2 X G q_39 zcB;obtain⟨d_40,T_40,_⟩:=ft3 X G q_40 zp8;obtain⟨d_41,T_41,_⟩:=ft1 X G q_41 zfg;obtain⟨d_42,T_42,_⟩:=ft2 X G q_42 zbV;obtain⟨d_43,T_43,_⟩:=ft3 X G q_43 zcC;obtain⟨d_44,T_44,_⟩:=ft2 X G q_44 zin;obtain⟨d_45,T_45,_⟩:=ft2 X G q_45 zgN;obtain⟨d_46,T_46,_⟩:=ft5 X G q_46 zd9;obtain⟨d_47,T_47,_⟩:=ft5 X G q_47 ziq;obtain⟨d_48,T_48,_⟩:=ft5 X G q_48 zcc;obtain⟨d_49,T_49,_⟩:=ft4 X G q_49 zdr;obtain⟨d_50,T_50,_⟩:=ft4 X G q_50 zbQ;obtain⟨d_51,T_51,zGM⟩:=ft1 X G q_51 zfs;refine⟨⟨zbI,_,za5,zc2,zeq,zb1,zap,zbA,zep,a_0,d_0,a_1,d_1,a_2,d_2,a_3,d_3,a_4,d_4,a_5,d_5,a_6,d_6,a_7,d_7,a_8,d_8,a_9,d_9,a_10,d_10,a_11,d_11,a_12,d_12,a_13,d_13,a_14,d_14,a_15,d_15,a_16,d_16,a_17,d_17,a_18,d_18,a_19,d_19,a_20,d_20,a_21,d_21,a_22,d_22,a_23,d_23,a_24,d_24,a_25,d_25,a_26,d_26,a_27,d_27,a_28,d_28,a_29,d_29,a_30,d_30,a_31,d_31,a_32,d_32,a_33,d_33,a_34,d_34,a_35,d_35,a_36,d_36,a_37,d_37,a_38,d_38,a_39,d_39,a_40,d_40,a_41,d_41,a_42,d_42,a_43,d_43,a_44,d_44,a_45,d_45,a_46,d_46,a_47,d_47,a_48,d_48,a_49,d_49,a_50,d_50,a_51,d_51⟩,⟨T_0,T_1,T_2,T_3,T_4,T_5,T_6,T_7,T_8,T_9,T_10,T_11,T_12,T_13,T_14,T_15,T_16,T_17,T_18,T_19,T_20,T_21,T_22,T_23,T_24,T_25,T_26,T_27,T_28,T_29,T_30,T_31,T_32,T_33,T_34,T_35,T_36,T_37,T_38,T_39,T_40,T_41,T_42,T_43,T_44,T_45,T_46,T_47,T_48,T_49,T_50,T_51,sa1 X G z_ValueError,sa1 X G z_abs,sa1 X G z_all,sa1 X G z_bool,sa1 X G z_dict,sa1 X G z_enumerate,sa1 X G z_int,sa1 X G z_isinstance,sa1 X G z_len,sa1 X G z_list,sa1 X G z_max,sa1 X G z_min,sa1 X G z_range,sa1 X G z_repr,sa1 X G z_str,sa1 X G z_tuple,sa1 X G z_zip,sbv X G zj6,⟨zj6,zqo,zqq,zqu⟩,sbv X G znP,⟨znP,zuP,zuQ,zuT⟩,sbv X G zqs,⟨zqs,zwz,zwC,zwE⟩,sbv X G zlG,⟨zlG,zsA,zsB,zsE⟩,sbv X G zg1,⟨zg1,zj3,zj4,zj7⟩,sbv X G zj5,⟨zj5,zqn,zqp,zqt⟩,sbv X G zqr,⟨zqr,zwy,zwB,zwD⟩,⟨⟨zg1,zj3,zj4,zj7⟩,zos,zpP,zpO,zpJ,zpI,zpH,zpG,zpF,zpE,zpD,zpC,znq⟩,ztG zlp zlo zln,?ze4,zAg zk6 zk5 zk7 zk3 zjN,zC6 (zAg zk6 zk5 zk7 zk3 zjN) zpL zpN (zzi zk4 (zB0)),zsi,⟨zpM,zpQ,zpK⟩,zc8,zdU,zeo,zds,zc7,zc6,zen,?ze2,?zjJ,?zrK,?ziX,?zm6,?zfo,?zgc,?zii,?ziW,?zrJ,?zhh,?zfd,?zgu,?zoc,?zsY,?zhg⟩,rfl,zGM⟩
 case ze4=>exact(ztG (st:=zdS) zlp zlo zln).binds fun _ _ _ _ _ _ us hl=>by obtain⟨_,_,rfl⟩:=ln2 hl;rfl
 case ze2=>exact zdZ (sbv X G zk2)
 case zjJ=>exact zdZ (sbv X G zA9)
 case zrK=>exact zdZ (sbv X G zC5)
 case ziX=>exact zdZ (sbv X G zyw)
 case zm6=>exact zCd (sbv X G zvu)
 case zfo=>exact zdZ (sbv X G znp)
 case zgc=>exact zdZ (sbv X G zor)
 case zii=>exact zdZ (sbv X G zr7)
 case ziW =>
  obtain⟨od,its,n,sl,vs,rfl,h1,h2,h3⟩:=zyE;exact zwA (sbv X G zyv) zyC h1 h2 h3
 case zrJ=>exact zdZ (sbv X G zFG)
 case zhh=>exact zdZ (sbv X G zA8)
 case zfd=>exact zdZ (sbv X G zyu)
 case zgu=>exact zdZ (sbv X G zC4)
 case zoc=>exact zdZ (sbv X G zC3)
 case zsY =>
  obtain⟨od,its,n,sl,vs,rfl,h1,h2,h3⟩:=zBm;exact zwA (sbv X G zA7) zBi h1 h2 h3
 case zhg=>exact zdZ (sbv X G zA6)
theorem txt_wr {K:sab}{mg:Str->Option Value}{a:Addr}{R:Adr->Prop}(h:∃ t:Adr,Txt K mg t/\t.zvl=a/\R t):∃ t:Adr,Txt K mg t/\mg "law"=some (.ref t.zvl)/\R t:=h.elim fun t ⟨T,_,r⟩=>⟨t,T,T.zED.g,r⟩
end K51
local macro_rules | `(tactic| open_line with[$xs,*])=>`(tactic| simp only[zu4,zqO,zl0,zlZ,zlY,zlX,zmd,zqN,zlW,zqR,zl4,zl3,zmy,ziJ,zw9,zrd,zrc,zq1,zmb,zrm,zma,zmA,zqT,zl8,zl7,ziD,zre,zqE,zqZ,zl9,zxn,zxm,zrl,zxl,zq6,zmz,ziL,ziK,zrn,zmC,zmB,zw5,zq4,zq3,zq5,zmc,zrb,zmv,zmu,zqD,zlP,zEE,zlV,zqM,zlU,zlT,zlS,zo4,ztW,ztV,ztU,zo6,zkY,ziM,zqQ,zl2,zl1,zw4,zq2,zw6,zw2,zqL,zqK,zqJ,zrf,zmx,ziN,zxa,zri,zrh,zrg,zra,zro,zq7,zw8,zw7,zcx,zme,zq0,znZ,zj1,saN,scg,sau,sbu,saO,sbW,sbL,sbV,sbG,saW,sb5,sb6,scr,Nat.reduceSub,Nat.reduceAdd,scG,scf,scC,scw,zqI,zq9,zjF,zf8,ziO,zq8,zlR,zlQ,zw3,zqP,zwZ,zqH,zqG,zqF,zjD,zjC,zmt,zms,zmr,zmq,zmp,zmo,zmn,zmm,ziI,ziH,ziG,ziF,zml,zmk,zmj,zmi,zmh,zmg,decide_true,decide_false,Nat.reduceLeDiff,Nat.reduceBEq,Int.reduceBEq,beq_self_eq_true,DL.dOne,DL.mYes,zcW,zdJ,zcY,zcV,zcU,zcX,zcZ,zdE,zef,zdG,zdD,zdC,zdF,zdH,zdx,zee,zdz,zdw,zdv,zdy,zdA,zcg,zcH,zci,zcf,zce,zch,zcj,zcK,zdB,zcM,zcJ,zcI,zcL,zcN,zcQ,zdI,zcS,zcP,zcO,zcR,zcT,zfF,zeW,zg7,zfC,zfH,zeY,zfE,zeV,zfD,zeU,zfG,zeX,zfI,zeZ,zxk,zxj,zxi,zxh,zxg,zxf,zxe,zxd,zxc,zxb,zrk,zrj,Int.reduceLT,Int.reduceLE,Int.reduceSub,Int.reduceAdd,Int.reduceMul,Int.reduceNeg,zmf,ziE,zqY,zqX,zqW,zqV,zqU,zqS,zl6,zl5,Int.reduceToNat,scD,zo8,zkX,zo3,zkW,zo2,zkV,zo1,zkU,zpc,ztX,zpb,zpa,zo9,zzP,ztS,zu5,zmw,ztQ,zpd,zpe,zo7,zzN,zzQ,ztT,zzO,ztR,zzR,znY,zzM,zAG,zxx,zxw,zxv,zxu,zxH,zxE,zt3,zt2,zt1,zAF,zxt,zAI,zxB,zxA,zt0,zEI,zAM,zAL,zHe,zEO,zHf,zEL,zEM,zEJ,zEK,zHc,zHd,zEN,zEH,zxG,zEG,zAE,zHg,zEQ,zEP,zAK,zxJ,zt5,zt4,zHh,zER,zxL,zt6,zAJ,zxD,zxC,zAP,zxF,zph,zAN,zAQ,zxN,zxM,zAD,zxs,zxr,zpg,zAO,zxI,zxK,zAH,zxz,zxy,$[$xs:term],*])
local macro_rules | `(tactic| open_line with[$xs,*] seeing $h)=>`(tactic| simp only[zu4,zqO,zl0,zlZ,zlY,zlX,zmd,zqN,zlW,zqR,zl4,zl3,zmy,ziJ,zw9,zrd,zrc,zq1,zmb,zrm,zma,zmA,zqT,zl8,zl7,ziD,zre,zqE,zqZ,zl9,zxn,zxm,zrl,zxl,zq6,zmz,ziL,ziK,zrn,zmC,zmB,zw5,zq4,zq3,zq5,zmc,zrb,zmv,zmu,zqD,zlP,zEE,zlV,zqM,zlU,zlT,zlS,zo4,ztW,ztV,ztU,zo6,zkY,ziM,zqQ,zl2,zl1,zw4,zq2,zw6,zw2,zqL,zqK,zqJ,zrf,zmx,ziN,zxa,zri,zrh,zrg,zra,zro,zq7,zw8,zw7,zcx,zme,zq0,znZ,zj1,saN,scg,sau,sbu,saO,sbW,sbL,sbV,sbG,saW,sb5,sb6,scr,Nat.reduceSub,Nat.reduceAdd,scG,scf,scC,scw,zqI,zq9,zjF,zf8,ziO,zq8,zlR,zlQ,zw3,zqP,zwZ,zqH,zqG,zqF,zjD,zjC,zmt,zms,zmr,zmq,zmp,zmo,zmn,zmm,ziI,ziH,ziG,ziF,zml,zmk,zmj,zmi,zmh,zmg,decide_true,decide_false,Nat.reduceLeDiff,Nat.reduceBEq,Int.reduceBEq,beq_self_eq_true,DL.dOne,DL.mYes,zcW,zdJ,zcY,zcV,zcU,zcX,zcZ,zdE,zef,zdG,zdD,zdC,zdF,zdH,zdx,zee,zdz,zdw,zdv,zdy,zdA,zcg,zcH,zci,zcf,zce,zch,zcj,zcK,zdB,zcM,zcJ,zcI,zcL,zcN,zcQ,zdI,zcS,zcP,zcO,zcR,zcT,zfF,zeW,zg7,zfC,zfH,zeY,zfE,zeV,zfD,zeU,zfG,zeX,zfI,zeZ,zxk,zxj,zxi,zxh,zxg,zxf,zxe,zxd,zxc,zxb,zrk,zrj,Int.reduceLT,Int.reduceLE,Int.reduceSub,Int.reduceAdd,Int.reduceMul,Int.reduceNeg,zmf,ziE,zqY,zqX,zqW,zqV,zqU,zqS,zl6,zl5,Int.reduceToNat,scD,zo8,zkX,zo3,zkW,zo2,zkV,zo1,zkU,zpc,ztX,zpb,zpa,zo9,zzP,ztS,zu5,zmw,ztQ,zpd,zpe,zo7,zzN,zzQ,ztT,zzO,ztR,zzR,znY,zzM,zAG,zxx,zxw,zxv,zxu,zxH,zxE,zt3,zt2,zt1,zAF,zxt,zAI,zxB,zxA,zt0,zEI,zAM,zAL,zHe,zEO,zHf,zEL,zEM,zEJ,zEK,zHc,zHd,zEN,zEH,zxG,zEG,zAE,zHg,zEQ,zEP,zAK,zxJ,zt5,zt4,zHh,zER,zxL,zt6,zAJ,zxD,zxC,zAP,zxF,zph,zAN,zAQ,zxN,zxM,zAD,zxs,zxr,zpg,zAO,zxI,zxK,zAH,zxz,zxy,$[$xs:term],*] at $(⟨h⟩):ident)
namespace Bor
open PySem L2 DL Com
def St (st:List D):Prop:=∃ (c s:Int) (b:Bool),st=[.int c,.int s,.bl b]/\0<=s/\s < 2147483647
theorem p6:zug (.int 10) (.int 6)=.ok (.int 1000000):=zav rfl
def next (s:Int):Int:=(s*39373+17).fmod 2147483647
theorem zwp (s:Int):0<=next s/\next s < 2147483647:=zgH (by decide)
def mix (m s:Int):Int:=m*2147483587+(s*s).fmod 2147483587
theorem zBn {a:Addr}{n c s m:Int}{b:Bool}{k:Int}(h0:0<=s)(h1:s < 2147483647)(hm:0<=m/\m < 1000000000000000000000000000) :
  (zbb (zAy 0 a (mV 0 a (zad (zad (zad (zad (zaf 0) (dC (.int 1)) dIx) (dC (.int 39373)) zbZ) (dC (.int 17)) zd7) (dC (.int 2147483647)) zfL)) (mP (dC (.int 1))))
 (zbb (ze6 3 (mV 0 a (zad (zad (zaf 3) (dC (.int 2147483587)) zbZ) (zad (zad (zad (zaf 0) (dC (.int 1)) dIx) (zad (zaf 0) (dC (.int 1)) dIx) zbZ) (dC (.int 2147483587)) zfL) zd7)))
 zbn)) [.pt a,.sh (.int n),.no,.sh (.int m),.sh (.int k)] [.int c,.int s,.bl b]=.ok (.nx [.pt a,.sh (.int n),.no,.sh (.int (mix m (next s))),.sh (.int k)] [.int c,.int (next s),.bl b]):=by
 have o1:zfm s 39373=true:=zf1 (by omega) (by decide);have g:=zwp s;have o2:zfm (next s) (next s)=true:=zf1 (by omega) (by omega);have o3:zfm m 2147483587=true:=zcE (scF (show m.natAbs < 1000000000000000000000000000 by omega) (by rw[zop];decide +kernel)) (scF (show(2147483587:Int).natAbs < 2147483588 by decide) (by rw[zop];decide +kernel));have e:(s*39373+17).fmod 2147483647=next s:=rfl;have hp:∀ (ρ:Ev) (d:D),zlq ρ d (.int 1,[.int c,.int s,.bl b])=.ok (.nx ρ [.int c,d,.bl b]):=fun _ _=>rfl;open_line with[zbJ o1,e,zbJ o2,zbJ o3,hp,mix]
theorem zbh (a:Addr){n:Int}(n0:0 < n)(n1:n<=1000000000000000000){st:List D}(h:St st):∃ (d:Int) (st':List D),zas a st [.int n]=.ok (.int d,st')/\0<=d/\d < n/\St st':=by
 obtain⟨c,s,b,rfl,s0,s1⟩:=h;have hn0:(n==0)=false:=beq_eq_false_iff_ne.mpr (by omega);have hd:zhC c n=true:=zE0 (by omega) (saG (show n.natAbs<=1000000000000000000 by omega) (by rw[zCV];decide +kernel));cases b with
 | true =>
  have f:=zgH (a:=c) (b:=n) n0;have p0:∀ (ρ:Ev) (d:D),zlq ρ d (.int 0,[.int c,.int s,.bl true])=.ok (.nx ρ [d,.int s,.bl true]):=fun _ _=>rfl;have p2:∀ (ρ:Ev) (d:D),zlq ρ d (.int 2,[.int (c.fdiv n),.int s,.bl true])=.ok (.nx ρ [.int (c.fdiv n),.int s,d]):=fun _ _=>rfl;refine⟨c.fmod n,[.int (c.fdiv n),.int s,.bl (decide (c.fdiv n > 0))],?_,f.1,f.2,_,_,_,rfl,s0,s1⟩;open_line with[zas,zij,hn0,ztY hd,p0,p2]
 | false =>
  have key:∃ t:Nat,t<=3/\∀ x2 x3 x4:Sl,(zim (zad (dC (.int 1)) (zad (dC (.int 2)) (zaj (zab (zad (zaf 1) (zad (dC (.int 10)) (dC (.int 6)) zug) dGt) zaz) (m1 zmW)) zbZ) zd7)) [.pt a,.sh (.int n),x2,x3,x4]=.ok (intsFrom 0 t):=by
   by_cases hb:n > 1000000
   .refine⟨3,by decide,fun x2 x3 x4=>?_⟩
    have o:zfm 2 1=true:=zf1 (by decide) (by decide);have:(zad (dC (.int 1)) (zad (dC (.int 2)) (zaj (zab (zad (zaf 1) (zad (dC (.int 10)) (dC (.int 6)) zug) dGt) zaz) (m1 zmW)) zbZ) zd7) [.pt a,.sh (.int n),x2,x3,x4]=.ok (.int 3):=by
     open_line with[p6,decide_eq_true hb,zbJ o]
    unfold zim;rw[this];rfl
   .refine⟨1,by decide,fun x2 x3 x4=>?_⟩
    have o:zfm 2 0=true:=zf1 (by decide) (by decide);have:(zad (dC (.int 1)) (zad (dC (.int 2)) (zaj (zab (zad (zaf 1) (zad (dC (.int 10)) (dC (.int 6)) zug) dGt) zaz) (m1 zmW)) zbZ) zd7) [.pt a,.sh (.int n),x2,x3,x4]=.ok (.int 1):=by
     open_line with[p6,decide_eq_false hb,zbJ o]
    unfold zim;rw[this];rfl
  obtain⟨t,ht,hsrc⟩:=key;have hlen:(intsFrom 0 t).length=t:=by unfold DL.intsFrom;simp
  obtain⟨ρ2,st2,hl,m,s',x4,rfl,rfl,k0,k1,m0,_⟩:=zix (tg:=zd0 4) (body:=(zbb (zAy 0 a (mV 0 a (zad (zad (zad (zad (zaf 0) (dC (.int 1)) dIx) (dC (.int 39373)) zbZ) (dC (.int 17)) zd7) (dC (.int 2147483647)) zfL)) (mP (dC (.int 1))))
 (zbb (ze6 3 (mV 0 a (zad (zad (zaf 3) (dC (.int 2147483587)) zbZ) (zad (zad (zad (zaf 0) (dC (.int 1)) dIx) (zad (zaf 0) (dC (.int 1)) dIx) zbZ) (dC (.int 2147483587)) zfL) zd7)))
 zbn)))
   (fun j ρ st=>∃ (m s:Int) (x4:Sl),ρ=[.pt a,.sh (.int n),.no,.sh (.int m),x4]/\st=[.int c,.int s,.bl false]/\0<=s/\s < 2147483647/\0<=m/\m < (2147483587:Int) ^ j)
   (intsFrom 0 t) (by
    rintro j d ρ st hj ⟨m,s,x4,rfl,rfl,s0,s1,m0,m1⟩;have hjt:j < t:=by have:=(sac.mp hj).1;omega
    have hd:d=.int (j:Int):=by
     unfold DL.intsFrom at hj;rw[sai,scN hjt] at hj;simp at hj;exact hj.symm
    subst hd;have hm:m < 1000000000000000000000000000:=by
     have hj3:j=0∨j=1∨j=2:=by omega
     rcases hj3 with rfl | rfl | rfl<;>omega
    have g:=zwp s;have r:=zgH (a:=next s*next s) (b:=2147483587) (by decide);refine⟨_,_,_,rfl,.inl (zBn (k:=(j:Int)) s0 s1 ⟨m0,hm⟩),mix m (next s),next s,_,rfl,rfl,g.1,g.2,?_,?_⟩
    .unfold mix
     have:0<=m*2147483587:=sa9 m0 (by decide);omega
    .unfold mix
     rw[Int.pow_succ];omega) 0 [.pt a,.sh (.int n),.no,.sh (.int 0),.no] [.int c,.int s,.bl false] (sbE _) ⟨0,s,_,rfl,rfl,s0,s1,by decide,by decide⟩
  rw[sbq] at hl;have f:=zgH (a:=m.fdiv 64) (b:=n) n0;have hd64:zhC m 64=true:=zE0 (by decide) (by rw[zCV];decide +kernel);refine⟨(m.fdiv 64).fmod n,[.int c,.int s',.bl false],?_,f.1,f.2,c,s',false,rfl,k0,k1⟩;open_line with[zas,zij,hsrc,hl,ztY hd64,hn0]
theorem zz6 (ns:List Int)(k:Nat)(hk:k<=1000)(hl:ns.length<=63):∃ st,zbq [.lst (ns.map D.int),.int k]=.ok (.lst st)/\St st:=by
 have hlen:zeJ (.lst (ns.map D.int))=.ok (.int ns.length):=by
  rw[zcx,sag]
 have o1:zfm 104729 (k:Int)=true:=zf1 (by decide) (by omega);have o2:zfm (104729*(k:Int)) (k:Int)=true:=zf1 (by omega) (by omega)
 by_cases h:k < ns.length
 .have hix:dIx (.lst (ns.map D.int)) (.int (k:Int))=.ok (.int ns[k]):=zhO (by rw[sai,saa h];rfl)
  have f:=zgH (a:=(ns[k].fmod 2147483587+104729*(k:Int)*(k:Int)+7)) (b:=2147483587) (by decide);refine⟨[.int ns[k],.int ((ns[k].fmod 2147483587+104729*(k:Int)*(k:Int)+7).fmod 2147483587),.bl (decide (ns[k]≥1000000000000000000))],?_,_,_,_,rfl,f.1,by omega⟩;unfold zbq zDF zhm;open_line with[hlen,hix,znY,zbJ o1,zbJ o2,decide_eq_true (show(k:Int) < (ns.length:Int) by omega),zuv,zFW,zvP,zGg]
 .have f:=zgH (a:=((0:Int).fmod 2147483587+104729*(k:Int)*(k:Int)+7)) (b:=2147483587) (by decide)
  refine⟨[.int 0,.int (((0:Int).fmod 2147483587+104729*(k:Int)*(k:Int)+7).fmod 2147483587),.bl false],?_,_,_,_,rfl,f.1,by omega⟩;unfold zbq zDF zhm;open_line with[hlen,znY,zbJ o1,zbJ o2,decide_eq_false (show ¬ (k:Int) < (ns.length:Int) by omega),zuv,zFW,zvP,zGg]
theorem p12:zug (.int 10) (.int 12)=.ok (.int 1000000000000):=zav rfl
structure Amt (x:Fra):Prop where
 lo:Low x
 p0:0<=x.1
 p1:x.1<=1000000000000
 q1:x.2<=60
theorem zCN {c q:Int}(h0:0<=c)(h1:c<=1000000000000)(hq:0 < q)(hq2:q<=60):Amt (low c q):=by
 have a1:=zjx (a:=c) (b:=q);have a2:=zjw (a:=c) (b:=q);have hl:=zdu (a:=c) hq;have:=hl.q1;exact⟨hl,zdf h0 hq,by omega,by omega⟩
theorem zfO (a:Addr){l:Int}(hl:l=0∨l=1){st:List D}(h:St st):∃ (x:Fra) (st':List D),za2 a st [.int l]=.ok (fr x,st')/\zhF x/\0<=x.1/\(l=1->0 < x.1)/\Amt x/\St st':=by
 have hN:(1000000000000000000000:Int) < (N60:Int):=by decide
 obtain⟨w,st1,t1,w0,w1,S1⟩:=zbh a (n:=6) (by decide) (by decide) h;obtain⟨t,m,ht,hm,i1,i2⟩:∃ t m:Int,(0 < t/\t<=1000000000000)/\(0 < m/\m<=12)/\dIx (.lst [.int 3,.int 6,.int 20,.int 12,.int 90,.int 1000000000000]) (.int w)=.ok (.int t)/\dIx (.lst [.int 1,.int 1,.int 1,.int 4,.int 12,.int 12]) (.int w)=.ok (.int m):=by
  have:w=0∨w=1∨w=2∨w=3∨w=4∨w=5:=by omega
  rcases this with rfl | rfl | rfl | rfl | rfl | rfl
  .exact⟨3,1,by decide,by decide,rfl,rfl⟩
  .exact⟨6,1,by decide,by decide,rfl,rfl⟩
  .exact⟨20,1,by decide,by decide,rfl,rfl⟩
  .exact⟨12,4,by decide,by decide,rfl,rfl⟩
  .exact⟨90,12,by decide,by decide,rfl,rfl⟩
  .exact⟨1000000000000,12,by decide,by decide,rfl,rfl⟩
 obtain⟨u,st2,t2,u0,u1,S2⟩:=zbh a (n:=t) ht.1 (by omega) S1;obtain⟨v,st3,t3,v0,v1,S3⟩:=zbh a (n:=m) hm.1 (by omega) S2;obtain⟨q,hq,i3⟩:∃ q:Int,(0 < q/\q<=60)/\dIx (.lst [.int 1,.int 2,.int 3,.int 4,.int 5,.int 6,.int 10,.int 12,.int 15,.int 20,.int 30,.int 60]) (.int v)=.ok (.int q):=by
  have:v=0∨v=1∨v=2∨v=3∨v=4∨v=5∨v=6∨v=7∨v=8∨v=9∨v=10∨v=11:=by omega
  rcases this with rfl | rfl | rfl | rfl | rfl | rfl | rfl | rfl | rfl | rfl | rfl | rfl
  .exact⟨1,by decide,rfl⟩
  .exact⟨2,by decide,rfl⟩
  .exact⟨3,by decide,rfl⟩
  .exact⟨4,by decide,rfl⟩
  .exact⟨5,by decide,rfl⟩
  .exact⟨6,by decide,rfl⟩
  .exact⟨10,by decide,rfl⟩
  .exact⟨12,by decide,rfl⟩
  .exact⟨15,by decide,rfl⟩
  .exact⟨20,by decide,rfl⟩
  .exact⟨30,by decide,rfl⟩
  .exact⟨60,by decide,rfl⟩
 have hlo:=Cod.low_ok (a:=l+u) (b:=q) (by omega) (zHa (by omega) (by omega)) (zHa (by omega) (by omega));refine⟨low (l+u) q,st3,?_,zGk (by omega) (by omega) (by omega),zdf (by omega) (by omega),fun e=>zCa (by omega) (by omega),zCN (by omega) (by omega) (by omega) (by omega),S3⟩;open_line with[za2,zi2,t1,t2,t3,i1,i2,i3,p12,hlo]
theorem zuH {k n:Int}(hn:2<=n):k.fmod n≠(k+1).fmod n:=by
 rw[sa5 _ (by omega),sa5 _ (by omega)];intro e;have:=Int.emod_eq_emod_iff_emod_sub_eq_zero.mp e.symm;rw[show k+1-k=1 by omega,scZ (by decide) (by omega)] at this;cases this
def zey (t:Tie):Prop:=Amt t.l/\∀ x,t.o=some x->Amt x
theorem zBr (a:Addr){zs:List Str}{k:Nat}(h2:2<=zs.length)(h8:zs.length<=8)(nd:zs.Nodup){st:List D}(h:St st):∃ (t:Tie) (st':List D),zb5 a st [.lst (zs.map D.str),.int k]=.ok (zdo t,st')/\zvn zs t/\zey t/\St st':=by
 have hlen:zeJ (.lst (zs.map D.str))=.ok (.int zs.length):=by rw[zcx,sag]
 have hn0:((zs.length:Int)==0)=false:=beq_eq_false_iff_ne.mpr (by omega);obtain⟨d,st1,t1,d0,d1,S1⟩:=zbh a (n:=(zs.length:Int)) (by omega) (by omega) h;obtain⟨e,st2,t2,e0,e1,S2⟩:=zbh a (n:=(zs.length:Int)-1) (by omega) (by omega) S1;obtain⟨f,st3,t3,f0,f1,S3⟩:=zbh a (n:=2) (by decide) (by decide) S2;obtain⟨g,st4,t4,g0,g1,S4⟩:=zbh a (n:=2) (by decide) (by decide) S3;obtain⟨x,st5,t5,fx,lx,_,ax,S5⟩:=zfO a (l:=0) (.inl rfl) S4;obtain⟨y,st6,t6,fy,_,ly,ay,S6⟩:=zfO a (l:=1) (.inr rfl) S5;obtain⟨v,st7,t7,v0,v1,S7⟩:=zbh a (n:=4) (by decide) (by decide) S6;obtain⟨wd,hw,jw⟩:=zBj g0 g1;obtain⟨p,q,hp,hq,hpq,hplace⟩:∃ p q:Int,(0<=p/\p < (zs.length:Int))/\(0<=q/\q < (zs.length:Int))/\p≠q/\(((f==0)=true/\p=(k:Int).fmod (zs.length:Int)/\q=((k:Int)+1).fmod (zs.length:Int))∨((f==0)=false/\p=d/\q=(d+1+e).fmod (zs.length:Int))):=by
  cases h10:(f==0) with
  | true=>exact⟨_,_,zgH (by omega),zgH (by omega),zuH (by omega),.inl ⟨rfl,rfl,rfl⟩⟩
  | false =>
   obtain⟨hr,hne⟩:=zrS (n:=(zs.length:Int)) (d:=d) (e:=e) (by omega) d0 d1 e0 e1;exact⟨_,_,⟨d0,d1⟩,hr,saT hne,.inr ⟨rfl,rfl,rfl⟩⟩
 obtain⟨z1,k1,j1⟩:=znB (zs:=zs) hp.1 hp.2;obtain⟨z2,k2,j2⟩:=znB (zs:=zs) hq.1 hq.2;have hz12:z1≠z2:=zkQ nd k1 k2 (by omega);cases h4:(v==0) with
 | true =>
  refine⟨⟨z1,z2,wd,x,none⟩,st7,?_,⟨saH k1,saH k2,hz12,hw,fx,lx,fun _ hv=>nomatch hv⟩,⟨ax,fun _ hv=>nomatch hv⟩,S7⟩;rw[show zdo ⟨z1,z2,wd,x,none⟩=.tup [.str z1,.str z2,.str wd,fr x,.non] from rfl];rcases hplace with⟨h10,e1,e2⟩ | ⟨h10,e1,e2⟩
  .rw[e2] at j2;rw[e1] at j1
   open_line with[zb5,zfN,hlen,t1,t2,t3,t4,t5,t6,t7,zu9,hn0,h10,h4,jw,j1,j2]
  .rw[e2] at j2;rw[e1] at j1
   open_line with[zb5,zfN,hlen,t1,t2,t3,t4,t5,t6,t7,zu9,hn0,h10,h4,jw,j1,j2]
 | false =>
  refine⟨⟨z1,z2,wd,x,some y⟩,st7,?_,⟨saH k1,saH k2,hz12,hw,fx,lx,fun _ hv=>by cases hv;exact⟨fy,ly rfl⟩⟩,⟨ax,fun _ hv=>by cases hv;exact ay⟩,S7⟩;rw[show zdo ⟨z1,z2,wd,x,some y⟩=.tup [.str z1,.str z2,.str wd,fr x,fr y] from rfl];rcases hplace with⟨h10,e1,e2⟩ | ⟨h10,e1,e2⟩
  .rw[e2] at j2;rw[e1] at j1
   open_line with[zb5,zfN,hlen,t1,t2,t3,t4,t5,t6,t7,zu9,hn0,h10,h4,jw,j1,j2]
  .rw[e2] at j2;rw[e1] at j1
   open_line with[zb5,zfN,hlen,t1,t2,t3,t4,t5,t6,t7,zu9,hn0,h10,h4,jw,j1,j2]
theorem zwJ:∀ {es:List D}{P:Int->Prop},(∀ e∈es,∃ l,e=D.int l/\P l)->∃ ls:List Int,es=ls.map D.int/\∀ l∈ls,P l
 | [],P,_=>⟨[],rfl,fun l h=>by simp at h⟩
 | e::es,P,h=>by
  obtain⟨l,rfl,hl⟩:=h e (by simp);obtain⟨ls,rfl,hs⟩:=zwJ (es:=es) (P:=P) fun e he=>h e (sak _ he);exact⟨l::ls,rfl,fun x hx=>by
   rcases sam.mp hx with rfl | hx
   .exact hl
   .exact hs x hx⟩
theorem zuO (a:Addr){st:List D}(h:St st):∃ (ls:List Int) (st':List D),zrA [.no,.pt a] (zd0 0) (zbg 1 a (zaT (mP (dC (.int 26))) zdp) zas) (DL.intsFrom 0 8,st)=.ok (.lst (ls.map D.int),st')/\ls.length=8/\(∀ l∈ls,0<=l/\l < 26)/\St st':=by
 obtain⟨es,st',h1,h2,h3,h4⟩:=zrD (b:=[.no,.pt a]) (tg:=zd0 0) (fm:=zbg 1 a (zaT (mP (dC (.int 26))) zdp) zas) St (fun e=>∃ l,e=D.int l/\0<=l/\l < 26) (DL.intsFrom 0 8) st h (by
  intro d st _ h;obtain⟨x,st',t1,x0,x1,S1⟩:=zbh a (n:=26) (by decide) (by decide) h;refine⟨_,.int x,st',rfl,?_,⟨x,rfl,x0,x1⟩,S1⟩;open_line with[t1])
 obtain⟨ls,rfl,hls⟩:=zwJ h3;refine⟨ls,st',?_,by simpa [DL.intsFrom] using h2,hls,h4⟩;unfold zrA;rw[if_pos (show(DL.intsFrom 0 8).length<=line by decide),h1];rfl
def zA0 (l:Int):Nat:=97+l.toNat
theorem zAo {f g:Ev->Res D}{ρ:Ev}{ls:List Int}{m:Nat}(hf:f ρ=.ok (.lst (ls.map D.int)))(hg:g ρ=.ok (.int (m:Int)))(hm:m<=ls.length)(hl:ls.length<=1000):zvs f zfx (zfl g) ρ=.ok (.lst ((ls.take m).map D.int)):=by
 unfold zvs;rw[hf];simp only[Res.bind,zfx,zfl,hg];exact congrArg (fun z=>Res.ok (D.lst z)) (zAY hm)
theorem zBB {ρ:Ev}{ls:List Int}(hl:ls.length<=100)(hb:∀ l∈ls,0<=l/\l < 26):znA 1 [] (zd0 0) mYes (zad (dC (.str "abcdefghijklmnopqrstuvwxyz")) (zaf 0) dIx) ρ (ls.map D.int)=.ok (.lst ((ls.map zA0).map fun c=>D.str ⟨#[c]⟩)):=by
 rw[zpl (F:=fun d=>match d with | .int l=>.str ⟨#[zA0 l]⟩ | d=>d) (by rw[sag];omega)]
 .congr 2
  rw[scH,scH];rfl
 .intro d hd
  obtain⟨l,hl',rfl⟩:=sa6.mp hd;obtain⟨b0,b1⟩:=hb l hl';refine⟨[.sh (.int l)],rfl,rfl,?_⟩;open_line with[zFl b0 b1]
  rfl
theorem zBA {ls:List Int}(hl:ls.length<=100):zoX "" [.lst ((ls.map zA0).map fun c=>D.str ⟨#[c]⟩)]=.ok (.str (Cod.S (ls.map zA0))):=zuU (cs:=ls.map zA0) (by rw[sag];omega)
noncomputable def zvr (ls:List Int) (lg at_:Nat) (tu sp:Int) (ne:Bool) (k:Nat):List Int:=if ne=true then ls.take (1+((tu+(k:Int)).fmod 8).toNat) else(ls.take lg).set at_ ((tu+sp*(k:Int)).fmod 26)
noncomputable def nm (ls:List Int) (lg at_:Nat) (tu sp:Int) (ne:Bool) (k:Nat):List Nat:=(zvr ls lg at_ tu sp ne k).map zA0
section
variable {ls:List Int}{lg at_:Nat}{tu sp:Int}{ne:Bool}(h8:ls.length=8) (hb:∀ l∈ls,0<=l/\l < 26) (g1:1<=lg) (g8:lg<=8) (ha:at_ < lg)
include hb in
theorem zww {k:Nat}:∀ l∈zvr ls lg at_ tu sp ne k,0<=l/\l < 26:=by
 intro l hl;unfold zvr at hl;cases ne with
 | true=>rw[if_pos rfl] at hl;exact hb l (sch hl)
 | false =>
  rw[if_neg (by decide)] at hl;rcases List.mem_or_eq_of_mem_set hl with hl | rfl
  .exact hb l (sch hl)
  .exact zgH (by decide)
include h8 g8 in
theorem zkR {k:Nat}:(zvr ls lg at_ tu sp ne k).length=if ne=true then 1+((tu+(k:Int)).fmod 8).toNat else lg:=by
 unfold zvr;have:=zgH (a:=tu+(k:Int)) (b:=8) (by decide);cases ne with
 | true=>rw[if_pos rfl,if_pos rfl,saQ,h8];omega
 | false=>rw[if_neg (by decide),if_neg (by decide),List.length_set,saQ,h8];omega
include h8 hb g1 g8 in
theorem zGi {k:Nat}:Cod.IsNm (nm ls lg at_ tu sp ne k):=by
 have hl:=zkR (tu:=tu) (sp:=sp) (ne:=ne) (at_:=at_) h8 g8 (k:=k);have:=zgH (a:=tu+(k:Int)) (b:=8) (by decide);refine⟨?_,?_,fun x hx=>?_⟩
 .unfold nm;rw[sag,hl];split<;>omega
 .unfold nm;rw[sag,hl];split<;>omega
 .unfold nm at hx
  obtain⟨l,hl,rfl⟩:=sa6.mp hx;have:=zww hb l hl;exact zFm _ (by omega)
include h8 g8 ha in
theorem zzk {i j:Nat}(hij:i < j)(hj:j < 7)(hs:sp=1∨sp=3∨sp=5∨sp=7∨sp=9∨sp=11):nm ls lg at_ tu sp ne i≠nm ls lg at_ tu sp ne j:=by
 intro e;cases ne with
 | true =>
  have hl:=congrArg scB e;unfold nm at hl;rw[sag,sag,zkR h8 g8,zkR h8 g8,if_pos rfl,if_pos rfl] at hl;have f1:=zgH (a:=tu+(i:Int)) (b:=8) (by decide);have f2:=zgH (a:=tu+(j:Int)) (b:=8) (by decide);have he:(tu+(i:Int)).fmod 8=(tu+(j:Int)).fmod 8:=by omega
  rw[sa5 _ (by decide),sa5 _ (by decide)] at he;omega
 | false =>
  have h1:(nm ls lg at_ tu sp false i)[at_]?=(nm ls lg at_ tu sp false j)[at_]?:=by rw[e]
  unfold nm zvr at h1;rw[if_neg (by decide),if_neg (by decide),sai,sai,saF (by rw[saQ,h8];omega),saF (by rw[saQ,h8];omega)] at h1;simp only[sbt,sbj,zA0] at h1;have f1:=zgH (a:=tu+sp*(i:Int)) (b:=26) (by decide);have f2:=zgH (a:=tu+sp*(j:Int)) (b:=26) (by decide);have he:(tu+sp*(i:Int)).fmod 26=(tu+sp*(j:Int)).fmod 26:=by omega
  rw[sa5 _ (by decide),sa5 _ (by decide)] at he;rcases hs with rfl | rfl | rfl | rfl | rfl | rfl<;>omega
include h8 g8 ha in
theorem zwo (hs:sp=1∨sp=3∨sp=5∨sp=7∨sp=9∨sp=11):∀ n:Nat,n<=7->((sbr n).map (nm ls lg at_ tu sp ne)).Nodup:=by
 intro n hn;rw[scp,List.pairwise_map];have:(sbr n).Pairwise (· < ·):=List.pairwise_lt_range;refine scS.imp_of_mem (fun {i j} hi hj hij=>?_) this;rw[List.mem_range] at hj;exact zzk h8 g8 ha hij (by omega) hs
end
noncomputable def zlv (ls:List Int) (lg at_:Nat) (tu sp:Int) (ne:Bool) (k:Nat):List (List Nat):=(sbr k).map (nm ls lg at_ tu sp ne)
theorem zuG {ls:List Int}{lg at_:Nat}{tu sp:Int}{ne:Bool}{k:Nat}:Cod.nmsD (zlv ls lg at_ tu sp ne (k+1))=Cod.nmsD (zlv ls lg at_ tu sp ne k)++[.str (Cod.S (nm ls lg at_ tu sp ne k))]:=by
 unfold zlv Cod.nmsD;rw[List.range_succ,sbM,sbM];rfl
theorem zzj {a:Addr}{ls:List Int}{lg at_ n:Nat}{tu sp:Int}{ne:Bool}(h8:ls.length=8)(hb:∀ l∈ls,0<=l/\l < 26)(g1:1<=lg)(g8:lg<=8)(ha:at_ < lg)(t0:0<=tu/\tu < 26)(s0:0<=sp/\sp<=11)(hn:n<=7) :
  ∃ x9 x10,zdO (zd0 9) (zax (zth 10 (zvs (zaf 2) zfx (zfl (zaf 3))))
 (zax (zDA 10 (zad (zad (zaf 5) (zad (zaf 6) (zaf 9) zbZ) zd7) (dC (.int 26)) zfL) (zaf 4))
 (zax (sIf (zaf 7)
 (zax (zth 10 (zvs (zaf 2) zfx (zfl (zad (dC (.int 1)) (zad (zad (zaf 5) (zaf 9) zd7) (dC (.int 8)) zfL) zd7))))
 zam)
 zam)
 (zax (zDC 10 (zgW 8 (zva (dC (.str "")) (zab (zfM 1 [] (zyr (zaf 10)) (zd0 0) mYes (zad (dC (.str "abcdefghijklmnopqrstuvwxyz")) (zaf 0) dIx)) zaz))))
 zam)))) (DL.intsFrom 0 n) [.pt a,.sh (.int (n:Int)),.sh (.lst (ls.map D.int)),.sh (.int (lg:Int)),.sh (.int (at_:Int)),.sh (.int tu),.sh (.int sp),.sh (.bl ne),.ow (.lst []),.no,.no] =
   .ok (.nx [.pt a,.sh (.int (n:Int)),.sh (.lst (ls.map D.int)),.sh (.int (lg:Int)),.sh (.int (at_:Int)),.sh (.int tu),.sh (.int sp),.sh (.bl ne),.ow (.lst (Cod.nmsD (zlv ls lg at_ tu sp ne n))),x9,x10]):=by
 obtain⟨ρ',hl,x9,x10,rfl⟩:=zsM (i:=9) (n:=n)
  (ρ:=[.pt a,.sh (.int (n:Int)),.sh (.lst (ls.map D.int)),.sh (.int (lg:Int)),.sh (.int (at_:Int)),.sh (.int tu),.sh (.int sp),.sh (.bl ne),.ow (.lst []),.no,.no])
  (body:=(zax (zth 10 (zvs (zaf 2) zfx (zfl (zaf 3))))
 (zax (zDA 10 (zad (zad (zaf 5) (zad (zaf 6) (zaf 9) zbZ) zd7) (dC (.int 26)) zfL) (zaf 4))
 (zax (sIf (zaf 7)
 (zax (zth 10 (zvs (zaf 2) zfx (zfl (zad (dC (.int 1)) (zad (zad (zaf 5) (zaf 9) zd7) (dC (.int 8)) zfL) zd7))))
 zam)
 zam)
 (zax (zDC 10 (zgW 8 (zva (dC (.str "")) (zab (zfM 1 [] (zyr (zaf 10)) (zd0 0) mYes (zad (dC (.str "abcdefghijklmnopqrstuvwxyz")) (zaf 0) dIx)) zaz))))
 zam)))))
  (fun k ρ=>∃ x9 x10,ρ=[.pt a,.sh (.int (n:Int)),.sh (.lst (ls.map D.int)),.sh (.int (lg:Int)),.sh (.int (at_:Int)),.sh (.int tu),.sh (.int sp),.sh (.bl ne),.ow (.lst (Cod.nmsD (zlv ls lg at_ tu sp ne k))),x9,x10]) (by
   rintro k hk ρ ⟨x9,x10,rfl⟩;have hlen:=zkR (tu:=tu) (sp:=sp) (ne:=ne) (at_:=at_) h8 g8 (k:=k);have f8:=zgH (a:=tu+(k:Int)) (b:=8) (by decide);have om:zfm sp (k:Int)=true:=zf1 (by omega) (by omega);have hap:decide ((Cod.nmsD (zlv ls lg at_ tu sp ne k)).length<=999)=true:=decide_eq_true (by unfold Cod.nmsD zlv;simp;omega);have hs1:∀ x8 x10,zvs (zaf 2) zfx (zfl (zaf 3)) [.pt a,.sh (.int (n:Int)),.sh (.lst (ls.map D.int)),.sh (.int (lg:Int)),.sh (.int (at_:Int)),.sh (.int tu),.sh (.int sp),.sh (.bl ne),x8,.sh (.int (k:Int)),x10]=.ok (.lst ((ls.take lg).map D.int)):=fun _ _=>zAo rfl rfl (by omega) (by omega);have hix:ixN ((ls.take lg).map D.int).length (at_:Int)=some at_:=by
    rw[sag,saQ,h8];unfold ixN;rw[if_pos (by omega),if_pos (by omega)];simp
   have hset:((ls.take lg).map D.int).set at_ (.int ((tu+sp*(k:Int)).fmod 26))=((ls.take lg).set at_ ((tu+sp*(k:Int)).fmod 26)).map D.int:=(List.map_set ..).symm;have hll:(zvr ls lg at_ tu sp ne k).length<=100:=by rw[hlen];split<;>omega
   have hc:=fun ρ=>zBB (ρ:=ρ) hll (zww hb);have hj:zoX "" [.lst (((zvr ls lg at_ tu sp ne k).map zA0).map fun c=>D.str ⟨#[c]⟩)]=.ok (.str (Cod.S (nm ls lg at_ tu sp ne k))):=zBA hll;refine⟨[.pt a,.sh (.int (n:Int)),.sh (.lst (ls.map D.int)),.sh (.int (lg:Int)),.sh (.int (at_:Int)),.sh (.int tu),.sh (.int sp),.sh (.bl ne),.ow (.lst (Cod.nmsD (zlv ls lg at_ tu sp ne (k+1)))),.sh (.int (k:Int)),.sh (.lst ((zvr ls lg at_ tu sp ne k).map D.int))],?_,_,_,rfl⟩;rw[zuG];cases ne with
   | true =>
    have e1:zvr ls lg at_ tu sp true k=ls.take (1+((tu+(k:Int)).fmod 8).toNat):=if_pos rfl;have hs2:∀ x8 x10,zvs (zaf 2) zfx (zfl (zad (dC (.int 1)) (zad (zad (zaf 5) (zaf 9) zd7) (dC (.int 8)) zfL) zd7)) [.pt a,.sh (.int (n:Int)),.sh (.lst (ls.map D.int)),.sh (.int (lg:Int)),.sh (.int (at_:Int)),.sh (.int tu),.sh (.int sp),.sh (.bl true),x8,.sh (.int (k:Int)),x10]=.ok (.lst ((zvr ls lg at_ tu sp true k).map D.int)):=fun x8 x10=>by
     rw[e1];refine zAo rfl ?_ (by omega) (by omega);open_line with[]
     congr 2
     omega
    open_line with[hs1,zbJ om,zf7 hix,hset,hs2,hc,hj,zf8 hap]
   | false =>
    have e1:(ls.take lg).set at_ ((tu+sp*(k:Int)).fmod 26)=zvr ls lg at_ tu sp false k:=(if_neg (by decide)).symm;rw[e1] at hset;open_line with[hs1,zbJ om,zf7 hix,hset,hc,hj,zf8 hap]) ⟨_,_,rfl⟩
 exact⟨x9,x10,hl⟩
theorem zzl (a:Addr){n:Nat}(hn:n<=7){st:List D}(h:St st):∃ (css:List (List Nat)) (st':List D),zde a st [.int (n:Int)]=.ok (.lst (Cod.nmsD css),st')/\css.length=n/\css.Nodup/\(∀ cs∈css,Cod.IsNm cs)/\St st':=by
 obtain⟨ls,st1,t1,h8,hb,S1⟩:=zuO a h;obtain⟨d,st2,t2,d0,d1,S2⟩:=zbh a (n:=8) (by decide) (by decide) S1;obtain⟨at_,st3,t3,a0,a1,S3⟩:=zbh a (n:=1+d) (by omega) (by omega) S2;obtain⟨tu,st4,t4,u0,u1,S4⟩:=zbh a (n:=26) (by decide) (by decide) S3;obtain⟨e,st5,t5,e0,e1,S5⟩:=zbh a (n:=6) (by decide) (by decide) S4;obtain⟨f,st6,t6,f0,f1,S6⟩:=zbh a (n:=3) (by decide) (by decide) S5;obtain⟨sp,hs,i1⟩:∃ sp:Int,(sp=1∨sp=3∨sp=5∨sp=7∨sp=9∨sp=11)/\dIx (.lst [.int 1,.int 3,.int 5,.int 7,.int 9,.int 11]) (.int e)=.ok (.int sp):=by
  have:e=0∨e=1∨e=2∨e=3∨e=4∨e=5:=by omega
  rcases this with rfl | rfl | rfl | rfl | rfl | rfl
  .exact⟨1,by decide,rfl⟩
  .exact⟨3,by decide,rfl⟩
  .exact⟨5,by decide,rfl⟩
  .exact⟨7,by decide,rfl⟩
  .exact⟨9,by decide,rfl⟩
  .exact⟨11,by decide,rfl⟩
 obtain⟨lg,hlg⟩:=sbd (show 0<=1+d by omega);obtain⟨at',rfl⟩:=sbd a0;rw[hlg] at t3;obtain⟨x9,x10,hl⟩:=zzj (a:=a) (ls:=ls) (lg:=lg) (at_:=at') (n:=n) (tu:=tu) (sp:=sp) (ne:=(f==0)) h8 hb (by omega) (by omega) (by omega) ⟨u0,u1⟩ (by omega) hn;refine⟨zlv ls lg at' tu sp (f==0) n,st6,?_,by unfold zlv;simp,zwo h8 (by omega) (by omega) hs n hn,fun cs hc=>?_,S6⟩
 .have hsrc:∀ ρ,zim (dC (.int 8)) ρ=.ok (DL.intsFrom 0 8):=fun _=>rfl
  have hbm:∀ x1 x2 x3 x4 x5 x6 x7 x8 x9 x10,zgI 1 [0] [.pt a,x1,x2,x3,x4,x5,x6,x7,x8,x9,x10]=[.no,.pt a]:=fun _ _ _ _ _ _ _ _ _ _=>rfl;open_line with[zde,zks,hsrc,hbm,t1,t2,hlg,t3,t4,t5,i1,t6,zmw,zkT (show n<=1000000 by omega),hl]
 .unfold zlv at hc
  obtain⟨k,_,rfl⟩:=sa6.mp hc;exact zGi h8 hb (by omega) (by omega)
theorem zBk (a:Addr){p q:Nat}(hp:2<=p/\p<=7)(hq:q<=14){st:List D}(h:St st):∃ (w:Web) (st':List D),zcn a st [.int (p:Int),.int (q:Int)]=.ok (zcs w,st')/\zgJ w/\(∀ t∈w.ts,zey t)/\St st':=by
 obtain⟨m,st1,t1,m0,m1,S1⟩:=zbh a (n:=(p:Int)-1) (by omega) (by omega) h;obtain⟨m,rfl⟩:=sbd m0;obtain⟨css,st2,t2,hcl,hnd,hall,S2⟩:=zzl a (n:=2+m) (by omega) S1;have hnm:Cod.nmsD css=(css.map Cod.S).map D.str:=by unfold Cod.nmsD;rw[scH];rfl
 have hzl:(css.map Cod.S).length=2+m:=by rw[sag,hcl]
 have nd:(css.map Cod.S).Nodup:=by
  rw[scp,List.pairwise_map];exact scS.imp (fun h z=>h (Cod.S_inj z)) (scp.mp hnd)
 have nm:zno (css.map Cod.S):=⟨nd,fun z hz=>by
  obtain⟨cs,hc,rfl⟩:=sa6.mp hz;exact(hall cs hc).nameB⟩
 rw[hnm] at t2;generalize css.map Cod.S=zs at *;have hlen:zeJ (.lst (zs.map D.str))=.ok (.int zs.length):=by rw[zcx,sag]
 have hn0:((zs.length:Int)==0)=false:=beq_eq_false_iff_ne.mpr (by omega);obtain⟨c,st3,t3,c0,c1,S3⟩:=zbh a (n:=(q:Int)+1) (by omega) (by omega) S2;obtain⟨c,rfl⟩:=sbd c0;have hlenI:(DL.intsFrom 0 c).length=c:=by unfold DL.intsFrom;simp
 obtain⟨ρ2,st4,hl,ts,x6,rfl,htl,hts,S4⟩:=zix (tg:=zd0 6) (body:=(zbb (zB4 5 (zbg 0 a (zaT (mP (zaf 3)) (zaT (mP (zaf 6)) zdp)) zb5))
 zbn))
  (fun j ρ st=>∃ (ts:List Tie) (x6:Sl),ρ=[.pt a,.sh (.int (p:Int)),.sh (.int (q:Int)),.sh (.lst (zs.map D.str)),.sh (.int (zs.length:Int)),.ow (.lst (ts.map zdo)),x6,.no,.no]/\ts.length=j/\(∀ t∈ts,zvn zs t/\zey t)/\St st) (DL.intsFrom 0 c) (by
   rintro j d ρ st hj ⟨ts,x6,rfl,rfl,hts,S⟩;have hjt:ts.length < c:=by have:=(sac.mp hj).1;omega
   have hd:d=.int (ts.length:Int):=by
    unfold DL.intsFrom at hj;rw[sai,scN hjt] at hj;simp at hj;exact hj.symm
   subst hd;obtain⟨t,st',tt,tk,ta,S'⟩:=zBr a (zs:=zs) (k:=ts.length) (by omega) (by omega) nd S;have hap:decide ((ts.map zdo).length<=999)=true:=decide_eq_true (by rw[sag];omega);refine⟨_,[.pt a,.sh (.int (p:Int)),.sh (.int (q:Int)),.sh (.lst (zs.map D.str)),.sh (.int (zs.length:Int)),.ow (.lst ((ts++[t]).map zdo)),.sh (.int (ts.length:Int)),.no,.no],st',rfl,.inl ?_,ts++[t],_,rfl,by simp,fun u hu=>?_,S'⟩
   .open_line with[tt,zph hap,sbM]
   .rw[sbc] at hu
    rcases hu with hu | hu
    .exact hts u hu
    .have:u=t:=by simpa using hu
     subst this;exact⟨tk,ta⟩) 0 [.pt a,.sh (.int (p:Int)),.sh (.int (q:Int)),.sh (.lst (zs.map D.str)),.sh (.int (zs.length:Int)),.ow (.lst []),.no,.no,.no] st3 (sbE _) ⟨[],_,rfl,rfl,fun t ht=>by simp at ht,S3⟩
 rw[sbq] at hl;rw[hlenI] at htl;have hsr:zty (.int (c:Int),st3)=.ok (DL.intsFrom 0 c,st3):=zpg (by omega);have h2m:(2:Int)+(m:Int)=((2+m:Nat):Int):=by omega
 rw[← h2m] at t2;obtain⟨g,st5,t5,g0,g1,S5⟩:=zbh a (n:=2) (by decide) (by decide) S4;cases hg:(g==0) with
 | true =>
  obtain⟨d,st6,t6,d0,d1,S6⟩:=zbh a (n:=(zs.length:Int)) (by omega) (by omega) S5;obtain⟨e,st7,t7,e0,e1,S7⟩:=zbh a (n:=(zs.length:Int)-1) (by omega) (by omega) S6;obtain⟨hr,hne⟩:=zrS (n:=(zs.length:Int)) (d:=d) (e:=e) (by omega) d0 d1 e0 e1;obtain⟨z1,k1,j1⟩:=znB (zs:=zs) d0 d1;obtain⟨z2,k2,j2⟩:=znB (zs:=zs) hr.1 hr.2;have hz12:z1≠z2:=zkQ nd k1 k2 (by omega);refine⟨⟨zs,ts,z1,z2⟩,st7,?_,⟨by show 2<=zs.length;omega,by show zs.length<=7;omega,nm,by show ts.length<=14;omega,fun t ht=>(hts t ht).1,saH k1,saH k2,hz12⟩,fun t ht=>(hts t ht).2,S7⟩;open_line with[zcn,zjL,zu9,t1,t2,hlen,t3,hsr,hl,t5,hg,t6,t7,hn0,j1,j2,zcs]
 | false =>
  obtain⟨z1,k1,j1⟩:=znB (zs:=zs) (k:=0) (by decide) (by omega);obtain⟨z2,k2,j2⟩:=znB (zs:=zs) (k:=(zs.length:Int)-1) (by omega) (by omega);have hz12:z1≠z2:=zkQ nd k1 k2 (by omega);refine⟨⟨zs,ts,z1,z2⟩,st5,?_,⟨by show 2<=zs.length;omega,by show zs.length<=7;omega,nm,by show ts.length<=14;omega,fun t ht=>(hts t ht).1,saH k1,saH k2,hz12⟩,fun t ht=>(hts t ht).2,S5⟩;open_line with[zcn,zjL,zu9,t1,t2,hlen,t3,hsr,hl,t5,hg,j1,j2,zcs]
end Bor
namespace DL
open PySem L2
section
variable {α β:Type}
def Rf (a b:Res α):Prop:=a=.stuck∨a=b
theorem zc5 {a b:Res α}{f g:α->Res β}(h:Rf a b)(k:∀ x,Rf (f x) (g x)):Rf (a.bind f) (b.bind g):=by
 rcases h with rfl | rfl
 .exact .inl rfl
 .cases a with
  | ok x=>exact k x
  | exn x=>exact .inr rfl
  | stuck=>exact .inl rfl
structure RfF (f g:Ev->Res α):Prop where
 o:∀ ρ,Rf (f ρ) (g ρ)
end
structure RfM (f g:List D->Res D):Prop where
 o:∀ ds,Rf (f ds) (g ds)
theorem RfM.ok {f g:List D->Res D}(h:RfM f g){ds:List D}{d:D}(e:f ds=.ok d):g ds=.ok d:=by
 rcases h.o ds with q | q
 .rw[q] at e;cases e
 .rw[← q];exact e
theorem rfm_refl {f:List D->Res D}:RfM f f:=⟨fun _=>.inr rfl⟩
theorem rf_refl {α:Type}{f:Ev->Res α}:RfF f f:=⟨fun _=>.inr rfl⟩
section
variable {s s' t t':Ev->Res Fl}{c c' f f':Ev->Res D}{fa fa':Ev->Res (List D)}{m m':List D->Res D}
theorem rf_stuck:RfF zdc s:=⟨fun _=>.inl rfl⟩
theorem rf_seq (h1:RfF s s')(h2:RfF t t'):RfF (zax s t) (zax s' t'):=⟨fun ρ=>zc5 (h1.o ρ) fun r=>by
 cases r with
 | nx ρ'=>exact h2.o ρ'
 | _=>exact .inr rfl⟩
theorem rf_if (hc:RfF c c')(h1:RfF s s')(h2:RfF t t'):RfF (sIf c s t) (sIf c' s' t'):=⟨fun ρ=>zc5 (hc.o _) fun r=>by
 cases r with
 | bl b=>cases b with
  | true=>exact h1.o ρ
  | false=>exact h2.o ρ
 | _=>exact .inr rfl⟩
theorem zoF {tg:Ev->D->Res Ev}(h:RfF s s'):∀ (ds:List D) (ρ:Ev),Rf (zdO tg s ds ρ) (zdO tg s' ds ρ)
 | [],ρ=>.inr rfl
 | d::r,ρ=>by
  unfold zdO;refine zc5 (.inr rfl) fun ρ1=>zc5 (h.o ρ1) fun x=>?_;cases x with
  | nx ρ2=>exact zoF h r ρ2
  | ct ρ2=>exact zoF h r ρ2
  | bk ρ2=>exact .inr rfl
  | rt d=>exact .inr rfl
theorem rf_for {tg:Ev->D->Res Ev}(hf:RfF f f')(h:RfF s s'):RfF (zvQ f tg s) (zvQ f' tg s'):=⟨fun ρ=>zc5 (hf.o ρ) fun d=>by
 cases d with
 | lst ds=>exact zoF h ds ρ
 | _=>exact .inr rfl⟩
theorem rf_forI {tg:Ev->D->Res Ev}{src:Ev->Res (List D)}(h:RfF s s'):RfF (zns src tg s) (zns src tg s'):=⟨fun ρ=>zc5 (.inr rfl) fun ds=>zoF h ds ρ⟩
theorem rf_drop (h:RfF f f'):RfF (zkF f) (zkF f'):=⟨fun ρ=>zc5 (h.o _) fun _=>.inr rfl⟩
theorem rf_ret (h:RfF f f'):RfF (zb8 f) (zb8 f'):=⟨fun ρ=>zc5 (h.o _) fun _=>.inr rfl⟩
theorem rf_set {i:Nat}(h:RfF f f'):RfF (zcm i f) (zcm i f'):=⟨fun ρ=>zc5 (h.o _) fun _=>.inr rfl⟩
theorem rf_b1 {op:D->Res D}(h:RfF f f'):RfF (zbo f op) (zbo f' op):=⟨fun ρ=>zc5 (h.o _) fun _=>.inr rfl⟩
theorem rf_not (h:RfF f f'):RfF (zdQ f) (zdQ f'):=rf_b1 h
theorem rf_b2 {op:D->D->Res D}(h:RfF f f')(h2:RfF c c'):RfF (zad f c op) (zad f' c' op):=⟨fun ρ=>zc5 (h.o _) fun _=>zc5 (h2.o _) fun _=>.inr rfl⟩
theorem rf_bA (h:RfF fa fa')(hm:RfM m m'):RfF (zaj fa m) (zaj fa' m'):=⟨fun ρ=>zc5 (h.o _) fun ds=>hm.o ds⟩
theorem rf_cons (h:RfF f f')(h2:RfF fa fa'):RfF (zab f fa) (zab f' fa'):=⟨fun ρ=>zc5 (h.o _) fun _=>zc5 (h2.o _) fun _=>.inr rfl⟩
end
end DL
local macro_rules | `(tactic| open_line with[rf_go])=>`(tactic| repeat (first | with_reducible exact DL.rf_refl | with_reducible exact DL.rf_stuck | with_reducible assumption | with_reducible exact DL.rfm_refl | with_reducible refine DL.rf_seq ?_ ?_ | with_reducible refine DL.rf_if ?_ ?_ ?_ | with_reducible refine DL.rf_for ?_ ?_ | with_reducible refine DL.rf_forI ?_ | with_reducible refine DL.rf_drop ?_ | with_reducible refine DL.rf_ret ?_ | with_reducible refine DL.rf_set ?_ | with_reducible refine DL.rf_not ?_ | with_reducible refine DL.rf_bA ?_ ?_ | with_reducible refine DL.rf_cons ?_ ?_ | with_reducible refine DL.rf_b1 ?_ | with_reducible refine DL.rf_b2 ?_ ?_))
namespace Wex
open PySem L2 DL Com
noncomputable def zjK:Ev->Res Fl :=
 (zax (sIf (dOr (zdQ (zaj (zab (zaf 0) zaz) zbO)) (zdQ (zaj (zab (zaf 1) zaz) zbO)))
 (zax (zAp "NoNumber" (zab (dC (.str "a fraction is made of two whole numbers")) zaz))
 zam)
 zam)
 (zax (sIf (zad (zaf 1) (dC (.int 0)) dEq)
 (zax (zAp "NoNumber" (zab (dC (.str "a fraction's second number is not 0")) zaz))
 zam)
 zam)
 (zax (zcm 2 (zaj (zab (zaf 0) (zab (zaf 1) zaz)) zbl))
 (zax (sIf (zad (zaf 1) (dC (.int 0)) dLt)
 (zax (zcm 2 (zbo (zaf 2) zC0))
 zam)
 zam)
 (zax (zb8 (zaj (zab (zad (zaf 0) (zaf 2) zvb) (zab (zad (zaf 1) (zaf 2) zvb) zaz)) zeH))
 zam)))))
def zdV:List D->Res D:=zdL 3 zjK
noncomputable def zod:Ev->Res Fl :=
 (zax (zb8 (zaj (zab (zad (zad (zad (zaf 0) (dC (.int 0)) dIx) (zad (zaf 1) (dC (.int 1)) dIx) zbZ) (zad (zad (zaf 1) (dC (.int 0)) dIx) (zad (zaf 0) (dC (.int 1)) dIx) zbZ) zd7) (zab (zad (zad (zaf 0) (dC (.int 1)) dIx) (zad (zaf 1) (dC (.int 1)) dIx) zbZ) zaz)) zdV))
 zam)
def zeP:List D->Res D:=zdL 2 zod
noncomputable def ziY:Ev->Res Fl :=
 (zax (zcm 1 (dC (.tup [(.int 0),(.int 1)])))
 (zax (zvQ (zaf 0) (zd0 2)
 (zax (zcm 1 (zaj (zab (zaf 1) (zab (zaf 2) zaz)) zeP))
 zam))
 (zax (zb8 (zaf 1))
 zam)))
def zfa:List D->Res D:=zdL 3 ziY
section
variable {d t p:D}{x:Exn}
end
noncomputable def plainD:D->Bool
 | .non=>true
 | .bl _=>true
 | .int _=>true
 | .str _=>true
 | .tup _=>true
 | .lst _=>true
 | _=>false
end Wex
namespace K11
open PySem L2 DL Com
theorem eq_str {x y:Str}:dEq (.str x) (.str y)=.ok (.bl (decide (x=y))):=by
 have h:dEq (.str x) (.str y)=.ok (.bl (x==y)):=rfl;rw[h]
 by_cases e:x=y
 .rw[decide_eq_true e,e,beq_self_eq_true]
 .rw[decide_eq_false e,beq_eq_false_iff_ne.mpr e]
theorem numbered_drop:∀ (th:List D) (n i:Nat) (h:i < th.length),(numbered n th).drop i=.tup [.int ((n+i:Nat):Int),th[i]]::(numbered n th).drop (i+1)
 | d::th,n,0,h=>rfl
 | d::th,n,i+1,h=>by
  have:=numbered_drop th (n+1) i (by simpa using h);rw[DL.numbered,List.drop_succ_cons,this,List.drop_succ_cons,List.getElem_cons_succ,show n+1+i=n+(i+1) by omega]
end K11
namespace K11
open PySem L2 DL Com Bor
theorem cut_mem {ws:List D}{lo hi:Option Int}:∀ d∈zkK ws lo hi,d∈ws:=fun d hd=>by
 unfold zkK at hd;exact List.mem_of_mem_drop (sch hd)
theorem cut_len {ws:List D}{lo hi:Option Int}:(zkK ws lo hi).length<=ws.length:=by
 unfold zkK;rw[saQ,sc4];omega
theorem add_any {xs ys:List D}(h:xs.length+ys.length<=1000):zd7 (.lst xs) (.lst ys)=.ok (.lst (xs++ys)):=zjF (decide_eq_true h)
section
variable {c:Ev->List D->Res (D×List D)}{s:Ev->List D->Res MFl}{f:Nat}{ρ ρ2:Ev}{st st1 st2:List D}{d:D}
end
end K11
namespace DL
open PySem PySem.Spec PyProof.Rows L2
def Rp (d:D)(n k:Nat):Prop:=∃ p,zkC d=some p/\p.showable=true/\p.depth<=k/\p.shown.length<=n
noncomputable def Rps (ds:List D) (n k:Nat):Prop:=∃ ps,toPys ds=some ps/\ps.length=ds.length/\PyData.showableAll ps=true/\PyData.depthAll ps<=k/\((sbB ps).map (fun x=>x.length)).sum<=n
theorem zgK:∀ (ps:List PyData),(sbB ps).length=ps.length
 | []=>by rw[sbB];rfl
 | p::ps=>by rw[sbB,sau,zgK ps,sau]
theorem Rp.up {d:D}{n k n' k':Nat}(h:Rp d n k)(hn:n<=n')(hk:k<=k'):Rp d n' k':=by
 obtain⟨p,h1,h2,h3,h4⟩:=h;exact⟨p,h1,h2,sat h3 hk,sat h4 hn⟩
theorem Rps.nil {k:Nat}:Rps [] 0 k:=⟨[],rfl,rfl,rfl,by rw[PyData.depthAll];omega,by rw[sbB];exact saq _⟩
theorem Rps.cons {d:D}{ds:List D}{a n k:Nat}(h:Rp d a k)(t:Rps ds n k):Rps (d::ds) (a+n) k:=by
 obtain⟨p,h1,h2,h3,h4⟩:=h;obtain⟨ps,t1,t2,t3,t4,t5⟩:=t;refine⟨p::ps,by rw[toPys,h1,t1],by rw[sau,t2,sau],by rw[PyData.showableAll,h2,t3];rfl,?_,?_⟩
 .rw[PyData.depthAll];omega
 .rw[sbB,saN,List.sum_cons];omega
theorem Rps.all {a k:Nat}:∀ {ds:List D},(∀ d∈ds,Rp d a k)->Rps ds (a*ds.length) k:=by
 intro ds
 induction ds with
 | nil=>intro _;exact Rps.nil
 | cons d ds ih =>
  intro h;have:=Rps.cons (h d (sax ..)) (ih fun x hx=>h x (sak _ hx));rw[sau,Nat.mul_add,Nat.mul_one,Nat.add_comm];exact this
theorem Rp.lst {ds:List D}{n k:Nat}(h:Rps ds n k):Rp (.lst ds) (n+2*ds.length+3) (k+1):=by
 obtain⟨ps,t1,t2,t3,t4,t5⟩:=h;refine⟨.list ps,by rw[zkC,t1];rfl,by rw[sbC];exact t3,by rw[sb0];omega,?_⟩;rw[sbZ];have:=listText_len_le (sbB ps);rw[zgK] at this;omega
theorem Rp.tup {ds:List D}{n k:Nat}(h:Rps ds n k):Rp (.tup ds) (n+2*ds.length+3) (k+1):=by
 obtain⟨ps,t1,t2,t3,t4,t5⟩:=h;refine⟨.tuple ps,by rw[zkC,t1];rfl,by rw[sbC];exact t3,by rw[sb0];omega,?_⟩;rw[sbZ];have:=tupleText_len_le (sbB ps);rw[zgK] at this;omega
theorem Rp.non:Rp .non 4 0:=⟨.none,by rw[zkC],by rw[sbC],by rw[sb0];omega,by rw[sbZ,sce];decide⟩
theorem Rp.bl {b:Bool}:Rp (.bl b) 5 0:=⟨.bool b,by rw[zkC],by rw[sbC],by rw[sb0]<;>simp,by rw[sbZ];cases b<;>simp [sce]<;>decide⟩
theorem Rp.int {i:Int}(h:i.natAbs < 2 ^ 200):Rp (.int i) 201 0:=by
 refine⟨.int i,by rw[zkC],?_,by rw[sb0]<;>simp,?_⟩
 .rw[sbC]
  refine decide_eq_true ?_
  by_cases h0:i.natAbs=0
  .rw[h0];decide
  .exact scF ((Nat.log2_lt h0).mpr h) (by decide)
 .rw[sbZ,sce]
  cases i with
  | ofNat m =>
   have:=nat_repr_length_le (n:=m) (k:=200) (by decide) h;show(Nat.repr m).length<=201;omega
  | negSucc m =>
   have:=nat_repr_length_le (n:=m+1) (k:=200) (by decide) h;show("-"++Nat.repr (m+1)).length<=201;rw[String.length_append];have h1 : "-".length=1:=rfl;omega
theorem Rp.str {z:Str}{n:Nat}(hl:z.length<=n)(h:∀ c∈z.cps.toList,c < 16 ^ 8):Rp (.str z) (10*n+2) 0:=by
 refine⟨.str z,by rw[zkC],by rw[sbC],by rw[sb0]<;>simp,?_⟩;rw[sbZ];have:=StrLaws.reprText_len z h;omega
theorem Rp.emp {k:Nat}:Rp (.dic [] []) 100 1:=by
 refine⟨.dict [],by rw[zkC];rfl,by rw[sbC,PyData.showableKv],by rw[sb0,PyData.depthKv];omega,?_⟩;rw[sbZ,PyData.shownKv];exact(show(dictText []).length<=100 by decide +kernel)
theorem Rp.repr {ds:List D}{n k:Nat}(h:Rp (.lst ds) n k)(hn:n<=sizeLine)(hk:k<=100):∃ z,zsU (.lst ds)=.ok (.str z):=by
 obtain⟨p,h1,h2,h3,h4⟩:=h;refine⟨p.shown,?_⟩;unfold zsU;rw[h1];show(if _ then _ else _)=_;have hs:zp4 p=true:=by
  unfold zp4;rw[h2,decide_eq_true (sat h3 hk),decide_eq_true (sat h4 hn)];rfl
 rw[if_pos ⟨rfl,hs⟩]
end DL
namespace Bor
open PySem L2 DL Com
theorem zqC {α β γ:Type}:∀ (l:List α) (b:β×γ),List.foldl (fun b _=>(b.1,b.2)) b l=b
 | [],_=>rfl
 | _::l,b=>zqC l b
theorem zs1:∀ c∈abc.cps.toList,c < 16 ^ 8:=by decide +kernel
theorem zFk {c:Nat}(h:zqA c=true):c < 16 ^ 8:=by
 refine Nat.lt_of_not_le fun hc=>?_;have hs:∀ i,Builtin.Str.subAt abc ⟨#[c]⟩ i=false:=by
  intro i;unfold Builtin.Str.subAt;rw[beq_eq_false_iff_ne];intro e;have:c∈(abc.cps.extract i (i+(⟨#[c]⟩:Str).length)):=by rw[e];simp
  have h2:c∈abc.cps:=by
   obtain⟨j,hj,e⟩:=Array.mem_iff_getElem.mp this;rw[Array.getElem_extract] at e;rw[← e];exact Array.getElem_mem _
  have:=zs1 c (Array.mem_toList_iff.mpr h2);omega
 have:sbH abc ⟨#[c]⟩ 0 abc.length 1=[]:=by
  unfold sbH;simp [hs,zqC]
 unfold zqA occ at h;rw[this] at h;cases h
theorem zlm {z:Str}(h:nameB z=true):Rp (.str z) 82 0:=by
 unfold nameB at h;simp only[saA,decide_eq_true_eq,saJ] at h;refine Rp.str (n:=8) h.2.1 fun c hc=>?_;exact zFk (h.2.2 c hc)
theorem zAr {x:Fra}(h:zhF x):Rp (fr x) 409 1:=by
 have hN:N60<=2 ^ 200:=by decide
 have h1:=h.pN;have h2:=h.qN;exact(Rp.tup (Rps.cons (Rp.int (sae h1 hN)) (Rps.cons (Rp.int (sae h2 hN)) Rps.nil))).up (by simp) (saq _)
theorem zDH {zs:List Str}{t:Tie}(h:zvn zs t)(hz:∀ z∈zs,nameB z=true):Rp (zdo t) 1100 2:=by
 have ha:=(zlm (hz _ h.a)).up (k':=1) (saq _) (by decide);have hb:=(zlm (hz _ h.b)).up (k':=1) (saq _) (by decide);have hw:Rp (.str t.w) 82 1:=by
  rcases h.w with e | e<;>rw[e]
  .exact(Rp.str (n:=8) (by decide) (by decide)).up (by decide) (by decide)
  .exact(Rp.str (n:=8) (by decide) (by decide)).up (by decide) (by decide)
 have hl:=zAr h.l;have ho:Rp (zhI t.o) 409 1:=by
  cases e:t.o with
  | none=>exact Rp.non.up (by decide) (by decide)
  | some x=>exact zAr (h.o x e).1
 exact(Rp.tup (Rps.cons ha (Rps.cons hb (Rps.cons hw (Rps.cons hl (Rps.cons ho Rps.nil)))))).up (by simp) (saq _)
theorem zyY {ds:List Str}{n:Nat}(hl:ds.length<=n)(h:∀ z∈ds,nameB z=true):Rp (.lst (ds.map D.str)) (84*n+3) 1:=by
 have:=Rp.lst (Rps.all (a:=82) (k:=0) (ds:=ds.map D.str) fun d hd=>by
  obtain⟨z,hz,rfl⟩:=sa6.mp hd;exact zlm (h z hz))
 rw[sag] at this;exact this.up (by omega) (saq _)
theorem zDG {w:Web}(W:zgJ w):Rp (zcs w) 20000 4:=by
 have h1:=(zyY W.n7 W.nm.nm).up (k':=3) (saq _) (by decide);have h2:Rp (.lst (w.ts.map zdo)) 15700 3:=by
  have:=Rp.lst (Rps.all (a:=1100) (k:=2) (ds:=w.ts.map zdo) fun d hd=>by
   obtain⟨t,ht,rfl⟩:=sa6.mp hd;exact zDH (W.ts t ht) W.nm.nm)
  rw[sag] at this;have t14:=W.t14;exact this.up (by omega) (saq _)
 have h3:=(zlm (W.nm.nm _ W.fi)).up (k':=3) (saq _) (by decide);have h4:=(zlm (W.nm.nm _ W.la)).up (k':=3) (saq _) (by decide);exact(Rp.tup (Rps.cons h1 (Rps.cons h2 (Rps.cons h3 (Rps.cons h4 Rps.nil))))).up (by simp) (saq _)
end Bor
namespace K11
open PySem L2 DL Com Bor
end K11
namespace K12
open PySem L2 DL Com Bor K11
section
variable {s t:Ev->Res Fl}{ρ:Ev}{ds:List D}{n i:Nat}{f:Ev->Res D}{fa:Ev->Res (List D)}{m:List D->Res D}{d:D}
end
theorem tak0 {w:Web}:zAd w []:=⟨scS.nil,fun k hk=>(nomatch hk)⟩
theorem lplus_fr {k:Nat}{s x:Fra}(h:Acc k s)(hk:k<=61)(hx:zhF x):za6 [fr (low s.1 s.2),fr x]=.ok (fr (low (un s x).1 (un s x).2)):=by
 have ht:=zdu (a:=s.1) h.pos;have a1:(low s.1 s.2).1.natAbs<=bnd k:=sat zjx h.b1;have a2:(low s.1 s.2).2.natAbs<=bnd k:=sat zjw h.b2;have hst:=ztA h.pos hx.q1;have hA:Acc k (low s.1 s.2):=⟨by have:=ht.q1;omega,a1,a2⟩
 have hB:=hA.step hx;rw[← hst];generalize low s.1 s.2=t at *;have b60:bnd k < B60:=sae (zpu (by omega)) zpB;have bb:bnd (k+1) < B13:=zpu (by omega);have x1:x.1.natAbs < B60:=sae hx.pN zpz;have x2:x.2.natAbs < B60:=sae hx.qN zpz;have i0:∀ u:Fra,dIx (fr u) (.int 0)=.ok (.int u.1):=fun _=>rfl;have i1:∀ u:Fra,dIx (fr u) (.int 1)=.ok (.int u.2):=fun _=>rfl;have m1:=zbJ (zcE (saG a1 b60) x2);have m2:=zbJ (zcE x1 (saG a2 b60));have m3:=zbJ (zcE (saG a2 b60) x2);have hlo:za4 [.int (t.1*x.2+x.1*t.2),.int (t.2*x.2)]=.ok (fr (low (t.1*x.2+x.1*t.2) (t.2*x.2))):=Cod.low_ok hB.pos (saG hB.b1 bb) (saG hB.b2 bb);open_line with[za6,zik,i0,i1,m1,m2,m3,hlo]
end K12
namespace K51
open PySem L2 DL Com Bor
structure El (x:Fra):Prop where
 lo:Low x
 p0:0<=x.1
 p1:x.1 < 1152921504606846976
 q1:x.2 < 1152921504606846976
theorem El.b {x:Fra}(h:El x):x.1.natAbs < 2 ^ 60/\x.2.natAbs < 2 ^ 60:=by
 have:=h.p0;have:=h.p1;have:=h.q1;have:=h.lo.q1;rw[show(2:Nat) ^ 60=1152921504606846976 from by decide];omega
theorem zi5 {x:Fra}(h:Amt x):El x:=⟨h.lo,h.p0,by have:=h.p1;omega,by have:=h.q1;omega⟩
theorem el0:El (0,1):=⟨⟨by decide,by decide⟩,by decide,by decide,by decide⟩
theorem zBT {a:Int}{m n:Nat}(h:a.natAbs < 2 ^ m)(hm:m<=n):a.natAbs < 2 ^ n:=sae h (sbp (by decide) hm)
theorem ziu {a b:Int}{m n:Nat}(h:a.natAbs < 2 ^ m)(h':b.natAbs < 2 ^ n):(a*b).natAbs < 2 ^ (m+n):=by
 rw[scK,Nat.pow_add];exact Nat.mul_lt_mul'' h h'
theorem zFi {a b:Int}{m:Nat}(h:a.natAbs < 2 ^ m)(h':b.natAbs < 2 ^ m):(a+b).natAbs < 2 ^ (m+1):=by
 have:=Int.natAbs_add_le a b;rw[Nat.pow_succ];omega
def mt (x y:Fra):Fra:=low (x.1*y.1) (x.2*y.2)
def pl (x y:Fra):Fra:=low (un x y).1 (un x y).2
theorem i0 (u:Fra):dIx (fr u) (.int 0)=.ok (.int u.1):=rfl
theorem i1 (u:Fra):dIx (fr u) (.int 1)=.ok (.int u.2):=rfl
structure Bd (x:Fra) (n:Nat):Prop where
 q0:0 < x.2
 a:x.1.natAbs < 2 ^ n
 b:x.2.natAbs < 2 ^ n
theorem Bd.up {x:Fra}{m n:Nat}(h:Bd x m)(hm:m<=n):Bd x n:=⟨h.q0,zBT h.a hm,zBT h.b hm⟩
theorem Bd.c13 {x:Fra}{n:Nat}(h:Bd x n)(hn:n<=6000):x.1.natAbs < B13/\x.2.natAbs < B13:=by
 have:2 ^ n<=B13:=by rw[zoq];exact sbp (by decide) (sat hn (by decide))
 exact⟨sae h.a this,sae h.b this⟩
theorem Bd.c60 {x:Fra}{n:Nat}(h:Bd x n)(hn:n<=6000):x.1.natAbs < B60/\x.2.natAbs < B60:=⟨sae (h.c13 hn).1 zpB,sae (h.c13 hn).2 zpB⟩
theorem El.bd {x:Fra}(h:El x):Bd x 60:=⟨by have:=h.lo.q1;omega,h.b.1,h.b.2⟩
theorem zwu {a b:Int}{n:Nat}(hb:0 < b)(h1:a.natAbs < 2 ^ n)(h2:b.natAbs < 2 ^ n):Bd (low a b) n:=⟨by have:=(zdu (a:=a) hb).q1;omega,saG zjx h1,saG zjw h2⟩
theorem zEl {x y:Fra}{m n:Nat}(hx:Bd x m)(hy:Bd y n):Bd (mt x y) (m+n):=zwu (sbk hx.q0 hy.q0) (ziu hx.a hy.a) (ziu hx.b hy.b)
theorem zou {x y:Fra}{m n:Nat}(hx:Bd x m)(hy:Bd y n):Bd (un x y) (m+n+1):=by
 refine⟨sbk hx.q0 hy.q0,?_,zBT (ziu hx.b hy.b) (by omega)⟩;have h1:=ziu hx.a hy.b;have h2:=ziu hy.a hx.b;rw[Nat.add_comm n m] at h2;exact zFi h1 h2
theorem zDW {x y:Fra}{m n:Nat}(hx:Bd x m)(hy:Bd y n):Bd (pl x y) (m+n+1):=zwu (zou hx hy).q0 (zou hx hy).a (zou hx hy).b
theorem zlB {x y:Fra}{m n:Nat}(hx:Bd x m)(hy:Bd y n)(h:m+n<=6000):zbi [fr x,fr y]=.ok (fr (mt x y)):=by
 have b1:=hx.c60 (by omega);have b2:=hy.c60 (by omega);have hp:Bd (x.1*y.1,x.2*y.2) (m+n):=⟨sbk hx.q0 hy.q0,ziu hx.a hy.a,ziu hx.b hy.b⟩
 have hc:=hp.c13 h;have m1:=zbJ (zcE b1.1 b2.1);have m2:=zbJ (zcE b1.2 b2.2);have hlo:za4 [.int (x.1*y.1),.int (x.2*y.2)]=.ok (fr (mt x y)):=Cod.low_ok hp.q0 hc.1 hc.2;open_line with[zbi,zkq,i0,i1,m1,m2,hlo]
theorem zyL {x y:Fra}{m n:Nat}(hx:Bd x m)(hy:Bd y n)(h:m+n<=6000):zlz [fr x,fr y]=.ok (fr (mt x y)):=by
 have b1:=hx.c60 (by omega);have b2:=hy.c60 (by omega);have hp:Bd (x.1*y.1,x.2*y.2) (m+n):=⟨sbk hx.q0 hy.q0,ziu hx.a hy.a,ziu hx.b hy.b⟩
 have hc:=hp.c13 h;have m1:=zbJ (zcE b1.1 b2.1);have m2:=zbJ (zcE b1.2 b2.2);have hlo:zdV [.int (x.1*y.1),.int (x.2*y.2)]=.ok (fr (mt x y)):=zoH hp.q0 hc.1 hc.2;open_line with[zlz,zyi,i0,i1,m1,m2,hlo]
theorem ztz {x y:Fra}{m n:Nat}(hx:Bd x m)(hy:Bd y n)(h:m+n<=5900):za6 [fr x,fr y]=.ok (fr (pl x y)):=by
 have b1:=hx.c60 (by omega);have b2:=hy.c60 (by omega);have hp:=zou hx hy;have hc:=hp.c13 (by omega);have m1:=zbJ (zcE b1.1 b2.2);have m2:=zbJ (zcE b2.1 b1.2);have m3:=zbJ (zcE b1.2 b2.2);have hlo:za4 [.int (x.1*y.2+y.1*x.2),.int (x.2*y.2)]=.ok (fr (pl x y)):=Cod.low_ok hp.q0 hc.1 hc.2;open_line with[K12.za6,K12.zik,i0,i1,m1,m2,m3,hlo]
theorem zBL {x y:Fra}{m n:Nat}(hx:Bd x m)(hy:Bd y n)(h:m+n<=5900):zeP [fr x,fr y]=.ok (fr (pl x y)):=by
 have b1:=hx.c60 (by omega);have b2:=hy.c60 (by omega);have hp:=zou hx hy;have hc:=hp.c13 (by omega);have m1:=zbJ (zcE b1.1 b2.2);have m2:=zbJ (zcE b2.1 b1.2);have m3:=zbJ (zcE b1.2 b2.2);have hlo:zdV [.int (x.1*y.2+y.1*x.2),.int (x.2*y.2)]=.ok (fr (pl x y)):=zoH hp.q0 hc.1 hc.2;open_line with[Com.zeP,Com.zod,i0,i1,m1,m2,m3,hlo]
theorem ztC {x y:Fra}{m n:Nat}(hx:Bd x m)(hy:Bd y n)(hm:m<=6000)(hn:n<=6000):zdX [fr x,fr y]=.ok (.bl (flt x y)):=by
 have b1:=hx.c60 hm;have b2:=hy.c60 hn;have m1:=zbJ (zcE b1.1 b2.2);have m2:=zbJ (zcE b2.1 b1.2);open_line with[zdX,zna,i0,i1,m1,m2]
 rfl
theorem zlE {x y:Fra}{m n:Nat}(hx:Bd x m)(hy:Bd y n)(hm:m<=6000)(hn:n<=6000):zcG [fr x,fr y]=.ok (.bl (flt x y)) :=
 zsK (hx.c60 hm).1 (hx.c60 hm).2 (hy.c60 hn).1 (hy.c60 hn).2
noncomputable def zvq:List D:=[.non,.bl true,.int 0,.str "0",.tup [.int 0,.int 2],.tup [.int 2,.int 4],.tup [.int (-1),.int 2],.tup [.int 1,.int 0],.tup [.bl true,.int 1],.tup [.int 1,.bl true],.lst [.int 0,.int 1]]
theorem zzq {x:Fra}(h:Low x):low x.1 x.2=x:=by
 have:=h.g1;unfold low;rw[this];simp
theorem zoV {p q:Int}(hp:0<=p)(hq:0 < q)(h1:p.natAbs < B13)(h2:q.natAbs < B13):zbm [.tup [.int p,.int q]]=.ok (.bl (eqD (fr (low p q)) (.tup [.int p,.int q]))):=by
 have hlo:za4 [.int p,.int q]=.ok (fr (low p q)):=Cod.low_ok hq h1 h2;have he:dEq (fr (low p q)) (.tup [.int p,.int q])=.ok (.bl (eqD (fr (low p q)) (.tup [.int p,.int q]))):=by
  unfold dEq;rw[if_pos ⟨zBD _,rfl⟩]
 have hf:∀ A,zdO (zd0 1) (zax (sIf (dOr (zdQ (zbo (zaf 1) (zcz "int"))) (zbo (zaf 1) (zcz "bool")))
 (zax (zb8 (dC (.bl false)))
 zam)
 zam)
 zam) [.int p,.int q] [.sh A,.no]=.ok (.nx [.sh A,.sh (.int q)]):=fun A=>by
  rw[zlL (ρ1:=[.sh A,.sh (.int p)]) (ρ2:=[.sh A,.sh (.int p)]) rfl (by open_line with[]),zlL (ρ1:=[.sh A,.sh (.int q)]) (ρ2:=[.sh A,.sh (.int q)]) rfl (by open_line with[])];rfl
 open_line with[zbm,zgy,hf,decide_eq_true (show p≥0 from hp),decide_eq_true (show q > 0 from hq),hlo,he]
theorem zCb {x:Fra}(h:El x):zbm [fr x]=.ok (.bl true):=by
 have hc:=h.bd.c13 (by decide);have:=zoV h.p0 h.bd.q0 hc.1 hc.2;rw[zzq h.lo,show D.tup [.int x.1,.int x.2]=fr x from rfl,zu6] at this;exact this
theorem zqm {x:Fra}(h:El x):zbf [fr x]=.ok (.bl true):=zlF h.lo h.p0
theorem zoy {a:Int}(h:a.natAbs < 2 ^ 60):a.natAbs < B13:=sae h (by rw[zoq];exact sbp (by decide) (by decide))
theorem zzr {d:D}(h:d∈zvq):zbm [d]=.ok (.bl false):=by
 simp only[zvq,sam,saU,or_false] at h;rcases h with rfl | rfl | rfl | rfl | rfl | rfl | rfl | rfl | rfl | rfl | rfl
 any_goals rfl
 .rw[zoV (by decide) (by decide) (zoy (by decide)) (zoy (by decide))];rfl
 .rw[zoV (by decide) (by decide) (zoy (by decide)) (zoy (by decide))];rfl
theorem zwx {d:D}(h:d∈zvq):zbf [d]=.ok (.bl false):=by
 simp only[zvq,sam,saU,or_false] at h;rcases h with rfl | rfl | rfl | rfl | rfl | rfl | rfl | rfl | rfl | rfl | rfl
 all_goals rfl
def zbp (d:D):Exn:=⟨"NoSpread",[("at",d)]⟩
def Ele (e:D):Prop:=(∃ x,e=fr x/\El x)∨e∈zvq
abbrev zoM:Ev->Res Fl :=
 (zax (zcm 6 (dIf (zad (zad (zad (zad (zaf 0) (dC (.int 1)) dIx) (zaf 4) dIx) (dC (.int 4)) dIx) (dC (.non)) zmV) (dC (.tup [(.int 0),(.int 1)])) (zad (zaf 1) (zaf 4) dIx)))
 (zax (sIf (dOr (zdQ (zaj (zab (zaf 5) zaz) zbf)) (zaj (zab (zaf 6) (zab (zaf 5) zaz)) zcG))
 (zax (zia "NoSpread" ["at"] (zab (zaf 4) zaz))
 zam)
 zam)
 zam))
abbrev zoW:Ev->Res Fl :=
 (zax (sIf (dOr (zdQ (zaj (zab (zad (zaf 3) (zaf 4) dIx) zaz) zbm)) (zaj (zab (zad (zaf 1) (zaf 4) dIx) (zab (zad (zaf 3) (zaf 4) dIx) zaz)) zdX))
 (zax (zb8 (zaj (zab (dC (.str "at")) (zab (zaf 4) zaz)) zeH))
 zam)
 zam)
 (zax (sIf (zmX (zad (zad (zad (zad (zaf 0) (dC (.int 1)) dIx) (zaf 4) dIx) (dC (.int 4)) dIx) (dC (.non)) zmV) (zad (zad (zad (zaf 3) (zaf 4) dIx) (dC (.int 0)) dIx) (dC (.int 0)) dNe))
 (zax (zb8 (zaj (zab (dC (.str "at")) (zab (zaf 4) zaz)) zeH))
 zam)
 zam)
 zam))
noncomputable def pEv (w:Web) (as:List Fra) (p:Fra) (th:List D) (x4 x5 x6:Sl):Ev:=[.sh (zcs w),.sh (.lst (as.map fr)),.sh (fr p),.sh (.lst th),x4,x5,x6]
noncomputable def lEv (w:Web) (as:List Fra) (p:Fra) (th:List D) (x4:Sl):Ev:=[.sh (zcs w),.sh (.lst (as.map fr)),.sh (fr p),.sh (.lst th),x4]
theorem w1 {w:Web}:dIx (zcs w) (.int 1)=.ok (.lst (w.ts.map zdo)):=rfl
theorem t4 {t:Tie}:dIx (zdo t) (.int 4)=.ok (zhI t.o):=rfl
def most (t:Tie)(a:Fra):Fra:=match t.o with
 | none=>(0,1)
 | some _=>a
section
variable {w:Web}{as:List Fra}{p:Fra}{th:List D}{i:Nat}{t:Tie}{a:Fra}{e:D}
theorem zHU {x:Fra}:flt (0,1) x=decide (0 < x.1):=by
 unfold flt
 congr 1
 simp
theorem zD9 (ht:w.ts[i]?=some t)(ha:as[i]?=some a)(ea:El a){x6:Sl} :
  (e∈zvq->zoM (pEv w as p th (.sh (.int (i:Int))) (.sh e) x6)=.exn (zbp (.int (i:Int)))) /\
  (∀ x,e=fr x->El x->(flt (most t a) x=true->zoM (pEv w as p th (.sh (.int (i:Int))) (.sh e) x6)=.exn (zbp (.int (i:Int))))/\(flt (most t a) x=false->∃ y6,zoM (pEv w as p th (.sh (.int (i:Int))) (.sh e) x6)=.ok (.nx (pEv w as p th (.sh (.int (i:Int))) (.sh e) y6)))):=by
 have h1:=zpV ht;have h2:dIx (.lst (as.map fr)) (.int (i:Int))=.ok (fr a):=zhO (by rw[sai,ha];rfl);have h0:D.tup [.int 0,.int 1]=fr (0,1):=rfl;have hif:∀ (c f g:Ev->Res D) (ρ:Ev),dIf c f g ρ=(c ρ).bind (zFB f g ρ):=fun _ _ _ _=>rfl;unfold pEv zbp;cases ho:t.o with
 | none =>
  have t4':dIx (zdo t) (.int 4)=.ok .non:=by rw[t4,ho];rfl
  refine⟨fun hodd=>?_,fun x hx ex=>⟨fun hl=>?_,fun hl=>⟨.sh (fr (0,1)),?_⟩⟩⟩
  .have hlo:=zwx hodd
   cases x6<;>open_line with[w1,h1,t4',hlo,zb2,zbB,zdP,h0]
  .subst hx
   have hle:=zlE el0.bd ex.bd (by decide) (by decide);unfold most at hl;rw[ho] at hl;simp only at hl;rw[hl] at hle;cases x6<;>open_line with[w1,h1,t4',zqm ex,hle,zb2,zbB,zdP,h0]
  .subst hx
   have hle:=zlE el0.bd ex.bd (by decide) (by decide);unfold most at hl;rw[ho] at hl;simp only at hl;rw[hl] at hle;cases x6<;>open_line with[w1,h1,t4',zqm ex,hle,h0]
 | some o =>
  have t4':dIx (zdo t) (.int 4)=.ok (.tup [.int o.1,.int o.2]):=by rw[t4,ho];rfl
  refine⟨fun hodd=>?_,fun x hx ex=>⟨fun hl=>?_,fun hl=>⟨.sh (fr a),?_⟩⟩⟩
  .have hlo:=zwx hodd
   cases x6<;>open_line with[w1,h1,h2,t4',hlo,zb2,zbB,zdP]
  .subst hx
   have hle:=zlE ea.bd ex.bd (by decide) (by decide);unfold most at hl;rw[ho] at hl;simp only at hl;rw[hl] at hle;cases x6<;>open_line with[w1,h1,h2,t4',zqm ex,hle,zb2,zbB,zdP]
  .subst hx
   have hle:=zlE ea.bd ex.bd (by decide) (by decide);unfold most at hl;rw[ho] at hl;simp only at hl;rw[hl] at hle;cases x6<;>open_line with[w1,h1,h2,t4',zqm ex,hle]
theorem zEp (ht:w.ts[i]?=some t)(ha:as[i]?=some a)(ea:El a)(he:th[i]?=some e) :
  (e∈zvq->zoW (lEv w as p th (.sh (.int (i:Int))))=.ok (.rt (.tup [.str "at",.int (i:Int)]))) /\
  (∀ x,e=fr x->El x->(flt (most t a) x=true->zoW (lEv w as p th (.sh (.int (i:Int))))=.ok (.rt (.tup [.str "at",.int (i:Int)])))/\(flt (most t a) x=false->zoW (lEv w as p th (.sh (.int (i:Int))))=.ok (.nx (lEv w as p th (.sh (.int (i:Int))))))):=by
 have h1:=zpV ht;have h2:dIx (.lst (as.map fr)) (.int (i:Int))=.ok (fr a):=zhO (by rw[sai,ha];rfl);have h3:dIx (.lst th) (.int (i:Int))=.ok e:=zhO he;unfold lEv;refine⟨fun hodd=>?_,fun x hx ex=>?_⟩
 .have hlo:=zzr hodd
  open_line with[h3,hlo]
 .subst hx
  have hl1:=zCb ex;have hle:=ztC ea.bd ex.bd (by decide) (by decide);have hx0:=i0 x;cases ho:t.o with
  | none =>
   have t4':dIx (zdo t) (.int 4)=.ok .non:=by rw[t4,ho];rfl
   have hm:flt (most t a) x=decide (0 < x.1):=by unfold most;rw[ho];exact zHU
   rw[hm];refine⟨fun hl=>?_,fun hl=>?_⟩
   .have hne:dNe (.int x.1) (.int 0)=.ok (.bl true):=by
     rw[zj1,beq_eq_false_iff_ne.mpr (by have:=of_decide_eq_true hl;omega)];rfl
    cases hc:flt a x with
    | true=>rw[hc] at hle;open_line with[h2,h3,hl1,hle]
    | false =>
     rw[hc] at hle;have hb:(x.1==0)=false:=beq_eq_false_iff_ne.mpr (by have:=of_decide_eq_true hl;omega);open_line with[w1,h1,h2,h3,hl1,hle,t4',hx0,hb]
   .have hx1:x.1=0:=by have:=of_decide_eq_false hl;have:=ex.p0;omega
    have hc:flt a x=false:=by
     unfold flt;rw[hx1];refine decide_eq_false ?_;have:=sa9 ea.p0 (show(0:Int)<=x.2 by have:=ex.bd.q0;omega);omega
    rw[hc] at hle;have hb:(x.1==0)=true:=by rw[hx1];rfl
    open_line with[w1,h1,h2,h3,hl1,hle,t4',hx0,hb]
  | some o =>
   have t4':dIx (zdo t) (.int 4)=.ok (.tup [.int o.1,.int o.2]):=by rw[t4,ho];rfl
   have hm:most t a=a:=by unfold most;rw[ho]
   rw[hm];refine⟨fun hl=>?_,fun hl=>?_⟩
   .rw[hl] at hle;open_line with[h2,h3,hl1,hle]
   .rw[hl] at hle;open_line with[w1,h1,h2,h3,hl1,hle,t4']
end
theorem zGl {w:Web}{as:List Fra}{p:Fra}{th:List D}(hal:as.length=w.ts.length)(htl:th.length=w.ts.length)(ha:∀ a∈as,El a)(he:∀ e∈th,Ele e):∀ (m i:Nat) (x4 x5 x6 y4:Sl),i+m=th.length ->
  (∃ j:Nat,zdO (zkJ [4,5]) zoM ((numbered 0 th).drop i) (pEv w as p th x4 x5 x6)=.exn (zbp (.int (j:Int)))/\zdO (zd0 4) zoW ((DL.intsFrom 0 th.length).drop i) (lEv w as p th y4)=.ok (.rt (.tup [.str "at",.int (j:Int)]))) ∨
  ((∃ x4' x5' x6',zdO (zkJ [4,5]) zoM ((numbered 0 th).drop i) (pEv w as p th x4 x5 x6)=.ok (.nx (pEv w as p th x4' x5' x6')))/\(∃ y4',zdO (zd0 4) zoW ((DL.intsFrom 0 th.length).drop i) (lEv w as p th y4)=.ok (.nx (lEv w as p th y4')))/\∀ e∈th.drop i,∃ x,e=fr x/\El x):=by
 intro m
 induction m with
 | zero =>
  intro i x4 x5 x6 y4 him;have:i=th.length:=by omega
  subst this;rw[sbU,List.drop_of_length_le (by rw[ze9];exact saq _),ztF];exact .inr ⟨⟨x4,x5,x6,rfl⟩,⟨y4,rfl⟩,fun e h=>(nomatch h)⟩
 | succ m ih =>
  intro i x4 x5 x6 y4 him;have hi:i < th.length:=by omega
  have ht:=saa (l:=w.ts) (i:=i) (by omega);have haa:=saa (l:=as) (i:=i) (by omega);have ea:=ha as[i] (sbw _);have hth:=saa (l:=th) (i:=i) hi;have P:=zD9 (p:=p) (th:=th) (e:=th[i]) ht haa ea (x6:=x6);have L:=zEp (p:=p) (th:=th) (e:=th[i]) ht haa ea hth;rw[saL hi,K11.numbered_drop th 0 i hi,scf,zqz hi];have hg:zkJ [4,5] (pEv w as p th x4 x5 x6) (.tup [.int (i:Int),th[i]])=.ok (pEv w as p th (.sh (.int (i:Int))) (.sh th[i]) x6):=rfl;have hg2:zd0 4 (lEv w as p th y4) (.int (i:Int))=.ok (lEv w as p th (.sh (.int (i:Int)))):=rfl;have bad:zoM (pEv w as p th (.sh (.int (i:Int))) (.sh th[i]) x6)=.exn (zbp (.int (i:Int)))->zoW (lEv w as p th (.sh (.int (i:Int))))=.ok (.rt (.tup [.str "at",.int (i:Int)])) ->
    zdO (zkJ [4,5]) zoM (.tup [.int (i:Int),th[i]]::(numbered 0 th).drop (i+1)) (pEv w as p th x4 x5 x6)=.exn (zbp (.int (i:Int)))/\zdO (zd0 4) zoW (.int (i:Int)::(DL.intsFrom 0 th.length).drop (i+1)) (lEv w as p th y4)=.ok (.rt (.tup [.str "at",.int (i:Int)])):=by
   intro e1 e2;constructor
   .unfold zdO;rw[hg];simp only[Res.bind,e1]
   .unfold zdO;rw[hg2];simp only[Res.bind,e2]
  rcases he th[i] (sbw hi) with⟨x,hx,ex⟩ | hodd
  .cases hc:flt (most w.ts[i] as[i]) x with
   | true=>exact .inl ⟨i,bad ((P.2 x hx ex).1 hc) ((L.2 x hx ex).1 hc)⟩
   | false =>
    obtain⟨y6,e1⟩:=(P.2 x hx ex).2 hc;have e2:=(L.2 x hx ex).2 hc;have f1:zdO (zkJ [4,5]) zoM (.tup [.int (i:Int),th[i]]::(numbered 0 th).drop (i+1)) (pEv w as p th x4 x5 x6)=zdO (zkJ [4,5]) zoM ((numbered 0 th).drop (i+1)) (pEv w as p th (.sh (.int (i:Int))) (.sh th[i]) y6):=by
     rw[zdO,hg];simp only[Res.bind,e1]
    have f2:zdO (zd0 4) zoW (.int (i:Int)::(DL.intsFrom 0 th.length).drop (i+1)) (lEv w as p th y4)=zdO (zd0 4) zoW ((DL.intsFrom 0 th.length).drop (i+1)) (lEv w as p th (.sh (.int (i:Int)))):=by
     rw[zdO,hg2];simp only[Res.bind,e2]
    rw[f1,f2];rcases ih (i+1) (.sh (.int (i:Int))) (.sh th[i]) y6 (.sh (.int (i:Int))) (by omega) with h | ⟨h1,h2,h3⟩
    .exact .inl h
    .refine .inr ⟨h1,h2,fun e hm=>?_⟩
     rcases sam.mp hm with rfl | hm
     .exact⟨x,hx,ex⟩
     .exact h3 e hm
  .exact .inl ⟨i,bad (P.1 hodd) (L.1 hodd)⟩
def term (tx:Tie×Fra):Option Fra:=tx.1.o.map fun o=>mt o tx.2
def zkD (ts:List Tie)(xs:List Fra):List Fra:=(ts.zip xs).filterMap term
theorem zov {ts:List Tie}{xs:List Fra}(ht:∀ t∈ts,zey t)(hx:∀ x∈xs,El x):∀ y∈zkD ts xs,Low y/\Bd y 112:=fun y hy=>by
 obtain⟨⟨t,x⟩,hm,e⟩:=sbA.mp hy;have h1:=ht t (sa2 hm).1;have h2:=hx x (sa2 hm).2;unfold term at e;cases ho:t.o with
 | none=>simp only[ho] at e;cases e
 | some o =>
  simp only[ho,sbt,sbj] at e;subst e;have b1:Bd o 52:=by
   have A:=h1.2 o ho;have c1:=A.lo.q1;have c2:=A.p0;have c3:=A.p1;have c4:=A.q1;refine⟨by omega,?_,?_⟩
   .rw[show(2:Nat) ^ 52=4503599627370496 from by decide];omega
   .rw[show(2:Nat) ^ 52=4503599627370496 from by decide];omega
  exact⟨zdu (sbk b1.q0 h2.bd.q0),zEl b1 h2.bd⟩
theorem zpX {ts:List Tie}{xs:List Fra}(ht:∀ t∈ts,zey t)(hx:∀ x∈xs,El x):∀ y∈zkD ts xs,zhF y:=fun y hy=>by
 obtain⟨h1,h2⟩:=zov ht hx y hy;have hN:2 ^ 112<=N60:=by decide
 exact⟨h1,sae h2.a hN,sae h2.b hN⟩
theorem zpW {ts:List Tie}{xs:List Fra}:(zkD ts xs).length<=ts.length:=by
 unfold zkD;refine sat (List.length_filterMap_le _ _) ?_;rw[sb8];omega
def zd2 (ts:List Tie)(xs:List Fra):Fra:=low (tot (zkD ts xs)).1 (tot (zkD ts xs)).2
theorem zAj:∀ (xs:List Fra) (k:Nat) (s:Fra),(∀ x∈xs,Bd x 112)->Bd s (113*k+1)->Bd (xs.foldl un s) (113*(k+xs.length)+1)
 | [],k,s,_,h=>h
 | x::xs,k,s,hx,h=>by
  have:=zAj xs (k+1) (un s x) (fun y hy=>hx y (sak _ hy)) ((zou h (hx x sax)).up (by omega));rw[sau,show k+(xs.length+1)=k+1+xs.length by omega];exact this
theorem zsV {ts:List Tie}{xs:List Fra}(ht:∀ t∈ts,zey t)(hx:∀ x∈xs,El x)(hl:ts.length<=14):Low (zd2 ts xs)/\Bd (zd2 ts xs) 1583:=by
 have h:=zAj (zkD ts xs) 0 (0,1) (fun y hy=>(zov ht hx y hy).2) ⟨by decide,by decide,by decide⟩;have hle:=zpW (ts:=ts) (xs:=xs);have h':Bd (tot (zkD ts xs)) 1583:=h.up (by omega);exact⟨zdu h'.q0,zwu h'.q0 h'.a h'.b⟩
theorem zrC {α:Type}{B:Ev}{tg:Ev->D->Res Ev}{tt fe:Ev->Res D}(g:α->D)(pk:α->Option D):∀ (L:List α),(∀ a∈L,∃ ρ1,tg B (g a)=.ok ρ1/\((pk a=none/\tt ρ1=.ok (.bl false))∨(∃ d,pk a=some d/\tt ρ1=.ok (.bl true)/\fe ρ1=.ok d)))->zb7 B tg tt fe (L.map g)=.ok (L.filterMap pk)
 | [],_=>rfl
 | a::L,h=>by
  obtain⟨ρ1,h1,h2⟩:=h a sax;have ih:=zrC g pk L fun d hd=>h d (sak _ hd);rw[saN];unfold zb7;rw[h1,bok];rcases h2 with⟨e,h2⟩ | ⟨d,e,h2,h3⟩
  .rw[h2,bok]
   show zb7 B tg tt fe (L.map g)=_;rw[ih,List.filterMap_cons_none e]
  .rw[h2,bok]
   show(fe ρ1).bind _=_;rw[h3,bok,ih,bok,List.filterMap_cons_some e]
theorem zry {α:Type}{n:Nat}{fr':List Nat}{ρ:Ev}{tg:Ev->D->Res Ev}{tt fe:Ev->Res D}(g:α->D)(pk:α->Option D){L:List α}(hl:L.length<=1000000)(h:∀ a∈L,∃ ρ1,tg (zet n fr' ρ) (g a)=.ok ρ1/\((pk a=none/\tt ρ1=.ok (.bl false))∨(∃ d,pk a=some d/\tt ρ1=.ok (.bl true)/\fe ρ1=.ok d))):znA n fr' tg tt fe ρ (L.map g)=.ok (.lst (L.filterMap pk)):=by
 unfold znA;rw[if_pos (show(L.map g).length<=line from by rw[sag];exact hl),zrC g pk L h]
theorem zjo:∀ (ts:List Tie) (xs:List Fra),zcd (ts.map zdo) (xs.map fr)=(ts.zip xs).map fun tx=>D.tup [zdo tx.1,fr tx.2]
 | [],xs=>by simp [zcd]
 | t::ts,[]=>by simp [zcd]
 | t::ts,x::xs=>by
  rw[saN,saN,zcd,zjo ts xs];rfl
theorem zw1 {α β:Ev->Res D}{ρ:Ev}{ds es:List D}(h:α ρ=.ok (.lst ds))(h':β ρ=.ok (.lst es)):zAm α β ρ=.ok (zcd ds es):=by
 unfold zAm;rw[h];show((β ρ).bind _)=_;rw[h'];rfl
theorem zCG {w:Web}(W:zgJ w)(hw:∀ t∈w.ts,zey t){xs:List Fra}(hx:∀ x∈xs,El x):zc1 [zcs w,.lst (xs.map fr)]=.ok (fr (zd2 w.ts xs)):=by
 have t14:=W.t14;have hzl:(w.ts.zip xs).length<=14:=by rw[sb8];omega
 have hz:zAm (zad (zaf 0) (dC (.int 1)) dIx) (zaf 1) [.sh (zcs w),.sh (.lst (xs.map fr))]=.ok ((w.ts.zip xs).map fun tx=>D.tup [zdo tx.1,fr tx.2]):=by
  rw[zw1 (ds:=w.ts.map zdo) (es:=xs.map fr) rfl rfl,zjo]
 have hc:znA 2 [] (zkJ [0,1]) (zad (zad (zaf 0) (dC (.int 4)) dIx) (dC (.non)) zhD) (zaj (zab (zad (zaf 0) (dC (.int 4)) dIx) (zab (zaf 1) zaz)) zlz) [.sh (zcs w),.sh (.lst (xs.map fr))] ((w.ts.zip xs).map fun tx=>D.tup [zdo tx.1,fr tx.2])=.ok (.lst ((zkD w.ts xs).map fr)):=by
  rw[zry (fun tx:Tie×Fra=>D.tup [zdo tx.1,fr tx.2]) (fun tx=>(term tx).map fr) (by omega)]
  .unfold zkD
   rw[List.map_filterMap]
  .rintro⟨t,x⟩ hm
   have h1:=hw t (sa2 hm).1;have h2:=hx x (sa2 hm).2;refine⟨[.sh (zdo t),.sh (fr x)],rfl,?_⟩;cases ho:t.o with
   | none =>
    have t4':dIx (zdo t) (.int 4)=.ok .non:=by rw[t4,ho];rfl
    refine .inl ⟨by unfold term;simp only[ho];rfl,?_⟩;open_line with[t4']
   | some o =>
    have t4':dIx (zdo t) (.int 4)=.ok (fr o):=by rw[t4,ho];rfl
    have hn:zhD (fr o) .non=.ok (.bl true):=rfl;have hti:=zyL (zi5 (h1.2 o ho)).bd h2.bd (by decide);refine .inr ⟨fr (mt o x),by unfold term;simp only[ho];rfl,?_,?_⟩
    .open_line with[t4',hn]
    .open_line with[t4',hti]
 have hs:=zvG (xs:=zkD w.ts xs) (by have:=zpW (ts:=w.ts) (xs:=xs);omega) (zpX hw hx);open_line with[zc1,zgx,hz,hc,hs]
 rfl
theorem zyk {α:Type}{g:α->Bool}:∀ {l:List α},ze3 (l.map fun x=>D.bl (g x))=some (l.map g)
 | []=>rfl
 | a::l=>by rw[saN,ze3,zyk];rfl
theorem zFh {ds:List D}{g:D->Bool}:zAX (.lst (ds.map fun d=>.bl (g d)))=.ok (.bl (ds.all g)):=by
 show(match ze3 (ds.map fun d=>D.bl (g d)) with | some bs=>Res.ok (D.bl (bs.all id)) | none=>.stuck)=_;rw[zyk];simp only[sc2];rfl
theorem ztD {w:Web}(W:zgJ w)(hw:∀ t∈w.ts,zey t){xs:List Fra}(hxl:xs.length=w.ts.length)(hx:∀ x∈xs,El x):zdY [zcs w,.lst (xs.map fr)]=.ok (fr (zd2 w.ts xs)):=by
 have t14:=W.t14;have hlen:zeJ (.lst (xs.map fr))=.ok (.int ((w.ts.length:Nat):Int)):=by rw[zcx,sag,hxl]
 have hzl:(w.ts.zip xs).length=w.ts.length:=by rw[sb8];omega
 have hF:∀ k,(∀ y∈((w.ts.zip xs).take k).filterMap term,zhF y)/\(((w.ts.zip xs).take k).filterMap term).length<=14:=fun k=>by
  refine⟨fun y hy=>?_,?_⟩
  .obtain⟨tx,hm,e⟩:=sbA.mp hy
   exact zpX hw hx y (sbA.mpr ⟨tx,sch hm,e⟩)
  .refine sat (List.length_filterMap_le _ _) ?_
   rw[saQ];omega
 obtain⟨ρ',hf,y3,rfl⟩:=zsM (i:=3) (body:=(zax (sIf (zad (zad (zad (zad (zaf 0) (dC (.int 1)) dIx) (zaf 3) dIx) (dC (.int 4)) dIx) (dC (.non)) zhD)
 (zax (zcm 2 (zaj (zab (zaf 2) (zab (zaj (zab (zad (zad (zad (zaf 0) (dC (.int 1)) dIx) (zaf 3) dIx) (dC (.int 4)) dIx) (zab (zad (zaf 1) (zaf 3) dIx) zaz)) zbi) zaz)) za6))
 zam)
 zam)
 zam))
  (fun k ρ=>∃ y3,ρ=[.sh (zcs w),.sh (.lst (xs.map fr)),.sh (fr (low (tot (((w.ts.zip xs).take k).filterMap term)).1 (tot (((w.ts.zip xs).take k).filterMap term)).2)),y3]) (n:=w.ts.length) (by
   rintro k hk ρ ⟨y3,rfl⟩;have h1:dIx (.lst (w.ts.map zdo)) (.int (k:Int))=.ok (zdo w.ts[k]):=zpV (saa hk);have hkx:k < xs.length:=by omega
   have h2:dIx (.lst (xs.map fr)) (.int (k:Int))=.ok (fr xs[k]):=zhO (by rw[sai,saa hkx];rfl);have hzk:(w.ts.zip xs)[k]?=some (w.ts[k],xs[k]):=by
    rw[saa (by omega),List.getElem_zip]
   have htk:((w.ts.zip xs).take (k+1)).filterMap term=((w.ts.zip xs).take k).filterMap term++(term (w.ts[k],xs[k])).toList:=by
    rw[List.take_add_one,hzk,List.filterMap_append];cases e:term (w.ts[k],xs[k]) with
    | none=>simp [e]
    | some y=>simp [e]
   have hA:=zBo (xs:=((w.ts.zip xs).take k).filterMap term) (by have:=(hF k).2;omega) (hF k).1;have ea:=hw w.ts[k] (sbw hk);have ex:=hx xs[k] (sbw hkx);cases ho:w.ts[k].o with
   | none =>
    have t4':dIx (zdo w.ts[k]) (.int 4)=.ok .non:=by rw[t4,ho];rfl
    have e:term (w.ts[k],xs[k])=none:=by unfold term;simp only[ho];rfl
    rw[e] at htk;refine⟨_,?_,.sh (.int (k:Int)),rfl⟩;rw[htk];simp only[Option.toList,saZ];open_line with[w1,h1,t4']
   | some o =>
    have t4':dIx (zdo w.ts[k]) (.int 4)=.ok (fr o):=by rw[t4,ho];rfl
    have hn:zhD (fr o) .non=.ok (.bl true):=rfl;have e:term (w.ts[k],xs[k])=some (mt o xs[k]):=by unfold term;simp only[ho];rfl
    rw[e] at htk;have hti:=zlB (zi5 (ea.2 o ho)).bd ex.bd (by decide);have hfy:zhF (mt o xs[k]):=by
     have:=(hF (k+1)).1 (mt o xs[k]) (by rw[htk];simp [Option.toList]);exact this
    have hpl:=K12.lplus_fr hA (by have:=(hF k).2;omega) hfy;refine⟨_,?_,.sh (.int (k:Int)),rfl⟩;rw[htk];simp only[Option.toList,zyJ];open_line with[w1,h1,h2,t4',hn,hti,hpl]) (ρ:=[.sh (zcs w),.sh (.lst (xs.map fr)),.sh (fr (low (tot (((w.ts.zip xs).take 0).filterMap term)).1 (tot (((w.ts.zip xs).take 0).filterMap term)).2)),.no]) ⟨.no,rfl⟩
 have hfull:(w.ts.zip xs).take w.ts.length=w.ts.zip xs:=List.take_of_length_le (by omega);rw[hfull] at hf;have e0:fr (low (tot (((w.ts.zip xs).take 0).filterMap term)).1 (tot (((w.ts.zip xs).take 0).filterMap term)).2)=.tup [.int 0,.int 1]:=by
  rw[List.take_zero];show fr (low (0:Int) 1)=_;rw[show low (0:Int) 1=(0,1) from by decide];rfl
 rw[e0] at hf;have hfr:=fun s:Ev->Res Fl=>zkT (tg:=zd0 3) (s:=s) (ρ:=[.sh (zcs w),.sh (.lst (xs.map fr)),.sh (.tup [.int 0,.int 1]),.no]) (k:=w.ts.length) (by omega);cases y3<;>open_line with[zdY,znb,hlen,hfr,hf]<;>rfl
theorem zCO {w:Web}(W:zgJ w){as:List Fra}(hal:as.length=w.ts.length)(ha:∀ a∈as,El a):zd6 [zcs w,.lst (as.map fr)]=.ok .non:=by
 have t14:=W.t14;have hw:zbD [zcs w]=.ok .non:=zAh W;have hb:((w.ts.length:Int)==(w.ts.length:Int))=true:=by simp
 have hc:∀ A,znA 1 [] (zd0 0) mYes (zaj (zab (zaf 0) zaz) zbf) A (as.map fr)=.ok (.lst ((as.map fr).map fun _=>.bl true)):=fun A=>zpl (by rw[sag];omega) fun d hd=>by
  obtain⟨x,hx,rfl⟩:=sa6.mp hd;refine⟨[.sh (fr x)],rfl,rfl,?_⟩;open_line with[zqm (ha x hx)]
 have hall:zAX (.lst ((as.map fr).map fun _=>.bl true))=.ok (.bl true):=by
  have:=zFh (ds:=as.map fr) (g:=fun _=>true);rw[show((as.map fr).all fun _=>true)=true from saJ.mpr fun _ _=>rfl] at this;exact this
 have hh:zeD [zcs w,.lst (as.map fr)]=.ok (.bl true):=by
  open_line with[zeD,zi1,w1,sag,hal,hb,hc,hall]
 open_line with[zd6,zhV,hw,hh]
theorem zsc {w:Web}(W:zgJ w)(hw:∀ t∈w.ts,zey t){as:List Fra}(hal:as.length=w.ts.length)(ha:∀ a∈as,El a){p:Fra}(hp:Low p)(hp0:0<=p.1){n:Nat}(hpb:Bd p n)(hn:n<=6000){d:D}(hd:(∃ th,d=.lst th/\∀ e∈th,Ele e)∨(Wex.plainD d=true/\∀ ds,d≠.lst ds)∨d=.dic [] [])(hl:∀ th,d=.lst th->th.length<=1000) :
  (∃ v,(v=.non∨∃ j:Int,v=.int j)/\zaA [zcs w,.lst (as.map fr),fr p,d]=.exn (zbp v)/\zaF [zcs w,.lst (as.map fr),fr p,d]=.ok (.tup [.str "at",v])) ∨
  (∃ xs:List Fra,d=.lst (xs.map fr)/\(∀ x∈xs,El x)/\xs.length=w.ts.length/\zaA [zcs w,.lst (as.map fr),fr p,d]=.ok .non/\zaF [zcs w,.lst (as.map fr),fr p,d]=.ok .non):=by
 have t14:=W.t14;have h1:=zCO W hal ha;have h2:zbu [fr p]=.ok .non:=zy3 hp hp0;have hlenT:zeJ (.lst (w.ts.map zdo))=.ok (.int (w.ts.length:Int)):=by rw[zcx,sag]
 rcases hd with⟨th,rfl,he⟩ | ⟨hpd,hnl⟩ | rfl
 .have hlt:=hl th rfl
  have hlenH:zeJ (.lst th)=.ok (.int th.length):=zcx
  by_cases hc:th.length=w.ts.length
  .have hb:((th.length:Int)==(w.ts.length:Int))=true:=by rw[hc];simp
   have hlp:=zGl (w:=w) (as:=as) (p:=p) hal hc ha he th.length 0 .no .no .no .no (by omega);rw[sbq,sbq,sbq] at hlp;unfold pEv lEv at hlp;have hsE:∀ (f:Ev->Res D) (ρ:Ev),f ρ=.ok (.lst th)->zyT f ρ=.ok (numbered 0 th):=fun f ρ h=>by unfold zyT;rw[h];rfl
   have hsE':=hsE (zaf 3) [.sh (zcs w),.sh (.lst (as.map fr)),.sh (fr p),.sh (.lst th),.no,.no,.no] rfl;have hfr:=fun s:Ev->Res Fl=>zkT (tg:=zd0 4) (s:=s) (ρ:=[.sh (zcs w),.sh (.lst (as.map fr)),.sh (fr p),.sh (.lst th),.no]) (k:=th.length) (by omega);rcases hlp with⟨j,e1,e2⟩ | ⟨⟨x4,x5,x6,e1⟩,⟨y4,e2⟩,hall⟩
   .refine .inl ⟨.int (j:Int),.inr ⟨j,rfl⟩,?_,?_⟩
    .open_line with[zaA,zaW,h1,h2,w1,hlenT,hlenH,hb,hsE',e1,zdP]
    .open_line with[zaF,zaL,w1,hlenT,hlenH,hb,hfr,e2]
   .obtain⟨xs,rfl,hx⟩:∃ xs:List Fra,th=xs.map fr/\∀ x∈xs,El x:=by
     clear e1 e2 hfr hsE' hsE hb hc hlenH hlt hl he
     induction th with
     | nil=>exact⟨[],rfl,fun x h=>(nomatch h)⟩
     | cons e th ih =>
      obtain⟨x,rfl,ex⟩:=hall e sax;obtain⟨xs,rfl,hx⟩:=ih fun e he=>hall e (sak _ he);refine⟨x::xs,rfl,fun y hy=>?_⟩;rcases sam.mp hy with rfl | hy
      .exact ex
      .exact hx y hy
    rw[sag] at hc;have hco:=zCG W hw hx;have hlc:=ztD W hw hc hx;obtain⟨cl,cb⟩:=zsV hw hx t14;have hle:=zlE hpb cb hn (by decide);have hll:=ztC hpb cb hn (by decide);cases hq:flt p (zd2 w.ts xs) with
    | true =>
     rw[hq] at hle hll;refine .inl ⟨.non,.inl rfl,?_,?_⟩
     .open_line with[zaA,zaW,h1,h2,w1,hlenT,hlenH,hb,hsE',e1,hco,hle,zb2,zbB,zdP,zbp]
     .open_line with[zaF,zaL,w1,hlenT,hlenH,hb,hfr,e2,hlc,hll]
    | false =>
     rw[hq] at hle hll;refine .inr ⟨xs,rfl,hx,hc,?_,?_⟩
     .open_line with[zaA,zaW,h1,h2,w1,hlenT,hlenH,hb,hsE',e1,hco,hle]
     .open_line with[zaF,zaL,w1,hlenT,hlenH,hb,hfr,e2,hlc,hll]
  .have hb:((th.length:Int)==(w.ts.length:Int))=false:=beq_eq_false_iff_ne.mpr (by omega)
   refine .inl ⟨.non,.inl rfl,?_,?_⟩
   .open_line with[zaA,zaW,h1,h2,w1,hlenT,hlenH,hb,zb2,zbB,zdP,zbp]
   .open_line with[zaF,zaL,w1,hlenT,hlenH,hb]
 .refine .inl ⟨.non,.inl rfl,?_,?_⟩
  .cases d with
   | lst ds=>exact absurd rfl (hnl ds)
   | non=>open_line with[zaA,zaW,h1,h2,zb2,zbB,zdP,zbp]
   | bl b=>open_line with[zaA,zaW,h1,h2,zb2,zbB,zdP,zbp]
   | int b=>open_line with[zaA,zaW,h1,h2,zb2,zbB,zdP,zbp]
   | str b=>open_line with[zaA,zaW,h1,h2,zb2,zbB,zdP,zbp]
   | tup b=>open_line with[zaA,zaW,h1,h2,zb2,zbB,zdP,zbp]
   | _=>cases hpd
  .cases d with
   | lst ds=>exact absurd rfl (hnl ds)
   | non=>open_line with[zaF,zaL]
   | bl b=>open_line with[zaF,zaL]
   | int b=>open_line with[zaF,zaL]
   | str b=>open_line with[zaF,zaL]
   | tup b=>open_line with[zaF,zaL]
   | _=>cases hpd
 .refine .inl ⟨.non,.inl rfl,?_,?_⟩
  .open_line with[zaA,zaW,h1,h2,zb2,zbB,zdP,zbp]
  .open_line with[zaF,zaL]
def zCY (tx:Tie×Fra):Tie:={ tx.1 with l:=pl tx.1.l tx.2 }
def zG8 (w:Web)(xs:List Fra):Web:={ w with ts:=(w.ts.zip xs).map zCY }
theorem zAa {x:Fra}(A:Amt x):Bd x 52:=by
 have c1:=A.lo.q1;have c2:=A.p0;have c3:=A.p1;have c4:=A.q1;refine⟨by omega,?_,?_⟩
 .rw[show(2:Nat) ^ 52=4503599627370496 from by decide];omega
 .rw[show(2:Nat) ^ 52=4503599627370496 from by decide];omega
theorem zDV {x y:Fra}(A:Amt x)(E:El y):zhF (pl x y)/\0<=(pl x y).1:=by
 have h:=zDW (zAa A) E.bd;have hN:2 ^ 113<=N60:=by decide
 have hu:=zou (zAa A) E.bd;refine⟨⟨zdu hu.q0,sae h.a hN,sae h.b hN⟩,zdf ?_ hu.q0⟩;have q1:=A.lo.q1;have q2:=E.lo.q1;exact Int.add_nonneg (sa9 A.p0 (by omega)) (sa9 E.p0 (by omega))
theorem zB8 {w:Web}(W:zgJ w)(hw:∀ t∈w.ts,zey t){xs:List Fra}(hx:∀ x∈xs,El x):zgJ (zG8 w xs):=by
 refine⟨W.n2,W.n7,W.nm,?_,fun t ht=>?_,W.fi,W.la,W.ne⟩
 .show((w.ts.zip xs).map zCY).length<=14
  rw[sag,sb8];have:=W.t14;omega
 .obtain⟨⟨t0,x⟩,hm,rfl⟩:=sa6.mp (show t∈(w.ts.zip xs).map zCY from ht)
  have h1:=(sa2 hm).1;have T:=W.ts t0 h1;have P:=zDV (hw t0 h1).1 (hx x (sa2 hm).2);exact⟨T.a,T.b,T.ne,T.w,P.1,P.2,T.o⟩
theorem zwv {w:Web}(W:zgJ w)(hw:∀ t∈w.ts,zey t){xs:List Fra}(hx:∀ x∈xs,El x):zf2 [zcs w,.lst (xs.map fr)]=.ok (zcs (zG8 w xs)):=by
 have t14:=W.t14;have hzl:(w.ts.zip xs).length<=14:=by rw[sb8];omega
 have hz:zAm (zad (zaf 0) (dC (.int 1)) dIx) (zaf 1) [.sh (zcs w),.sh (.lst (xs.map fr)),.no]=.ok ((w.ts.zip xs).map fun tx=>D.tup [zdo tx.1,fr tx.2]):=by
  rw[zw1 (ds:=w.ts.map zdo) (es:=xs.map fr) rfl rfl,zjo]
 have hc:znA 2 [] (zkJ [0,1]) mYes (zaj (zab (zaf 0) (zab (zaf 1) zaz)) zec) [.sh (zcs w),.sh (.lst (xs.map fr)),.no] ((w.ts.zip xs).map fun tx=>D.tup [zdo tx.1,fr tx.2])=.ok (.lst (((w.ts.zip xs).map zCY).map zdo)):=by
  rw[zry (fun tx:Tie×Fra=>D.tup [zdo tx.1,fr tx.2]) (fun tx=>some (zdo (zCY tx))) (by omega)]
  .rw[scH,← List.filterMap_eq_map];rfl
  .rintro⟨t,x⟩ hm
   have h1:=hw t (sa2 hm).1;have h2:=hx x (sa2 hm).2;have hp:=zBL (zAa h1.1) h2.bd (by decide);have hp:zeP [fr t.l,fr x]=.ok (fr (pl t.l x)):=hp;have hti:zec [zdo t,fr x]=.ok (zdo (zCY (t,x))):=by
    rw[show zdo t=.tup [.str t.a,.str t.b,.str t.w,fr t.l,zhI t.o] from rfl];open_line with[zec,zkp,hp]
    rfl
   refine⟨[.sh (zdo t),.sh (fr x)],rfl,.inr ⟨_,rfl,rfl,?_⟩⟩;open_line with[hti]
 have i0:dIx (zcs w) (.int 0)=.ok (.lst (w.ps.map D.str)):=rfl;have i2:dIx (zcs w) (.int 2)=.ok (.str w.fi):=rfl;have i3:dIx (zcs w) (.int 3)=.ok (.str w.la):=rfl;open_line with[zf2,zm8,hz,hc,i0,i2,i3]
 rfl
theorem zv0 {w:Web}(W:zgJ w):zeC [zcs w,.lst [],.dic [] []]=.ok (.bl false):=by
 have ht:zbk [zcs w,.lst []]=.ok .non:=zvD W K12.tak0;have i0:dIx (zcs w) (.int 0)=.ok (.lst (w.ps.map D.str)):=rfl;have hl:zeJ (.lst (w.ps.map D.str))=.ok (.int w.ps.length):=by rw[zcx,sag]
 have hd:zz1 (.dic [] [])=.ok (.int 0):=rfl;have n2:=W.n2;have hb:((0:Int)==(w.ps.length:Int))=false:=beq_eq_false_iff_ne.mpr (by omega);have hj:zbj [.lst (w.ps.map D.str),.dic [] []]=.ok (.bl false):=by
  open_line with[zbj,zdl,hl,hd,hb]
 open_line with[zeC,zi0,ht,i0,hj]
section
variable {W0 A P d v:D}{x:Exn}
theorem zz9 (h:zaA [W0,A,P,d]=.exn x)(k:Int):zbR [.int k,W0,A,P,d]=.exn x:=by
 cases hk:(k==0) with
 | true=>open_line with[zbR,zeg,hk,h,zdP]
 | false =>
  have h2:zba [W0,A,P,d,.dic [] []]=.exn x:=by open_line with[zba,zcy,h,zdP]
  open_line with[zbR,zeg,hk,h2,zdP]
theorem zBp (hv:v=.non∨∃ j:Int,v=.int j)(h:zaA [W0,A,P,d]=.exn (zbp v))(k:Int):zbX [.int k,W0,A,P,d]=.ok (.tup [.str "at",v]):=by
 have t1:zBu "NoSpread"=some false:=rfl;have t2:zBt "NoSpread"=some true:=rfl;have t3:zBs "NoSpread"=some true:=rfl;have hF:zu0 zfA "NoSpread"=true:=rfl;have ht:∀ (d:D) (ni:Nat) (sh:Ev->Res Fl) (ρ:Ev),zFq (zu0 zfA) ni sh ρ (.exn (zbp d))=(sh (ρ.set ni (.sh (.ob (.exf "NoSpread" ["at"]) [d])))).bind (zEb ni):=fun d _ _ _=>by
  rw[zCr (x:=zbp d) hF,show zzL (zbp d)=.ob (.exf "NoSpread" ["at"]) [d] from zGu]
 have hfa:∀ d,zrw zzD "at" (.ob (.exf "NoSpread" ["at"]) [d])=.ok d:=fun d=>zzS (b:=true) rfl;have hN:∀ d,zmV (.ob (.exf "NoSpread" ["at"]) [d]) .non=.ok (.bl false):=fun _=>rfl;have ha:=zz9 h k;rcases hv with rfl | ⟨j,rfl⟩
 .open_line with[zbX,zgd,zw0,zsP,zo5,ha,zdP,ht,zAC,zjE t1,zjE t2,zjE t3,hfa,hN]
 .open_line with[zbX,zgd,zw0,zsP,zo5,ha,zdP,ht,zAC,zjE t1,zjE t2,zjE t3,hfa,hN]
end
theorem zyK {w:Web}(W:zgJ w)(hw:∀ t∈w.ts,zey t){xs:List Fra}(hx:∀ x∈xs,El x){A P:D}(h:zaA [zcs w,A,P,.lst (xs.map fr)]=.ok .non)(k:Int):zbX [.int k,zcs w,A,P,.lst (xs.map fr)]=.ok .non:=by
 have ha:zbR [.int k,zcs w,A,P,.lst (xs.map fr)]=.ok .non:=by
  cases hk:(k==0) with
  | true=>open_line with[zbR,zeg,hk,h]
  | false =>
   have hlo:=zwv W hw hx;have hpr:=zv0 (zB8 W hw hx);have h2:zba [zcs w,A,P,.lst (xs.map fr),.dic [] []]=.ok (.bl false):=by open_line with[zba,zcy,h,hlo,hpr]
   have hB:zz0 (.bl false) (.bl false)=.ok (.bl false):=rfl;open_line with[zbR,zeg,hk,h2,hB]
 open_line with[zbX,zgd,zw0,zsP,zo5,ha,zCs]
theorem zvS {i:Int}{n:Nat}(h0:0 < n)(hn:n<=1919)(h:i.natAbs < 2 ^ n):Rp (.int i) (n+1) 0:=by
 refine⟨.int i,by rw[zkC],?_,by rw[sb0]<;>simp,?_⟩
 .rw[sbC]
  refine decide_eq_true ?_
  by_cases h0:i.natAbs=0
  .rw[h0];decide
  .exact sae ((Nat.log2_lt h0).mpr h) (by omega)
 .rw[sbZ,sce]
  cases i with
  | ofNat m =>
   have:=nat_repr_length_le (n:=m) (k:=n) h0 h;show(Nat.repr m).length<=n+1;omega
  | negSucc m =>
   have:=nat_repr_length_le (n:=m+1) (k:=n) h0 h;show("-"++Nat.repr (m+1)).length<=n+1;rw[String.length_append];have h1 : "-".length=1:=rfl;omega
theorem zAs {x:Fra}{n:Nat}(h:Bd x n)(h0:0 < n)(hn:n<=1919):Rp (fr x) (2*n+9) 1 :=
 (Rp.tup (Rps.cons (zvS h0 hn h.a) (Rps.cons (zvS h0 hn h.b) Rps.nil))).up (by simp;omega) (saq _)
theorem zDI {e:D}(h:Ele e):Rp e 500 1:=by
 rcases h with⟨x,rfl,ex⟩ | h
 .exact(zAs ex.bd (by decide) (by decide)).up (by decide) (by decide)
 .have two:∀ a b:D,Rp a 201 0->Rp b 201 0->Rp (.tup [a,b]) 500 1:=fun a b ha hb=>(Rp.tup (Rps.cons ha (Rps.cons hb Rps.nil))).up (by simp) (by decide)
  have ii:∀ i:Int,i.natAbs < 2 ^ 200->Rp (.int i) 201 0:=fun i h=>Rp.int h;have bb:∀ b:Bool,Rp (.bl b) 201 0:=fun b=>Rp.bl.up (by decide) (by decide);simp only[zvq,sam,saU,or_false] at h;rcases h with rfl | rfl | rfl | rfl | rfl | rfl | rfl | rfl | rfl | rfl | rfl
  .exact Rp.non.up (by decide) (by decide)
  .exact Rp.bl.up (by decide) (by decide)
  .exact(ii 0 (by decide)).up (by decide) (by decide)
  .exact(Rp.str (n:=8) (by decide) (by decide)).up (by decide) (by decide)
  .exact two _ _ (ii _ (by decide)) (ii _ (by decide))
  .exact two _ _ (ii _ (by decide)) (ii _ (by decide))
  .exact two _ _ (ii _ (by decide)) (ii _ (by decide))
  .exact two _ _ (ii _ (by decide)) (ii _ (by decide))
  .exact two _ _ (bb _) (ii _ (by decide))
  .exact two _ _ (ii _ (by decide)) (bb _)
  .exact(Rp.lst (Rps.cons (ii 0 (by decide)) (Rps.cons (ii 1 (by decide)) Rps.nil))).up (by simp) (by decide)
theorem zsh {th:List D}{n:Nat}(hl:th.length<=n)(h:∀ e∈th,Ele e):Rp (.lst th) (502*n+3) 2/\Rp (.tup th) (502*n+3) 2:=by
 have r:=Rps.all (a:=500) (k:=1) (ds:=th) fun d hd=>zDI (h d hd);exact⟨(Rp.lst r).up (by omega) (by decide),(Rp.tup r).up (by omega) (by decide)⟩
theorem zAk {W0 A P d v x4 x5:D}(h:∀ k:Int,zbX [.int k,W0,A,P,d]=.ok v):znA 1 [0,1,2,3] (zd0 0) mYes (zaj (zab (zaf 0) (zab (zaf 1) (zab (zaf 2) (zab (zaf 3) (zab (zaf 4) zaz))))) zbX) [.sh W0,.sh A,.sh P,.sh d,.sh x4,.sh x5,.no] [.int 0,.int 1,.int 0]=.ok (.lst [v,v,v]):=by
 rw[zpl (F:=fun _=>v) (by decide)]
 .rfl
 .intro z hz
  refine⟨[.sh z,.sh W0,.sh A,.sh P,.sh d],rfl,rfl,?_⟩;have:z=.int 0∨z=.int 1:=by
   simp only[sam,saU,or_false] at hz;rcases hz with h | h | h
   .exact .inl h
   .exact .inr h
   .exact .inl h
  rcases this with rfl | rfl
  .have:=h 0;open_line with[this]
  .have:=h 1;open_line with[this]
theorem eq3 {j:Int}:dEq (.lst [.tup [.str "at",.int j],.tup [.str "at",.int j],.tup [.str "at",.int j]]) (.lst [.tup [.str "at",.int j],.tup [.str "at",.int j],.tup [.str "at",.int j]])=.ok (.bl true):=by
 unfold dEq;rw[if_pos ⟨rfl,rfl⟩];simp [eqD,eqDs]
noncomputable def zAc (d:D):Prop:=(∃ th,d=.lst th/\(∀ e∈th,Ele e)/\th.length<=100)∨(∃ th,d=.tup th/\(∀ e∈th,Ele e)/\th.length<=100)∨d=.non∨d=.int 5∨d=.dic [] []∨d=.str "spread"
theorem zyX {d:D}(h:zAc d):Rp d 60000 2:=by
 rcases h with⟨th,rfl,h,hl⟩ | ⟨th,rfl,h,hl⟩ | rfl | rfl | rfl | rfl
 .exact(zsh hl h).1.up (by decide) (by decide)
 .exact(zsh hl h).2.up (by decide) (by decide)
 .exact Rp.non.up (by decide) (by decide)
 .exact(Rp.int (i:=5) (by decide)).up (by decide) (by decide)
 .exact(Rp.emp (k:=0)).up (by decide) (by decide)
 .exact(Rp.str (n:=8) (by decide) (by decide)).up (by decide) (by decide)
theorem zoE {w:Web}(W:zgJ w)(hw:∀ t∈w.ts,zey t){as:List Fra}(hal:as.length=w.ts.length)(ha:∀ a∈as,El a){p:Fra}(hp:Low p)(hp0:0<=p.1)(hpb:Bd p 1900){d:D}(hd:zAc d):zbE [zcs w,.lst (as.map fr),fr p,d]=.ok (.bl true):=by
 have t14:=W.t14;obtain⟨z,hz⟩:∃ z,zsU (.lst [zcs w,.lst (as.map fr),fr p,d])=.ok (.str z):=by
  have h1:=zDG W;have h2:Rp (.lst (as.map fr)) 8000 4:=by
   have:=(zsh (th:=as.map fr) (n:=14) (by rw[sag];omega) (fun e he=>by
    obtain⟨x,hx,rfl⟩:=sa6.mp he;exact .inl ⟨x,rfl,ha x hx⟩)).1
   exact this.up (by decide) (by decide)
  have h3:Rp (fr p) 4000 4:=(zAs hpb (by decide) (by decide)).up (by decide) (by decide);have h4:=(zyX hd).up (n':=60000) (k':=4) (saq _) (by decide);exact Rp.repr (Rp.lst (Rps.cons h1 (Rps.cons h2 (Rps.cons h3 (Rps.cons h4 Rps.nil))))) (by simp;decide) (by decide)
 have ez:dEq (.str z) (.str z)=.ok (.bl true):=by rw[K11.eq_str];simp
 have hsp:=zsc W hw hal ha hp hp0 hpb (by decide) (d:=d) (by
  rcases hd with⟨th,rfl,h,hl⟩ | ⟨th,rfl,h,hl⟩ | rfl | rfl | rfl | rfl
  .exact .inl ⟨th,rfl,h⟩
  .exact .inr (.inl ⟨rfl,fun _ e=>by cases e⟩)
  .exact .inr (.inl ⟨rfl,fun _ e=>by cases e⟩)
  .exact .inr (.inl ⟨rfl,fun _ e=>by cases e⟩)
  .exact .inr (.inr rfl)
  .exact .inr (.inl ⟨rfl,fun _ e=>by cases e⟩)) (fun th e=>by
  rcases hd with⟨th',rfl,h,hl⟩ | ⟨th',rfl,h,hl⟩ | rfl | rfl | rfl | rfl<;>cases e
  omega)
 rcases hsp with⟨v,hv,e1,e2⟩ | ⟨xs,rfl,hx,hxl,e1,e2⟩
 .have t:=fun x4 x5=>zAk (x4:=x4) (x5:=x5) (fun k=>zBp hv e1 k)
  rcases hv with rfl | ⟨j,rfl⟩
  .have en:dEq (.lst [.tup [.str "at",.non],.tup [.str "at",.non],.tup [.str "at",.non]]) (.lst [.tup [.str "at",.non],.tup [.str "at",.non],.tup [.str "at",.non]])=.ok (.bl true):=rfl
   open_line with[zbE,zfe,e2,hz,t,en,ez]
  .open_line with[zbE,zfe,e2,hz,t,eq3,ez]
 .have t:=fun x4 x5=>zAk (x4:=x4) (x5:=x5) (fun k=>zyK W hw hx e1 k)
  have en:dEq (.lst [.non,.non,.non]) (.lst [.non,.non,.non])=.ok (.bl true):=rfl;open_line with[zbE,zfe,e2,hz,t,en,ez]
theorem zAz {c q:Int}(h0:0<=c)(h1:c < 1152921504606846976)(hq:0 < q)(hq2:q < 1152921504606846976):El (low c q):=by
 have a1:=zjx (a:=c) (b:=q);have a2:=zjw (a:=c) (b:=q);have hl:=zdu (a:=c) hq;have n0:=zdf h0 hq;have:=hl.q1;exact⟨hl,n0,by omega,by omega⟩
theorem zES {a s:Fra}(A:Amt a)(h1:0<=s.1/\s.1<=59)(h2:1<=s.2/\s.2<=60):El (mt a s):=by
 have c1:=A.lo.q1;have c2:=A.p0;have c3:=A.p1;have c4:=A.q1;have k1:a.1*s.1<=1000000000000*59:=scu c3 h1.2 h1.1 (by decide);have k2:a.2*s.2<=60*60:=scu c4 h2.2 (by omega) (by decide);exact zAz (sa9 c2 h1.1) (by omega) (sbk (by omega) (by omega)) (by omega)
theorem zGx {a b:Fra}(A:Amt a)(B:Amt b):El (pl a b):=by
 have c1:=A.lo.q1;have c2:=A.p0;have c3:=A.p1;have c4:=A.q1;have d1:=B.lo.q1;have d2:=B.p0;have d3:=B.p1;have d4:=B.q1;have k1:a.1*b.2<=1000000000000*60:=scu c3 d4 (by omega) (by decide);have k2:b.1*a.2<=1000000000000*60:=scu d3 c4 (by omega) (by decide);have k3:a.2*b.2<=60*60:=scu c4 d4 (by omega) (by decide);have e1:=sa9 c2 (show 0<=b.2 by omega);have e2:=sa9 d2 (show 0<=a.2 by omega);have e3:=sbk (show 0 < a.2 by omega) (show 0 < b.2 by omega);exact zAz (c:=a.1*b.2+b.1*a.2) (q:=a.2*b.2) (by omega) (by omega) e3 (by omega)
theorem zHW:Amt (0,1):=⟨⟨by decide,by decide⟩,by decide,by decide,by decide⟩
theorem zvk (a:Addr){w:Web}(W:zgJ w){st:List D}(S:St st):∃ (as:List Fra) (st':List D),zeQ a st [zcs w]=.ok (.lst (as.map fr),st')/\as.length=w.ts.length/\(∀ x∈as,Amt x)/\St st':=by
 have t14:=W.t14;obtain⟨ρ2,st2,hl,as,x3,x4,rfl,hal,ha,S2⟩:=zix (tg:=zd0 3) (body:=(zbb (ze6 4 (zbg 0 a (zaT (mP (dC (.int 0))) zdp) za2))
 (zbb (zB4 2 (mB (mP (zaj (zab (zaf 4) (zab (zaf 4) (zab (zaj (zab (dC (.int 0)) (zab (dC (.int 1)) zaz)) zeH) zaz))) zfz)) (zbg 0 a (zaT (mP (dC (.int 3))) zdp) zas) dIx))
 zbn)))
  (fun j ρ st=>∃ (as:List Fra) (x3 x4:Sl),ρ=[.pt a,.sh (zcs w),.ow (.lst (as.map fr)),x3,x4]/\as.length=j/\(∀ x∈as,Amt x)/\St st) (w.ts.map zdo) (by
   rintro j d ρ st hj ⟨as,x3,x4,rfl,rfl,ha,S⟩;have hjt:as.length < w.ts.length:=by have:=(sac.mp hj).1;rwa [sag] at this
   obtain⟨x,st1,t1,_,_,_,ax,S1⟩:=zfO a (l:=0) (.inl rfl) S;obtain⟨v,st2,t2,v0,v1,S2⟩:=zbh a (n:=3) (by decide) (by decide) S1;obtain⟨y,hy,ay⟩:∃ y:Fra,dIx (.lst [fr x,fr x,.tup [.int 0,.int 1]]) (.int v)=.ok (fr y)/\Amt y:=by
    have:v=0∨v=1∨v=2:=by omega
    rcases this with rfl | rfl | rfl
    .exact⟨x,rfl,ax⟩
    .exact⟨x,rfl,ax⟩
    .exact⟨(0,1),rfl,zHW⟩
   have hap:decide ((as.map fr).length<=999)=true:=decide_eq_true (by rw[sag];omega);refine⟨_,[.pt a,.sh (zcs w),.ow (.lst ((as++[y]).map fr)),.sh d,.sh (fr x)],st2,rfl,.inl ?_,as++[y],_,_,rfl,by simp,fun u hu=>?_,S2⟩
   .open_line with[t1,t2,hy,zph hap,sbM]
   .rcases sbc.mp hu with hu | hu
    .exact ha u hu
    .have:u=y:=by simpa using hu
     subst this;exact ay) 0 [.pt a,.sh (zcs w),.ow (.lst []),.no,.no] st (sbE _) ⟨[],_,_,rfl,rfl,fun x hx=>(nomatch hx),S⟩
 rw[sbq] at hl;rw[sag] at hal;refine⟨as,st2,?_,hal,ha,S2⟩;open_line with[zeQ,znc,w1,hl]
theorem zso (a:Addr){w:Web}(W:zgJ w){as:List Fra}(hal:as.length=w.ts.length)(ha:∀ x∈as,Amt x){st:List D}(S:St st):∃ (xs:List Fra) (st':List D),zed a st [zcs w,.lst (as.map fr)]=.ok (.lst (xs.map fr),st')/\xs.length=w.ts.length/\(∀ x∈xs,El x)/\St st':=by
 have t14:=W.t14;have hlenI:(DL.intsFrom 0 w.ts.length).length=w.ts.length:=by unfold DL.intsFrom;simp
 obtain⟨ρ2,st2,hl,xs,x4,x5,rfl,hxl,hx,S2⟩:=zix (tg:=zd0 4) (body:=(zbb (ze6 5 (mB (mP (zaj (zab (zaj (zab (dC (.int 0)) (zab (dC (.int 1)) zaz)) zeH) (zab (zaj (zab (dC (.int 1)) (zab (dC (.int 1)) zaz)) zeH) (zab (zaj (zab (dC (.int 1)) (zab (dC (.int 2)) zaz)) zeH) (zab (zaj (zab (dC (.int 2)) (zab (dC (.int 3)) zaz)) zeH) (zab (zaj (zab (dC (.int 59)) (zab (dC (.int 60)) zaz)) zeH) zaz))))) zfz)) (zbg 0 a (zaT (mP (dC (.int 5))) zdp) zas) dIx))
 (zbb (zdM (sIf (zad (zad (zad (zad (zaf 1) (dC (.int 1)) dIx) (zaf 4) dIx) (dC (.int 4)) dIx) (dC (.non)) zmV)
 (zax (zcm 5 (zaj (zab (dC (.int 0)) (zab (dC (.int 1)) zaz)) zeH))
 zam)
 zam))
 (zbb (zdM (zgW 3 (zaj (zab (zad (zaf 2) (zaf 4) dIx) (zab (zaf 5) zaz)) zbi)))
 zbn))))
  (fun j ρ st=>∃ (xs:List Fra) (x4 x5:Sl),ρ=[.pt a,.sh (zcs w),.sh (.lst (as.map fr)),.ow (.lst (xs.map fr)),x4,x5]/\xs.length=j/\(∀ x∈xs,El x)/\St st) (DL.intsFrom 0 w.ts.length) (by
   rintro j d ρ st hj ⟨xs,x4,x5,rfl,rfl,hx,S⟩;have hjt:xs.length < w.ts.length:=by have:=(sac.mp hj).1;omega
   have hd:d=.int (xs.length:Int):=by
    unfold DL.intsFrom at hj;rw[sai,scN hjt] at hj;simp at hj;exact hj.symm
   subst hd;obtain⟨v,st2,t2,v0,v1,S2⟩:=zbh a (n:=5) (by decide) (by decide) S;obtain⟨s,hs,s1,s2⟩:∃ s:Fra,dIx (.lst [.tup [.int 0,.int 1],.tup [.int 1,.int 1],.tup [.int 1,.int 2],.tup [.int 2,.int 3],.tup [.int 59,.int 60]]) (.int v)=.ok (fr s)/\(0<=s.1/\s.1<=59)/\(1<=s.2/\s.2<=60):=by
    have:v=0∨v=1∨v=2∨v=3∨v=4:=by omega
    rcases this with rfl | rfl | rfl | rfl | rfl
    .exact⟨(0,1),rfl,by decide,by decide⟩
    .exact⟨(1,1),rfl,by decide,by decide⟩
    .exact⟨(1,2),rfl,by decide,by decide⟩
    .exact⟨(2,3),rfl,by decide,by decide⟩
    .exact⟨(59,60),rfl,by decide,by decide⟩
   have hja:xs.length < as.length:=by omega
   have h1:dIx (.lst (w.ts.map zdo)) (.int (xs.length:Int))=.ok (zdo w.ts[xs.length]):=zpV (saa hjt);have h2:dIx (.lst (as.map fr)) (.int (xs.length:Int))=.ok (fr as[xs.length]):=zhO (by rw[sai,saa hja];rfl);have aa:=ha as[xs.length] (sbw hja);have hap:decide ((xs.map fr).length<=999)=true:=decide_eq_true (by rw[sag];omega);have key:∀ s:Fra,(0<=s.1/\s.1<=59)->(1<=s.2/\s.2<=60)->zbi [fr as[xs.length],fr s]=.ok (fr (mt as[xs.length] s)):=fun s s1 s2=>by
    have hb:Bd s 60:=⟨by omega,by rw[show(2:Nat) ^ 60=1152921504606846976 from by decide];omega,by rw[show(2:Nat) ^ 60=1152921504606846976 from by decide];omega⟩
    exact zlB (zi5 aa).bd hb (by decide)
   cases ho:w.ts[xs.length].o with
   | none =>
    have t4':dIx (zdo w.ts[xs.length]) (.int 4)=.ok .non:=by rw[t4,ho];rfl
    have hti:=key (0,1) (by decide) (by decide);rw[show fr (0,1)=.tup [.int 0,.int 1] from rfl] at hti;refine⟨_,[.pt a,.sh (zcs w),.sh (.lst (as.map fr)),.ow (.lst ((xs++[mt as[xs.length] (0,1)]).map fr)),.sh (.int (xs.length:Int)),.sh (.tup [.int 0,.int 1])],st2,rfl,.inl ?_,xs++[mt as[xs.length] (0,1)],_,_,rfl,by simp,fun u hu=>?_,S2⟩
    .open_line with[t2,hs,w1,h1,h2,t4',hti,zf8 hap,sbM]
    .rcases sbc.mp hu with hu | hu
     .exact hx u hu
     .have:u=mt as[xs.length] (0,1):=by simpa using hu
      subst this;exact zES aa (by decide) (by decide)
   | some o =>
    have t4':dIx (zdo w.ts[xs.length]) (.int 4)=.ok (fr o):=by rw[t4,ho];rfl
    have hn:zmV (fr o) .non=.ok (.bl false):=rfl;have hti:=key s s1 s2;refine⟨_,[.pt a,.sh (zcs w),.sh (.lst (as.map fr)),.ow (.lst ((xs++[mt as[xs.length] s]).map fr)),.sh (.int (xs.length:Int)),.sh (fr s)],st2,rfl,.inl ?_,xs++[mt as[xs.length] s],_,_,rfl,by simp,fun u hu=>?_,S2⟩
    .open_line with[t2,hs,w1,h1,h2,t4',hn,hti,zf8 hap,sbM]
    .rcases sbc.mp hu with hu | hu
     .exact hx u hu
     .have:u=mt as[xs.length] s:=by simpa using hu
      subst this;exact zES aa s1 s2) 0 [.pt a,.sh (zcs w),.sh (.lst (as.map fr)),.ow (.lst []),.no,.no] st (sbE _) ⟨[],_,_,rfl,rfl,fun x hx=>(nomatch hx),S⟩
 rw[sbq] at hl;rw[hlenI] at hxl;refine⟨xs,st2,?_,hxl,hx,S2⟩;have hlen:zeJ (.lst (as.map fr))=.ok (.int ((w.ts.length:Nat):Int)):=by rw[zcx,sag,hal]
 have hsrc:zim (zaj (zab (zaf 2) zaz) (m1 zeJ)) [.pt a,.sh (zcs w),.sh (.lst (as.map fr)),.ow (.lst []),.no,.no]=.ok (DL.intsFrom 0 w.ts.length):=by
  open_line with[Cod.ev_srcR1,hlen,Cod.srcR1_nat (show w.ts.length<=1000000 by omega)]
 open_line with[zed,zkr,hsrc,hl]
theorem zmE {xs ys:List D}(hx:∀ d∈xs,Ele d)(hy:∀ d∈ys,Ele d):∀ d∈xs++ys,Ele d:=fun d hd=>by
 rcases sbc.mp hd with h | h
 .exact hx d h
 .exact hy d h
theorem zEh {v:Int}(v0:0<=v)(v1:v < 11):∃ d,dIx (.lst zvq) (.int v)=.ok d/\d∈zvq:=by
 have:v=0∨v=1∨v=2∨v=3∨v=4∨v=5∨v=6∨v=7∨v=8∨v=9∨v=10:=by omega
 rcases this with rfl | rfl | rfl | rfl | rfl | rfl | rfl | rfl | rfl | rfl | rfl<;>exact⟨_,rfl,by simp [zvq]⟩
theorem zyf (a:Addr){w:Web}(W:zgJ w){as:List Fra}(hal:as.length=w.ts.length)(ha:∀ x∈as,Amt x){th:List D}(htl:th.length=as.length)(he:∀ e∈th,Ele e){st:List D}(S:St st):∃ d st',zbw a st [zcs w,.lst (as.map fr),.lst th]=.ok (d,st')/\zAc d/\St st':=by
 have t14:=W.t14;have hlen:zeJ (.lst th)=.ok (.int th.length):=zcx;obtain⟨t,st1,t1,t0,t9,S1⟩:=zbh a (n:=(th.length:Int)+1) (by omega) (by omega) S;obtain⟨k,st2,t2,k0,k1,S2⟩:=zbh a (n:=8) (by decide) (by decide) S1;obtain⟨v,st3,t3,v0,v1,S3⟩:=zbh a (n:=11) (by decide) (by decide) S2;obtain⟨q,hq,oq⟩:=zEh v0 v1;unfold zvq at hq;obtain⟨y,st4,t4',_,_,_,ay,S4⟩:=zfO a (l:=1) (.inr rfl) S3;have lA:=K11.cut_len (ws:=th) (lo:=none) (hi:=some t);have lB:=K11.cut_len (ws:=th) (lo:=some t) (hi:=none);have lB1:=K11.cut_len (ws:=th) (lo:=some (t+1)) (hi:=none);have sA:∀ d∈zkK th none (some t),Ele d:=fun d hd=>he d (K11.cut_mem d hd);have sB:∀ d∈zkK th (some t) none,Ele d:=fun d hd=>he d (K11.cut_mem d hd);have sB1:∀ d∈zkK th (some (t+1)) none,Ele d:=fun d hd=>he d (K11.cut_mem d hd);have one:∀ e:D,Ele e->∀ d∈[e],Ele d:=fun e h d hd=>by
  have:d=e:=by simpa using hd
  rw[this];exact h
 have a1:=K11.add_any (xs:=zkK th none (some t)) (ys:=zkK th (some (t+1)) none) (by omega);have a2:=K11.add_any (xs:=zkK th none (some t)) (ys:=[.tup [.int 0,.int 1]]) (by simp;omega);have a3:=K11.add_any (xs:=zkK th none (some t)++[.tup [.int 0,.int 1]]) (ys:=zkK th (some t) none) (by simp;omega);have b2:=fun e:D=>K11.add_any (xs:=zkK th none (some t)) (ys:=[e]) (by simp;omega);have b4:=fun e:D=>K11.add_any (xs:=zkK th none (some t)++[e]) (ys:=zkK th (some (t+1)) none) (by simp;omega);have htu:zx1 (.lst th)=.ok (.tup th):=rfl;have hli:zx2 (.lst th)=.ok (.lst th):=rfl;have z01:Ele (.tup [.int 0,.int 1]):=.inl ⟨(0,1),rfl,el0⟩
 by_cases e0:k=0
 .subst e0
  obtain⟨u,st5,t5,u0,u1,S5⟩:=zbh a (n:=5) (by decide) (by decide) S4;obtain⟨d,hd,T⟩:∃ d,dIx (.lst [.tup th,.non,.int 5,.dic [] [],.str "spread"]) (.int u)=.ok d/\zAc d:=by
   have:u=0∨u=1∨u=2∨u=3∨u=4:=by omega
   rcases this with rfl | rfl | rfl | rfl | rfl
   .exact⟨_,rfl,.inr (.inl ⟨th,rfl,he,by omega⟩)⟩
   .exact⟨_,rfl,.inr (.inr (.inl rfl))⟩
   .exact⟨_,rfl,.inr (.inr (.inr (.inl rfl)))⟩
   .exact⟨_,rfl,.inr (.inr (.inr (.inr (.inl rfl))))⟩
   .exact⟨_,rfl,.inr (.inr (.inr (.inr (.inr rfl))))⟩
  refine⟨d,st5,?_,T,S5⟩;open_line with[zbw,zd3,hlen,t1,t2,t3,t4',t5,hq,htu,hd]
 by_cases e1:k=1
 .subst e1
  refine⟨_,st4,?_,.inl ⟨_,rfl,zmE sA sB1,by rw[saR];omega⟩,S4⟩;open_line with[zbw,zd3,hlen,t1,t2,t3,t4',hq,a1]
 by_cases e2:k=2
 .subst e2
  refine⟨_,st4,?_,.inl ⟨_,rfl,zmE (zmE sA (one _ z01)) sB,by simp only[saR,sau,sbu];omega⟩,S4⟩;open_line with[zbw,zd3,hlen,t1,t2,t3,t4',hq,a2,a3]
 have n0:(k==0)=false:=beq_eq_false_iff_ne.mpr e0;have n1:(k==1)=false:=beq_eq_false_iff_ne.mpr e1;have n2:(k==2)=false:=beq_eq_false_iff_ne.mpr e2
 by_cases e3:t=(th.length:Int)
 .have hb:(t==(th.length:Int))=true:=by rw[e3];simp
  refine⟨.lst th,st4,?_,.inl ⟨th,rfl,he,by omega⟩,S4⟩;open_line with[zbw,zd3,hlen,t1,t2,t3,t4',hq,n0,n1,n2,hb,hli]
 have hb:(t==(th.length:Int))=false:=beq_eq_false_iff_ne.mpr e3;obtain⟨tn,rfl⟩:=sbd t0;have hta:tn < as.length:=by omega
 have h2:dIx (.lst (as.map fr)) (.int (tn:Int))=.ok (fr as[tn]):=zhO (by rw[sai,saa hta];rfl);have aa:=ha as[tn] (sbw hta);have hpl:za6 [fr as[tn],fr y]=.ok (fr (pl as[tn] y)):=ztz (zi5 aa).bd (zi5 ay).bd (by decide);obtain⟨e,hx,ee⟩:∃ e,dIx (.lst [.tup [.int 0,.int 1],fr as[tn],fr (pl as[tn] y),q,fr y]) (.int (k-3))=.ok e/\Ele e:=by
  have:k=3∨k=4∨k=5∨k=6∨k=7:=by omega
  rcases this with rfl | rfl | rfl | rfl | rfl
  .exact⟨_,rfl,z01⟩
  .exact⟨_,rfl,.inl ⟨_,rfl,zi5 aa⟩⟩
  .exact⟨_,rfl,.inl ⟨_,rfl,zGx aa ay⟩⟩
  .exact⟨_,rfl,.inr oq⟩
  .exact⟨_,rfl,.inl ⟨_,rfl,zi5 ay⟩⟩
 refine⟨_,st4,?_,.inl ⟨_,rfl,zmE (zmE sA (one _ ee)) sB1,by simp only[saR,sau,sbu];omega⟩,S4⟩;open_line with[zbw,zd3,hlen,t1,t2,t3,t4',hq,n0,n1,n2,hb,h2,hpl,zu9,hx,b2,b4]
structure zyp (p:Fra):Prop where
 lo:Low p
 p0:0<=p.1
 b:Bd p 1900
theorem zz4 {ts:List Tie}{xs:List Fra}(ht:∀ t∈ts,zey t)(hx:∀ x∈xs,El x):0<=(zd2 ts xs).1:=by
 have h:=zuu (xs:=zkD ts xs) (fun y hy=>by
  have hb:=(zov ht hx y hy)
  refine⟨?_,by have:=hb.2.q0;omega⟩;obtain⟨⟨t,x⟩,hm,e⟩:=sbA.mp hy;have h1:=ht t (sa2 hm).1;have h2:=hx x (sa2 hm).2;unfold term at e;cases ho:t.o with
  | none=>simp only[ho] at e;cases e
  | some o =>
   simp only[ho,sbt,sbj] at e;subst e;have A:=h1.2 o ho;have q:=A.lo.q1;exact zdf (sa9 A.p0 h2.p0) (sbk (by omega) h2.bd.q0))
 exact zdf h.1 h.2
theorem zDQ {ts:List Tie}{xs:List Fra}(ht:∀ t∈ts,zey t)(hx:∀ x∈xs,El x)(hl:ts.length<=14):zyp (zd2 ts xs)/\zyp (pl (zd2 ts xs) (1,1000000))/\zyp (mt (zd2 ts xs) (59,60)):=by
 obtain⟨c1,c2⟩:=zsV ht hx hl;have c3:=zz4 ht hx;have q:=c2.q0;have b1:Bd (1,1000000) 20:=⟨by decide,by decide,by decide⟩
 have b2:Bd (59,60) 20:=⟨by decide,by decide,by decide⟩
 refine⟨⟨c1,c3,c2.up (by decide)⟩,⟨zdu (zou c2 b1).q0,zdf ?_ (zou c2 b1).q0,(zDW c2 b1).up (by decide)⟩,⟨zdu (sbk q (by decide)),zdf (sa9 c3 (by decide)) (sbk q (by decide)),(zEl c2 b2).up (by decide)⟩⟩;exact Int.add_nonneg (sa9 c3 (by decide)) (sa9 (by decide) (by omega))
abbrev zyF (a:Addr):Ev->List D->Res MFl :=
 (zbb (ze6 10 (zbg 2 a (zaT (mP (zaf 3)) (zaT (mP (zaf 4)) (zaT (mP (zaf 5)) zdp))) zbw))
 (zbb (mIf (mT (zmX (zbo (zaf 10) (zcz "list")) (zmX (zad (zaj (zab (zaf 10) zaz) (m1 zeJ)) (zaj (zab (zaf 4) zaz) (m1 zeJ)) dEq) (zad (zad (zaf 9) (dC (.int 2)) zfL) (dC (.int 1)) dEq))))
 (zbb (ze6 10 (zbg 2 a (zaT (mP (zaf 3)) (zaT (mP (zaf 4)) (zaT (mP (zaf 10)) zdp))) zbw))
 zbn)
 zbn)
 (zbb (mIf (mT (zdQ (zaj (zab (zaf 3) (zab (zaf 4) (zab (zaf 8) (zab (zaf 10) zaz)))) zbE)))
 (zbb (zgG (dC (.bl false)))
 zbn)
 zbn)
 zbn)))
section
variable (a:Addr) {w:Web}(W:zgJ w) (hw:∀ t∈w.ts,zey t) {as:List Fra}(hal:as.length=w.ts.length) (ha:∀ x∈as,Amt x) {xs:List Fra}(hxl:xs.length=w.ts.length) (hx:∀ x∈xs,El x) {p:Fra}(hp:zyp p)
include W hw hal ha hxl hx hp
theorem zyH {st:List D}(S:St st){d0 d1 d6 d7:D}{x10:Sl}{j:Nat} :
  ∃ d' st',zyF a [.sh d0,.sh d1,.pt a,.sh (zcs w),.sh (.lst (as.map fr)),.sh (.lst (xs.map fr)),.sh d6,.sh d7,.sh (fr p),.sh (.int (j:Int)),x10] st=.ok (.nx [.sh d0,.sh d1,.pt a,.sh (zcs w),.sh (.lst (as.map fr)),.sh (.lst (xs.map fr)),.sh d6,.sh d7,.sh (fr p),.sh (.int (j:Int)),.sh d'] st')/\St st':=by
 have ha':∀ x∈as,El x:=fun x h=>zi5 (ha x h);have hex:∀ e∈xs.map fr,Ele e:=fun e he=>by
  obtain⟨x,h,rfl⟩:=sa6.mp he;exact .inl ⟨x,rfl,hx x h⟩
 obtain⟨d,st1,t1,T1,S1⟩:=zyf a W hal ha (th:=xs.map fr) (by rw[sag];omega) hex S;have r1:=zoE W hw hal ha' hp.lo hp.p0 hp.b T1;have hlA:zeJ (.lst (as.map fr))=.ok (.int as.length):=by rw[zcx,sag]
 have hm:((2:Int)==0)=false:=rfl
 by_cases hl:∃ th,d=.lst th
 .obtain⟨th,rfl⟩:=hl
  have hlT:zeJ (.lst th)=.ok (.int th.length):=zcx;have hth:∀ e∈th,Ele e:=by
   rcases T1 with⟨th',e,h,_⟩ | ⟨th',e,_⟩ | e | e | e | e<;>cases e
   exact h
  by_cases hc:th.length=as.length
  .have hb:((th.length:Int)==(as.length:Int))=true:=by rw[hc];simp
   by_cases hj:(j:Int).fmod 2=1
   .have he:((j:Int).fmod 2==1)=true:=by rw[hj];rfl
    obtain⟨d2,st2,t2,T2,S2⟩:=zyf a W hal ha hc hth S1;have r2:=zoE W hw hal ha' hp.lo hp.p0 hp.b T2;refine⟨d2,st2,?_,S2⟩;open_line with[t1,t2,r2,hlA,hlT,hb,zfL,hm,if_false,sct,he]
   .have he:((j:Int).fmod 2==1)=false:=beq_eq_false_iff_ne.mpr hj
    refine⟨.lst th,st1,?_,S1⟩;open_line with[t1,r1,hlA,hlT,hb,zfL,hm,if_false,sct,he]
  .have hb:((th.length:Int)==(as.length:Int))=false:=beq_eq_false_iff_ne.mpr (by omega)
   refine⟨.lst th,st1,?_,S1⟩;open_line with[t1,r1,hlA,hlT,hb]
 .have hil:zcz "list" d=.ok (.bl false):=by
   rcases T1 with⟨th',rfl,h,_⟩ | ⟨th',rfl,_⟩ | rfl | rfl | rfl | rfl
   .exact absurd ⟨th',rfl⟩ hl
   all_goals rfl
  refine⟨d,st1,?_,S1⟩;open_line with[t1,r1,hil]
theorem zFK {st:List D}(S:St st){d0 d1 d6 d7:D}{x9 x10:Sl} :
  ∃ y9 y10 st',DL.forM (zd0 9) (zyF a) (intsFrom 0 8) [.sh d0,.sh d1,.pt a,.sh (zcs w),.sh (.lst (as.map fr)),.sh (.lst (xs.map fr)),.sh d6,.sh d7,.sh (fr p),x9,x10] st=.ok (.nx [.sh d0,.sh d1,.pt a,.sh (zcs w),.sh (.lst (as.map fr)),.sh (.lst (xs.map fr)),.sh d6,.sh d7,.sh (fr p),y9,y10] st'):=by
 obtain⟨ρ2,st2,h,⟨y6,y7,rfl⟩,_⟩:=zix (tg:=zd0 9) (body:=zyF a) (fun _ ρ st=>(∃ y9 y10,ρ=[.sh d0,.sh d1,.pt a,.sh (zcs w),.sh (.lst (as.map fr)),.sh (.lst (xs.map fr)),.sh d6,.sh d7,.sh (fr p),y9,y10])/\St st) (intsFrom 0 8) (by
  rintro j d ρ st hd ⟨⟨y9,y10,rfl⟩,S⟩;obtain⟨n,rfl⟩:∃ n:Nat,d=.int (n:Int):=by
   have h8:j < 8:=(sac.mp hd).1;have:(intsFrom 0 8)[j]?=some (.int (j:Int)):=by
    have:j=0∨j=1∨j=2∨j=3∨j=4∨j=5∨j=6∨j=7:=by omega
    rcases this with rfl | rfl | rfl | rfl | rfl | rfl | rfl | rfl<;>rfl
   rw[this] at hd;exact⟨j,(saS hd).symm⟩
  obtain⟨d',st',e,S'⟩:=zyH a W hw hal ha hxl hx hp S (d0:=d0) (d1:=d1) (d6:=d6) (d7:=d7) (x10:=y10) (j:=n);exact⟨_,_,st',rfl,.inl e,⟨_,_,rfl⟩,S'⟩) 0 [.sh d0,.sh d1,.pt a,.sh (zcs w),.sh (.lst (as.map fr)),.sh (.lst (xs.map fr)),.sh d6,.sh d7,.sh (fr p),x9,x10] st (sbE _) ⟨⟨_,_,rfl⟩,S⟩
 exact⟨y6,y7,st2,h⟩
end
abbrev zzg (a:Addr):Ev->List D->Res MFl :=
 (zbb (ze6 3 (zbg 2 a (zaT (mP (dC (.int 7))) (zaT (mP (dC (.int 14))) zdp)) zcn))
 (zbb (ze6 4 (zbg 2 a (zaT (mP (zaf 3)) zdp) zeQ))
 (zbb (ze6 5 (zbg 2 a (zaT (mP (zaf 3)) (zaT (mP (zaf 4)) zdp)) zed))
 (zbb (zdM (zcm 6 (zaj (zab (zaf 3) (zab (zaf 5) zaz)) zdY)))
 (zbb (zdM (zcm 7 (zaj (zab (zaf 6) (zab (zaf 6) (zab (zaj (zab (zaf 6) (zab (zaj (zab (dC (.int 1)) (zab (zad (dC (.int 10)) (dC (.int 6)) zug) zaz)) zeH) zaz)) za6) (zab (zaj (zab (zaf 6) (zab (zaj (zab (dC (.int 59)) (zab (dC (.int 60)) zaz)) zeH) zaz)) zbi) zaz)))) zfz)))
 (zbb (ze6 8 (mB (mB (mP (zaf 7)) (mA (zaT (zbg 2 a (zaT (mP (dC (.int 0))) zdp) za2) zdp) zfz) zd7) (zbg 2 a (zaT (mP (dC (.int 5))) zdp) zas) dIx))
 (zbb (mIf (mT (zdQ (zaj (zab (zaf 3) (zab (zaf 4) (zab (zaf 8) (zab (zaf 5) zaz)))) zbE)))
 (zbb (zgG (dC (.bl false)))
 zbn)
 zbn)
 (zbb (zoU (zzn (zim (dC (.int 8)))) (zd0 9)
 (zyF a))
 zbn))))))))
theorem zyI (a:Addr){d0 d1:D}{st:List D}(S:St st):∃ d3 d4 d5 d6 d7 d8 y9 y10 st',zzg a [.sh d0,.sh d1,.pt a,.no,.no,.no,.no,.no,.no,.no,.no] st=.ok (.nx [.sh d0,.sh d1,.pt a,.sh d3,.sh d4,.sh d5,.sh d6,.sh d7,.sh d8,y9,y10] st'):=by
 obtain⟨w,st1,t1,W,hw,S1⟩:=zBk a (p:=7) (q:=14) ⟨by decide,by decide⟩ (by decide) S;have t14:=W.t14;obtain⟨as,st2,t2,hal,ha,S2⟩:=zvk a W S1;obtain⟨xs,st3,t3,hxl,hx,S3⟩:=zso a W hal ha S2;obtain⟨y,st4,t4',_,y0,_,ay,S4⟩:=zfO a (l:=0) (.inl rfl) S3;obtain⟨u,st5,t5,u0,u1,S5⟩:=zbh a (n:=5) (by decide) (by decide) S4;have hco:=ztD W hw hxl hx;obtain⟨c1,c2⟩:=zsV hw hx t14;obtain⟨P1,P2,P3⟩:=zDQ hw hx t14;have hpl:za6 [fr (zd2 w.ts xs),.tup [.int 1,.int 1000000]]=.ok (fr (pl (zd2 w.ts xs) (1,1000000))):=ztz (y:=(1,1000000)) (n:=20) c2 ⟨by decide,by decide,by decide⟩ (by decide);have hmt:zbi [fr (zd2 w.ts xs),.tup [.int 59,.int 60]]=.ok (fr (mt (zd2 w.ts xs) (59,60))):=zlB (y:=(59,60)) (n:=20) c2 ⟨by decide,by decide,by decide⟩ (by decide);obtain⟨p,hp,P⟩:∃ p:Fra,dIx (.lst [fr (zd2 w.ts xs),fr (zd2 w.ts xs),fr (pl (zd2 w.ts xs) (1,1000000)),fr (mt (zd2 w.ts xs) (59,60)),fr y]) (.int u)=.ok (fr p)/\zyp p:=by
  have:u=0∨u=1∨u=2∨u=3∨u=4:=by omega
  rcases this with rfl | rfl | rfl | rfl | rfl
  .exact⟨_,rfl,P1⟩
  .exact⟨_,rfl,P1⟩
  .exact⟨_,rfl,P2⟩
  .exact⟨_,rfl,P3⟩
  .exact⟨_,rfl,⟨ay.lo,ay.p0,(zAa ay).up (by decide)⟩⟩
 have r1:=zoE W hw hal (fun x h=>zi5 (ha x h)) P.lo P.p0 P.b (d:=.lst (xs.map fr)) (.inl ⟨_,rfl,fun e he=>by
  obtain⟨x,h,rfl⟩:=sa6.mp he;exact .inl ⟨x,rfl,hx x h⟩,by rw[sag];omega⟩)
 obtain⟨y9,y10,st6,hf⟩:=zFK a W hw hal ha hxl hx P S5 (d0:=d0) (d1:=d1) (d6:=fr (zd2 w.ts xs)) (d7:=.lst [fr (zd2 w.ts xs),fr (zd2 w.ts xs),fr (pl (zd2 w.ts xs) (1,1000000)),fr (mt (zd2 w.ts xs) (59,60))]) (x9:=.no) (x10:=.no);have hs:∀ ρ,zim (dC (.int 8)) ρ=.ok (intsFrom 0 8):=fun _=>rfl;refine⟨zcs w,.lst (as.map fr),.lst (xs.map fr),fr (zd2 w.ts xs),.lst [fr (zd2 w.ts xs),fr (zd2 w.ts xs),fr (pl (zd2 w.ts xs) (1,1000000)),fr (mt (zd2 w.ts xs) (59,60))],fr p,y9,y10,st6,?_⟩;have t1:zcn a st [.int 7,.int 14]=.ok (zcs w,st1):=t1;open_line with[t1,t2,t3,t4',t5,hco,p6,hpl,hmt,hp,r1,hs,hf]
theorem zzs (ns:List Int)(hn:ns.length<=63):zwt [.lst (ns.map D.int)]=.ok (.bl true):=by
 obtain⟨q,m,hm,h1,hq⟩:∃ (q:Int) (m:Nat),m<=10/\zFC (.int ns.length) (.int 10)=.ok (.int q)/\(if q > 1 then q else 1)=(m:Int):=by
  have h1:zFC (.int ns.length) (.int 10)=.ok (.int (if(10:Int) < ns.length then 10 else ns.length)):=rfl;refine⟨_,(if(if(10:Int) < ns.length then 10 else(ns.length:Int)) > 1 then(if(10:Int) < ns.length then 10 else(ns.length:Int)) else 1).toNat,?_,h1,?_⟩
  .split<;>split<;>omega
  .split<;>split<;>omega
 have hstep:∀ k,k < m->∀ ρ:Ev,(∃ s,ρ=[.sh (.lst (ns.map D.int)),s,.no,.no,.no,.no,.no,.no,.no,.no,.no]) ->
   ∃ ρ2,(zll 2 (zaj (zab (zaf 0) (zab (zaf 1) zaz)) zbq) fun a=>zzg a) (ρ.set 1 (.sh (.int (k:Int))))=.ok (.nx ρ2)/\∃ s,ρ2=[.sh (.lst (ns.map D.int)),s,.no,.no,.no,.no,.no,.no,.no,.no,.no]:=by
  rintro k hk ρ ⟨s,rfl⟩;obtain⟨st,hb,S⟩:=zz6 ns k (by omega) hn;refine⟨[.sh (.lst (ns.map D.int)),.sh (.int (k:Int)),.no,.no,.no,.no,.no,.no,.no,.no,.no],?_,_,rfl⟩;have h1:(zaj (zab (zaf 0) (zab (zaf 1) zaz)) zbq) [.sh (.lst (ns.map D.int)),.sh (.int (k:Int)),.no,.no,.no,.no,.no,.no,.no,.no,.no]=.ok (.lst st):=by
   open_line with[hb]
  show zll 2 _ _ [.sh (.lst (ns.map D.int)),.sh (.int (k:Int)),.no,.no,.no,.no,.no,.no,.no,.no,.no]=_;unfold zll;rw[h1,zu4];unfold ztZ;show(if _ then _ else _)=_;rw[if_pos ⟨rfl,(by show 2 < 11;decide)⟩];refine zB6 fun a=>?_;obtain⟨d3,d4,d5,d6,d7,d8,y9,y10,st',e⟩:=zyI a (d0:=.lst (ns.map D.int)) (d1:=.int (k:Int)) S;show zzJ 2 (zzg a [.sh (.lst (ns.map D.int)),.sh (.int (k:Int)),.pt a,.no,.no,.no,.no,.no,.no,.no,.no] st)=_;rw[e];rfl
 obtain⟨ρ',hf,s,rfl⟩:=zsM (i:=1) (body:=(zll 2 (zaj (zab (zaf 0) (zab (zaf 1) zaz)) zbq) fun a=>zzg a)) (fun _ ρ=>∃ s,ρ=[.sh (.lst (ns.map D.int)),s,.no,.no,.no,.no,.no,.no,.no,.no,.no]) (n:=m) hstep (ρ:=[.sh (.lst (ns.map D.int)),.no,.no,.no,.no,.no,.no,.no,.no,.no,.no]) ⟨.no,rfl⟩;have hfr:=fun s:Ev->Res Fl=>zkT (tg:=zd0 1) (s:=s) (ρ:=[.sh (.lst (ns.map D.int)),.no,.no,.no,.no,.no,.no,.no,.no,.no,.no]) (k:=m) (by omega);unfold zwt zFf;open_line with[sag,h1,hq,hfr,hf]
end K51
namespace K51
open PySem L2 DL
theorem zDr (K:sab)(H:Hp)(a:Addr)(ns:List Int)(hl:ns.length<=63)(hS:SqL K H a (ns.map V.int)):spD K 1 zwt [.ref a] H (fun v _=>v=.bl true) fun _ _ _=>False:=by
 refine⟨rfl,H,[.lst (ns.map D.int)],zaJ.refl _,Reps.cons (zaq.mpr ⟨a,_,rfl,hS,zrX ns⟩) Reps.nil,?_⟩;rw[zzs ns hl];exact fun v H' Ha' _ r=>zar.mp r
end K51
namespace PySem.W.Fast
def tw12961072391181835939:=0
def tw6457655452338869512:=0
def tw18381931165974595476:=0
def tw6729831464154776729:=0
def tw6342785387944581419:=0
def tw14335589819375158834:=0
def tw5723752551611415066:=0
def tw5535756980757531633:=0
def tw5885273040657238336:=0
def tw18316659199426607644:=0
def tw6149926174197214287:=0
def tw1866996034528023971:=0
def tw13779863161758997168:=0
def tw11360045189112795901:=0
def tw6976047743003431442:=0
def tw6753775949938230562:=0
def tw5664651931900625855:=0
def tw13207970171417797641:=0
def tw15981543413122191831:=0
def tw4662211071809306859:=0
def tw18347679150940924229:=0
def tw16197082476818773258:=0
def tw12674677616289681274:=0
def tw18113159481839449310:=0
def tw4027484211750469042:=0
def tw14195940572210265310:=0
def tw10993437126382276655:=0
def tw12708503215564624361:=0
def tw10130547454782922:=0
def tw6642698826711145686:=0
def tw13036451948645815717:=0
def tw5041030453215221264:=0
def tw9780718439600784536:=0
def tw8450132144162660166:=0
def tw7795598332135324601:=0
def tw2617912860822347615:=0
def tw126024823610233682:=0
def tw15678231365079385838:=0
def tw15551184266145854348:=0
def tw16331258493448097312:=0
def tw2008558251785347437:=0
def tw16303431184574932917:=0
def tw5454241466495576665:=0
end PySem.W.Fast
open PySem PySem.W PyProof.Rows
set_option maxRecDepth 100000 in
set_option maxHeartbeats 0 in
theorem PySem.Challenge.cw_farthestcut_k51_spreads_looked_at_holds : PySem.Challenge.rw_farthestcut_k51_spreads_looked_at.Holds := by
 w_on;o_law;k_head;(case hw=>w_witness2)
 k_fill
 refine L2.walk_ofK (l:=PySem.Challenge.rw_farthestcut_k51_spreads_looked_at) (n:=63) (k:=13) (x:="_law_script") (CX:=L2.CX0) (sp:=fun K=>DL.spD K 1 K51.zwt) ?I rfl (by decide) rfl ⟨rfl,by decide,by decide,rfl⟩ (fun w h Y=>W.kIn_of Y) ?F ?S ?C
 case S=>exact fun K H a ns hl _ hS=>K51.zDr K H a ns hl hS
 case C=>exact fun _ _ _ _ h=>h
 case I=>rfl
 case F =>
  intro w mg fa h KX G hmg;have T:∃ t:K51.Adr,K51.Txt (L2.KOf KX) mg t/\mg "law"=some (.ref t.zvl)/\∃ kV doc pm an cdv ct,t.zx0=sbY "law" "law" (L2.defArgs K51.zoB) (L2.defBody K51.zoB) (L2.defScope K51.zoB) .none kV doc pm an cdv ct:=by
   dsimp only[L2.KOf];refine' K51.txt_wr (K51.txt_mk KX G ?_ ?_ ?_ ?_ ?_ ?_ ?_ ?_ ?_ ?_ ?_ ?_ ?_ ?_ ?_ ?_ ?_ ?_ ?_ ?_ ?_ ?_ ?_ ?_ ?_ ?_ ?_ ?_ ?_ ?_ ?_ ?_ ?_ ?_ ?_ ?_ ?_ ?_ ?_ ?_ ?_ ?_ ?_ ?_ ?_ ?_ ?_ ?_ ?_ ?_ ?_ ?_ ?_ ?_ ?_ ?_ ?_ ?_ ?_ ?_ ?_ ?_ ?_ ?_ ?_ ?_ ?_ ?_ ?_ ?_ ?_ ?_ ?_ ?_ ?_ ?_ ?_ ?_ ?_ ?_ ?_ ?_ ?_ ?_ ?_ ?_ ?_ ?_ ?_ ?_ ?_ ?_ ?_ ?_ ?_ ?_ ?_ ?_ ?_ ?_ ?_ ?_ ?_ ?_ ?_ ?_ ?_ ?_ ?_ ?_ ?_ ?_ ?_ ?_ ?_ ?_ ?_ ?_ ?_ ?_ ?_ ?_ ?_ ?_ ?_ ?_ ?_ ?_ ?_ ?_ ?_ ?_ ?_ ?_ ?_ ?_ ?_ ?_ ?_ ?_ ?_ ?_ ?_ ?_ ?_ ?_ ?_ ?_ ?_ ?_ ?_)
   all_goals try first | (unfold DL.QA;exact⟨by k_is,by k_is,_,_,_,_,_,_,_,_,_,by k_is,by k_is⟩) | k_is | k_exc | rfl
   exact⟨_,_,_,_,[.int 0,.int 1],rfl,.cons ⟨_,rfl⟩ (.cons ⟨_,rfl⟩ (.nil)),by decide,fun H=>DL.Reps.cons (DL.ri _) (DL.Reps.cons (DL.ri _) (DL.Reps.nil))⟩;exact⟨_,_,_,_,[.str "one",.str "both"],rfl,.cons ⟨_,rfl⟩ (.cons ⟨_,rfl⟩ (.nil)),by decide,fun H=>DL.Reps.cons (DL.Rep.str_iff.mpr rfl) (DL.Reps.cons (DL.Rep.str_iff.mpr rfl) (DL.Reps.nil))⟩
  obtain⟨t,T,e0,kV,doc,pm,an,cdv,ct,ed⟩:=T;have e1:=hmg.symm.trans e0;cases e1;refine⟨t.zx0,fun s u=>?_,fun base kb nb=>K51.zEg T⟩;rw[ed];exact .of_eq rfl
