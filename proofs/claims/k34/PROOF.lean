import PyProof.Rows.All
import Wide.All
import OpenK.AllK
import Wide.FinOn
import PyProof.EqAt
import PyProof.EqKinds
import PyProof.NeKinds
import PyProof.TupleCall
import PySem.Challenge.RW_farthestcut_k34_what_is_a_flow
open List renaming getElem?_eq_getElem->saa,length_map->sab,getElem?_eq_some_iff->sad,getElem?_map->sai,mem_cons_of_mem->sak,size_toArray->san,getElem?_set_ne->sao,mem_cons_self->saq,length_cons->sar,mem_cons->sas,replicate->sat,mem_of_getElem?->say,getElem?_append_left->saC,all_eq_true->saE,mem_map->saG,getElem?_append_right->saI,map_cons->saJ,getElem_mem->saL,getElem?_set_self->saO,getElem?_replicate->saP,mem_append->saQ,range->saS,map_append->saU,replicate_succ->saX,getElem?_take_of_lt->saY,mem_append_right->sa1,map_map->sa2,not_mem_nil->sa3,length_take->sa4,getElem?_cons_succ->sa9,length_append->sba,drop_eq_getElem_cons->sbc,zip_cons_cons->sbk,getElem?_drop->sbl,lookup_cons->sbn,filterMap_cons->sbs,mem_range->sbu,length_replicate->sbw,getElem?_eq_none->sbx,map_nil->sbA,nodup_cons->sbD,length_set->sbE,nodup_iff_pairwise_ne->sbG,flatten_cons->sbQ,append_nil->sbR,getElem?_cons_zero->sbU,take_length->sbX,length_drop->sbY,Nodup->sbZ,ext_getElem?->sb6,all_cons->sb7,nil_append->sch,length_nil->sci,length_eq_zero_iff->scj,getElem?_set_self'->sck,mem_reverse->sct,mem_nil_iff->scu,range_eq_range'->scw,getElem?_of_mem->scx,mem_filter->scB,lookup->scC,length_reverse->scD,getD->scE,filterMap_map->scL,reverse_cons->scP,length_range->scQ,append_assoc->scR,range'->scW,any_cons->scX,Pairwise->scY,range'_succ->sc2,getElem_inj->sc3,take_of_length_le->sc4,range_succ_eq_map->sc5,all_map->sc8,mem_of_mem_take->sda,replicate_zero->sde,set_cons_zero->sdi,set_cons_succ->sdj,mem_filterMap->sdk,pairwise_map->sdt,nodup_append->sdu,cons_append->sdD
open PySem renaming wpAny_bind->sae,wpAny_pure->sau,wpAny_truthy_bool->sa7,wpAny_holding->sbd,wpAny_mono->sbe,Env->sbo,wpAny_loadPart_at->sbq,mem_of_lookup->sbC,Within->scK
open Nat renaming lt_of_lt_of_le->saf,le_trans->sal,lt_of_le_of_lt->sav,le_refl->saA,ne_of_lt->saB,pow_le_pow_right->sa6,mul_le_mul->sbi,le_of_lt->sbL,zero_add->sbS,lt_succ_self->scb,ne_of_gt->scd,lt_irrefl->scg,zero_le->scp,pow_add->scV,pow_lt_pow_right->sc9,lt_succ_of_lt->sds,sub_zero->sdA,le_of_eq->sdB
open PySem.Heap renaming get?_push_of_some->sah,lt_size->sam,get?_push_size->saV,get?_update_other->sbp,get?_update_self->sby,SameBut->sbN,FlyingW->sb3,get?_none_of_le->scy
open PySem.W renaming Frag->saj,subIn->sa0,mg_none_of->sbf,nsIn->sbh,kia_one->sbv,findIn->sbF,mg_of->sb1,fnOf->sb9,hasDictIn->scc,keepIn->scU,emptyDict->sdd,kitOne->sdg,codeIn->sdF
open Or renaming inl->sap,inr->sdy
open PySem.SeqAt renaming EqAt->saw,RcNeAt->sax,RcAt->saK
open Bool renaming false_ne_true->saD,and_eq_true->saF,false_and->sa5,false_eq_true->sbb,true_and->sbz,false_or->sbW,and_false->sb0,and_self->sc1,or_false->sdo
open Int renaming gcd->saH,mul_nonneg->saZ,eq_ofNat_of_zero_le->sbm,toNat_natCast->sbt,eq_of_mul_eq_mul_right->sbH,natAbs_mul->sbO,natAbs_ediv_le_natAbs->sbP,mul_pos->sbV,mul_ediv_cancel_left->sce,fmod_nonneg_of_pos->scn,fmod_eq_emod_of_nonneg->scI,mul_neg_of_neg_of_pos->scM,one_mul->scZ,natCast_nonneg->sdl,fmod_lt_of_pos->sdm,gcd_dvd_right->sdv,mul_comm->sdC,gcd_dvd_left->sdE
open PySem.PassesOwn renaming never->saM
open Option.some renaming inj->saN,injEq->sb5
open PySem.Value renaming ref->saR,bool->sa8,none->sbr,str->sbJ,int->sbK,builtin->sbT
open Option renaming some->saT,getD_some->scs,map_some->scA,isSome_iff_exists->scO
open Ne renaming symm->saW
open False renaming elim->sbg
open PyProof.Rows renaming callWith_type1->sbj,slot_tuple_getitem->sco
open Sum renaming inl->sbB,inr->sc6
open PySem.NameKind renaming free->sbM
open PySem.Builtin renaming divisionGoesByPylong->sb2,bitAnd->sdc
open Array renaming getElem?_eq_some_iff->sb8,length_toList->scG,append_assoc->sdp
open PySem.Builtin.Slice renaming slicePlaces->sca,sliceAdjust->scN
open PySem.Builtin.Tuple renaming tupleExact->scf
open ForInStep renaming yield->scl
open PySem.Code renaming quiet_builtin->scm
open PySem.Txt renaming slice->scq,slice_le->sdx
open PySem.F renaming slot_enumerate_next->scr,slot_enumerate_getattribute->scv,excBase_ValueError->scH,attr_ValueError->scS
open True renaming intro->scz
open PySem.Builtin.Str renaming strSliceIndices->scF,occurrences->sc0
open PySem.SeqAt.EqAt renaming of_refs->scJ,same->sc7
open PySem.Builtin.List renaming listTooLong->scT
open PySem.Calls renaming evalArgs_plain->sdb,spliced_cons->sdn,spliced_nil->sdw
open PySem.Builtin.SmallTypes renaming ownedTupleIsFree->sdf
open PySem.Obj renaming data_mapFields->sdh,mapSeq->sdr
open PySem.StrLaws renaming sliceText->sdq
open Nat.succ renaming inj->sdz
set_option compiler.extract_closed false
set_option Elab.async false
set_option linter.all false
set_option maxRecDepth 100000
set_option maxHeartbeats 4000000
noncomputable section
namespace L2
open PySem PySem.Spec PyProof.Rows
abbrev Key:=Sum Int Str
def zyY:Key->Value->Bool
 | .inl k,v=>Value.isInt k v
 | .inr x,v=>Value.isStrOf x v
def zGK (w:World):Key->Int
 | .inl k=>hashInt k
 | .inr x=>hashStr w x
theorem zb8:∀ {k:Key}{v:Value},zyY k v=true->(∃ i t,k=sbB i/\v=sbK i t)∨(∃ x t,k=sc6 x/\v=sbJ x t)
 | .inl i,v,h=>by
  obtain⟨t,e⟩:=Value.isInt_shape (k:=i) (v:=v) h;exact .inl ⟨i,t,rfl,e⟩
 | .inr x,v,h=>by
  obtain⟨t,e⟩:=Value.isStrOf_shape (x:=x) (v:=v) h;exact .inr ⟨x,t,rfl,e⟩
theorem zvN (i:Int)(t:Tok):zyY (.inl i) (.int i t)=true:=by simp [zyY,Value.isInt]
theorem zDP (a b:Int):decide ((sbB a:Key)=sbB b)=(a==b):=by
 by_cases e:a=b
 .subst e;simp
 .have h:¬ (sbB a:Key)=sbB b:=fun q=>e (sbB.inj q)
  rw[decide_eq_false h];exact(beq_eq_false_iff_ne.mpr e).symm
theorem zDM (a b:Str):decide ((sc6 a:Key)=sc6 b)=decide (a=b):=by
 by_cases e:a=b
 .subst e;simp
 .have h:¬ (sc6 a:Key)=sc6 b:=fun q=>e (sc6.inj q)
  rw[decide_eq_false h,decide_eq_false e]
theorem zDO (a:Int)(b:Str):decide ((sbB a:Key)=sc6 b)=false:=decide_eq_false (fun q=>nomatch q)
theorem zDN (a:Str)(b:Int):decide ((sc6 a:Key)=sbB b)=false:=decide_eq_false (fun q=>nomatch q)
noncomputable def mixKind (prog:Program) (w:World):PySem.KeyKind prog w Key where
 is:=zyY
 hash:=zGK w
 inj:=fun v a b ha hb=>by
  rcases zb8 ha with⟨i,t,rfl,rfl⟩ | ⟨x,t,rfl,rfl⟩
  .rcases zb8 hb with⟨j,u,rfl,e⟩ | ⟨y,u,rfl,e⟩
   .injection e with e1 _;rw[e1]
   .exact nomatch e
  .rcases zb8 hb with⟨j,u,rfl,e⟩ | ⟨y,u,rfl,e⟩
   .exact nomatch e
   .injection e with e1 _;rw[e1]
 byValue:=fun k v h=>by
  rcases zb8 h with⟨i,t,rfl,rfl⟩ | ⟨x,t,rfl,rfl⟩<;>rfl
 pyHash:=fun hv h=>by
  rcases zb8 hv with⟨i,t,rfl,rfl⟩ | ⟨x,t,rfl,rfl⟩
  .exact wpAny_pyHash_int h
  .exact wpAny_pyHash_str h
 eqBool:=fun hu hv h=>by
  rcases zb8 hu with⟨i,t,rfl,rfl⟩ | ⟨x,t,rfl,rfl⟩
  .rcases zb8 hv with⟨j,u,rfl,rfl⟩ | ⟨y,u,rfl,rfl⟩
   .rw[zDP] at h;exact wpAny_eqBool_int h
   .rw[zDO] at h;exact saw.int_str i t y u _ _ _ _ h
  .rcases zb8 hv with⟨j,u,rfl,rfl⟩ | ⟨y,u,rfl,rfl⟩
   .rw[zDN] at h;exact saw.str_int x t j u _ _ _ _ h
   .rw[zDM] at h;exact wpAny_eqBool_str h
 «strs»:=fun k x t v h=>by
  rcases zb8 h with⟨i,u,rfl,e⟩ | ⟨y,u,rfl,e⟩
  .exact nomatch e
  .injection e with e1 _
   subst e1;cases v<;>rfl
theorem mixKind_int (prog:Program)(w:World)(i:Int)(t:Tok):(mixKind prog w).is (.inl i) (.int i t)=true:=zvN i t
inductive V where
 | non | bl (b:Bool) | int (i:Int) | str (x:Str) | byt (b:Array UInt8) | flt (b:UInt64) | ref (a:Addr) | ty (n:String)
 deriving DecidableEq
noncomputable def zcj:V->Value->Prop
 | .non,u=>u=sbr
 | .bl b,u=>u=sa8 b
 | .int i,u=>∃ t,u=sbK i t
 | .str x,u=>∃ t,u=sbJ x t
 | .byt b,u=>∃ t,u=Value.bytes b t
 | .flt b,u=>∃ t,u=Value.float b t
 | .ref a,u=>u=saR a
 | .ty n,u=>u=Value.type n
abbrev zbM:List V->List Value->Prop:=Paired zcj
theorem zbM.length {xs:List V}{us:List Value}(r:zbM xs us):xs.length=us.length:=Paired.length r
theorem zbM.get:∀ {xs:List V}{us:List Value}{i:Nat}{x:V},zbM xs us->xs[i]?=some x->∃ u,us[i]?=some u/\zcj x u
 | _,_,_,_,.nil,e=>by simp at e
 | _,_,0,_,.cons r _,e=>by simp at e;subst e;exact⟨_,rfl,r⟩
 | _,_,i+1,x,.cons _ t,e=>by
  obtain⟨u,h1,h2⟩:=zbM.get (i:=i) (x:=x) t (by simpa using e);exact⟨u,by simpa using h1,h2⟩
theorem zbM.set {x:V}{u:Value}(r:zcj x u):∀ {xs:List V}{us:List Value}(i:Nat),zbM xs us->zbM (xs.set i x) (us.set i u)
 | _,_,_,.nil=>.nil
 | _,_,0,.cons _ t=>.cons r t
 | _,_,i+1,.cons q t=>.cons q (zbM.set r i t)
theorem zbM.append:∀ {xs ys:List V}{us ws:List Value},zbM xs us->zbM ys ws->zbM (xs++ys) (us++ws)
 | _,_,_,_,.nil,s=>s
 | _,_,_,_,.cons r t,s=>.cons r (zbM.append t s)
theorem zbM.take:∀ {xs:List V}{us:List Value}(n:Nat),zbM xs us->zbM (xs.take n) (us.take n)
 | _,_,0,_=>.nil
 | _,_,_+1,.nil=>.nil
 | _,_,n+1,.cons r t=>.cons r (zbM.take n t)
theorem zbM.drop:∀ {xs:List V}{us:List Value}(n:Nat),zbM xs us->zbM (xs.drop n) (us.drop n)
 | _,_,0,r=>r
 | _,_,_+1,.nil=>.nil
 | _,_,n+1,.cons _ t=>zbM.drop n t
def zCh:Option V->Option Value->Prop
 | some v,some u=>zcj v u
 | none,none=>True
 | _,_=>False
def KV {κ:Type}:List (κ×V)->List (κ×Value)->Prop:=Paired fun(p:κ×V) (q:κ×Value)=>p.1=q.1/\zcj p.2 q.2
def kV:Key->V
 | .inl i=>.int i
 | .inr x=>.str x
inductive HO where
 | lst (xs:List V)
 | tup (xs:List V)
 | dK (kvs:List (Key×V)) | dT (kvs:List (List Key×V))
 | set (S:Int->Bool) (n:Nat)
 | ins (C dx:Addr) (fs:List (Str×V))
 | own (x:Addr)
 | xd (fs:List (Str×V))
 | met (f x:Addr)
 | rng (lo hi:Int)
 | frz (o:Obj) (u:HO)
 | tbl (ps:Array Value)
 | ext (φ:Heap->Prop)
abbrev Hp:=Addr->Option HO
def upd (H:Hp)(a:Addr)(o:HO):Hp:=fun b=>if b=a then some o else H b
theorem zau {H:Hp}{a:Addr}{o:HO}:upd H a o a=some o:=by unfold upd;rw[if_pos rfl]
theorem zav {H:Hp}{a b:Addr}{o:HO}(h:b≠a):upd H a o b=H b:=by unfold upd;rw[if_neg h]
theorem zaJ {H:Hp}{a b:Addr}{o:HO}(h:H a=some o)(h':H b=none):a≠b:=by
 intro e;subst e;rw[h] at h';cases h'
section
variable (P:Program) (w:World)
noncomputable def zcg (H:Hp) (h:Heap) (a:Addr):HO->Prop
 | .lst xs=>xs.length<=sizeLine/\∃ (its:List Value) (n:Nat),zbM xs its/\h.get? a=some { cls:=.type "list",data:=.seq its.toArray n }
 | .tup xs=>xs.length<=sizeLine/\∃ its:List Value,zbM xs its/\IsTup h a its.toArray
 | .dK kvs=>kvs.length<=sizeLine/\(a==sysModules)=false/\∃ vs,KV kvs vs/\h.DictOf (mixKind P w) a vs
 | .dT kvs=>kvs.length<=sizeLine/\(a==sysModules)=false/\∃ xs:List (List Key×Addr×Value),
   Paired (fun(p:List Key×V) (q:List Key×Addr×Value)=>p.1=q.1/\H q.2.1=some (.tup (p.1.map kV))/\zcj p.2 q.2.2) kvs xs /\
   ∃ o es ep,h.get? a=some o/\o.ExactDict/\o.data=.dict es ep/\es.toList=xs.map (entryOfKey (tupleKind (mixKind P w)))/\(xs.map (·.1)).Nodup
 | .set S n=>h.SetOf (intKind P w) a S n
 | .ins C dx fs=>H dx=some (.own a)/\fs.length<=1000/\dx≠a/\h.get? a=some (W.instObj C dx) /\
   ∃ mA,h.Ns1 dx mA/\(∀ f,zCh (fs.lookup f) (mA f))/\scK mA (fs.map (·.1))
 | .own _=>∃ o,h.get? a=some o
 | .xd fs=>∃ mA,h.Ns1 a mA/\∀ f,zCh (fs.lookup f) (mA f)
 | .rng lo hi=>∃ t u v,h.get? a=some { cls:=.type "range",data:=.fields #[.int lo t,.int hi u,.int 1 v] }
 | .frz o u=>h.get? a=some o/\zcg H h a u
 | .tbl ps=>h.get? a=some { cls:=.none,data:=.fields ps }
 | .met f x=>h.get? a=some (W.methodObj (.ref f) (.ref x))
 | .ext φ=>φ h/\(∃ o,h.get? a=some o)/\∀ h1 h2:Heap,φ h1->(∀ o,h1.get? a=some o->h2.get? a=some o)->φ h2
def HOk (H:Hp)(h:Heap):Prop:=∀ a o,H a=some o->zcg P w H h a o
end
section
variable {P:Program}{w:World}{H H':Hp}{h h':Heap}{a:Addr}{o:HO}
theorem zcg.lt (x:zcg P w H h a o):a < h.objs.size:=by
 cases o with
 | lst xs=>obtain⟨_,_,_,_,e⟩:=x;exact sam e
 | tup xs=>obtain⟨_,_,_,p⟩:=x;exact p.lt
 | dK kvs=>obtain⟨_,_,_,_,o,_,_,e,_⟩:=x;exact sam e
 | dT kvs=>obtain⟨_,_,_,_,o,_,_,e,_⟩:=x;exact sam e
 | set S n=>obtain⟨o,_,_,_,e,_⟩:=x;exact sam e
 | ins C dx fs=>obtain⟨_,_,_,e,_⟩:=x;exact sam e
 | own y=>obtain⟨_,e⟩:=x;exact sam e
 | xd fs=>obtain⟨_,⟨_,_,_,e,_⟩,_⟩:=x;exact sam e
 | rng lo hi=>obtain⟨_,_,_,e⟩:=x;exact sam e
 | frz ob u=>obtain⟨e,_⟩:=x;exact sam e
 | tbl ps=>exact sam (show h.get? a=some _ from x)
 | met f y=>exact sam (show h.get? a=some _ from x)
 | ext φ=>obtain⟨_,⟨_,e⟩,_⟩:=x;exact sam e
theorem zl6 {α β:Type}{F G:α->β->Prop}:∀ {lb:List α}{lc:List β},Paired F lb lc->(∀ a b,F a b->G a b)->Paired G lb lc
 | _,_,.nil,_=>.nil
 | _,_,.cons r t,f=>.cons (f _ _ r) (zl6 t f)
theorem zcg.stay (x:zcg P w H h a o)(k:∀ b u,(b=a∨H b=some (.own a))->h.get? b=some u->h'.get? b=some u)
  (ho:∀ b,H b=some (.own a)->H' b=some (.own a))(ht:∀ b xs,H b=some (.tup xs)->H' b=some (.tup xs)):zcg P w H' h' a o:=by
 induction o with
 | lst xs=>obtain⟨z,its,n,r,e⟩:=x;exact⟨z,its,n,r,k _ _ (.inl rfl) e⟩
 | tup xs=>obtain⟨z,its,r,ob,e,c⟩:=x;exact⟨z,its,r,ob,k _ _ (.inl rfl) e,c⟩
 | dK kvs=>obtain⟨z,y,vs,r,ob,es,ep,e,c⟩:=x;exact⟨z,y,vs,r,ob,es,ep,k _ _ (.inl rfl) e,c⟩
 | dT kvs =>
  obtain⟨z,y,xs,r,ob,es,ep,e,c⟩:=x;exact⟨z,y,xs,zl6 r fun p q z=>⟨z.1,ht _ _ z.2.1,z.2.2⟩,ob,es,ep,k _ _ (.inl rfl) e,c⟩
 | set S n=>obtain⟨ob,es,ep,t,e,c⟩:=x;exact⟨ob,es,ep,t,k _ _ (.inl rfl) e,c⟩
 | ins C dx fs =>
  obtain⟨d,z,ne,e,mA,⟨od,es,ep,e2,c⟩,r⟩:=x;exact⟨ho _ d,z,ne,k _ _ (.inl rfl) e,mA,⟨od,es,ep,k _ _ (.inr d) e2,c⟩,r⟩
 | own y=>obtain⟨ob,e⟩:=x;exact⟨ob,k _ _ (.inl rfl) e⟩
 | xd fs=>obtain⟨mA,⟨od,es,ep,e,c⟩,r⟩:=x;exact⟨mA,⟨od,es,ep,k _ _ (.inl rfl) e,c⟩,r⟩
 | rng lo hi=>obtain⟨t,u,v,e⟩:=x;exact⟨t,u,v,k _ _ (.inl rfl) e⟩
 | frz ob u ih=>obtain⟨e,q⟩:=x;exact⟨k _ _ (.inl rfl) e,ih q⟩
 | tbl ps =>
  have e:h.get? a=some { cls:=.none,data:=.fields ps }:=x;show h'.get? a=some { cls:=.none,data:=.fields ps };exact k a _ (.inl rfl) e
 | met f y =>
  have e:h.get? a=some (W.methodObj (.ref f) (.ref y)):=x;show h'.get? a=some (W.methodObj (.ref f) (.ref y));exact k a _ (.inl rfl) e
 | ext φ=>obtain⟨p,⟨o,e⟩,st⟩:=x;exact⟨st _ _ p fun o q=>k _ _ (.inl rfl) q,⟨o,k _ _ (.inl rfl) e⟩,st⟩
theorem HOk.lt (x:HOk P w H h)(e:H a=some o):a < h.objs.size:=(x a o e).lt
theorem HOk.fresh (x:HOk P w H h)(e:h.objs.size<=a):H a=none:=by
 cases q:H a with
 | none=>rfl
 | some u=>exact absurd (saf (x.lt q) e) (scg _)
theorem HOk.kept (x:HOk P w H h)(k:∀ b u,h.get? b=some u->h'.get? b=some u):HOk P w H h':=fun a o e =>
 (x a o e).stay (fun b u _ q=>k b u q) (fun _ q=>q) fun _ _ q=>q
theorem HOk.laid (x:HOk P w H h)(k:∀ b u,h.get? b=some u->h'.get? b=some u)(hp:h.objs.size<=a)(new:zcg P w (upd H a o) h' a o):HOk P w (upd H a o) h':=fun b u e=>by
 have hn:=x.fresh hp
 by_cases hb:b=a
 .subst hb;rw[zau] at e;cases e;exact new
 .rw[zav hb] at e
  exact(x b u e).stay (fun c v _ q=>k c v q) (fun c q=>by rw[zav (zaJ q hn)];exact q) fun c xs q=>by rw[zav (zaJ q hn)];exact q
end
def Rd (H:Hp)(a:Addr)(u:HO):Prop:=H a=some u∨∃ o,H a=some (.frz o u)
theorem Rd.ok {P:Program}{w:World}{H:Hp}{h:Heap}{a:Addr}{u:HO}(r:Rd H a u)(x:HOk P w H h):zcg P w H h a u:=by
 rcases r with r | ⟨o,r⟩
 .exact x a u r
 .obtain⟨_,q⟩:=x a _ r
  exact q
def Mut:Option HO->Prop
 | some (.lst _)=>True
 | some (.dK _)=>True
 | some (.dT _)=>True
 | some (.set _ _)=>True
 | some (.ins _ _ _)=>True
 | some (.ext _)=>True
 | _=>False
section
variable {P:Program}{w:World}{H:Hp}{h h':Heap}{x e:Addr}{o':HO}
theorem HOk.write (ok:HOk P w H h)(mu:Mut (H x))(he:e=x∨H e=some (.own x))(k:∀ b u,b≠e->h.get? b=some u->h'.get? b=some u)(heo:∃ u,h'.get? e=some u)
  (new:zcg P w (upd H x o') h' x o'):HOk P w (upd H x o') h':=fun b u q=>by
 have nown:∀ c y,H c=some (.own y)->c≠x:=fun c y r z=>by subst z;rw[r] at mu;exact mu
 have ntup:∀ c xs,H c=some (.tup xs)->c≠x:=fun c xs r z=>by subst z;rw[r] at mu;exact mu
 by_cases hb:b=x
 .subst hb;rw[zau] at q;cases q;exact new
 .rw[zav hb] at q
  by_cases hbe:b=e
  .have q':H b=some (.own x):=by
    rcases he with z | z
    .exact absurd (hbe.trans z) hb
    .rw[hbe];exact z
   rw[q] at q';cases q';obtain⟨v,hv⟩:=heo;exact⟨v,by rw[hbe];exact hv⟩
  .refine(ok b u q).stay (fun c v hc r=>k c v ?_ r) (fun c r=>by rw[zav (nown c b r)];exact r) fun c xs r=>by rw[zav (ntup c xs r)];exact r
   rcases hc with rfl | hc
   .exact hbe
   .rintro rfl
    rcases he with z | z
    .exact nown c b hc z
    .rw[hc] at z;cases z;exact hb rfl
end
structure Un (fs ex:List Addr) (H H':Hp) (h h':Heap):Prop where
 keep:∀ b o,h.get? b=some o->H b=none->b∉fs->b∉ex->h'.get? b=some o
 slot:∀ b o,h.get? b=some o->H b=none->b∈fs->b∉ex->∃ sl,h'.get? b=some { o with slots:=sl }
 free:∀ b o,h.get? b=some o->H b=none->b∉ex->H' b=none
 there:∀ b o,h.get? b=some o->b∉ex->∃ o',h'.get? b=some o'
 tups:∀ b xs,H b=some (.tup xs)->H' b=some (.tup xs)
 frzs:∀ b o u,H b=some (.frz o u)->H' b=some (.frz o u)
 tbls:∀ b ps,H b=some (.tbl ps)->∃ more,H' b=some (.tbl (ps++more))
section
variable {fs fs' ex ex':List Addr}{H H1 H2:Hp}{h h1 h2 h':Heap}{a x e:Addr}{o:HO}
theorem Un.any (u:Un fs ex H H1 h h1){b:Addr}{ob:Obj}(q:h.get? b=some ob)(n:H b=none)(hx:b∉ex):∃ sl,h1.get? b=some { ob with slots:=sl }:=by
 by_cases hb:b∈fs
 .exact u.slot b ob q n hb hx
 .exact⟨ob.slots,u.keep b ob q n hb hx⟩
theorem Un.trans (a:Un fs ex H H1 h h1)(b:Un fs ex H1 H2 h1 h2):Un fs ex H H2 h h2 where
 keep:=fun c ob q n hc hx=>b.keep c ob (a.keep c ob q n hc hx) (a.free c ob q n hx) hc hx
 slot:=fun c ob q n hc hx=>by
  obtain⟨sl,e1⟩:=a.slot c ob q n hc hx;obtain⟨sl',e2⟩:=b.slot c _ e1 (a.free c ob q n hx) hc hx;exact⟨sl',e2⟩
 free:=fun c ob q n hx=>by
  obtain⟨o',e1⟩:=a.there c ob q hx;exact b.free c o' e1 (a.free c ob q n hx) hx
 there:=fun c ob q hx=>by
  obtain⟨o',e1⟩:=a.there c ob q hx;exact b.there c o' e1 hx
 tups:=fun c xs q=>b.tups c xs (a.tups c xs q)
 frzs:=fun c ob xs q=>b.frzs c ob xs (a.frzs c ob xs q)
 tbls:=fun c ps q=>by
  obtain⟨m1,e1⟩:=a.tbls c ps q;obtain⟨m2,e2⟩:=b.tbls c _ e1;exact⟨m1++m2,by rw[e2,sdp]⟩
theorem Un.kept (k:∀ b u,h.get? b=some u->h'.get? b=some u):Un fs ex H H h h' :=
 ⟨fun b ob q _ _ _=>k b ob q,fun b ob q _ _ _=>⟨ob.slots,k b ob q⟩,fun _ _ _ n _=>n,fun b ob q _=>⟨ob,k b ob q⟩,fun _ _ q=>q,fun _ _ _ q=>q,fun _ ps q=>⟨#[],by rw[q];simp⟩⟩
theorem Un.refl:Un fs ex H H h h:=Un.kept fun _ _ q=>q
theorem Un.laid (k:∀ b u,h.get? b=some u->h'.get? b=some u)(hp:h.objs.size<=a)(hn:H a=none):Un fs ex H (upd H a o) h h' where
 keep:=fun b u q _ _ _=>k b u q
 slot:=fun b u q _ _ _=>⟨u.slots,k b u q⟩
 free:=fun b u q n _=>by rw[zav (saB (saf (sam q) hp))];exact n
 there:=fun b u q _=>⟨u,k b u q⟩
 tups:=fun b xs q=>by rw[zav (zaJ q hn)];exact q
 frzs:=fun b u xs q=>by rw[zav (zaJ q hn)];exact q
 tbls:=fun b ps q=>⟨#[],by rw[zav (zaJ q hn),q];simp⟩
theorem Un.write (mu:Mut (H x))(he:e=x∨H e=some (.own x))(k:∀ b u,b≠e->h.get? b=some u->h'.get? b=some u)(heo:∃ u,h'.get? e=some u):Un fs ex H (upd H x o) h h':=by
 have hx:∀ b,H b=none->b≠x:=fun b n z=>by subst z;rw[n] at mu;exact mu
 have hb:∀ b,H b=none->b≠e:=fun b n z=>by
  subst z;rcases he with r | r
  .exact hx b n r
  .rw[n] at r;cases r
 have hm:∀ b u,H b=some u->¬ Mut (some u)->b≠x:=fun b u q nm z=>by subst z;rw[q] at mu;exact nm mu
 refine⟨fun b u q n _ _=>k b u (hb b n) q,fun b u q n _ _=>⟨u.slots,k b u (hb b n) q⟩,fun b u q n _=>by rw[zav (hx b n)];exact n,fun b u q _=>?_,
  fun b xs q=>by rw[zav (hm b _ q fun z=>z)];exact q,fun b u xs q=>by rw[zav (hm b _ q fun z=>z)];exact q,fun b ps q=>⟨#[],by rw[zav (hm b _ q fun z=>z),q];simp⟩⟩
 by_cases hbe:b=e
 .subst hbe;exact heo
 .exact⟨u,k b u hbe q⟩
end
def trk (h:Heap)(H:Hp):List Addr:=(saS h.objs.size).filter fun a=>(H a).isSome
def zy5 (h:Heap)(H:Hp):Heap:=W.hideAll h (trk h H)
theorem zv5 (h:Heap)(H:Hp):(zy5 h H).objs.size=h.objs.size:=W.hideAll_size _ _
theorem zy4 {h:Heap}{H:Hp}{b:Addr}{o:Obj}(e:h.get? b=some o)(n:H b=none):(zy5 h H).get? b=some o :=
 W.hideAll_get _ e fun hm=>by
  have q:(H b).isSome=true:=(scB.mp hm).2;rw[n] at q;simp at q
theorem zAX {h:Heap}{H:Hp}{b:Addr}{o:Obj}(e:(zy5 h H).get? b=some o):h.get? b=some o/\H b=none:=by
 have e':h.get? b=some o:=W.of_hideAll (trk h H) e;refine⟨e',?_⟩;cases q:H b with
 | none=>rfl
 | some x =>
  have hm:b∈trk h H:=scB.mpr ⟨sbu.mpr (sam e'),by simp [q]⟩;have z:(zy5 h H).get? b=none:=W.hideAll_none (trk h H) hm;rw[z] at e;cases e
structure Mod (K:saj) (mg:Str->Option Value) (base:Heap):Prop where
 kin:K.In base
 glob:base.Ns mainGlobals mg
 blt:∃ mb,base.Ns builtinsNs mb/\∀ x:Str,x≠"__name__"->mb x=bootBuiltins x
 nolimit:base.NoLimit
structure Cx where
 prog:Program
 w:World
 K:saj
 mg:Str->Option Value
 base:Heap
 A:Around
 N:List Str
 sk:Shared
 Ha:Hp
 env:Env
 outer:List Env
 stack:List Env
 ex:List Addr
 fn:Str->Bool
 calm:Bool
 pn:List (Addr×Obj)
 xe:Value->Shared->Prop
def frs (l:List Env):List Addr:=l.filterMap (·.frame)
abbrev Cx.fs (X:Cx):List Addr:=frs X.outer
def Vis (sc:Scope)(x:Str):Prop:=sc.names.lookup x=some .local ∨ sc.names.lookup x=some .cell∨sc.names.lookup x=some .free
def Loc (sc:Scope)(x:Str):Prop:=sc.names.lookup x=some .local ∨ sc.names.lookup x=some .cell
def zGl (env:Env)(h:Heap)(m:Str->Option Value)(x:Str)(u:Value):Prop :=
 (env.kindOf x=some .local /\ m x=some u)∨((env.kindOf x=some .cell∨env.kindOf x=some .free)/\∃ c,env.cells.lookup x=some c/\h.IsCell c (some u))
structure Cx.Ok (X:Cx):Prop where
 mod:Mod X.K X.mg X.base
 kind:X.env.scope.kind=.function
 glob:X.env.globals=mainGlobals
 blt:X.env.builtins=builtinsNs
 above:X.sk.heap.objs.size<=X.env.locals
 inj:∀ x y c,X.env.cells.lookup x=some c->X.env.cells.lookup y=some c->x=y
 has:∀ x,(X.env.kindOf x=some .cell∨X.env.kindOf x=some .free)->∃ c,X.env.cells.lookup x=some c
 cab:∀ x c,X.fn x=true->X.env.cells.lookup x=some c->X.sk.heap.objs.size<=c
 hd:X.calm=true->X.A.handled=none
 frames:X.A.frames=some X.stack
 stk:X.stack=X.outer∨(X.stack=X.env::X.outer/\X.env.frame=some X.env.locals)
 exf:∀ b∈X.ex,b≠X.env.locals/\∀ x c,X.env.cells.lookup x=some c->c≠b
 bs:∀ b o,X.base.get? b=some o->X.sk.heap.get? b=some o/\X.Ha b=none
 bsz:X.base.objs.size<=X.sk.heap.objs.size
 noex:∀ b o,X.base.get? b=some o->b∉X.ex
 exfs:∀ b∈X.ex,b∉X.fs
 funs:X.sk.heap.FunFrames X.base X.outer
 frf:∀ b∈X.fs,X.Ha b=none
structure Inv (X:Cx) (pins:List (Addr×Obj)) (σ:List (Option V)) (H:Hp) (s:Shared):Prop where
 ok:X.Ok
 os:s.os=X.sk.os
 bare:AllBare s.gens
 base:Un X.fs X.ex X.Ha H X.sk.heap s.heap
 loc:∃ m,s.heap.Ns X.env.locals m/\∀ (i:Nat) (x:Str) (v:V),X.N[i]?=some x->σ[i]?=some (some v)->Vis X.env.scope x->∃ u,zcj v u/\zGl X.env s.heap m x u
 cell:∀ x c,X.env.cells.lookup x=some c->∃ v,s.heap.IsCell c v
 free:H X.env.locals=none
 freeC:∀ x c,X.env.cells.lookup x=some c->H c=none
 pin:∀ p∈X.pn++pins,s.heap.get? p.1=some p.2/\H p.1=none/\p.1≠X.env.locals/\p.1∉X.fs/\∀ v,p.2.data≠.cell v
 hok:HOk X.prog X.w H s.heap
 len:σ.length=X.N.length
section
variable {X:Cx}{pins:List (Addr×Obj)}{σ:List (Option V)}{H H':Hp}{s:Shared}{h':Heap}
theorem Cx.Ok.nofr (ok:X.Ok){b:Addr}{o:Obj}(e:X.base.get? b=some o):b∉X.fs:=fun hb=>by
 have:=(ok.funs.mem hb).1;rw[e] at this;cases this
theorem Inv.bs (I:Inv X pins σ H s):∀ b o,X.base.get? b=some o->s.heap.get? b=some o/\H b=none:=fun b o e =>
 ⟨I.base.keep b o (I.ok.bs b o e).1 (I.ok.bs b o e).2 (I.ok.nofr e) (I.ok.noex b o e),I.base.free b o (I.ok.bs b o e).1 (I.ok.bs b o e).2 (I.ok.noex b o e)⟩
theorem Inv.bk (I:Inv X pins σ H s):∀ b o,X.base.get? b=some o->s.heap.get? b=some o:=fun b o e=>(I.bs b o e).1
theorem Inv.mod (I:Inv X pins σ H s):Mod X.K X.mg X.base:=I.ok.mod
theorem Inv.kIn (I:Inv X pins σ H s):X.K.In s.heap:=I.ok.mod.kin.keeps I.bk
theorem Inv.lt (I:Inv X pins σ H s):X.env.locals < s.heap.objs.size:=let ⟨_,hn,_⟩:=I.loc;hn.lt
theorem Inv.sz (I:Inv X pins σ H s):X.sk.heap.objs.size<=s.heap.objs.size:=sal I.ok.above (sbL I.lt)
theorem Inv.nofs (I:Inv X pins σ H s){a:Addr}(h:s.heap.objs.size<=a):a∉X.fs:=fun hb=>by
 obtain⟨_,o,ho,_⟩:=I.ok.funs.mem hb;exact absurd (saf (sam ho) (sal I.sz h)) (scg _)
theorem Inv.cne (I:Inv X pins σ H s):∀ x c,X.env.cells.lookup x=some c->c≠X.env.locals:=fun x c e z=>by
 obtain⟨v,o,ho,hd⟩:=I.cell x c e;obtain⟨m,⟨o',es,ep,ho',hd',_⟩,_⟩:=I.loc;rw[z,ho'] at ho;cases ho;rw[hd'] at hd;cases hd
theorem Inv.funs (I:Inv X pins σ H s):s.heap.FunFrames X.base X.outer:=by
 have all:∀ (l:List Env),(∀ b∈frs l,b∈X.fs)->X.sk.heap.FunFrames X.base l->s.heap.FunFrames X.base l:=by
  intro l
  induction l with
  | nil=>intro _ _;trivial
  | cons env r ih =>
   intro hs hl;obtain⟨hk,⟨L,o,hf,hn,ho,hd⟩,hr⟩:=hl;have hL:L∈X.fs:=hs L (by unfold frs;rw[sbs,hf];exact saq);obtain⟨sl,e⟩:=I.base.slot L o ho (I.ok.frf L hL) hL fun z=>I.ok.exfs L z hL;exact⟨hk,⟨L,_,hf,hn,e,hd⟩,ih (fun b hb=>hs b (by unfold frs;rw[sbs,hf];exact sak _ hb)) hr⟩
 exact all X.outer (fun _ hb=>hb) I.ok.funs
theorem Inv.stack (I:Inv X pins σ H s):s.heap.FunFrames X.base X.stack:=by
 rcases I.ok.stk with e | ⟨e,hf⟩
 .rw[e];exact I.funs
 .rw[e]
  obtain⟨m,hn,_⟩:=I.loc;refine .cons (by rw[I.ok.kind];decide) hf hn ?_ I.funs;exact scy (sal I.ok.bsz I.ok.above)
theorem Inv.stkSub (I:Inv X pins σ H s):∀ b∈frs X.stack,b∈X.env.locals::X.fs:=fun b hb=>by
 rcases I.ok.stk with e | ⟨e,hf⟩
 .rw[e] at hb;exact sak _ hb
 .rw[e] at hb
  unfold frs at hb;rw[sbs,hf] at hb;exact hb
theorem Inv.stkFree (I:Inv X pins σ H s):∀ b∈frs X.stack,H b=none:=fun b hb=>by
 rcases sas.mp (I.stkSub b hb) with e | hb
 .rw[e];exact I.free
 .obtain⟨_,o,ho,_⟩:=I.ok.funs.mem hb
  exact I.base.free b o ho (I.ok.frf b hb) fun z=>I.ok.exfs b z hb
theorem Inv.step {g':Array GenState}{t':Nat}{d':Drawn}{ch:List Addr}(I:Inv X pins σ H s)
  (hch:∀ b∈ch,(b∈X.ex∨X.sk.heap.objs.size<=b)/\b≠X.env.locals/\(∀ x c,X.env.cells.lookup x=some c->c≠b)/\∀ p∈X.pn++pins,p.1≠b)
  (keep:∀ b o,b≠X.env.locals->b∉X.fs->b∉ch->s.heap.get? b=some o->H b=none->h'.get? b=some o)
  (slot:∀ b o,b≠X.env.locals->b∈X.fs->b∉ch->s.heap.get? b=some o->H b=none->∃ sl,h'.get? b=some { o with slots:=sl })(free:∀ b o,b∉ch->s.heap.get? b=some o->H b=none->H' b=none)
  (there:∀ b o,b∉ch->s.heap.get? b=some o->∃ o',h'.get? b=some o')
  (tups:∀ b xs,H b=some (.tup xs)->H' b=some (.tup xs))(frzs:∀ b o u,H b=some (.frz o u)->H' b=some (.frz o u))(tbls:∀ b ps,H b=some (.tbl ps)->∃ more,H' b=some (.tbl (ps++more)))
  (ns:∀ m,s.heap.Ns X.env.locals m->h'.Ns X.env.locals m)(hok:HOk X.prog X.w H' h')(hg:AllBare g') :
  Inv X pins σ H' { s with heap:=h',gens:=g',drawn:=d',toks:=t' }:=by
 have neL:∀ b o,X.sk.heap.get? b=some o->b≠X.env.locals:=fun b o e=>saB (saf (sam e) I.ok.above);have neC:∀ b o,X.sk.heap.get? b=some o->b∉X.ex->b∉ch:=fun b o e hx hb=>by
  rcases(hch b hb).1 with z | z
  .exact hx z
  .exact absurd (saf (sam e) z) (scg _)
 have cellK:∀ x c,X.env.cells.lookup x=some c->∀ v,s.heap.IsCell c v->h'.IsCell c v:=fun x c e v ⟨o,ho,hd⟩=>by
  have nch:c∉ch:=fun z=>(hch c z).2.2.1 x c e rfl
  by_cases hc:c∈X.fs
  .obtain⟨sl,q⟩:=slot c o (I.cne x c e) hc nch ho (I.freeC x c e)
   exact⟨_,q,hd⟩
  .exact⟨o,keep c o (I.cne x c e) hc nch ho (I.freeC x c e),hd⟩
 refine⟨I.ok,I.os,hg,⟨fun b o e n hb hx=>?_,fun b o e n hb hx=>?_,fun b o e n hx=>?_,fun b o e hx=>?_,fun b xs e=>tups b xs (I.base.tups b xs e),fun b o xs e=>frzs b o xs (I.base.frzs b o xs e),fun b ps e=>?_⟩,?_,fun x c e=>?_,?_,fun x c e=>?_,fun p hp=>?_,hok,I.len⟩
 .exact keep b o (neL b o e) hb (neC b o e hx) (I.base.keep b o e n hb hx) (I.base.free b o e n hx)
 .obtain⟨sl,e1⟩:=I.base.slot b o e n hb hx
  obtain⟨sl',e2⟩:=slot b _ (neL b o e) hb (neC b o e hx) e1 (I.base.free b o e n hx);exact⟨sl',e2⟩
 .obtain⟨o',e1⟩:=I.base.there b o e hx
  exact free b o' (neC b o e hx) e1 (I.base.free b o e n hx)
 .obtain⟨o',e1⟩:=I.base.there b o e hx
  exact there b o' (neC b o e hx) e1
 .obtain⟨m1,e1⟩:=I.base.tbls b ps e
  obtain⟨m2,e2⟩:=tbls b _ e1;exact⟨m1++m2,by rw[e2,sdp]⟩
 .obtain⟨m,hn,hl⟩:=I.loc
  refine⟨m,ns m hn,fun i x v e1 e2 e3=>?_⟩;obtain⟨u,r,l⟩:=hl i x v e1 e2 e3;refine⟨u,r,?_⟩;rcases l with l | ⟨k,c,e,z⟩
  .exact .inl l
  .exact .inr ⟨k,c,e,cellK x c e _ z⟩
 .obtain⟨v,z⟩:=I.cell x c e
  exact⟨v,cellK x c e v z⟩
 .obtain⟨m,⟨o,_,_,ho,_⟩,_⟩:=I.loc
  exact free _ o (fun z=>(hch _ z).2.1 rfl) ho I.free
 .obtain⟨v,o,ho,hd⟩:=I.cell x c e
  exact free c o (fun z=>(hch c z).2.2.1 x c e rfl) ho (I.freeC x c e)
 .obtain⟨e,n,ne,nf,d⟩:=I.pin p hp
  have nch:p.1∉ch:=fun z=>(hch p.1 z).2.2.2 p hp rfl;exact⟨keep p.1 p.2 ne nf nch e n,free p.1 p.2 nch e n,ne,nf,d⟩
theorem Inv.un {t':Nat}(I:Inv X pins σ H s)(u:Un X.fs [] H H' s.heap h')(hok:HOk X.prog X.w H' h'):Inv X pins σ H' { s with heap:=h',toks:=t' }:=by
 obtain⟨m,⟨o,es,ep,ho,r⟩,_⟩:=id I.loc;obtain⟨sl,hL⟩:=u.any ho I.free (by simp);exact I.step (g':=s.gens) (d':=s.drawn) (ch:=[]) (fun _ z=>nomatch z) (fun b o _ hb _ e n=>u.keep b o e n hb (by simp)) (fun b o _ hb _ e n=>u.slot b o e n hb (by simp)) (fun b o _ e n=>u.free b o e n (by simp)) (fun b o _ e=>u.there b o e (by simp)) u.tups u.frzs u.tbls (fun m' hm=>by
  obtain⟨o',es',ep',ho',r'⟩:=hm;rw[ho] at ho';cases ho';exact⟨_,es',ep',hL,r'⟩) hok I.bare
theorem Inv.call {g':Array GenState}{t':Nat}{d':Drawn}{ch:List Addr}(I:Inv X pins σ H s)(u:Un (frs X.stack) ch H H' s.heap h')(hok:HOk X.prog X.w H' h')(hg:AllBare g')
  (hch:∀ b∈ch,(b∈X.ex∨X.sk.heap.objs.size<=b)/\b≠X.env.locals/\(∀ x c,X.env.cells.lookup x=some c->c≠b)/\∀ p∈X.pn++pins,p.1≠b) :
  Inv X pins σ H' { s with heap:=h',gens:=g',drawn:=d',toks:=t' }:=by
 obtain⟨m,⟨o,es,ep,ho,r⟩,_⟩:=id I.loc;obtain⟨sl,hL⟩:=u.any ho I.free fun z=>(hch _ z).2.1 rfl;exact I.step (ch:=ch) hch (fun b o hL hb hc e n=>u.keep b o e n (fun z=>(sas.mp (I.stkSub b z)).elim hL hb) hc) (fun b o _ _ hc e n=>u.any e n hc) (fun b o hc e n=>u.free b o e n hc) (fun b o hc e=>u.there b o e hc) u.tups u.frzs u.tbls (fun m' hm=>by
  obtain⟨o',es',ep',ho',r'⟩:=hm;rw[ho] at ho';cases ho';exact⟨_,es',ep',hL,r'⟩) hok hg
theorem Inv.turned {t':Nat}{it:Addr}(I:Inv X pins σ H s)(k:∀ b o,b≠it->s.heap.get? b=some o->h'.get? b=some o)(hn:H it=none)(hL:it≠X.env.locals)
  (h1:it∈X.ex∨X.sk.heap.objs.size<=it)(h2:∀ x c,X.env.cells.lookup x=some c->c≠it)(h3:∀ p∈X.pn++pins,p.1≠it):Inv X pins σ H { s with heap:=h',toks:=t' }:=by
 have nit:∀ b u,H b=some u->b≠it:=fun b u e z=>by rw[z,hn] at e;cases e
 refine I.step (g':=s.gens) (d':=s.drawn) (ch:=[it]) (fun b hb=>?_) (fun b o _ _ hc e _=>k b o (fun z=>hc (by simp [z])) e) (fun b o _ _ hc e _=>⟨o.slots,k b o (fun z=>hc (by simp [z])) e⟩) (fun _ _ _ _ n=>n)
  (fun b o hc e=>⟨o,k b o (fun z=>hc (by simp [z])) e⟩) (fun _ _ e=>e) (fun _ _ _ e=>e) (fun b ps e=>⟨#[],by rw[e];simp⟩) (fun m hm=>?_) (fun b u e=>?_) I.bare
 .have e:b=it:=by simpa using hb
  subst e;exact⟨h1,hL,h2,h3⟩
 .obtain⟨o,es,ep,ho,r⟩:=hm
  exact⟨o,es,ep,k _ o (saW hL) ho,r⟩
 .refine(I.hok b u e).stay (fun c v hc q=>k c v ?_ q) (fun _ q=>q) fun _ _ q=>q
  rcases hc with z | z
  .rw[z];exact nit b u e
  .exact nit c _ z
theorem Inv.tok (I:Inv X pins σ H s)(t:Nat):Inv X pins σ H { s with toks:=t }:=I.un (h':=s.heap) (t':=t) Un.refl I.hok
theorem Inv.kept {t':Nat}(I:Inv X pins σ H s)(k:∀ b u,s.heap.get? b=some u->h'.get? b=some u):Inv X pins σ H { s with heap:=h',toks:=t' }:=I.un (Un.kept k) (I.hok.kept k)
theorem Inv.laid {a:Addr}{o:HO}{t':Nat}(I:Inv X pins σ H s)(k:∀ b u,s.heap.get? b=some u->h'.get? b=some u)(hp:s.heap.objs.size<=a)(new:zcg X.prog X.w (upd H a o) h' a o) :
  Inv X pins σ (upd H a o) { s with heap:=h',toks:=t' }:=I.un (Un.laid k hp (I.hok.fresh hp)) (I.hok.laid k hp new)
theorem Inv.write {x e:Addr}{o:HO}{t':Nat}(I:Inv X pins σ H s)(mu:Mut (H x))(he:e=x∨H e=some (.own x))(k:∀ b u,b≠e->s.heap.get? b=some u->h'.get? b=some u)(heo:∃ u,h'.get? e=some u)
  (new:zcg X.prog X.w (upd H x o) h' x o):Inv X pins σ (upd H x o) { s with heap:=h',toks:=t' }:=I.un (Un.write mu he k heo) (I.hok.write mu he k heo new)
theorem Inv.pins_of {pins':List (Addr×Obj)}(I:Inv X pins σ H s)(h:∀ p∈pins',s.heap.get? p.1=some p.2/\H p.1=none/\p.1≠X.env.locals/\p.1∉X.fs/\∀ v,p.2.data≠.cell v):Inv X pins' σ H s :=
 ⟨I.ok,I.os,I.bare,I.base,I.loc,I.cell,I.free,I.freeC,fun p hp=>(saQ.mp hp).elim (fun z=>I.pin p (List.mem_append_left _ z)) (h p),I.hok,I.len⟩
theorem zod {N:List Str}(hN:N.Nodup){i j:Nat}{x:Str}(a:N[i]?=some x)(b:N[j]?=some x):i=j:=by
 obtain⟨h1,e1⟩:=sad.mp a;obtain⟨h2,e2⟩:=sad.mp b;exact(sc3 hN).mp (e1.trans e2.symm)
theorem zpv {M:Model}{A:Around}{E:Value->Shared->Prop}{i:Nat}{x:Str}{v:V}{u:Value}{Q:Unit->Shared->Prop}(I:Inv X pins σ H s)(hN:X.N.Nodup)(hi:X.N[i]?=some x)(hx:Loc X.env.scope x)(r:zcj v u)
  (h:∀ s',Inv X pins (σ.set i (some v)) H s'->(∃ a,sbN a s.heap s'.heap/\(a=X.env.locals∨X.env.cells.lookup x=some a))->Q () s')(hf:X.fn x=true∨X.env.scope.names.lookup x=some .local := by first | exact .inl rfl | exact .inr rfl | assumption):wpAny M A (storeName X.env x u) Q E s:=by
 obtain⟨m,hn,hl⟩:=id I.loc;have hcls:(X.env.scope.kind==.class||(X.env.scope.kind==.module&&X.env.locals != X.env.globals))=false:=by rw[I.ok.kind];rfl
 have hiσ:i < σ.length:=by rw[I.len];exact(sad.mp hi).1
 have cne:=I.cne;have tracked:∀ {a:Addr}{h':Heap},(∃ o,s.heap.get? a=some o/\H a=none)->sbN a s.heap h'->HOk X.prog X.w H h':=fun {a h'} ha hs b ob e=>by
  obtain⟨_,_,hfree⟩:=ha;refine(I.hok b ob e).stay (fun c w' hc q=>(hs.2 c ?_).trans q) (fun _ q=>q) fun _ _ q=>q;rintro rfl;rcases hc with rfl | hc
  .rw[hfree] at e;cases e
  .rw[hfree] at hc;cases hc
 rcases hx with hk | hk
 .refine wpAny_storeName_local hk hn (fun h' hn' hs=>?_) hcls
  obtain⟨oL,_,_,hoL,_⟩:=id hn;refine h _ ⟨I.ok,I.os,I.bare,⟨fun b o e n hb hx=>?_,fun b o e n hb hx=>?_,I.base.free,fun b o e hx=>?_,I.base.tups,I.base.frzs,I.base.tbls⟩,⟨_,hn',fun j y v' e1 e2 e3=>?_⟩,fun y c e=>?_,I.free,I.freeC,fun p hp=>?_,tracked ⟨oL,hoL,I.free⟩ hs,by simpa using I.len⟩ ⟨_,hs,.inl rfl⟩
  .exact(hs.2 b (saB (saf (sam e) I.ok.above))).trans (I.base.keep b o e n hb hx)
  .obtain⟨sl,e1⟩:=I.base.slot b o e n hb hx
   exact⟨sl,(hs.2 b (saB (saf (sam e) I.ok.above))).trans e1⟩
  .obtain⟨o',e1⟩:=I.base.there b o e hx
   exact⟨o',(hs.2 b (saB (saf (sam e) I.ok.above))).trans e1⟩
  .by_cases hj:j=i
   .subst hj
    rw[hi] at e1;cases e1;rw[saO hiσ] at e2;cases e2;exact⟨u,r,.inl ⟨hk,by simp⟩⟩
   .rw[sao (saW hj)] at e2
    obtain⟨u',r',q⟩:=hl j y v' e1 e2 e3;refine⟨u',r',?_⟩;rcases q with⟨k,e⟩ | ⟨k,c,e,z⟩
    .refine .inl ⟨k,?_⟩
     have:y≠x:=fun e=>hj (zod hN e1 (e▸hi));simp [this,e]
    .exact .inr ⟨k,c,e,z.sameBut hs (cne y c e)⟩
  .obtain⟨w',z⟩:=I.cell y c e
   exact⟨w',z.sameBut hs (cne y c e)⟩
  .obtain⟨e,n,ne,nf,d⟩:=I.pin p hp
   exact⟨(hs.2 p.1 ne).trans e,n,ne,nf,d⟩
 .have hfn:X.fn x=true:=by
   rcases hf with z | z
   .exact z
   .rw[z] at hk;cases hk
  obtain⟨c,hc⟩:=I.ok.has x (.inl hk);obtain⟨w',z⟩:=I.cell x c hc;refine wpAny_storeName_cell I.ok.kind hk hc z (fun h' hc' hs=>?_);obtain⟨oc,hoc,hocd⟩:=id z;refine h { s with heap:=h' } ⟨I.ok,I.os,I.bare,⟨fun b o e n hb hx=>?_,fun b o e n hb hx=>?_,I.base.free,fun b o e hx=>?_,I.base.tups,I.base.frzs,I.base.tbls⟩,⟨m,hn.sameBut hs (saW (cne x c hc)),fun j y v' e1 e2 e3=>?_⟩,fun y c' e=>?_,I.free,I.freeC,fun p hp=>?_,tracked ⟨oc,hoc,I.freeC x c hc⟩ hs,by simpa using I.len⟩ ⟨c,hs,.inr hc⟩
  .exact(hs.2 b (saB (saf (sam e) (I.ok.cab x c hfn hc)))).trans (I.base.keep b o e n hb hx)
  .obtain⟨sl,e1⟩:=I.base.slot b o e n hb hx
   exact⟨sl,(hs.2 b (saB (saf (sam e) (I.ok.cab x c hfn hc)))).trans e1⟩
  .obtain⟨o',e1⟩:=I.base.there b o e hx
   exact⟨o',(hs.2 b (saB (saf (sam e) (I.ok.cab x c hfn hc)))).trans e1⟩
  .by_cases hj:j=i
   .subst hj
    rw[hi] at e1;cases e1;rw[saO hiσ] at e2;cases e2;exact⟨u,r,.inr ⟨.inl hk,c,hc,hc'⟩⟩
   .rw[sao (saW hj)] at e2
    obtain⟨u',r',q⟩:=hl j y v' e1 e2 e3;refine⟨u',r',?_⟩;rcases q with q | ⟨k,c',e,z'⟩
    .exact .inl q
    .refine .inr ⟨k,c',e,z'.sameBut hs ?_⟩
     rintro rfl;exact hj (zod hN e1 (I.ok.inj _ _ _ e hc▸hi))
  .by_cases hcc:c'=c
   .subst hcc;exact⟨_,hc'⟩
   .obtain⟨w2,z2⟩:=I.cell y c' e
    exact⟨w2,z2.sameBut hs hcc⟩
  .obtain⟨e,n,ne,nf,d⟩:=I.pin p hp
   refine⟨(hs.2 p.1 ?_).trans e,n,ne,nf,d⟩;intro q;rw[q,hoc] at e;have q':oc=p.2:=saN e;exact d w' (by rw[← q'];exact hocd)
theorem zhc {M:Model}{A:Around}{E:Value->Shared->Prop}{i:Nat}{x:Str}{v:V}{u:Value}{Q:Unit->Shared->Prop}(I:Inv X pins σ H s)(hN:X.N.Nodup)(hi:X.N[i]?=some x)(hx:Loc X.env.scope x)(r:zcj v u)
  (h:∀ s',Inv X pins (σ.set i (some v)) H s'->Q () s')(hf:X.fn x=true∨X.env.scope.names.lookup x=some .local := by first | exact .inl rfl | exact .inr rfl | assumption):wpAny M A (storeName X.env x u) Q E s :=
 zpv I hN hi hx r (fun s' I' _=>h s' I') hf
theorem Inv.call' {s':Shared}{ch:List Addr}(I:Inv X pins σ H s)(ho:s'.os=s.os)(u:Un (frs X.stack) ch H H' s.heap s'.heap)(hok:HOk X.prog X.w H' s'.heap)(hg:AllBare s'.gens)
  (hch:∀ b∈ch,(b∈X.ex∨X.sk.heap.objs.size<=b)/\b≠X.env.locals/\(∀ x c,X.env.cells.lookup x=some c->c≠b)/\∀ p∈X.pn++pins,p.1≠b):Inv X pins σ H' s':=by
 obtain⟨h',g',d',t',o'⟩:=s';have e:o'=s.os:=ho;subst e;exact I.call (g':=g') (t':=t') (d':=d') u hok hg hch
end
abbrev XK:=Value->Option Addr->Hp->Prop
abbrev St:=List (Option V)
abbrev VK:=V->Hp->Prop
abbrev TE:=St->Hp->VK->Prop
abbrev TT:=St->Hp->(Bool->Hp->Prop)->Prop
abbrev TA:=St->Hp->(List V->Hp->Prop)->Prop
structure zmH where
 nx:St->Hp->Prop
 rt:VK
 bk:St->Hp->Prop:=fun _ _=>False
 ct:St->Hp->Prop:=fun _ _=>False
abbrev TS:=zmH->St->Hp->Prop
def EP (X:Cx)(pins:List (Addr×Obj))(σ:St)(Q:VK)(u:Value)(s':Shared):Prop:=∃ v H',Inv X pins σ H' s'/\zcj v u/\Q v H'
def TP (X:Cx)(pins:List (Addr×Obj))(σ:St)(Q:Bool->Hp->Prop)(b:Bool)(s':Shared):Prop:=∃ H',Inv X pins σ H' s'/\Q b H'
def AP (X:Cx)(pins:List (Addr×Obj))(σ:St)(Q:List V->Hp->Prop)(us:List Value)(s':Shared):Prop:=∃ vs H',Inv X pins σ H' s'/\zbM vs us/\Q vs H'
noncomputable def SP (X:Cx) (pins:List (Addr×Obj)) (D:zmH) (f:Flow) (s':Shared):Prop :=
 match f with
 | .next=>∃ σ' H',Inv X pins σ' H' s'/\D.nx σ' H'
 | .brk=>∃ σ' H',Inv X pins σ' H' s'/\D.bk σ' H'
 | .cont=>∃ σ' H',Inv X pins σ' H' s'/\D.ct σ' H'
 | .ret u=>∃ v σ' H',Inv X pins σ' H' s'/\zcj v u/\D.rt v H'
def PE (X:Cx)(e:Expr)(t:TE):Prop :=
 ∀ (pins:List (Addr×Obj)) (s:Shared) (σ:St) (H:Hp) (Q:VK),Inv X pins σ H s->t σ H Q->wpAny (model X.prog X.w) X.A (eval e X.env) (EP X pins σ Q) X.xe s
def PT (X:Cx)(e:Expr)(t:TT):Prop :=
 ∀ (pins:List (Addr×Obj)) (s:Shared) (σ:St) (H:Hp) (Q:Bool->Hp->Prop),Inv X pins σ H s->t σ H Q->wpAny (model X.prog X.w) X.A (isTrue e X.env (eval e X.env)) (TP X pins σ Q) X.xe s
def PW (X:Cx)(e:Expr)(t:TT):Prop :=
 ∀ (whole:Sem Value) (pins:List (Addr×Obj)) (s:Shared) (σ:St) (H:Hp) (Q:Bool->Hp->Prop),Inv X pins σ H s->t σ H Q->wpAny (model X.prog X.w) X.A (isTrue e X.env whole) (TP X pins σ Q) X.xe s
theorem PW.pt {X:Cx}{e:Expr}{t:TT}(h:PW X e t):PT X e t:=h _
noncomputable def PA (X:Cx) (es:List Expr) (t:TA):Prop :=
 ∀ (pos:Pos) (pins:List (Addr×Obj)) (s:Shared) (σ:St) (H:Hp) (Q:List V->Hp->Prop),Inv X pins σ H s->t σ H Q->wpAny (model X.prog X.w) X.A (spliced (backTo pos (starEach es X.env))) (AP X pins σ Q) X.xe s
def PS (X:Cx)(st:Stmt)(t:TS):Prop :=
 ∀ (pins:List (Addr×Obj)) (s:Shared) (σ:St) (H:Hp) (D:zmH),Inv X pins σ H s->t D σ H->wpAny (model X.prog X.w) X.A (exec st X.env) (SP X pins D) X.xe s
def PSs (X:Cx)(st:List Stmt)(t:TS):Prop :=
 ∀ (pins:List (Addr×Obj)) (s:Shared) (σ:St) (H:Hp) (D:zmH),Inv X pins σ H s->t D σ H->wpAny (model X.prog X.w) X.A (execs st X.env) (SP X pins D) X.xe s
theorem thn {α:Type}{t:Sem α}{Q Q':α->Shared->Prop}{M:Model}{A:Around}{E:Value->Shared->Prop}{s:Shared}(h:wpAny M A t Q E s)(hQ:∀ a s,Q a s->Q' a s):wpAny M A t Q' E s:=sbe h hQ fun _ _ x=>x
section
variable {X:Cx}
theorem bin {a b:Expr}{ta tb:TE}(ha:PE X a ta)(hb:PE X b tb){pins:List (Addr×Obj)}{s:Shared}{σ:St}{H:Hp}{R:V->V->Hp->Prop}(I:Inv X pins σ H s)(h:ta σ H fun x H1=>tb σ H1 fun y H2=>R x y H2)
  {α:Type}{Q:α->Shared->Prop}{f:Value->Value->Sem α}
  (hf:∀ v u s2 x y H2,Inv X pins σ H2 s2->zcj x v->zcj y u->R x y H2->wpAny (model X.prog X.w) X.A (f v u) Q X.xe s2) :
  wpAny (model X.prog X.w) X.A (eval a X.env) (fun v si=>wpAny (model X.prog X.w) X.A (eval b X.env) (fun u sf=>wpAny (model X.prog X.w) X.A (f v u) Q X.xe sf) X.xe si) X.xe s:=by
 refine thn (ha pins s σ H _ I h) fun v s1 ⟨x,H1,I1,r1,q1⟩=>?_;refine thn (hb pins s1 σ H1 _ I1 q1) fun u s2 ⟨y,H2,I2,r2,q2⟩=>?_;exact hf v u s2 x y H2 I2 r1 r2 q2
def zGq (i:Nat):TE:=fun σ H Q=>∃ v,σ[i]?=some (some v)/\Q v H
def tC (v:V):TE:=fun _ H Q=>Q v H
theorem zk0 {i:Nat}{x:Str}{pos:Pos}(hN:X.N[i]?=some x)(hv:Vis X.env.scope x)(hd:(x==("__debug__" : Str))=false:=by decide)(hcd:(x==("__classdict__" : Str))=false:=by decide):PE X (.Name x pos) (zGq i):=by
 intro pins s σ H Q I h;obtain⟨v,e,h⟩:=h;obtain⟨m,hn,hl⟩:=I.loc;obtain⟨u,r,l⟩:=hl i x v hN e hv;have fin:EP X pins σ Q u s:=⟨v,H,I,r,h⟩
 rcases l with⟨hk,hm⟩ | ⟨hk,c,hc,hcell⟩
 .exact wpAny_Name (wpAny_loadName_local I.ok.kind hk hn hm fin) hd
 .rcases hk with hk | hk
  .exact wpAny_Name (wpAny_loadName_cell I.ok.kind hk hc hcell fin) hd
  .exact wpAny_Name (wpAny_loadName_free I.ok.kind hk hc hcell fin hcd) hd
theorem zzM {i j pos}:PE X (.Constant (.int i) j pos) (tC (.int i)):=fun _ _ _ H _ I h=>wpAny_Constant_int ⟨.int i,H,I.tok _,⟨_,rfl⟩,h⟩
theorem zFr {b j pos}:PE X (.Constant (.bool b) j pos) (tC (.bl b)):=fun _ _ _ H _ I h=>Constant_bool ⟨.bl b,H,I,rfl,h⟩
theorem zDg {j pos}:PE X (.Constant .none j pos) (tC .non):=fun _ _ _ H _ I h=>Constant_none ⟨.non,H,I,rfl,h⟩
theorem zDc {x j pos}:PE X (.Constant (.str x) j pos) (tC (.str x)):=fun _ _ _ H _ I h=>Calls.Constant_str ⟨.str x,H,I.tok _,⟨_,rfl⟩,h⟩
def Gl (X:Cx)(x:Str):Prop:=X.env.kindOf x=some .globalImplicit
theorem zjl {E:Value->Shared->Prop}{pins:List (Addr×Obj)}{s:Shared}{σ:St}{H:Hp}{x:Str}{u:Value}{pos:Pos}{Q:Value->Shared->Prop}(I:Inv X pins σ H s)(hg:Gl X x)(hm:X.mg x=some u)(h:Q u s)
  (hd:(x==("__debug__" : Str))=false:=by decide):wpAny (model X.prog X.w) X.A (eval (.Name x pos) X.env) Q E s :=
 Calls.Name_function_global I.ok.kind hg (Calls.loadGlobal_global (by rw[I.ok.glob];exact I.mod.glob.keeps I.bk) hm h) hd
theorem zjV {E:Value->Shared->Prop}{pins:List (Addr×Obj)}{s:Shared}{σ:St}{H:Hp}{x:Str}{u:Value}{pos:Pos}{Q:Value->Shared->Prop}(I:Inv X pins σ H s)(hg:Gl X x)(hm:X.mg x=none)(hv:bootBuiltins x=some u)(h:Q u s)
  (hn:x≠"__name__":=by decide)(hd:(x==("__debug__" : Str))=false:=by decide):wpAny (model X.prog X.w) X.A (eval (.Name x pos) X.env) Q E s:=by
 obtain⟨mb,h1,h2⟩:=I.mod.blt;exact Calls.Name_function_global I.ok.kind hg (Calls.loadGlobal_builtin (by rw[I.ok.glob];exact I.mod.glob.keeps I.bk) hm (by rw[I.ok.blt];exact h1.keeps I.bk) ((h2 x hn).trans hv) h) hd
theorem zvn {x:Str}{v:V}{u:Value}{pos:Pos}(hg:Gl X x)(hm:X.mg x=some u)(r:zcj v u)(hd:(x==("__debug__" : Str))=false:=by decide):PE X (.Name x pos) (tC v) :=
 fun _ _ _ H _ I h=>zjl I hg hm ⟨v,H,I,r,h⟩ hd
theorem zvo {x:Str}{v:V}{u:Value}{pos:Pos}(hg:Gl X x)(hm:X.mg x=none)(hv:bootBuiltins x=some u)(r:zcj v u)(hn:x≠"__name__":=by decide)(hd:(x==("__debug__" : Str))=false:=by decide):PE X (.Name x pos) (tC v) :=
 fun _ _ _ H _ I h=>zjV I hg hm hv ⟨v,H,I,r,h⟩ hn hd
variable {a b:Expr}{ta tb:TE}{pos:Pos}
noncomputable def PC (X:Cx) (op:CmpOp) (a b:Expr) (t:TE):Prop :=
 ∀ (pins:List (Addr×Obj)) (s:Shared) (σ:St) (H:Hp) (Q:VK),Inv X pins σ H s->t σ H Q ->
  wpAny (model X.prog X.w) X.A (eval a X.env) (fun v si=>wpAny (model X.prog X.w) X.A (eval b X.env) (fun u sf=>wpAny (model X.prog X.w) X.A (compareOp op v u) (EP X pins σ Q) X.xe sf) X.xe si) X.xe s
theorem zsD (b:Expr){op:CmpOp}(h:op≠.In)(h2:op≠.NotIn):behindInMarks op b=false:=by
 have e1:(op==CmpOp.In)=false:=by cases op<;>first | rfl | exact absurd rfl h
 have e2:(op==CmpOp.NotIn)=false:=by cases op<;>first | rfl | exact absurd rfl h2
 cases b<;>simp [behindInMarks,e1,e2]
def tB (t:TE):TT:=fun σ H Q=>t σ H fun x H1=>∃ c,x=.bl c/\Q c H1
theorem zGb {op:CmpOp}{t:TE}(h:PC X op a b t)(h1:behindInMarks op b=false:=by first | exact zsD _ (by decide) (by decide) | rfl):PT X (.Compare a [op] [b] pos) (tB t):=by
 intro pins s σ H Q I hw;refine wpAny_isTrue_Compare1 (thn (h pins s σ H _ I hw) fun v s1 h1=>thn h1 fun u s2 h2=>thn h2 fun c s3 ⟨x,H1,I1,r1,q1⟩=>?_) h1;obtain⟨d,rfl,q⟩:=q1;cases r1;exact sa7 ⟨H1,I1,q⟩
theorem zC3 {e:Expr}{t:TE}(h:PE X e t)(he:∀ whole,isTrue e X.env whole=(do let v ← whole;standAt e.pos;holding [v] (truthy v)):=by intro _;rfl):PT X e (tB t):=by
 intro pins s σ H Q I hw;refine isTrue_plain (thn (h pins s σ H _ I hw) fun v s1 ⟨x,H1,I1,r1,q1⟩=>?_) (he _);obtain⟨d,rfl,q⟩:=q1;cases r1;exact sa7 ⟨H1,I1,q⟩
variable {tA tB':TT}{rest:List Expr}
def zGC (t u:TT):TT:=fun σ H Q=>t σ H fun c H1=>if c=true then u σ H1 Q else Q false H1
def tOr (t u:TT):TT:=fun σ H Q=>t σ H fun c H1=>if c=true then Q true H1 else u σ H1 Q
def zGx (t:TT):TT:=fun σ H Q=>t σ H fun c H1=>Q (!c) H1
theorem zAE (ha:PT X a tA):PW X (.BoolOp .And [a] pos) tA:=by
 intro wh pins s σ H Q I h;refine isTrue_and (thn (ha pins s σ H Q I h) fun c s1 e=>?_);cases c with
 | true=>exact isTrue_and_nil e
 | false=>exact e
theorem zC0 (ha:PT X a tA):PW X (.BoolOp .Or [a] pos) tA:=by
 intro wh pins s σ H Q I h;refine isTrue_or (thn (ha pins s σ H Q I h) fun c s1 e=>?_);cases c with
 | false=>exact isTrue_or_nil e
 | true=>exact e
theorem zC1 (ha:PT X a tA)(hb:PW X (.BoolOp .And (b::rest) pos) tB'):PW X (.BoolOp .And (a::b::rest) pos) (zGC tA tB'):=by
 intro wh pins s σ H Q I h;refine isTrue_and (thn (ha pins s σ H _ I h) fun c s1 ⟨H1,I1,q1⟩=>?_);cases c with
 | true=>exact hb wh pins s1 σ H1 Q I1 q1
 | false=>exact⟨H1,I1,q1⟩
theorem zFj (ha:PT X a tA)(hb:PW X (.BoolOp .Or (b::rest) pos) tB'):PW X (.BoolOp .Or (a::b::rest) pos) (tOr tA tB'):=by
 intro wh pins s σ H Q I h;refine isTrue_or (thn (ha pins s σ H _ I h) fun c s1 ⟨H1,I1,q1⟩=>?_);cases c with
 | true=>exact⟨H1,I1,q1⟩
 | false=>exact hb wh pins s1 σ H1 Q I1 q1
theorem zC4 (ha:PT X a tA):PT X (.UnaryOp .Not a pos) (zGx tA):=by
 intro pins s σ H Q I h;exact isTrue_not (ha pins s σ H (fun c H1=>Q (!c) H1) I h)
def zE9 (ta tb:TE):TE:=fun σ H Q=>ta σ H fun x H1=>∃ c,x=.bl c/\if c=true then tb σ H1 Q else Q (.bl false) H1
def zGw (ta tb:TE):TE:=fun σ H Q=>ta σ H fun x H1=>∃ c,x=.bl c/\if c=true then Q (.bl true) H1 else tb σ H1 Q
def zE1 (ta:TE):TE:=fun σ H Q=>ta σ H fun x H1=>∃ c,x=.bl c/\Q (.bl (!c)) H1
theorem zDe {op}{t:TE}(h:PE X a t):PE X (.BoolOp op [a] pos) t:=fun pins s σ H Q I hw=>BoolOp_one (h pins s σ H Q I hw)
theorem zDi (ha:PE X a ta)(hb:PE X (.BoolOp .And (b::rest) pos) tb):PE X (.BoolOp .And (a::b::rest) pos) (zE9 ta tb):=by
 intro pins s σ H Q I h;refine BoolOp_and (thn (ha pins s σ H _ I h) fun v s1 ⟨x,H1,I1,r1,q1⟩=>?_);obtain⟨c,rfl,q1⟩:=q1;cases r1;refine sa7 ?_;cases c with
 | true=>exact hb pins s1 σ H1 Q I1 q1
 | false=>exact⟨.bl false,H1,I1,rfl,q1⟩
theorem zFp (ha:PE X a ta)(hb:PE X (.BoolOp .Or (b::rest) pos) tb):PE X (.BoolOp .Or (a::b::rest) pos) (zGw ta tb):=by
 intro pins s σ H Q I h;refine BoolOp_or (thn (ha pins s σ H _ I h) fun v s1 ⟨x,H1,I1,r1,q1⟩=>?_);obtain⟨c,rfl,q1⟩:=q1;cases r1;refine sa7 ?_;cases c with
 | false=>exact hb pins s1 σ H1 Q I1 q1
 | true=>exact⟨.bl true,H1,I1,rfl,q1⟩
theorem zDf (ha:PE X a ta):PE X (.UnaryOp .Not a pos) (zE1 ta):=by
 intro pins s σ H Q I h;refine UnaryOp_ (thn (ha pins s σ H _ I h) fun v s1 ⟨x,H1,I1,r1,q1⟩=>?_);obtain⟨c,rfl,q1⟩:=q1;cases r1;exact not_of (sa7 ⟨.bl (!c),H1,I1,rfl,q1⟩)
def tIf (t:TT)(ta tb:TE):TE:=fun σ H Q=>t σ H fun c H1=>if c=true then ta σ H1 Q else tb σ H1 Q
theorem zyK {c:Expr}(hc:PT X c tA)(ha:PE X a ta)(hb:PE X b tb):PE X (.IfExp c a b pos) (tIf tA ta tb):=by
 intro pins s σ H Q I h;refine wpAny_IfExp (thn (hc pins s σ H _ I h) fun d s1 ⟨H1,I1,q1⟩=>?_);cases d with
 | true=>exact ha pins s1 σ H1 Q I1 q1
 | false=>exact hb pins s1 σ H1 Q I1 q1
end
noncomputable def SqL (K:saj) (H:Hp) (a:Addr) (xs:List V):Prop :=
 Rd H a (.lst xs) ∨
  ∃ (o:Obj) (its:Array Value) (n:Nat),K.lookup a=some o/\o.cls=.type "list"/\o.dict=none/\o.data=.seq its n/\its.size<=sizeLine/\zbM xs its.toList
def SqT (K:saj)(H:Hp)(a:Addr)(xs:List V):Prop :=
 Rd H a (.tup xs) ∨
  ∃ (o:Obj) (its:Array Value) (n:Nat),K.lookup a=some o/\o.cls=.type "tuple"/\o.data=.seq its n/\its.size<=sizeLine/\zbM xs its.toList
noncomputable def zGU:Value->Option V
 | .none=>some .non
 | .bool b=>some (.bl b)
 | .int i _=>some (.int i)
 | .str x _=>some (.str x)
 | .bytes b _=>some (.byt b)
 | .float b _=>some (.flt b)
 | .ref a=>some (.ref a)
 | .type n=>some (.ty n)
 | _=>none
theorem zcj.abs {x:V}{u:Value}(r:zcj x u):zGU u=some x:=by
 cases x with
 | non=>cases r;rfl
 | bl _=>cases r;rfl
 | int _=>obtain⟨t,rfl⟩:=r;rfl
 | str _=>obtain⟨t,rfl⟩:=r;rfl
 | byt _=>obtain⟨t,rfl⟩:=r;rfl
 | flt _=>obtain⟨t,rfl⟩:=r;rfl
 | ref _=>cases r;rfl
 | ty _=>cases r;rfl
theorem zcj.inj {x y:V}{u:Value}(r:zcj x u)(q:zcj y u):x=y:=saN (r.abs.symm.trans q.abs)
theorem zbM.inj:∀ {xs ys:List V}{us:List Value},zbM xs us->zbM ys us->xs=ys
 | _,_,_,.nil,.nil=>rfl
 | _,_,_,.cons r t,.cons r' t'=>by rw[r.inj r',zbM.inj t t']
section
variable {X:Cx}{pins:List (Addr×Obj)}{σ:St}{H:Hp}{s:Shared}{a:Addr}{xs ys:List V}
theorem SqL.of {K:saj}(h:H a=some (.lst xs)):SqL K H a xs:=.inl (.inl h)
theorem SqT.of {K:saj}(h:H a=some (.tup xs)):SqT K H a xs:=.inl (.inl h)
theorem Inv.list (I:Inv X pins σ H s)(h:SqL X.K H a xs):∃ its:List Value,zbM xs its/\PlainL s.heap a its.toArray/\xs.length<=sizeLine:=by
 rcases h with h | ⟨o,its,n,hk,hc,hd,hs,hz,r⟩
 .obtain⟨z,its,n,r,e⟩:=h.ok I.hok
  exact⟨its,r,⟨_,n,e,rfl,rfl,rfl⟩,z⟩
 .refine⟨its.toList,r,⟨o,n,I.kIn a o hk,hc,hd,by simpa using hs⟩,?_⟩
  have e:=r.length;simp only[scG] at e;omega
theorem Inv.tuple (I:Inv X pins σ H s)(h:SqT X.K H a xs):∃ its:List Value,zbM xs its/\IsTup s.heap a its.toArray/\xs.length<=sizeLine:=by
 rcases h with h | ⟨o,its,n,hk,hc,hs,hz,r⟩
 .obtain⟨z,its,r,p⟩:=h.ok I.hok
  exact⟨its,r,p,z⟩
 .refine⟨its.toList,r,⟨o,I.kIn a o hk,hc,n,by simpa using hs⟩,?_⟩
  have e:=r.length;simp only[scG] at e;omega
theorem Inv.list_inj (I:Inv X pins σ H s)(h:SqL X.K H a xs)(h':SqL X.K H a ys):xs=ys:=by
 obtain⟨its,r,⟨o,n,e,_,_,d⟩,_⟩:=I.list h;obtain⟨its',r',⟨o',n',e',_,_,d'⟩,_⟩:=I.list h';rw[e] at e';cases e';rw[d] at d';injection d' with d1 _;have:its=its':=by simpa using congrArg Array.toList d1
 subst this;exact r.inj r'
theorem Inv.tuple_inj (I:Inv X pins σ H s)(h:SqT X.K H a xs)(h':SqT X.K H a ys):xs=ys:=by
 obtain⟨its,r,⟨o,e,_,n,d⟩,_⟩:=I.tuple h;obtain⟨its',r',⟨o',e',_,n',d'⟩,_⟩:=I.tuple h';rw[e] at e';cases e';rw[d] at d';injection d' with d1 _;have:its=its':=by simpa using congrArg Array.toList d1
 subst this;exact r.inj r'
end
abbrev Cx.wish (X:Cx)(E:Value->Shared->Prop):Cx:={ X with xe:=E }
abbrev Cx.nox (X:Cx):Cx:=X.wish fun _ _=>False
theorem Cx.Ok.wish {X:Cx}(ok:X.Ok)(E:Value->Shared->Prop):(X.wish E).Ok :=
 ⟨ok.mod,ok.kind,ok.glob,ok.blt,ok.above,ok.inj,ok.has,ok.cab,ok.hd,ok.frames,ok.stk,ok.exf,ok.bs,ok.bsz,ok.noex,ok.exfs,ok.funs,ok.frf⟩
theorem Cx.Ok.unwish {X:Cx}{E:Value->Shared->Prop}(ok:(X.wish E).Ok):X.Ok :=
 ⟨ok.mod,ok.kind,ok.glob,ok.blt,ok.above,ok.inj,ok.has,ok.cab,ok.hd,ok.frames,ok.stk,ok.exf,ok.bs,ok.bsz,ok.noex,ok.exfs,ok.funs,ok.frf⟩
section
variable {X:Cx}{pins:List (Addr×Obj)}{σ:St}{H:Hp}{s:Shared}{E:Value->Shared->Prop}
theorem Inv.wish (I:Inv X pins σ H s)(E:Value->Shared->Prop):Inv (X.wish E) pins σ H s:=⟨I.ok.wish E,I.os,I.bare,I.base,I.loc,I.cell,I.free,I.freeC,I.pin,I.hok,I.len⟩
theorem Inv.unwish (I:Inv (X.wish E) pins σ H s):Inv X pins σ H s:=⟨I.ok.unwish,I.os,I.bare,I.base,I.loc,I.cell,I.free,I.freeC,I.pin,I.hok,I.len⟩
theorem SP.unwish {D:zmH}{f:Flow}{s':Shared}(h:SP (X.wish E) pins D f s'):SP X pins D f s':=by
 cases f with
 | next=>obtain⟨σ',H',I,q⟩:=h;exact⟨σ',H',I.unwish,q⟩
 | brk=>obtain⟨σ',H',I,q⟩:=h;exact⟨σ',H',I.unwish,q⟩
 | cont=>obtain⟨σ',H',I,q⟩:=h;exact⟨σ',H',I.unwish,q⟩
 | ret u=>obtain⟨v,σ',H',I,r,q⟩:=h;exact⟨v,σ',H',I.unwish,r,q⟩
theorem PSs.nox {st:List Stmt}{t:TS}(h:PSs X.nox st t):PSs X st t:=fun pins s σ H D I hw =>
 sbe (h pins s σ H D (I.wish _) hw) (fun _ _ q=>q.unwish) fun _ _ z=>sbg z
end
section
variable {X:Cx}{st:Stmt}{rest:List Stmt}{t u:TS}{e:Expr}{te:TE}{pos:Pos}
def zE2:TS:=fun D σ H=>D.nx σ H
def zGs (t u:TS):TS:=fun D σ H=>t { D with nx:=u D } σ H
theorem zve:PSs X [] zE2:=fun _ _ σ H _ I h=>wpAny_execs_nil ⟨σ,H,I,h⟩
theorem zn5 (h1:PS X st t)(h2:PSs X rest u):PSs X (st::rest) (zGs t u):=by
 intro pins s σ H D I h;refine wpAny_execs_cons (thn (h1 pins s σ H { D with nx:=u D } I h) fun f s1 q=>?_);cases f with
 | next =>
  obtain⟨σ',H',I',q⟩:=q;exact h2 pins s1 σ' H' D I' q
 | ret v=>exact q
 | brk=>exact q
 | cont=>exact q
theorem Inv.quiet {pins:List (Addr×Obj)}{σ:St}{H:Hp}{s:Shared}(I:Inv X pins σ H s):interactive X.env=false:=by simp [interactive,I.ok.kind]
def zE4 (te:TE):TS:=fun D σ H=>te σ H fun _ H1=>D.nx σ H1
theorem zqJ (he:PE X e te)(hs:swapsWith e none pos.line X.env=pure false:=by rfl):PS X (.Expr e pos) (zE4 te):=by
 intro pins s σ H D I h;exact wpAny_Expr_any (thn (he pins s σ H _ I h) fun v s1 ⟨x,H1,I1,r1,q1⟩=>⟨σ,H1,I1,q1⟩) I.quiet hs
def zGu (te:TE):TS:=fun D σ H=>te σ H D.rt
theorem zC5 (he:PE X e te):PS X (.Return (some e) pos) (zGu te):=by
 intro pins s σ H D I h;exact wpAny_Return_some (thn (he pins s σ H _ I h) fun v s1 ⟨x,H1,I1,r1,q1⟩=>⟨x,σ,H1,I1,r1,q1⟩)
def zGA (c:TT)(t u:TS):TS:=fun D σ H=>c σ H fun b H1=>if b=true then t D σ H1 else u D σ H1
theorem zFm {c:Expr}{a b:List Stmt}{tc:TT}(hc:PT X c tc)(ha:PSs X a t)(hb:PSs X b u):PS X (.If c a b pos) (zGA tc t u):=by
 intro pins s σ H D I h;refine wpAny_If (thn (hc pins s σ H _ I h) fun d s1 ⟨H1,I1,q1⟩=>?_);cases d with
 | true=>exact ha pins s1 σ H1 D I1 q1
 | false=>exact hb pins s1 σ H1 D I1 q1
def zCD:TS:=fun _ _ _=>False
theorem zyF:PS X st zCD:=fun _ _ _ _ _ _ h=>h.elim
end
abbrev TG:=V->St->Hp->(St->Hp->Prop)->Prop
abbrev TGs:=List V->St->Hp->(St->Hp->Prop)->Prop
noncomputable def PG (X:Cx) (target:Expr) (t:TG):Prop :=
 ∀ (pins:List (Addr×Obj)) (s:Shared) (σ:St) (H:Hp) (v:V) (u:Value) (Q:St->Hp->Prop),Inv X pins σ H s->zcj v u->t v σ H Q ->
  wpAny (model X.prog X.w) X.A (assign target X.env u) (fun _ s'=>∃ σ' H',Inv X pins σ' H' s'/\Q σ' H') X.xe s
noncomputable def PGs (X:Cx) (ts:List Expr) (t:TGs):Prop :=
 ∀ (pins:List (Addr×Obj)) (s:Shared) (σ:St) (H:Hp) (vs:List V) (us:List Value) (Q:St->Hp->Prop),Inv X pins σ H s->zbM vs us->t vs σ H Q ->
  wpAny (model X.prog X.w) X.A (assignInOrder ((assignEach ts X.env).map (·.2)) us) (fun _ s'=>∃ σ' H',Inv X pins σ' H' s'/\Q σ' H') X.xe s
abbrev zFW:=V->V->V->Hp->(Hp->Prop)->Prop
noncomputable def zGj (X:Cx) (t:zFW):Prop :=
 ∀ (pins:List (Addr×Obj)) (s:Shared) (σ:St) (H:Hp) (o i v:V) (ov iv u:Value) (Q:Hp->Prop),Inv X pins σ H s->zcj o ov->zcj i iv->zcj v u->t o i v H Q ->
  wpAny (model X.prog X.w) X.A (setItem ov iv u) (fun _ s'=>∃ H',Inv X pins σ H' s'/\Q H') X.xe s
section
variable {X:Cx}{pos:Pos}
def zBb (i:Nat):TG:=fun v σ H Q=>Q (σ.set i (some v)) H
theorem zvm {i:Nat}{x:Str}(hN:X.N.Nodup)(hi:X.N[i]?=some x)(hx:Loc X.env.scope x)(hf:X.fn x=true∨X.env.scope.names.lookup x=some .local := by first | exact .inl rfl | exact .inr rfl | assumption):PG X (.Name x pos) (zBb i):=by
 intro pins s σ H v u Q I r h;exact wpAny_assign_Name (zhc I hN hi hx r (fun s' I'=>⟨_,H,I',h⟩) hf)
def zGR:TGs:=fun vs σ H Q=>vs=[]/\Q σ H
def zFC (t:TG)(u:TGs):TGs:=fun vs σ H Q=>∃ v r,vs=v::r/\t v σ H fun σ' H'=>u r σ' H' Q
theorem zAM:PGs X [] zGR:=by
 intro pins s σ H vs us Q I r h;obtain⟨e,h⟩:=h;subst e;cases r;exact assignInOrder_nil ⟨σ,H,I,h⟩
theorem zyI {e:Expr}{es:List Expr}{t:TG}{u:TGs}(h1:PG X e t)(h2:PGs X es u)
  (hs:(assignEach (e::es) X.env).map (·.2)=assign e X.env::(assignEach es X.env).map (·.2):=by rfl):PGs X (e::es) (zFC t u):=by
 intro pins s σ H vs us Q I r h;obtain⟨v,vr,e1,h⟩:=h;subst e1;cases r with
 | cons r rr =>
  rw[hs];refine assignInOrder_cons (thn (h1 pins s σ H _ _ _ I r h) fun _ s1 ⟨σ1,H1,I1,q1⟩=>?_);exact h2 pins s1 σ1 H1 _ _ Q I1 rr q1
def zGP (K:saj)(n:Nat)(t:TGs):TG:=fun v σ H Q=>∃ a xs,v=.ref a/\SqT K H a xs/\xs.length=n/\t xs σ H Q
theorem zC9 {es:List Expr}{k:Nat}{t:TGs}{n:Nat}(hc:X.calm=true)(h:PGs X es t)
  (hn:(assignEach es X.env).length=n:=by rfl)(hst:(assignEach es X.env).findIdx? (·.1)=none:=by rfl):PG X (.Tuple es k pos) (zGP X.K n t):=by
 intro pins s σ H v u Q I r hw;obtain⟨a,xs,e1,hq,hl,hw⟩:=hw;subst e1;cases r;obtain⟨its,rv,ht,hz⟩:=I.tuple hq;refine assign_Tuple_tuple (I.ok.hd hc) ht (by simp [hn,← hl,rv.length]) hst fun h' hx=>?_;have I1:Inv X pins σ H { s with heap:=h' }:=I.kept (t':=s.toks) fun b o e=>hx b o (saB (sam e)) e;exact h pins _ σ H xs _ Q I1 (by simpa using rv) hw
def zGQ (to ti:TE)(t:zFW):TG:=fun v σ H Q=>to σ H fun o H1=>ti σ H1 fun i H2=>t o i v H2 fun H3=>Q σ H3
theorem zzK {o i:Expr}{to ti:TE}{t:zFW}(ho:PE X o to)(hi:PE X i ti)(hs:zGj X t)
  (ha:∀ v,assign (.Subscript o i pos) X.env v=(do
   let ov ← holding [v] (eval o X.env)
   let iv ← holding [v,ov] (eval i X.env)
   standAt pos
   holding [v,ov,iv] (setItem ov iv v)
   release [v,ov,iv] []):=by intro _;rfl):PG X (.Subscript o i pos) (zGQ to ti t):=by
 intro pins s σ H v u Q I r h;rw[ha];refine sae (sbd (thn (ho pins s σ H _ I h) fun ov s1 ⟨x,H1,I1,r1,q1⟩=>?_));refine sae (sbd (thn (hi pins s1 σ H1 _ I1 q1) fun iv s2 ⟨y,H2,I2,r2,q2⟩=>?_));refine sae (wpAny_standAt (sae (sbd (thn (hs pins s2 σ H2 x y v ov iv u _ I2 r1 r2 r q2) fun _ s3 ⟨H3,I3,q3⟩=>?_))));exact wpAny_release ⟨σ,H3,I3,q3⟩
def zE8 (te:TE)(g:TG):TS:=fun D σ H=>te σ H fun x H1=>g x σ H1 D.nx
theorem zsx {tg e:Expr}{te:TE}{g:TG}(he:PE X e te)(hg:PG X tg g)(hs:swapsWithSole [tg] e pos.line X.env=pure false:=by rfl)(hw:swappedStores [tg] e X.env=pure none:=by rfl)
  (h1:(assignEach [tg] X.env).map (·.2)=[assign tg X.env]:=by rfl):PS X (.Assign [tg] e pos) (zE8 te g):=by
 intro pins s σ H D I h;refine wpAny_Assign_stores (thn (he pins s σ H _ I h) fun v s1 ⟨x,H1,I1,r1,q1⟩=>?_) hs hw;rw[h1];exact thn (hg pins s1 σ H1 x v _ I1 r1 q1) fun _ s2 q=>q
theorem zvf {i:Nat}{x:Str}{e:Expr}{te:TE}{pos':Pos}(hN:X.N.Nodup)(hi:X.N[i]?=some x)(hx:Loc X.env.scope x)(he:PE X e te)(hs:swapsWith e (some (.Name x pos')) pos.line X.env=pure false:=by rfl)(hf:X.fn x=true∨X.env.scope.names.lookup x=some .local := by first | exact .inl rfl | exact .inr rfl | assumption) :
  PS X (.Assign [.Name x pos'] e pos) (zE8 te (zBb i)):=by
 intro pins s σ H D I h;refine wpAny_Assign_Name (thn (he pins s σ H _ I h) fun v s1 ⟨y,H1,I1,r1,q1⟩=>?_) hs;exact zhc I1 hN hi hx r1 (fun s2 I2=>⟨_,H1,I2,q1⟩) hf
def zGv (i j:Nat)(ta:TA):TS:=fun D σ H=>ta σ H fun vs H1=>∃ v w,vs=[v,w]/\D.nx ((σ.set i (some v)).set j (some w)) H1
theorem zC6 {i j:Nat}{x y:Str}{a b:Expr}{ta:TA}{px py pt:Pos}{kt k2 pt2}(hc:X.calm=true)(hN:X.N.Nodup)(hi:X.N[i]?=some x)(hj:X.N[j]?=some y)(hij:i≠j)
  (hx:X.env.scope.names.lookup x=some .local)(hy:X.env.scope.names.lookup y=some .local)(ha:PA X [a,b] ta)
  (hw:swappedStores [.Tuple [.Name x px,.Name y py] kt pt] (.Tuple [a,b] k2 pt2) X.env=pure (some [x,y]))
  (hs:swapsWithSole [.Tuple [.Name x px,.Name y py] kt pt] (.Tuple [a,b] k2 pt2) pos.line X.env=pure false:=by rfl) :
  PS X (.Assign [.Tuple [.Name x px,.Name y py] kt pt] (.Tuple [a,b] k2 pt2) pos) (zGv i j ta):=by
 intro pins s σ H D I h;rw[exec_Assign_arm];refine sae (wpAny_standAt ?_);rw[hs];refine sae (sau ?_);rw[if_neg (by decide)];refine sae (Tuple_ (thn (ha _ pins s σ H _ I h) fun us s1 ⟨vs,H1,I1,r1,q1⟩=>?_));obtain⟨v,w,e1,q1⟩:=q1;subst e1;obtain⟨u1,u2,rfl,rv,rw'⟩:∃ u1 u2,us=[u1,u2]/\zcj v u1/\zcj w u2:=by
  cases r1 with
  | cons p q =>
   cases q with
   | cons p' q' =>
    cases q';exact⟨_,_,rfl,p,p'⟩
 refine wpAny_newObj_type ?_ (by show 2<=sizeLine;decide);have I2:Inv X pins σ H1 { s1 with heap:=s1.heap.push { cls:=.type "tuple",data:=.seq [u1,u2].toArray } }:=I1.kept (t':=s1.toks) fun b o e=>sah _ e;rw[hw];refine sae (sau ?_);show wpAny (model X.prog X.w) X.A (do rule "assign.swapped-stores";let items ← unpackItems (.ref s1.heap.objs.size) 2 none;assignInOrder [fun v=>bindName X.env y v,fun v=>bindName X.env x v] items.reverse;pure Flow.next) _ _ _;refine sae (wpAny_rule (sae (unpackItems_tuple (items:=#[u1,u2]) (I.ok.hd hc) (IsTup.new s1.heap _) fun h' hx'=>?_)));have I3:=I2.kept (h':=h') (t':=s1.toks) fun b o e=>hx' b o (saB (sam e)) e;show wpAny _ _ (assignInOrder [fun v=>bindName X.env y v,fun v=>bindName X.env x v] [u2,u1] >>= fun _=>pure Flow.next) _ _ _;refine sae (assignInOrder_cons (wpAny_bindName (zhc I3 hN hj (.inl hy) rw' (fun s2 I4=>?_) (.inr hy))));refine assignInOrder_cons (wpAny_bindName (zhc I4 hN hi (.inl hx) rv (fun s3 I5=>assignInOrder_nil (sau ?_)) (.inr hx)));rw[List.set_comm _ _ (saW hij)] at I5;exact⟨_,H1,I5,q1⟩
end
section
variable {X:Cx}{pos:Pos}
noncomputable def zCB (c:TT) (tb:TS):TS:=fun D σ H=>∃ W:Nat->St->Hp->Prop,(∃ m,W m σ H)/\∀ m σ H,W m σ H ->
 c σ H fun b H1=>if b=true then ∃ N:St->Hp->Prop,(∀ σ' H',N σ' H'->∃ m',m' < m/\W m' σ' H')/\tb { D with nx:=N,ct:=N,bk:=D.nx } σ H1 else D.nx σ H1
theorem zyE {c:Expr}{body:List Stmt}{tc:TT}{tb:TS}(hp:PassesOwn (model X.prog X.w) X.A X.env X.xe)(hc:PT X c tc)(hb:PSs X body tb):PS X (.While c body [] pos) (zCB tc tb):=by
 intro pins s σ H D I h;obtain⟨W,⟨m0,w0⟩,turn⟩:=h;refine wpAny_While (codeAny_whileLoop (fun n s'=>∃ σ' H',Inv X pins σ' H' s'/\W n σ' H') ?_ m0 ⟨σ,H,I,w0⟩);rintro n s1 ⟨σ1,H1,I1,w1⟩;refine wpAny_passesOwn hp (thn (hc pins s1 σ1 H1 _ I1 (turn n σ1 H1 w1)) fun b s2 ⟨H2,I2,q2⟩=>?_);cases b with
 | true =>
  obtain⟨N,hN,q2⟩:=q2;rw[if_pos rfl];refine wpAny_passesOwn hp (thn (hb pins s2 σ1 H2 _ I2 q2) fun f s3 q3=>?_);cases f with
  | next =>
   obtain⟨σ3,H3,I3,n3⟩:=q3;obtain⟨m',hm,w3⟩:=hN σ3 H3 n3;exact⟨m',hm,σ3,H3,I3,w3⟩
  | cont =>
   obtain⟨σ3,H3,I3,n3⟩:=q3;obtain⟨m',hm,w3⟩:=hN σ3 H3 n3;exact⟨m',hm,σ3,H3,I3,w3⟩
  | brk=>exact q3
  | ret v=>exact q3
 | false =>
  rw[if_neg saD];exact wpAny_execs_nil ⟨σ1,H2,I2,q2⟩
end
structure It where
 go:Nat->Hp->Prop
 yld:Nat->Hp->V->Hp->Prop
 stop:Nat->Hp->Prop
def zuq (X:Cx)(pins:List (Addr×Obj))(H:Hp)(b:Addr):Prop :=
 H b=none/\b≠X.env.locals/\b∉X.fs/\(b∈X.ex∨X.sk.heap.objs.size<=b)/\(∀ x c,X.env.cells.lookup x=some c->c≠b)/\∀ p∈X.pn++pins,p.1≠b
theorem Inv.fpOk {X:Cx}{pins:List (Addr×Obj)}{σ:St}{H H':Hp}{s:Shared}{b:Addr}(I:Inv X pins σ H s)(hb:s.heap.objs.size<=b)(hn:H' b=none):zuq X pins H' b:=by
 refine⟨hn,scd (saf I.lt hb),I.nofs hb,.inr (sal I.sz hb),fun x c e z=>?_,fun p hp z=>?_⟩
 .obtain⟨v,q⟩:=I.cell x c e
  exact absurd (saf q.lt (by rw[z];exact hb)) (scg _)
 .exact absurd (saf (sam (I.pin p hp).1) (by rw[z];exact hb)) (scg _)
structure zB5 (P:Program) (w:World) (K:saj) (tg:Expr) (J:It) (fp:List Addr) (it:Addr) (tn:Nat->Heap->Prop):Prop where
 mem:it∈fp
 obj:∀ i h,tn i h->∀ b∈fp,∃ o,h.get? b=some o/\∀ v,o.data≠.cell v
 keep:∀ i h h',tn i h->(∀ b∈fp,∀ o,h.get? b=some o->h'.get? b=some o)->tn i h'
 item:∀ (X:Cx),X.prog=P->X.w=w->X.K=K->X.calm=true->∀ (i:Nat) (pins:List (Addr×Obj)) (s:Shared) (σ:St) (H:Hp) (E:Value->Shared->Prop),Inv X pins σ H s->(∀ b∈fp,zuq X pins H b)->tn i s.heap->J.go i H ->
  wpAny (model P w) X.A (pyNext (.ref it)) (fun r s1=>∃ u,r=some u /\
   wpAny (model P w) X.A (letOwnedTupleGo tg (.ref it) u) (fun _ s2=>∃ x H',Inv X pins σ H' s2/\zcj x u/\J.yld i H x H'/\tn (i+1) s2.heap/\∀ b∈fp,H' b=none) E s1) E s
 done:∀ (X:Cx),X.prog=P->X.w=w->X.K=K->X.calm=true->∀ (i:Nat) (pins:List (Addr×Obj)) (s:Shared) (σ:St) (H:Hp) (E:Value->Shared->Prop),Inv X pins σ H s->(∀ b∈fp,zuq X pins H b)->tn i s.heap->J.stop i H ->
  wpAny (model P w) X.A (pyNext (.ref it)) (fun r s1=>r=none/\Inv X pins σ H s1) E s
 self:∀ (A:Around) (i:Nat) (s:Shared) (Q:Value->Shared->Prop) (E:Value->Shared->Prop),tn i s.heap->Q (.ref it) s->wpAny (model P w) A (pyIter (.ref it)) Q E s
abbrev TI:=St->Hp->(It->Hp->Prop)->Prop
noncomputable def PIE (X:Cx) (pins:List (Addr×Obj)) (σ:St) (tg:Expr) (R:It->Hp->Prop) (itv:Value) (s2:Shared):Prop :=
 ∃ (it:Addr) (fp:List Addr) (tn:Nat->Heap->Prop) (J:It) (H':Hp),itv=.ref it/\Inv X pins σ H' s2/\zB5 X.prog X.w X.K tg J fp it tn/\tn 0 s2.heap/\(∀ b∈fp,zuq X pins H' b)/\R J H'
noncomputable def PI (X:Cx) (tg iter:Expr) (wi:TI):Prop :=
 ∀ (pins:List (Addr×Obj)) (s:Shared) (σ:St) (H:Hp) (R:It->Hp->Prop),Inv X pins σ H s->wi σ H R ->
  wpAny (model X.prog X.w) X.A (eval iter X.env) (fun v s1=>wpAny (model X.prog X.w) X.A (pyIter v) (PIE X pins σ tg R) X.xe s1) X.xe s
theorem zy6 {M:Model}{A:Around}{E:Value->Shared->Prop}{s:Shared}{tg:Expr}{it:Addr}{u:Value}{o:Obj}{n:String}{vs:Array Value}{Q:Unit->Shared->Prop}(ho:s.heap.get? it=some o)(hc:o.cls=.type n)(hd:o.data=.fields vs)
  (hn:["enumerate","zip","dict_itemiterator","dict_reverseitemiterator","odict_iterator","itertools.zip_longest","itertools.pairwise"].contains n=false)(hQ:Q () s):wpAny M A (letOwnedTupleGo tg (.ref it) u) Q E s:=by
 unfold letOwnedTupleGo;cases tg<;>first
  | exact sau hQ
  | (cases u<;>first
    | exact sau hQ
    | (refine sae (wpAny_load ho ?_);rw[hc,hd];show wpAny M A (if(["enumerate","zip","dict_itemiterator","dict_reverseitemiterator","odict_iterator","itertools.zip_longest","itertools.pairwise"].contains n&&vs[0]?==some (rawInt _))=true then _ else _) Q E s;rw[if_neg (by intro h;rw[hn,sa5] at h;cases h)];exact sau hQ))
def Itl (K:saj)(a:Addr):It :=
 ⟨fun i H=>∃ xs x,SqL K H a xs/\xs[i]?=some x,fun i H x H'=>H'=H/\∀ xs,SqL K H a xs->xs[i]?=some x,fun i H=>∃ xs,SqL K H a xs/\xs.length<=i⟩
def Itr (lo:Int)(n:Nat):It:=⟨fun i _=>i < n,fun i H x H'=>H'=H/\x=.int (lo+i),fun i _=>n<=i⟩
theorem zuG {P:Program}{w:World}{K:saj}{tg:Expr}(a it:Addr):zB5 P w K tg (Itl K a) [it] it (fun i h=>h.IsListIter it a i) where
 mem:=by simp
 obj:=fun i h st b hb=>by
  have e:b=it:=by simpa using hb
  subst e;obtain⟨o,e,c,d⟩:=st;exact⟨o,e,fun v z=>by rw[d] at z;cases z⟩
 keep:=fun i h h' st k=>st.at fun o e=>k it (by simp) o e
 item:=by
  intro X hP hw hK hc i pins s σ H E I hf st hg;subst hP hw hK;obtain⟨xs,x,hq,hx⟩:=hg;obtain⟨its,rv,p,hz⟩:=I.list hq;obtain⟨u,hu,ru⟩:=rv.get hx;obtain⟨f0,f1,f2,f3,f4,f5⟩:=hf it (by simp);refine wpAny_pyNext_list_item st p.isList (x:=u) (by simpa using hu) fun h' st' sb=>?_;have I1:Inv X pins σ H { s with heap:=h' }:=I.turned (t':=s.toks) (fun b o hb e=>(sb.2 b hb).trans e) f0 f1 f3 f4 f5;obtain⟨o,e,c,d⟩:=id st';exact⟨u,rfl,zy6 (s:={ s with heap:=h' }) e c d (by decide) ⟨x,H,I1,ru,⟨rfl,fun ys hy=>by rw[I.list_inj hy hq];exact hx⟩,st',fun b hb=>(hf b hb).1⟩⟩
 done:=by
  intro X hP hw hK hc i pins s σ H E I hf st hg;subst hP hw hK;obtain⟨xs,hq,hx⟩:=hg;obtain⟨its,rv,p,hz⟩:=I.list hq;obtain⟨f0,f1,f2,f3,f4,f5⟩:=hf it (by simp);have hl:=rv.length;exact wpAny_pyNext_list_end (I.ok.hd hc) st p.isList (by simp;omega) fun h' eb=>⟨rfl,I.turned (t':=s.toks) (fun b o hb e=>eb b o hb e) f0 f1 f3 f4 f5⟩
 self:=fun _ _ _ _ _ st h=>wpAny_pyIter_listiter st h
theorem ztv {P:Program}{w:World}{K:saj}{tg:Expr}(it:Addr)(lo:Int)(n:Nat):zB5 P w K tg (Itr lo n) [it] it (fun i h=>IsRangeIter h it (lo+(i:Nat)*1) ((n:Int)-(i:Nat)) 1) where
 mem:=by simp
 obj:=fun i h st b hb=>by
  have e:b=it:=by simpa using hb
  subst e;exact⟨_,st,fun v z=>by
   have z':Data.fields _=Data.cell v:=z;cases z'⟩
 keep:=fun i h h' st k=>k it (by simp) _ st
 item:=by
  intro X hP hw hK hc i pins s σ H E I hf st hg;subst hP hw hK;obtain⟨f0,f1,f2,f3,f4,f5⟩:=hf it (by simp);have W:=Walks.range (prog:=X.prog) (w:=X.w) (I.ok.hd hc) it lo 1 n;refine W.item i s _ _ hg st fun v h' tk hv st' kk=>?_;obtain⟨t,rfl⟩:=hv;have I1:Inv X pins σ H { s with heap:=h',toks:=tk }:=I.turned (fun b o hb e=>kk b o (by simpa using hb) e) f0 f1 f3 f4 f5;refine⟨_,rfl,zy6 (s:={ s with heap:=h',toks:=tk }) (n:="range_iterator") st' rfl rfl (by decide) ⟨.int (lo+i),H,I1,⟨t,?_⟩,⟨rfl,rfl⟩,st',fun b hb=>(hf b hb).1⟩⟩;rw[Int.mul_one]
 done:=by
  intro X hP hw hK hc i pins s σ H E I hf st hg;subst hP hw hK;obtain⟨f0,f1,f2,f3,f4,f5⟩:=hf it (by simp);exact wpAny_pyNext_range_end (I.ok.hd hc) st (by have:n<=i:=hg;omega) fun h' eb=>⟨rfl,I.turned (t':=s.toks) (fun b o hb e=>eb b o hb e) f0 f1 f3 f4 f5⟩
 self:=fun _ _ _ _ _ st h=>wpAny_pyIter_rangeiter st h
section
variable {X:Cx}{tg:Expr}
def zFA (K:saj)(tl:TE):TI:=fun σ H R=>tl σ H fun x H1=>∃ a,x=.ref a/\(∃ xs,SqL K H1 a xs)/\R (Itl K a) H1
theorem zvk {l:Expr}{tl:TE}(hl:PE X l tl):PI X tg l (zFA X.K tl):=by
 intro pins s σ H R I h;refine thn (hl pins s σ H _ I h) fun v s1 ⟨x,H1,I1,r1,q1⟩=>?_;obtain⟨a,e,⟨xs,hq⟩,q⟩:=q1;subst e;cases r1;obtain⟨its,rv,p,hz⟩:=I1.list hq;refine wpAny_pyIter_list p.isList ?_;refine⟨s1.heap.objs.size,[s1.heap.objs.size],_,_,H1,rfl,I1.kept (t':=s1.toks) fun b o e=>sah _ e,zuG a _,⟨_,saV _ rfl,rfl,rfl⟩,fun b hb=>?_,q⟩;have e:b=s1.heap.objs.size:=by simpa using hb
 subst e;exact I1.fpOk (saA _) (I1.hok.fresh (saA _))
theorem zyB {pins:List (Addr×Obj)}{σ:St}{H:Hp}{s:Shared}{R:It->Hp->Prop}{E:Value->Shared->Prop}{lo hi:Int}{t u v:Tok}{tk:Nat}(I:Inv X pins σ H s)(h1:-(2 ^ 62)<=lo)(h2:lo < 2 ^ 62)(h3:-(2 ^ 62)<=hi)(h4:hi < 2 ^ 62)
  (q:R (Itr lo (hi-lo).toNat) H):wpAny (model X.prog X.w) X.A (pyIter (.ref s.heap.objs.size)) (PIE X pins σ tg R) E { s with heap:=s.heap.push { cls:=.type "range",data:=.fields #[.int lo t,.int hi u,.int 1 v] },toks:=tk }:=by
 refine wpAny_pyIter_range (IsRange.new ..) (small_one h1 h2 h3 h4) ?_;have I1:Inv X pins σ H { s with heap:=s.heap.push { cls:=.type "range",data:=.fields #[.int lo t,.int hi u,.int 1 v] },toks:=tk }:=I.kept fun b o e=>sah _ e;refine⟨(s.heap.push { cls:=.type "range",data:=.fields #[.int lo t,.int hi u,.int 1 v] }).objs.size,[(s.heap.push { cls:=.type "range",data:=.fields #[.int lo t,.int hi u,.int 1 v] }).objs.size],_,_,H,rfl,
  I1.kept (t':=tk) fun b o e=>sah _ e,ztv _ lo (hi-lo).toNat,?_,fun b hb=>?_,q⟩
 .have e1:lo+((0:Nat):Int)*1=lo:=by simp
  have e2:(((hi-lo).toNat:Nat):Int)-((0:Nat):Int)=Builtin.Range.rangeSize lo hi 1:=by rw[rangeSize_one];split<;>omega
  show IsRangeIter _ _ (lo+((0:Nat):Int)*1) ((((hi-lo).toNat:Nat):Int)-((0:Nat):Int)) 1;rw[e1,e2];exact saV _ rfl
 .have e:b=(s.heap.push { cls:=.type "range",data:=.fields #[.int lo t,.int hi u,.int 1 v] }).objs.size:=by simpa using hb
  subst e;exact I1.fpOk (saA _) (I1.hok.fresh (saA _))
def zFz (ta:TA):TI:=fun σ H R=>ta σ H fun vs H1=>∃ j:Int,vs=[.int j]/\-(2 ^ 62)<=j/\j < 2 ^ 62/\R (Itr 0 j.toNat) H1
theorem zpG {a:Expr}{ta:TA}{p pos:Pos}(hg:Gl X "range")(hm:X.mg "range"=none)(ha:PA X [a] ta)(hs:starEach [a] X.env=[(false,eval a X.env)]:=by rfl):PI X tg (.Call (.Name "range" p) [a] [] pos) (zFz ta):=by
 intro pins s σ H R I h;refine Call_ (zjV I hg hm boot_range (sbj (thn (ha pos pins s σ H _ I h) fun us s1 ⟨vs,H1,I1,r1,q1⟩=>?_) hs rfl));obtain⟨j,e,q1,q2,q⟩:=q1;subst e;cases r1 with
 | cons r rr =>
  cases rr;obtain⟨t,rfl⟩:=r;exact call_range_1 (zyB I1 (by omega) (by omega) q1 q2 (by simpa using q))
noncomputable def zGB (wi:TI) (g:TG) (tb:TS):TS:=fun D σ H=>wi σ H fun J H1=>∃ W:Nat->Nat->St->Hp->Prop,(∃ m,W 0 m σ H1)/\∀ i m σ H,W i m σ H ->
 (J.stop i H/\D.nx σ H)∨(J.go i H/\∃ N:St->Hp->Prop,(∀ σ' H',N σ' H'->∃ m',m' < m/\W (i+1) m' σ' H')/\∀ x H',J.yld i H x H'->g x σ H' fun σ2 H2=>tb { D with nx:=N,ct:=N,bk:=D.nx } σ2 H2)
def zpF (fp:List Addr)(h:Heap):List (Addr×Obj):=fp.filterMap fun b=>(h.get? b).map fun o=>(b,o)
theorem zhf {fp:List Addr}{h:Heap}{b:Addr}{o:Obj}(hb:b∈fp)(e:h.get? b=some o):(b,o)∈zpF fp h:=sdk.mpr ⟨b,hb,by rw[e];rfl⟩
theorem zvy {fp:List Addr}{h:Heap}{p:Addr×Obj}(hp:p∈zpF fp h):p.1∈fp/\h.get? p.1=some p.2:=by
 obtain⟨b,hb,e⟩:=sdk.mp hp;cases q:h.get? b with
 | none=>rw[q] at e;cases e
 | some o =>
  rw[q] at e;have e':(b,o)=p:=saN e;subst e';exact⟨hb,q⟩
theorem Inv.pinned {pins:List (Addr×Obj)}{σ:St}{H:Hp}{s:Shared}{fp:List Addr}(I:Inv X pins σ H s)(hf:∀ b∈fp,zuq X pins H b)(ho:∀ b∈fp,∃ o,s.heap.get? b=some o/\∀ v,o.data≠.cell v):Inv X (pins++zpF fp s.heap) σ H s :=
 I.pins_of fun p hp=>(saQ.mp hp).elim (fun z=>I.pin p (sa1 _ z)) fun z=>by
  obtain⟨hb,e⟩:=zvy z;obtain⟨f0,f1,f2,_⟩:=hf p.1 hb;obtain⟨o,e',d⟩:=ho p.1 hb;rw[e] at e';cases e';exact⟨e,f0,f1,f2,d⟩
theorem Inv.unpinned {pins pl:List (Addr×Obj)}{σ:St}{H:Hp}{s:Shared}(I:Inv X (pins++pl) σ H s):Inv X pins σ H s:=I.pins_of fun p hp=>I.pin p (sa1 _ (List.mem_append_left _ hp))
theorem zvg {iter:Expr}{body:List Stmt}{wi:TI}{g:TG}{tb:TS}{pos:Pos}(hp:PassesOwn (model X.prog X.w) X.A X.env X.xe)(hc:X.calm=true)(hi:PI X tg iter wi)(hg:PG X tg g)(hb:PSs X body tb)
  (hs:∀ x,foldedSetIterable iter X.env x=pure x:=by intro _;rfl):PS X (.For tg iter body [] pos) (zGB wi g tb):=by
 intro pins s σ H D I h;refine wpAny_For (thn (hi pins s σ H _ I h) fun v s1 h1=>thn h1 fun itv s2 h2=>?_) hs;obtain⟨it,fp,tn,J,H2,e,I2,T,st2,f2,W,⟨m0,w0⟩,turn⟩:=h2;subst e;have stat:∀ {H':Hp},(∀ b∈fp,H' b=none)->∀ b∈fp,zuq X pins H' b:=fun hn b hb=>⟨hn b hb,(f2 b hb).2⟩
 refine codeAny_forLoop_any (fun n s'=>∃ i σ' H',Inv X pins σ' H' s'/\tn i s'.heap/\(∀ b∈fp,H' b=none)/\W i n σ' H') ?_ m0 ⟨0,σ,H2,I2,st2,fun b hb=>(f2 b hb).1,w0⟩;rintro n s3 ⟨i,σ3,H3,I3,st3,fr3,w3⟩;rcases turn i n σ3 H3 w3 with⟨stop,qn⟩ | ⟨go,N,hN,step⟩
 .refine wpAny_passesOwn hp (thn (T.done X rfl rfl rfl hc i pins s3 σ3 H3 X.xe I3 (stat fr3) st3 stop) fun r s4 ⟨hr,I4⟩=>?_)
  subst hr;exact wpAny_execs_nil ⟨σ3,H3,I4,qn⟩
 .refine wpAny_passesOwn hp (thn (T.item X rfl rfl rfl hc i pins s3 σ3 H3 X.xe I3 (stat fr3) st3 go) fun r s4 ⟨u,hr,h4⟩=>?_)
  subst hr;refine wpAny_passesOwn hp (thn h4 fun _ s5 ⟨x,H5,I5,r5,y5,st5,fr5⟩=>?_);have I5':=I5.pinned (stat fr5) (T.obj _ _ st5);refine wpAny_passesOwn hp (thn (hg _ s5 σ3 H5 x u _ I5' r5 (step x H5 y5)) fun _ s6 ⟨σ6,H6,I6,q6⟩=>?_);refine wpAny_passesOwn hp (thn (hb _ s6 σ6 H6 _ I6 q6) fun f s7 q7=>?_);have again:∀ {σ7:St}{H7:Hp},Inv X (pins++zpF fp s5.heap) σ7 H7 s7->N σ7 H7->∃ m,m < n/\∃ i σ' H',Inv X pins σ' H' s7/\tn i s7.heap/\(∀ b∈fp,H' b=none)/\W i m σ' H':=fun {σ7 H7} I7 n7=>by
   obtain⟨m',hm,w7⟩:=hN σ7 H7 n7;refine⟨m',hm,i+1,σ7,H7,I7.unpinned,T.keep _ _ _ st5 fun b hb o e=>(I7.pin (b,o) (sa1 _ (sa1 _ (zhf hb e)))).1,fun b hb=>?_,w7⟩;obtain⟨o,e,d⟩:=T.obj _ _ st5 b hb;exact(I7.pin (b,o) (sa1 _ (sa1 _ (zhf hb e)))).2.1
  cases f with
  | next=>obtain⟨σ7,H7,I7,n7⟩:=q7;exact again I7 n7
  | cont=>obtain⟨σ7,H7,I7,n7⟩:=q7;exact again I7 n7
  | brk=>obtain⟨σ7,H7,I7,q7⟩:=q7;exact⟨σ7,H7,I7.unpinned,q7⟩
  | ret v=>obtain⟨x7,σ7,H7,I7,r7,q7⟩:=q7;exact⟨x7,σ7,H7,I7.unpinned,r7,q7⟩
end
theorem zy7 {K:saj}{a:Addr}{xs:List V}{g:TG}{tb:TS}{D:zmH}{σ:St}{H:Hp}(Pv:Nat->St->Hp->Prop)(h0:Pv 0 σ H)(hl:∀ i σ H,i<=xs.length->Pv i σ H->SqL K H a xs)
  (hs:∀ i x σ H,xs[i]?=some x->Pv i σ H->g x σ H fun σ2 H2=>tb { D with nx:=Pv (i+1),ct:=Pv (i+1),bk:=D.nx } σ2 H2)(hd:∀ σ H,Pv xs.length σ H->D.nx σ H) :
  ∃ W:Nat->Nat->St->Hp->Prop,(∃ m,W 0 m σ H)/\∀ i m σ H,W i m σ H ->
   ((Itl K a).stop i H/\D.nx σ H)∨((Itl K a).go i H/\∃ N:St->Hp->Prop,(∀ σ' H',N σ' H'->∃ m',m' < m/\W (i+1) m' σ' H')/\∀ x H',(Itl K a).yld i H x H'->g x σ H' fun σ2 H2=>tb { D with nx:=N,ct:=N,bk:=D.nx } σ2 H2):=by
 refine⟨fun i m σ H=>m=xs.length-i/\i<=xs.length/\Pv i σ H,⟨xs.length,by simp,scp _,h0⟩,?_⟩;rintro i m σ H ⟨rfl,hi,p⟩;have q:=hl i σ H hi p
 by_cases hlt:i < xs.length
 .refine .inr ⟨⟨xs,xs[i],q,by simp [hlt]⟩,Pv (i+1),fun σ' H' p'=>⟨xs.length-(i+1),by omega,rfl,hlt,p'⟩,fun x H' y=>?_⟩
  obtain⟨e,y⟩:=y;subst e;exact hs i x σ _ (y xs q) p
 .have e:i=xs.length:=by omega
  subst e;exact .inl ⟨⟨xs,q,saA _⟩,hd σ H p⟩
theorem zwa {lo:Int}{n:Nat}{g:TG}{tb:TS}{D:zmH}{σ:St}{H:Hp}(Pv:Nat->St->Hp->Prop)(h0:Pv 0 σ H)
  (hs:∀ i σ H,i < n->Pv i σ H->g (.int (lo+i)) σ H fun σ2 H2=>tb { D with nx:=Pv (i+1),ct:=Pv (i+1),bk:=D.nx } σ2 H2)(hd:∀ σ H,Pv n σ H->D.nx σ H) :
  ∃ W:Nat->Nat->St->Hp->Prop,(∃ m,W 0 m σ H)/\∀ i m σ H,W i m σ H ->
   ((Itr lo n).stop i H/\D.nx σ H)∨((Itr lo n).go i H/\∃ N:St->Hp->Prop,(∀ σ' H',N σ' H'->∃ m',m' < m/\W (i+1) m' σ' H')/\∀ x H',(Itr lo n).yld i H x H'->g x σ H' fun σ2 H2=>tb { D with nx:=N,ct:=N,bk:=D.nx } σ2 H2):=by
 refine⟨fun i m σ H=>m=n-i/\i<=n/\Pv i σ H,⟨n,by simp,scp _,h0⟩,?_⟩;rintro i m σ H ⟨rfl,hi,p⟩
 by_cases hlt:i < n
 .refine .inr ⟨hlt,Pv (i+1),fun σ' H' p'=>⟨n-(i+1),by omega,rfl,hlt,p'⟩,fun x H' y=>?_⟩
  obtain⟨e,y⟩:=y;subst e y;exact hs i σ _ hlt p
 .have e:i=n:=by omega
  subst e;exact .inl ⟨saA _,hd σ H p⟩
abbrev R2:=V->V->Hp->VK->Prop
noncomputable def OpR (X:Cx) (f:Value->Value->Sem Value) (r:R2):Prop :=
 ∀ (pins:List (Addr×Obj)) (s:Shared) (σ:St) (H:Hp) (x y:V) (v u:Value) (Q:VK),Inv X pins σ H s->zcj x v->zcj y u->r x y H Q ->
  wpAny (model X.prog X.w) X.A (f v u) (EP X pins σ Q) X.xe s
noncomputable def UnR (X:Cx) (f:Value->Sem Value) (r:V->Hp->VK->Prop):Prop :=
 ∀ (pins:List (Addr×Obj)) (s:Shared) (σ:St) (H:Hp) (x:V) (v:Value) (Q:VK),Inv X pins σ H s->zcj x v->r x H Q ->
  wpAny (model X.prog X.w) X.A (f v) (EP X pins σ Q) X.xe s
noncomputable def zky (X:Cx) (f:Value) (r:List V->Hp->VK->Prop):Prop :=
 ∀ (pins:List (Addr×Obj)) (s:Shared) (σ:St) (H:Hp) (xs:List V) (us:List Value) (Q:VK),Inv X pins σ H s->zbM xs us->r xs H Q ->
  wpAny (model X.prog X.w) X.A (call f us) (EP X pins σ Q) X.xe s
noncomputable def zGX (X:Cx) (r:V->Hp->(Bool->Hp->Prop)->Prop):Prop :=
 ∀ (pins:List (Addr×Obj)) (s:Shared) (σ:St) (H:Hp) (x:V) (v:Value) (Q:Bool->Hp->Prop),Inv X pins σ H s->zcj x v->r x H Q ->
  wpAny (model X.prog X.w) X.A (truthy v) (TP X pins σ Q) X.xe s
def tOp (r:R2)(ta tb:TE):TE:=fun σ H Q=>ta σ H fun x H1=>tb σ H1 fun y H2=>r x y H2 Q
def tUn (r:V->Hp->VK->Prop)(ta:TE):TE:=fun σ H Q=>ta σ H fun x H1=>r x H1 Q
def rI (C:Int->Int->Prop)(g:Int->Int->V):R2:=fun x y H Q=>∃ i j,x=.int i/\y=.int j/\C i j/\Q (g i j) H
def rI0 (g:Int->Int->V):R2:=fun x y H Q=>∃ i j,x=.int i/\y=.int j/\Q (g i j) H
def rU (g:Int->V):V->Hp->VK->Prop:=fun x H Q=>∃ i,x=.int i/\Q (g i) H
section
variable {X:Cx}{a b c:Expr}{ta tb tc:TE}{pos:Pos}
theorem zFT (ha:PE X a ta)(hb:PE X b tb){pins:List (Addr×Obj)}{s:Shared}{σ:St}{H:Hp}{R:V->V->Hp->Prop}(I:Inv X pins σ H s)
  (h:ta σ H fun x H1=>tb σ H1 fun y H2=>R x y H2){Q:Value->Shared->Prop}{f:Value->Value->Sem Value}
  (hf:∀ v u s2 x y H2,Inv X pins σ H2 s2->zcj x v->zcj y u->R x y H2->wpAny (model X.prog X.w) X.A (f v u) Q X.xe s2) :
  wpAny (model X.prog X.w) X.A (eval a X.env) (fun v si=>wpAny (model X.prog X.w) X.A (eval b X.env) (fun u sf=>wpAny (model X.prog X.w) X.A (f v u) Q X.xe sf) X.xe si) X.xe s:=by
 refine thn (ha pins s σ H _ I h) fun v s1 ⟨x,H1,I1,r1,q1⟩=>?_;refine thn (hb pins s1 σ H1 _ I1 q1) fun u s2 ⟨y,H2,I2,r2,q2⟩=>?_;exact hf v u s2 x y H2 I2 r1 r2 q2
theorem zAO {op:Operator}{r:R2}(ho:OpR X (binaryOp op) r)(ha:PE X a ta)(hb:PE X b tb):PE X (.BinOp a op b pos) (tOp r ta tb):=by
 intro pins s σ H Q I h;exact wpAny_BinOp (zFT ha hb I h fun v u s2 x y H2 I2 rx ry q=>ho pins s2 σ H2 x y v u Q I2 rx ry q)
theorem zDa {op:UnaryOp}{r:V->Hp->VK->Prop}(ho:UnR X (unaryOp op) r)(ha:PE X a ta):PE X (.UnaryOp op a pos) (tUn r ta):=by
 intro pins s σ H Q I h;exact UnaryOp_ (thn (ha pins s σ H _ I h) fun v s1 ⟨x,H1,I1,r1,q1⟩=>ho pins s1 σ H1 x v Q I1 r1 q1)
theorem opI {f:Value->Value->Sem Value}{C:Int->Int->Prop}{g:Int->Int->Int}
  (rule:∀ (i j:Int) (t u:Tok) (s:Shared) (Q:Value->Shared->Prop) (E:Value->Shared->Prop),C i j->Q (.int (g i j) s.toks) { s with toks:=s.toks+1 }->wpAny (model X.prog X.w) X.A (f (.int i t) (.int j u)) Q E s) :
  OpR X f (rI C fun i j=>.int (g i j)):=by
 intro pins s σ H x y v u Q I rx ry h;obtain⟨i,j,rfl,rfl,hc,q⟩:=h;obtain⟨t,rfl⟩:=rx;obtain⟨t',rfl⟩:=ry;exact rule i j t t' s _ _ hc ⟨.int (g i j),H,I.tok _,⟨_,rfl⟩,q⟩
theorem zFs {f:Value->Value->Sem Value}{g:Int->Int->Int}
  (rule:∀ (i j:Int) (t u:Tok) (s:Shared) (Q:Value->Shared->Prop) (E:Value->Shared->Prop),Q (.int (g i j) s.toks) { s with toks:=s.toks+1 }->wpAny (model X.prog X.w) X.A (f (.int i t) (.int j u)) Q E s) :
  OpR X f (rI0 fun i j=>.int (g i j)):=by
 intro pins s σ H x y v u Q I rx ry h;obtain⟨i,j,rfl,rfl,q⟩:=h;obtain⟨t,rfl⟩:=rx;obtain⟨t',rfl⟩:=ry;exact rule i j t t' s _ _ ⟨.int (g i j),H,I.tok _,⟨_,rfl⟩,q⟩
theorem zEM {f:Value->Value->Sem Value}{g:Int->Int->Bool}
  (rule:∀ (i j:Int) (t u:Tok) (s:Shared) (Q:Value->Shared->Prop) (E:Value->Shared->Prop),Q (.bool (g i j)) s->wpAny (model X.prog X.w) X.A (f (.int i t) (.int j u)) Q E s) :
  OpR X f (rI0 fun i j=>.bl (g i j)):=by
 intro pins s σ H x y v u Q I rx ry h;obtain⟨i,j,rfl,rfl,q⟩:=h;obtain⟨t,rfl⟩:=rx;obtain⟨t',rfl⟩:=ry;exact rule i j t t' s _ _ ⟨.bl (g i j),H,I,rfl,q⟩
def zG0 (i j:Int):Prop:=0<=j/\j<=1000000/\i.natAbs < 2 ^ 64
def zGn (i j:Int):Prop:=(-(2 ^ 64) < i/\i < 2 ^ 64)∨(-(2 ^ 64) < j/\j < 2 ^ 64)
theorem zGn.ok {i j:Int}(h:zGn i j):IntMulOk i j:=by
 rcases h with⟨h1,h2⟩ | ⟨h1,h2⟩
 .exact .of_left (intBits_le_64 h1 h2)
 .exact .of_right (intBits_le_64 h1 h2)
theorem ztu (k:Nat):(0:Int)<=2 ^ k:=by
 rw[two_pow_cast];exact sdl _
theorem zDu:OpR X (binaryOp .Add) (rI0 fun i j=>.int (i+j)):=zFs fun _ _ _ _ _ _ _ q=>add_int q
theorem zDk:OpR X (binaryOp .Sub) (rI0 fun i j=>.int (i-j)):=zFs fun _ _ _ _ _ _ _ q=>sub_int q
theorem zAU:OpR X (binaryOp .Mod) (rI (fun _ j=>j≠0) fun i j=>.int (i.fmod j)):=opI fun _ _ _ _ _ _ _ hc q=>mod_int' hc q
theorem zDn:OpR X (binaryOp .Pow) (rI zG0 fun i j=>.int (i ^ j.toNat)):=opI fun _ _ _ _ _ _ _ hc q=>pow_int_small hc.1 hc.2.1 hc.2.2 q
theorem zDl:OpR X (binaryOp .RShift) (rI (fun _ j=>0<=j) fun i j=>.int (i / 2 ^ j.toNat)):=opI fun i j _ _ _ _ _ hc q =>
 rshift_int hc (by rw[Int.fdiv_eq_ediv_of_nonneg i (ztu _)];exact q)
theorem zDt:OpR X (binaryOp .BitAnd) (rI0 fun i j=>.int (sdc i j)):=zFs fun _ _ _ _ _ _ _ q=>and_int q
theorem unI {f:Value->Sem Value}{g:Int->Int}
  (rule:∀ (i:Int) (t:Tok) (s:Shared) (Q:Value->Shared->Prop) (E:Value->Shared->Prop),Q (.int (g i) s.toks) { s with toks:=s.toks+1 }->wpAny (model X.prog X.w) X.A (f (.int i t)) Q E s) :
  UnR X f (rU fun i=>.int (g i)):=by
 intro pins s σ H x v Q I rx h;obtain⟨i,rfl,q⟩:=h;obtain⟨t,rfl⟩:=rx;exact rule i t s _ _ ⟨.int (g i),H,I.tok _,⟨_,rfl⟩,q⟩
theorem zzA:UnR X (unaryOp .USub) (rU fun i=>.int (-i)):=unI fun _ _ _ _ _ q=>neg_int q
end
section
variable {X:Cx}{a b c:Expr}{ta tb tc:TE}{pos:Pos}
theorem zwe {pins:List (Addr×Obj)}{σ:St}{H:Hp}{s:Shared}{Q:VK}{k k':Bool}(I:Inv X pins σ H s)(q:Q (.bl k) H)(e:k=k'):EP X pins σ Q (.bool k') s:=by
 subst e;exact⟨.bl k,H,I,rfl,q⟩
theorem ztM:OpR X (compareOp .Lt) (rI0 fun i j=>.bl (decide (i < j))):=zEM fun _ _ _ _ _ _ _ q=>lt_int q
theorem ztN:OpR X (compareOp .LtE) (rI0 fun i j=>.bl (decide (i<=j))):=zEM fun _ _ _ _ _ _ _ q=>le_int q
theorem zvv:OpR X (compareOp .Gt) (rI0 fun i j=>.bl (decide (j < i))):=zEM fun _ _ _ _ _ _ _ q=>gt_int q
theorem zyP:OpR X (compareOp .GtE) (rI0 fun i j=>.bl (decide (j<=i))):=zEM fun _ _ _ _ _ _ _ q=>ge_int q
theorem zvu:OpR X (compareOp .In) (fun x y H Q=>∃ i j,x=.str i/\y=.str j/\Q (.bl (!(sc0 j i 0 j.length 1).isEmpty)) H):=by
 intro pins s σ H x y v u Q I rx ry h;obtain⟨i,j,rfl,rfl,q⟩:=h;obtain⟨t,rfl⟩:=rx;obtain⟨t',rfl⟩:=ry;exact in_str (zwe I q rfl)
theorem zjP:OpR X (compareOp .Is) (fun x y H Q=>y=.non/\Q (.bl (decide (x=.non))) H):=by
 intro pins s σ H x y v u Q I rx ry h;obtain⟨rfl,q⟩:=h;cases ry;refine is_none_gen (zwe I q ?_);cases x<;>first
  | (cases rx;rfl)
  | (obtain⟨t,rfl⟩:=rx;rfl)
theorem zvs:OpR X (compareOp .IsNot) (fun x y H Q=>y=.non/\Q (.bl (!decide (x=.non))) H):=by
 intro pins s σ H x y v u Q I rx ry h;obtain⟨rfl,q⟩:=h;cases ry;refine isnot_none_gen (zwe I q ?_);cases x<;>first
  | (cases rx;rfl)
  | (obtain⟨t,rfl⟩:=rx;rfl)
theorem OpR.or {f:Value->Value->Sem Value}{r r':R2}(h:OpR X f r)(h':OpR X f r'):OpR X f (fun x y H Q=>r x y H Q∨r' x y H Q):=by
 intro pins s σ H x y v u Q I rx ry q;rcases q with q | q
 .exact h pins s σ H x y v u Q I rx ry q
 .exact h' pins s σ H x y v u Q I rx ry q
theorem zAQ {op:CmpOp}{r:R2}(ho:OpR X (compareOp op) r)(ha:PE X a ta)(hb:PE X b tb)(hm:behindInMarks op b=false):PE X (.Compare a [op] [b] pos) (tOp r ta tb):=by
 intro pins s σ H Q I h;exact wpAny_Compare1 (zFT ha hb I h fun v u s2 x y H2 I2 rx ry q=>ho pins s2 σ H2 x y v u Q I2 rx ry q) hm
def zCC (t:TE):TT:=fun σ H Q=>t σ H fun x H'=>∃ k,x=.bl k/\Q k H'
theorem zAF {op:CmpOp}{r:R2}(ho:OpR X (compareOp op) r)(ha:PE X a ta)(hb:PE X b tb)(hm:behindInMarks op b=false):PT X (.Compare a [op] [b] pos) (zCC (tOp r ta tb)):=by
 intro pins s σ H Q I h;refine wpAny_isTrue_Compare1 (thn (ha pins s σ H _ I h) fun v s1 ⟨x,H1,I1,r1,q1⟩=>thn (hb pins s1 σ H1 _ I1 q1) fun u s2 ⟨y,H2,I2,r2,q2⟩ =>
  thn (ho pins s2 σ H2 x y v u _ I2 r1 r2 q2) fun c s3 ⟨z,H3,I3,r3,k,e,q3⟩=>?_) hm
 subst e;cases r3;exact sa7 ⟨H3,I3,q3⟩
def zuQ (r r':R2)(ta tb tc:TE):TE:=fun σ H Q=>ta σ H fun x H1=>tb σ H1 fun y H2=>r x y H2 fun z H3=>∃ k,z=.bl k /\
 (if k=true then tc σ H3 fun w' H4=>r' y w' H4 Q else Q (.bl false) H3)
theorem zyM {op op':CmpOp}{r r':R2}(ho:OpR X (compareOp op) r)(ho':OpR X (compareOp op') r')(ha:PE X a ta)(hb:PE X b tb)(hc:PE X c tc)
  (hm:lastMarks [op,op'] [b,c]=false:=by with_unfolding_all rfl):PE X (.Compare a [op,op'] [b,c] pos) (zuQ r r' ta tb tc):=by
 intro pins s σ H Q I h;refine Compare_chain (thn (ha pins s σ H _ I h) fun v s1 ⟨x,H1,I1,r1,q1⟩=>chain_link (thn (hb pins s1 σ H1 _ I1 q1) fun u s2 ⟨y,H2,I2,r2,q2⟩ =>
  thn (ho pins s2 σ H2 x y v u _ I2 r1 r2 q2) fun d s3 ⟨z,H3,I3,r3,k,e,q3⟩=>?_)) hm
 subst e;cases r3;refine sa7 ?_;cases k with
 | false=>exact ite_ff ⟨.bl false,H3,I3,rfl,q3⟩
 | true=>exact ite_tt (chain_last (thn (hc pins s3 σ H3 _ I3 q3) fun w' s4 ⟨z',H4,I4,r4,q4⟩=>ho' pins s4 σ H4 y z' u w' Q I4 r2 r4 q4))
theorem zyD {op op':CmpOp}{r r':R2}(ho:OpR X (compareOp op) r)(ho':OpR X (compareOp op') r')(ha:PE X a ta)(hb:PE X b tb)(hc:PE X c tc)
  (hm:lastMarks [op,op'] [b,c]=false:=by with_unfolding_all rfl):PT X (.Compare a [op,op'] [b,c] pos) (zCC (zuQ r r' ta tb tc)):=by
 intro pins s σ H Q I h;refine isTrue_chain (thn (ha pins s σ H _ I h) fun v s1 ⟨x,H1,I1,r1,q1⟩=>test_link (thn (hb pins s1 σ H1 _ I1 q1) fun u s2 ⟨y,H2,I2,r2,q2⟩ =>
  thn (ho pins s2 σ H2 x y v u _ I2 r1 r2 q2) fun d s3 ⟨z,H3,I3,r3,k,e,q3⟩=>?_)) hm
 subst e;cases r3;refine sa7 ?_;cases k with
 | false =>
  obtain⟨k',e',q'⟩:=q3;cases e';exact ite_ff ⟨H3,I3,q'⟩
 | true =>
  refine ite_tt (test_last (thn (hc pins s3 σ H3 _ I3 q3) fun w' s4 ⟨z',H4,I4,r4,q4⟩=>thn (ho' pins s4 σ H4 y z' u w' _ I4 r2 r4 q4) fun d' s5 ⟨z2,H5,I5,r5,k2,e2,q5⟩=>?_));subst e2;cases r5;exact sa7 ⟨H5,I5,q5⟩
noncomputable def zGW (K:saj) (x:V) (H:Hp) (k:Bool):Prop :=
 match x with
 | .non=>k=false
 | .bl b=>k=b
 | .int i=>k=(i != 0)
 | .str y=>y.length<=sizeLine/\k=((y.length:Int) != 0)
 | .byt y=>y.size<=sizeLine/\k=((y.size:Int) != 0)
 | .ref p=>(∃ xs,SqL K H p xs/\k=!xs.isEmpty)∨(∃ xs,SqT K H p xs/\k=!xs.isEmpty)∨∃ kvs,H p=some (.dK kvs)/\k=!kvs.isEmpty
 | _=>False
theorem zt4 {κ:Type}{kvs:List (κ×V)}{vs:List (κ×Value)}(r:KV kvs vs):(!vs.isEmpty)=!kvs.isEmpty:=by
 cases r<;>rfl
theorem zm3 {xs:List V}{its:List Value}(r:zbM xs its):(!its.toArray.isEmpty)=!xs.isEmpty:=by
 cases r<;>simp
theorem zmW:(sizeLine:Nat) < 2 ^ 63:=by rw[sizeLine_eq];decide
theorem zF0:zGX X (fun x H Q=>∃ k,zGW X.K x H k/\Q k H):=by
 intro pins s σ H x v Q I rx h;obtain⟨k,e,q⟩:=h;have hl:=zmW;have hs:sizeLine=16777216:=sizeLine_eq;cases x with
 | non =>
  cases rx;have e':k=false:=e;subst e';exact truthy_none ⟨H,I,q⟩
 | bl b =>
  cases rx;have e':k=b:=e;subst e';exact sa7 ⟨H,I,q⟩
 | int i =>
  obtain⟨t,rfl⟩:=rx;have e':k=(i != 0):=e;subst e';exact PySem.P.truthy_int ⟨H,I,q⟩
 | str y =>
  obtain⟨t,rfl⟩:=rx;obtain⟨hy,e'⟩:y.length<=sizeLine/\k=((y.length:Int) != 0):=e;subst e';exact PySem.P.truthy_str (by omega) ⟨H,I.tok _,q⟩
 | byt y =>
  obtain⟨t,rfl⟩:=rx;obtain⟨hy,e'⟩:y.size<=sizeLine/\k=((y.size:Int) != 0):=e;subst e';exact W.truthy_bytes (by omega) ⟨H,I.tok _,q⟩
 | ref p =>
  cases rx;have e':(∃ xs,SqL X.K H p xs/\k=!xs.isEmpty)∨(∃ xs,SqT X.K H p xs/\k=!xs.isEmpty)∨∃ kvs,H p=some (.dK kvs)/\k=!kvs.isEmpty:=e;rcases e' with⟨xs,hx,e'⟩ | ⟨xs,hx,e'⟩ | ⟨kvs,hx,e'⟩
  .subst e'
   obtain⟨its,r,pl,hz⟩:=I.list hx;have hlen:=r.length;exact wpAny_truthy_list pl.isList (by simp only[san];omega) ⟨H,I.tok _,by rw[zm3 r];exact q⟩
  .subst e'
   obtain⟨its,r,pl,hz⟩:=I.tuple hx;have hlen:=r.length;exact truthy_tuple pl (by simp only[san];omega) ⟨H,I.tok _,by rw[zm3 r];exact q⟩
  .subst e'
   obtain⟨hz,hS,vs,r,m⟩:kvs.length<=sizeLine/\(p==sysModules)=false/\∃ vs,KV kvs vs/\s.heap.DictOf (mixKind X.prog X.w) p vs:=I.hok p _ hx;have hlen:kvs.length=vs.length:=Paired.length r;exact wpAny_truthy_dict hS m (by omega) ⟨H,I.tok _,by rw[zt4 r];exact q⟩
 | _=>exact(show False from e).elim
theorem ztP:OpR X (binaryOp .Add) (fun x y H Q=>∃ i j,x=.str i/\y=.str j/\i.length+j.length<=sizeLine/\Q (.str (i++j)) H):=by
 intro pins s σ H x y v u Q I rx ry h;obtain⟨i,j,rfl,rfl,hz,q⟩:=h;obtain⟨t,rfl⟩:=rx;obtain⟨t',rfl⟩:=ry;exact add_str (fun t' tk=>⟨.str (i++j),H,I.tok _,⟨_,rfl⟩,q⟩) hz
theorem ztt {x:V}{us:List Value}(r:zbM [x] us):∃ u,us=[u]/\zcj x u:=by
 cases r with
 | cons r1 r2=>cases r2;exact⟨_,rfl,r1⟩
theorem zEV {x y:V}{us:List Value}(r:zbM [x,y] us):∃ u w',us=[u,w']/\zcj x u/\zcj y w':=by
 cases r with
 | cons r1 r2 =>
  cases r2 with
  | cons r3 r4=>cases r4;exact⟨_,_,rfl,r1,r3⟩
theorem zf5:zky X (.builtin "abs") (fun xs H Q=>∃ i,xs=[.int i]/\Q (.int (if i < 0 then -i else i)) H):=by
 intro pins s σ H xs us Q I r h;obtain⟨i,rfl,q⟩:=h;obtain⟨u,rfl,t,rfl⟩:=ztt r;exact call_abs_int fun u tk=>⟨.int (if i < 0 then -i else i),H,I.tok _,⟨_,rfl⟩,q⟩
theorem zxF (hc:X.calm=true):zky X (.builtin "min") (fun xs H Q=>∃ i j,xs=[.int i,.int j]/\Q (.int (if j < i then j else i)) H):=by
 intro pins s σ H xs us Q I r h;obtain⟨i,j,rfl,q⟩:=h;obtain⟨u,w',rfl,⟨t,rfl⟩,⟨t',rfl⟩⟩:=zEV r;refine min_two_ints (I.ok.hd hc) fun h' tk k=>⟨_,H,I.kept k,?_,q⟩
 by_cases hj:j < i
 .rw[if_pos hj,if_pos hj];exact⟨_,rfl⟩
 .rw[if_neg hj,if_neg hj];exact⟨_,rfl⟩
theorem zqf:zky X (.type "str") (fun xs H Q=>∃ i,xs=[.int i]/\i.natAbs.log2 < 1920/\Q (.str (toString i)) H):=by
 intro pins s σ H xs us Q I r h;obtain⟨i,rfl,hz,q⟩:=h;obtain⟨u,rfl,t,rfl⟩:=ztt r;exact PySem.P.str_of_int hz ⟨.str _,H,I.tok _,⟨_,rfl⟩,q⟩
noncomputable def zGm (K:saj) (x:V) (H:Hp) (n:Nat):Prop :=
 match x with
 | .str y=>y.length<=sizeLine/\n=y.length
 | .byt y=>y.size<=sizeLine/\n=y.size
 | .ref p=>(∃ xs,SqL K H p xs/\n=xs.length)∨∃ xs,SqT K H p xs/\n=xs.length
 | _=>False
theorem zaU:zky X (.builtin "len") (fun xs H Q=>∃ x n,xs=[x]/\zGm X.K x H n/\Q (.int n) H):=by
 intro pins s σ H xs us Q I r h;obtain⟨x,n,rfl,e,q⟩:=h;obtain⟨u,rfl,rx⟩:=ztt r;have hl:=zmW;have hs:sizeLine=16777216:=sizeLine_eq;cases x with
 | str y =>
  obtain⟨t,rfl⟩:=rx;obtain⟨hy,e'⟩:y.length<=sizeLine/\n=y.length:=e;subst e';exact len_str (by omega) ⟨.int _,H,I.tok _,⟨_,rfl⟩,q⟩
 | byt y =>
  obtain⟨t,rfl⟩:=rx;obtain⟨hy,e'⟩:y.size<=sizeLine/\n=y.size:=e;subst e';exact W.len_bytes (by omega) ⟨.int _,H,I.tok _,⟨_,rfl⟩,q⟩
 | ref p =>
  cases rx;have e':(∃ xs,SqL X.K H p xs/\n=xs.length)∨∃ xs,SqT X.K H p xs/\n=xs.length:=e;rcases e' with⟨xs,hx,e'⟩ | ⟨xs,hx,e'⟩
  .subst e'
   obtain⟨its,r',pl,hz⟩:=I.list hx;have hlen:=r'.length;exact Calls.call_len_list pl.isList (by simp only[san];omega) ⟨.int xs.length,H,I.tok _,⟨_,by simp only[san];rw[hlen]⟩,q⟩
  .subst e'
   obtain⟨its,r',pl,hz⟩:=I.tuple hx;have hlen:=r'.length;exact len_tuple pl (by simp only[san];omega) ⟨.int xs.length,H,I.tok _,⟨_,by simp only[san];rw[hlen]⟩,q⟩
 | _=>exact(show False from e).elim
end
structure zFX (h:Heap) (x dx C:Addr) (mA:Str->Option Value):Prop where
 obj:h.get? x=some (W.instObj C dx)
 ns:h.Ns1 dx mA
 ne:dx≠x
theorem zpR {h:Heap}{dx:Addr}{mA:Str->Option Value}(n:h.Ns1 dx mA):∃ od,h.get? dx=some od/\∀ name,W.lookIn name od=some (mA name):=by
 obtain⟨o,es,ep,ho,hd,hk,_,hm⟩:=n;refine⟨o,ho,fun name=>?_⟩;have e:=hm name;unfold nsFind findBy at e;rw[← Array.find?_toList] at e;unfold W.lookIn;rw[hd];dsimp only;split
 .rename_i y q
  rw[q] at e;exact congrArg some e
 .rename_i q
  rw[q] at e;have a:es.toList.any (·.refKey)=false:=by
   rw[List.any_eq_false];intro y hy;obtain⟨z,t,hkey⟩:=hk y (Array.mem_toList_iff.mp hy);simp [DictEntry.refKey,hkey]
  have a':¬ es.toList.any (·.refKey)=true:=by rw[a];exact saD
  rw[if_neg a'];exact congrArg some e
theorem zFX.look {h:Heap}{x dx C:Addr}{mA:Str->Option Value}(I:zFX h x dx C mA):∃ od,W.InstAt h x (W.instObj C dx) C (some od)/\∀ name,W.lookIn name od=some (mA name) :=
 let ⟨od,ho,hl⟩:=zpR I.ns
 ⟨od,⟨I.obj,rfl,rfl,ho⟩,hl⟩
section
variable {prog:Program}{w:World}{A:Around}{E:Value->Shared->Prop}{s:Shared}{K:saj}{x dx C f:Addr}{mA:Str->Option Value}{name:Str}{v:Value}
end
def ztD (f:Str)(v:V):List (Str×V)->List (Str×V)
 | []=>[(f,v)]
 | (g,x)::r=>if g=f then(g,v)::r else(g,x)::ztD f v r
theorem zk8 (f g:Str)(v:V):∀ fs:List (Str×V),(ztD f v fs).lookup g=if g=f then some v else fs.lookup g
 | []=>by
  show scC g [(f,v)]=_
  by_cases h:g=f
  .have hb:(g==f)=true:=beq_iff_eq.mpr h
   simp only[scC,hb,if_pos h]
  .have hb:(g==f)=false:=beq_eq_false_iff_ne.mpr h
   simp only[scC,hb,if_neg h]
 | (k,x)::r=>by
  have ih:=zk8 f g v r;rw[show ztD f v ((k,x)::r)=(if k=f then(k,v)::r else(k,x)::ztD f v r) from rfl]
  by_cases hk:k=f
  .rw[if_pos hk]
   by_cases h:g=k
   .have hb:(g==k)=true:=beq_iff_eq.mpr h
    simp only[scC,hb,if_pos (h.trans hk)]
   .have hb:(g==k)=false:=beq_eq_false_iff_ne.mpr h
    simp only[scC,hb,if_neg (fun e:g=f=>h (e.trans hk.symm))]
  .rw[if_neg hk]
   by_cases h:g=k
   .have hb:(g==k)=true:=beq_iff_eq.mpr h
    simp only[scC,hb,if_neg (fun e:g=f=>hk (h.symm.trans e))]
   .have hb:(g==k)=false:=beq_eq_false_iff_ne.mpr h
    simp only[scC,hb];exact ih
theorem zld (f:Str)(v:V):∀ fs:List (Str×V),f∈(ztD f v fs).map (·.1)/\∀ g,g∈fs.map (·.1)->g∈(ztD f v fs).map (·.1)
 | []=>⟨by simp [ztD],fun g h=>by simp at h⟩
 | (k,x)::r=>by
  obtain⟨i1,i2⟩:=zld f v r;rw[show ztD f v ((k,x)::r)=(if k=f then(k,v)::r else(k,x)::ztD f v r) from rfl]
  by_cases hk:k=f
  .rw[if_pos hk]
   subst hk;exact⟨by simp,fun g h=>by simpa using h⟩
  .rw[if_neg hk]
   refine⟨?_,fun g h=>?_⟩
   .rw[saJ]
    exact sak _ i1
   .rw[saJ] at h ⊢
    rcases sas.mp h with e | e
    .exact sas.mpr (.inl e)
    .exact sak _ (i2 g e)
theorem zqv {v:V}{o:Option Value}(r:zCh (some v) o):∃ u,o=some u/\zcj v u:=by
 cases o with
 | none=>exact(show False from r).elim
 | some u=>exact⟨u,rfl,r⟩
theorem zv7 {v:V}{u:Value}(r:zcj v u):W.handedIn u=true:=by
 cases v with
 | non=>cases (show u=sbr from r);rfl
 | bl b=>cases (show u=sa8 b from r);rfl
 | int i=>obtain⟨t,e⟩:=(show ∃ t,u=sbK i t from r);cases e;rfl
 | str x=>obtain⟨t,e⟩:=(show ∃ t,u=sbJ x t from r);cases e;rfl
 | byt b=>obtain⟨t,e⟩:=(show ∃ t,u=Value.bytes b t from r);cases e;rfl
 | flt b=>obtain⟨t,e⟩:=(show ∃ t,u=Value.float b t from r);cases e;rfl
 | ref a=>cases (show u=saR a from r);rfl
 | ty n=>cases (show u=Value.type n from r);rfl
section
variable {P:Program}{w:World}{H H':Hp}{h h':Heap}{a C dx:Addr}{fs fs':List (Str×V)}
theorem zv1 (hok:HOk P w H h)(e:H a=some (.ins C dx fs)):∃ mA,zFX h a dx C mA/\(∀ f,zCh (fs.lookup f) (mA f))/\scK mA (fs.map (·.1))/\fs.length<=1000/\H dx=some (.own a):=by
 obtain⟨d,z,ne,ob,mA,n,r,q⟩:=(show zcg P w H h a (.ins C dx fs) from hok a _ e)
 exact⟨mA,⟨ob,n,ne⟩,r,q,z,d⟩
end
structure Cls (K:saj) (C:Addr):Prop where
 pg:W.plainGet K C Str.empty=true
 hd:scc K C=true
 po:W.plainOver K C=true
 sa:sbF K (.ref C) "__setattr__"=some (some (.builtin "object.__setattr__"))
theorem Cls.get {K:saj}{C:Addr}(c:Cls K C)(f:Str):W.plainGet K C f=true:=c.pg
def zhS (K:saj)(C:Addr)(f:Str):Prop:=sbF K (.ref C) f=some none
section
variable {X:Cx}{pins:List (Addr×Obj)}{σ:St}{H:Hp}{s:Shared}{a C dx:Addr}{fs:List (Str×V)}{f:Str}{v:V}{A:Around}{E:Value->Shared->Prop}
theorem zB1 {prog:Program}{w:World}{env:Env}{e:Expr}{f:Str}{pos:Pos}{s:Shared}{Q:Value->Shared->Prop}(hb:attributeBase e f env (eval e env)=eval e env)
  (h:wpAny (model prog w) A (eval e env) (fun o si=>wpAny (model prog w) A (getAttr o f true) Q E si) E s):wpAny (model prog w) A (eval (.Attribute e f pos) env) Q E s :=
 Attribute_any_ h (by rw[arm_eval_Attribute,hb])
end
section
variable {X:Cx}{o e value:Expr}{f:Str}{pos pos' tpos:Pos}{ta tv:TE}
end
section
variable {X:Cx}{pins:List (Addr×Obj)}{σ:St}{H:Hp}{s:Shared}{A:Around}{E:Value->Shared->Prop}{Q:Value->Shared->Prop}{c:Value}{b:Bool}
inductive zut (K:saj) (H:Hp):V->Value->Prop where
 | non:zut K H .non (.type "NoneType")
 | bl (x:Bool):zut K H (.bl x) (.type "bool")
 | int (i:Int):zut K H (.int i) (.type "int")
 | str (x:Str):zut K H (.str x) (.type "str")
 | flt (x:UInt64):zut K H (.flt x) (.type "float")
 | lst {a:Addr}{xs:List V}(e:H a=some (.lst xs)):zut K H (.ref a) (.type "list")
 | frz {a:Addr}{o:Obj}{xs:List V}(e:H a=some (.frz o (.lst xs))):zut K H (.ref a) (.type "list")
 | tup {a:Addr}{xs:List V}(e:H a=some (.tup xs)):zut K H (.ref a) (.type "tuple")
 | dK {a:Addr}{kvs:List (Key×V)}(e:H a=some (.dK kvs)):zut K H (.ref a) (.type "dict")
 | dT {a:Addr}{kvs:List (List Key×V)}(e:H a=some (.dT kvs)):zut K H (.ref a) (.type "dict")
 | ins {a C dx:Addr}{fs:List (Str×V)}(e:H a=some (.ins C dx fs)) (cl:Cls K C) (ha:sbF K (.ref C) "__class__"=some (some (.builtin "object.__class__")))
   (hn:W.specialIn K (.builtin "object.__class__") "__get__"=some (some (.builtin "getset_descriptor.__get__"))) (htk:W.takesIn K (.builtin "object.__class__")=some true)
   (hm:W.mroIn K C (.type "object")=some true):zut K H (.ref a) (.ref C)
theorem ziB {x:V}{u t:Value}(I:Inv X pins σ H s)(rx:zcj x u)(ty:zut X.K H x t)(e:sdg X.K t c=some b)(h:∀ tk,Q (.bool b) { s with toks:=tk }) :
  wpAny (model X.prog X.w) A (call (.builtin "isinstance") [u,c]) Q E s:=by
 cases ty with
 | non=>cases (show u=sbr from rx);exact sbv W.kitx_none I.kIn scz e (fun z=>nomatch z) h
 | bl y=>cases (show u=sa8 y from rx);exact sbv W.kitx_bool I.kIn scz e (fun z=>nomatch z) h
 | int i=>obtain⟨t,q⟩:=(show ∃ t,u=sbK i t from rx);cases q;exact sbv W.kitx_int I.kIn scz e (fun z=>nomatch z) h
 | str y=>obtain⟨t,q⟩:=(show ∃ t,u=sbJ y t from rx);cases q;exact sbv W.kitx_str I.kIn scz e (fun z=>nomatch z) h
 | flt y=>obtain⟨t,q⟩:=(show ∃ t,u=Value.float y t from rx);cases q;exact sbv W.kitx_float I.kIn scz e (fun z=>nomatch z) h
 | @lst a xs ea =>
  cases (show u=saR a from rx);obtain⟨_,_,n,_,h1⟩:=(show zcg X.prog X.w H s.heap a (.lst xs) from I.hok a _ ea)
  exact sbv W.kitx_list I.kIn ⟨_,h1,rfl⟩ e (fun z=>nomatch z) h
 | @frz a ob xs ea =>
  cases (show u=saR a from rx);obtain⟨_,_,_,n,_,h1⟩:=(show zcg X.prog X.w H s.heap a (.frz ob (.lst xs)) from I.hok a _ ea)
  exact sbv W.kitx_list I.kIn ⟨_,h1,rfl⟩ e (fun z=>nomatch z) h
 | @tup a xs ea =>
  cases (show u=saR a from rx);obtain⟨_,_,_,p⟩:=(show zcg X.prog X.w H s.heap a (.tup xs) from I.hok a _ ea)
  obtain⟨o,h1,h2,_⟩:=p;exact sbv W.kitx_tuple I.kIn ⟨o,h1,h2⟩ e (fun z=>nomatch z) h
 | @dK a kvs ea =>
  cases (show u=saR a from rx);obtain⟨_,_,vs,_,p⟩:=(show zcg X.prog X.w H s.heap a (.dK kvs) from I.hok a _ ea)
  obtain⟨o,es,ep,h1,h2,_⟩:=p;exact sbv W.kitx_dict I.kIn ⟨o,h1,h2.1⟩ e (fun z=>nomatch z) h
 | @dT a kvs ea =>
  cases (show u=saR a from rx);obtain⟨_,_,xs,_,o,es,ep,h1,h2,_⟩:=(show zcg X.prog X.w H s.heap a (.dT kvs) from I.hok a _ ea)
  exact sbv W.kitx_dict I.kIn ⟨o,h1,h2.1⟩ e (fun z=>nomatch z) h
 | @ins a C dx fs ea cl ha hn htk hm =>
  cases (show u=saR a from rx);obtain⟨mA,O,_⟩:=zv1 I.hok ea;obtain⟨od,J,_⟩:=O.look;exact sbv (W.kitx_own (cl.get _) cl.hd ha hn htk hm) I.kIn J e (fun z=>nomatch z) h
end
structure zhR (k:Nat) (A:Around):Prop where
 hd:A.handled=none
 dp:A.depth+3*k+5 < recursionLimit
 un:A.units+16*k+200 < cLine
theorem zhR.mono {j k:Nat}{A:Around}(r:zhR k A)(h:j<=k):zhR j A:=⟨r.hd,by have:=r.dp;omega,by have:=r.un;omega⟩
theorem zhR.deeper {k:Nat}{A:Around}(r:zhR (k+1) A)(env:Env):zhR k (A.deeper env) :=
 ⟨r.hd,by have:=r.dp;show A.depth+1+3*k+5 < _;omega,by have:=r.un;show A.units+3+16*k+200 < _;omega⟩
theorem ztY {A:Around}{C:Addr}{us:List Value}{kw:List (Str×Value)}:(A.under (.builtin "type.__call__" ⟨.ref C::us,kw⟩)).depth=A.depth+1:=by
 first | rfl | simp [Around.under,Code.weight,Code.isCreation,Code.isGuard,Code.isCaller,Code.frames,Code.isFrame,guardIds]
theorem ztX {A:Around}{C:Addr}{us:List Value}{kw:List (Str×Value)}:(A.under (.builtin "type.__call__" ⟨.ref C::us,kw⟩)).units=A.units+1:=by
 first | rfl | simp [Around.under,Code.cUnits,Code.frames,Code.isFrame]
theorem zhR.make {k:Nat}{A:Around}(r:zhR (k+1) A)(C:Addr)(us:List Value)(kw:List (Str×Value)):zhR k (A.under (.builtin "type.__call__" ⟨.ref C::us,kw⟩)) :=
 ⟨r.hd,by have:=r.dp;rw[ztY];omega,by have:=r.un;rw[ztX];omega⟩
theorem zhR.depth {k:Nat}{A:Around}(r:zhR k A):A.depth < recursionLimit:=by have:=r.dp;omega
theorem zhR.units {k:Nat}{A:Around}(r:zhR k A):A.units+64 < cLine:=by have:=r.un;omega
def zGy:TA:=fun _ H Q=>Q [] H
def zE6 (ta:TE)(tr:TA):TA:=fun σ H Q=>ta σ H fun x H1=>tr σ H1 fun xs H2=>Q (x::xs) H2
section
variable {X:Cx}{e:Expr}{es:List Expr}{te:TE}{t:TA}{pos:Pos}
theorem ziw:PA X [] zGy:=fun _ _ _ _ H Q I h=>sdw ⟨[],H,I,.nil,h⟩
theorem zdE (ha:PE X e te)(hr:PA X es t)(hs:starEach (e::es) X.env=(false,eval e X.env)::starEach es X.env:=by rfl):PA X (e::es) (zE6 te t):=by
 intro pos pins s σ H Q I h;rw[hs];show wpAny _ _ (spliced ((false,eval e X.env)::backTo pos (starEach es X.env))) _ _ s;refine sdn (thn (ha pins s σ H _ I h) fun u s1 ⟨x,H1,I1,r1,q1⟩=>?_);exact thn (hr pos pins s1 σ H1 _ I1 q1) fun us s2 ⟨xs,H2,I2,r2,q2⟩=>⟨x::xs,H2,I2,.cons r1 r2,q2⟩
def zGr (t:TA):TE:=fun σ H Q=>t σ H fun xs H1=>xs.length<=sizeLine/\∀ p,H1 p=none->Q (.ref p) (upd H1 p (.tup xs))
def zGz (t:TA):TE:=fun σ H Q=>t σ H fun xs H1=>xs.length<=sizeLine/\∀ p,H1 p=none->Q (.ref p) (upd H1 p (.lst xs))
theorem zDb {x1}(h:PA X es t):PE X (.Tuple es x1 pos) (zGr t):=by
 intro pins s σ H Q I hq;refine wpAny_Tuple_spliced (thn (h pos pins s σ H _ I hq) fun us s1 ⟨xs,H1,I1,r,z,q⟩=>⟨by rw[← r.length];exact z,?_⟩);have hf:H1 s1.heap.objs.size=none:=I1.hok.fresh (saA _);refine⟨.ref s1.heap.objs.size,upd H1 s1.heap.objs.size (.tup xs),I1.laid (t':=s1.toks) (fun b u e=>sah _ e) (saA _) ?_,rfl,q _ hf⟩;exact⟨z,us,r,⟨_,saV _ rfl,rfl,_,rfl⟩⟩
theorem zzL (h:PA X es t):PE X (.List es pos) (zGz t):=by
 intro pins s σ H Q I hq;refine wpAny_List_spliced (thn (h pos pins s σ H _ I hq) fun us s1 ⟨xs,H1,I1,r,z,q⟩=>⟨by rw[← r.length];exact z,?_⟩);have hf:H1 s1.heap.objs.size=none:=I1.hok.fresh (saA _);refine⟨.ref s1.heap.objs.size,upd H1 s1.heap.objs.size (.lst xs),I1.laid (t':=s1.toks) (fun b u e=>sah _ e) (saA _) ?_,rfl,q _ hf⟩;exact⟨z,us,0,r,saV _ rfl⟩
end
abbrev Sp:=List V->Hp->VK->XK->Prop
abbrev CXT:=List Env->Hp->Shared->XK->Value->Shared->Prop
structure zz6 (P:Program) (w:World) (K:saj) (mg:Str->Option Value) (base:Heap) (A:Around) (outer:List Env) (s:Shared) (H:Hp):Prop where
 frames:A.frames=some outer
 mod:Mod K mg base
 bs:∀ b o,base.get? b=some o->s.heap.get? b=some o/\H b=none
 bsz:base.objs.size<=s.heap.objs.size
 funs:s.heap.FunFrames base outer
 frf:∀ b∈frs outer,H b=none
 hok:HOk P w H s.heap
 bare:AllBare s.gens
def CE (outer:List Env)(P:Program)(w:World)(H:Hp)(s:Shared)(Q:VK)(u:Value)(s':Shared):Prop :=
 ∃ v H',s'.os=s.os/\AllBare s'.gens/\Un (frs outer) [] H H' s.heap s'.heap/\HOk P w H' s'.heap/\zcj v u/\Q v H'
def CR (CX:CXT)(outer:List Env)(P:Program)(w:World)(H:Hp)(s:Shared)(Q:VK)(E:XK)(r:Result)(s':Shared):Prop :=
 match r with
 | .ok (.ret u)=>CE outer P w H s Q u s'
 | .ok _=>False
 | .error e=>CX outer H s E e s'
structure zcB (P:Program) (w:World) (K:saj) (mg:Str->Option Value) (base:Heap) (CX:CXT) (k:Nat) (f:Addr) (fd:FuncData) (ps:List Str) (sp:Sp):Prop where
 len:∀ vs H Q E,sp vs H Q E->vs.length=ps.length
 run:∀ (A:Around) (outer:List Env) (s:Shared) (H:Hp) (args:Args) (us:List Value) (vs:List V) (Q:VK) (E:XK),zhR k A->zz6 P w K mg base A outer s H->BindsTo s fd args (ps.zip us)->zbM vs us->sp vs H Q E ->
  codeAny (model P w) A (.call (.ref f) args) (CR CX outer P w H s Q E) s
theorem zcB.mono {P:Program}{w:World}{K:saj}{mg:Str->Option Value}{base:Heap}{CX:CXT}{j k:Nat}{f:Addr}{fd:FuncData}{ps:List Str}{sp:Sp}(F:zcB P w K mg base CX j f fd ps sp)(h:j<=k) :
  zcB P w K mg base CX k f fd ps sp:=⟨F.len,fun A outer s H args us vs Q E hr=>F.run A outer s H args us vs Q E (hr.mono h)⟩
theorem zz6.make {P:Program}{w:World}{K:saj}{mg:Str->Option Value}{base:Heap}{A:Around}{outer:List Env}{s:Shared}{H:Hp}(e:zz6 P w K mg base A outer s H)(C:Addr)(us:List Value)(kw:List (Str×Value)) :
  zz6 P w K mg base (A.under (.builtin "type.__call__" ⟨.ref C::us,kw⟩)) outer s H:=⟨by first | exact e.frames | (simpa [Around.under,Code.envs,Code.isFrame,pushEnvs] using e.frames),e.mod,e.bs,e.bsz,e.funs,e.frf,e.hok,e.bare⟩
section
variable {X:Cx}{pins:List (Addr×Obj)}{σ:St}{H:Hp}{s s':Shared}
theorem Inv.env0 (I:Inv X pins σ H s):zz6 X.prog X.w X.K X.mg X.base X.A X.stack s H :=
 ⟨I.ok.frames,I.ok.mod,I.bs,sal I.ok.bsz I.sz,I.stack,I.stkFree,I.hok,I.bare⟩
theorem Inv.after {Q:VK}{u:Value}(I:Inv X pins σ H s)(h:CE X.stack X.prog X.w H s Q u s'):EP X pins σ Q u s':=by
 obtain⟨v,H',os,bare,un,hok,r,q⟩:=h;obtain⟨hh,g,d,t,os'⟩:=s';obtain rfl:os'=s.os:=os;exact⟨v,H',I.call (h':=hh) (g':=g) (d':=d) (t':=t) (ch:=[]) un hok bare (fun b z=>absurd z (by simp)),r,q⟩
end
def zE7 (sp:Sp)(dvs:List V)(E:XK)(t:TA):TE:=fun σ H Q=>t σ H fun vs H1=>sp (vs++dvs) H1 Q E
def zkz (K:saj)(fd:FuncData)(ps:List Str)(ds:List Value):Prop :=
 ∀ (s:Shared) (us:List Value),K.In s.heap->(us++ds).length=ps.length->BindsTo s fd ⟨us,[]⟩ (ps.zip (us++ds))
theorem zkz.all {K:saj}{fd:FuncData}{ps:List Str}(h:∀ us:List Value,us.length=ps.length->bindArgs fd ⟨us,[]⟩=pure (ps.zip us)):zkz K fd ps []:=fun s us _ hl=>by
 rw[sbR] at hl ⊢;exact .of_eq (h us hl)
def zl5 (CX:CXT)(X:Cx)(E:XK):Prop:=∀ (pins:List (Addr×Obj)) (σ:St) (H:Hp) (s:Shared) (e:Value) (s':Shared),Inv X pins σ H s->CX X.stack H s E e s'->X.xe e s'
section
variable {X:Cx}{CX:CXT}{k:Nat}{f C:Addr}{fd:FuncData}{ps:List Str}{sp:Sp}{dvs:List V}{ds:List Value}{E:XK}{x m:Str}{p pos apos:Pos}{e o:Expr}{es:List Expr}{ta:TE}{t:TA}
theorem zCV {pins:List (Addr×Obj)}{σ:St}{H:Hp}{s:Shared}{Q:VK}{us:List Value}{vs:List V}(F:zcB X.prog X.w X.K X.mg X.base CX k f fd ps sp)(hr:zhR k X.A)(hb:zkz X.K fd ps ds)(hd:zbM dvs ds)(hx:zl5 CX X E)
  (I:Inv X pins σ H s)(r:zbM vs us)(h:sp (vs++dvs) H Q E):wpAny (model X.prog X.w) X.A (call (.ref f) us) (EP X pins σ Q) X.xe s:=by
 have r2:zbM (vs++dvs) (us++ds):=r.append hd;have hl:(us++ds).length=ps.length:=by rw[← r2.length];exact F.len _ _ _ _ h
 refine wpAny_call (codeAny_mono (F.run X.A X.stack s H ⟨us,[]⟩ (us++ds) (vs++dvs) Q E hr I.env0 (hb s us I.kIn hl) r2 h) fun r s' hq=>?_);cases r with
 | error e=>exact hx pins σ H s e s' I hq
 | ok fl =>
  cases fl with
  | ret u=>exact I.after hq
  | next=>exact sbg hq
  | brk=>exact sbg hq
  | cont=>exact sbg hq
theorem zAR (F:zcB X.prog X.w X.K X.mg X.base CX k f fd ps sp)(hr:zhR k X.A)(hg:Gl X x)(hm:X.mg x=some (.ref f))(hk:scU X.K (.ref f)=true)(hb:zkz X.K fd ps ds)(hd:zbM dvs ds)(hx:zl5 CX X E)
  (ha:PA X (e::es) t)(hdb:(x==("__debug__" : Str))=false:=by decide)(he:starEach (e::es) X.env=(false,eval e X.env)::starEach es X.env:=by rfl)(hpl:(backTo pos (starEach es X.env)).any (·.1)=false:=by rfl) :
  PE X (.Call (.Name x p) (e::es) [] pos) (zE7 sp dvs E t):=by
 intro pins s σ H Q I h;refine wpAny_Call_Name_kw (zjl I hg hm ?_ hdb);refine W.callWith_K (h₀:=X.base) I.ok.mod.kin hk (thn (ha pos pins s σ H _ I h) fun us s1 ⟨vs,H1,I1,r,q⟩=>⟨I1.kIn,?_⟩) he hpl;exact zCV F hr hb hd hx I1 r q
end
section
variable {X:Cx}{CX:CXT}{k:Nat}{f C:Addr}{fd:FuncData}{ps ks:List Str}{sp:Sp}{E:XK}{x m:Str}{p pos apos kpos:Pos}{e o:Expr}{es:List Expr}{kws:List Keyword}{te ta:TE}{t tk:TA}{nm:Option Str}
variable {g:List Value->List Value->List Value}{gV:List V->List V->List V}
end
structure zay (N P:List Str) (sc:Scope):Prop where
 kind:sc.kind=.function
 co:sc.isCoroutine=false
 gen:sc.isGenerator=false
 nd:N.Nodup
 pre:N.take P.length=P
 par:∀ x∈P,sc.names.lookup x=some .local ∨ sc.names.lookup x=some .cell
 nofree:∀ y∈sc.names,y.2≠.free
theorem zqj {kindOf:Str->Option NameKind}{x:Str}:∀ {binds:List (Str×Value)}{m:Str->Option Value},(∀ v,(x,v)∉binds)->bindL kindOf binds m x=m x
 | [],_,_=>rfl
 | (n,v)::r,m,h=>by
  unfold bindL;rw[zqj fun w hw=>h w (sak _ hw)];split
  .have:x≠n:=by rintro rfl;exact h v saq
   simp [this]
  .rfl
theorem zql {kindOf:Str->Option NameKind}{x:Str}:∀ {binds:List (Str×Value)}{m:Str->Option Value},(∀ v,(x,v)∉binds)->bindC kindOf binds m x=m x
 | [],_,_=>rfl
 | (n,v)::r,m,h=>by
  unfold bindC;rw[zql fun w hw=>h w (sak _ hw)];split
  .rfl
  .have:x≠n:=by rintro rfl;exact h v saq
   simp [this]
theorem zqk {kindOf:Str->Option NameKind}{x:Str}{v:Value}:∀ {P:List Str}{vs:List Value}{i:Nat}{m:Str->Option Value},P.Nodup->P[i]?=some x->vs[i]?=some v->kindOf x=some .local ->
  bindL kindOf (P.zip vs) m x=some v
 | [],_,_,_,_,h,_,_=>by simp at h
 | _::_,[],_,_,_,_,h,_=>by simp at h
 | p::P,w::vs,0,m,nd,h1,h2,hk=>by
  simp at h1 h2;subst h1;subst h2;show bindL kindOf ((p,w)::P.zip vs) m p=_;unfold bindL;rw[zqj fun v hv=>(sbD.mp nd).1 (List.of_mem_zip hv).1,if_pos hk];simp
 | p::P,w::vs,i+1,m,nd,h1,h2,hk=>by
  show bindL kindOf ((p,w)::P.zip vs) m x=_;unfold bindL;exact zqk (i:=i) (sbD.mp nd).2 (by simpa using h1) (by simpa using h2) hk
theorem zqm {kindOf:Str->Option NameKind}{x:Str}{v:Value}:∀ {P:List Str}{vs:List Value}{i:Nat}{m:Str->Option Value},P.Nodup->P[i]?=some x->vs[i]?=some v->kindOf x≠some .local ->
  bindC kindOf (P.zip vs) m x=some v
 | [],_,_,_,_,h,_,_=>by simp at h
 | _::_,[],_,_,_,_,h,_=>by simp at h
 | p::P,w::vs,0,m,nd,h1,h2,hk=>by
  simp at h1 h2;subst h1;subst h2;show bindC kindOf ((p,w)::P.zip vs) m p=_;unfold bindC;rw[zql fun v hv=>(sbD.mp nd).1 (List.of_mem_zip hv).1,if_neg hk];simp
 | p::P,w::vs,i+1,m,nd,h1,h2,hk=>by
  show bindC kindOf ((p,w)::P.zip vs) m x=_;unfold bindC;exact zqm (i:=i) (sbD.mp nd).2 (by simpa using h1) (by simpa using h2) hk
def start (N:List Str)(vs:List V):St:=vs.map some++sat (N.length-vs.length) none
noncomputable def zma (CX:CXT) (P:Program) (w:World) (K:saj) (mg:Str->Option Value) (base:Heap) (N:List Str) (qual:Str) (scope:Scope) (f:Addr) (cd:Value) (A:Around) (outer:List Env) (s:Shared) (H:Hp) (E:XK):Cx where
 prog:=P
 w:=w
 K:=K
 mg:=mg
 base:=base
 A:=A.deeper (envOfC qual scope s.heap.objs.size f cd)
 N:=N
 sk:=s
 Ha:=H
 env:=envOfC qual scope s.heap.objs.size f cd
 outer:=outer
 stack:=envOfC qual scope s.heap.objs.size f cd::outer
 ex:=[]
 calm:=true
 fn:=fun _=>true
 pn:=[]
 xe:=fun e s'=>wpAny (model P w) (A.deeper (envOfC qual scope s.heap.objs.size f cd)) (leaving (envOfC qual scope s.heap.objs.size f cd) e) (fun _ s''=>CX outer H s E e s'') (fun e' s''=>CX outer H s E e' s'') s'
theorem zs6 {sc:Scope}{n:Nat}{x:Str}(h:sc.names.lookup x=some .cell):∃ c,(cellsFrom n sc.names []).lookup x=some c:=by
 have q:=W.cellsFrom_some sc.names n [] (.inl h);exact scO.mp q
theorem zvZ {CX:CXT}{P:Program}{w:World}{K:saj}{mg:Str->Option Value}{base:Heap}{N ps:List Str}{qual:Str}{scope:Scope}{f:Addr}{cd:Value}{A:Around}{outer:List Env}{s s1:Shared}{H:Hp}{E:XK}{us:List Value}{vs:List V}
  (S:zay N ps scope)(hd:A.handled=none)(e0:zz6 P w K mg base A outer s H)(hl:vs.length=ps.length)(r:zbM vs us)
  (x:InCallC s s.heap.objs.size (bindL (envOfC qual scope s.heap.objs.size f cd).kindOf (ps.zip us) fun _=>none) (cellsFrom (s.heap.objs.size+1) scope.names []) (bindC (envOfC qual scope s.heap.objs.size f cd).kindOf (ps.zip us) fun _=>none) s1) :
  Inv (zma CX P w K mg base N qual scope f cd A outer s H E) [] (start N vs) H s1:=by
 have hpl:ps.length<=N.length:=by have:=congrArg List.length S.pre;rw[sa4] at this;omega
 obtain⟨h1,tk,rfl,hk⟩:=x.done;have noA:∀ b:Addr,b∉(zma CX P w K mg base N qual scope f cd A outer s H E).ex:=fun b z=>absurd (show b∈([]:List Addr) from z) (by simp);refine⟨⟨e0.mod,S.kind,rfl,rfl,saA _,fun y z c h1 h2=>?_,fun y hy=>?_,fun y c _ h=>?_,fun _=>hd,Around.frames_deeper e0.frames,.inr ⟨rfl,rfl⟩,fun b z=>absurd z (noA b),e0.bs,e0.bsz,fun b _ _=>noA b,fun b z=>absurd z (noA b),e0.funs,e0.frf⟩,
  rfl,e0.bare,Un.kept hk,⟨_,x.toInCall.ns,fun i y v h1 h2 h3=>?_⟩,fun y c h=>⟨_,x.cell y c h⟩,e0.hok.fresh (saA _),fun y c h=>?_,fun p hp=>absurd (show p∈([]:List (Addr×Obj)) from hp) (by simp),e0.hok.kept hk,?_⟩
 .exact name_of_addr x.apart (sbC h1) (sbC h2)
 .have hy:scope.names.lookup y=some .cell∨scope.names.lookup y=some .free:=hy
  rcases hy with hy | hy
  .exact zs6 hy
  .exact absurd rfl (S.nofree _ (sbC hy))
 .exact sbL (x.above y c (sbC h))
 .have hi:i < vs.length:=by
   unfold start at h2
   by_cases hi:i < vs.length
   .exact hi
   .rw[saI (by simpa using hi)] at h2
    rw[saP] at h2;split at h2<;>cases h2
  have ha:vs[i]?=some v:=by
   unfold start at h2;rw[saC (by simpa using hi),sai] at h2;cases e:vs[i]? with
   | none=>rw[e] at h2;cases h2
   | some a=>rw[e] at h2;cases h2;rfl
  obtain⟨u,hu,rv⟩:=r.get ha;have hp:ps[i]?=some y:=by
   rw[← S.pre,saY (by omega)];exact h1
  have ndP:ps.Nodup:=by rw[← S.pre];exact S.nd.sublist (List.take_sublist _ _)
  refine⟨u,rv,?_⟩;rcases S.par y (say hp) with k | k
  .exact .inl ⟨k,zqk ndP hp hu k⟩
  .obtain⟨c,e⟩:=zs6 (n:=s.heap.objs.size+1) k
   refine .inr ⟨.inl k,c,e,?_⟩;have q:=x.cell y c e;rw[zqm ndP hp hu (by show scope.names.lookup y≠_;rw[k];decide)] at q;exact q
 .exact e0.hok.fresh (sbL (x.above y c (sbC h)))
 .unfold start
  show _=N.length;rw[sba,sab,sbw];omega
theorem zD0 {CX:CXT}{P:Program}{w:World}{K:saj}{mg:Str->Option Value}{base:Heap}{k:Nat}{f:Addr}{name qual:Str}{params:Arguments}{body:List Stmt}{scope:Scope}{dV kV doc pm cdv ct oc:Value}{an od:Option Addr}
  {osl:Array (Option Value)}{N ps:List Str}{sp:Sp}(lk:K.lookup f=some ⟨oc,od,.func (sb9 name qual params body scope dV kV doc pm an cdv ct),osl⟩) (hcd:sdF K cdv qual=true) (S:zay N ps scope)
  (len:∀ vs H Q E,sp vs H Q E->vs.length=ps.length)
  (hbody:∀ (A:Around) (outer:List Env) (s:Shared) (H:Hp) (vs:List V) (Q:VK) (E:XK),zhR k (A.deeper (envOfC qual scope s.heap.objs.size f cdv))->sp vs H Q E ->
   ∃ t,PSs (zma CX P w K mg base N qual scope f cdv A outer s H E) body t/\t { nx:=fun _ H'=>Q .non H',rt:=Q } (start N vs) H) :
  zcB P w K mg base CX (k+1) f (sb9 name qual params body scope dV kV doc pm an cdv ct) ps sp:=by
 refine⟨len,fun A outer s H args us vs Q E hr e0 hb r hsp=>?_⟩;have hl:=len _ _ _ _ hsp;have KX:K.In s.heap:=e0.mod.kin.keeps fun b o e=>(e0.bs b o e).1;have lim:s.heap.NoLimit:=e0.mod.nolimit.keeps fun b o e=>(e0.bs b o e).1;have hkind:∀ y∈ps.zip us,scope.names.lookup y.1=some .local ∨ (scope.names.lookup y.1=some .cell/\((cellsFrom (s.heap.objs.size+1) scope.names []).lookup y.1).isSome=true):=fun⟨n,v⟩ hy=>by
  rcases S.par n (List.of_mem_zip hy).1 with q | q
  .exact .inl q
  .exact .inr ⟨q,W.cellsFrom_some _ _ _ (.inl q)⟩
 refine codeAny_call_function hr.depth (KX _ _ lk) rfl S.co S.gen rfl (W.codeRec_of KX hcd) (hb _ _ _ _ ?_);refine wpAny_newFunctionEnv_cells S.kind hkind fun env he s1 x=>?_;subst he;refine⟨lim.keeps x.toInCall.keep,codeAny_func ?_⟩;obtain⟨t,ht,hq⟩:=hbody A outer s H vs Q E (hr.deeper _) hsp;have I:Inv (zma CX P w K mg base N qual scope f cdv A outer s H E) [] (start N vs) H s1:=zvZ S hr.hd e0 hl r x;refine sbe (ht [] s1 (start N vs) H _ I hq) (fun fl s' hs=>?_) fun e s' hs=>hs;have fin:∀ {σ':St}{H':Hp}{v:V}{u:Value},Inv (zma CX P w K mg base N qual scope f cdv A outer s H E) [] σ' H' s'->zcj v u->Q v H'->CE outer P w H s Q u s' :=
  fun {σ' H' v u} J rv q=>⟨v,H',J.os,J.bare,J.base,J.hok,rv,q⟩
 cases fl with
 | ret u =>
  obtain⟨v,σ',H',J,rv,q⟩:=hs;exact fin J rv q
 | next =>
  obtain⟨σ',H',J,q⟩:=hs;exact fin (v:=V.non) (u:=sbr) J rfl q
 | brk =>
  obtain⟨_,_,_,q⟩:=hs;exact sbg q
 | cont =>
  obtain⟨_,_,_,q⟩:=hs;exact sbg q
section
variable {X:Cx}{x:Str}{p pos:Pos}{e:Expr}{es:List Expr}{t:TA}{id T:String}{r:List V->Hp->VK->Prop}
def tCB (r:List V->Hp->VK->Prop)(t:TA):TE:=fun σ H Q=>t σ H fun vs H1=>r vs H1 Q
theorem zn6 (hc:zky X (.builtin id) r)(hg:Gl X x)(hm:X.mg x=none)(hv:bootBuiltins x=some (.builtin id))(ha:PA X (e::es) t)(hn:x≠"__name__":=by decide)(hdb:(x==("__debug__" : Str))=false:=by decide)
  (he:starEach (e::es) X.env=(false,eval e X.env)::starEach es X.env:=by rfl)(hpl:(backTo pos (starEach es X.env)).any (·.1)=false:=by rfl):PE X (.Call (.Name x p) (e::es) [] pos) (tCB r t):=by
 intro pins s σ H Q I h;refine wpAny_Call_Name_kw (zjV I hg hm hv ?_ hn hdb);exact PyProof.Rows.callWith_builtin1 (thn (ha pos pins s σ H _ I h) fun us s1 ⟨vs,H1,I1,r1,q1⟩=>hc pins s1 σ H1 vs us Q I1 r1 q1) he hpl
theorem zpH (hc:zky X (.type T) r)(hg:Gl X x)(hm:X.mg x=none)(hv:bootBuiltins x=some (.type T))(ha:PA X (e::es) t)(hn:x≠"__name__":=by decide)(hdb:(x==("__debug__" : Str))=false:=by decide)
  (he:starEach (e::es) X.env=(false,eval e X.env)::starEach es X.env:=by rfl)(hpl:(backTo pos (starEach es X.env)).any (·.1)=false:=by rfl):PE X (.Call (.Name x p) (e::es) [] pos) (tCB r t):=by
 intro pins s σ H Q I h;refine wpAny_Call_Name_kw (zjV I hg hm hv ?_ hn hdb);exact sbj (thn (ha pos pins s σ H _ I h) fun us s1 ⟨vs,H1,I1,r1,q1⟩=>hc pins s1 σ H1 vs us Q I1 r1 q1) he hpl
end
end L2
namespace HT
open PySem PyProof.Rows
section
open PySem.SeqAt
open PySem.AutoSeq1 (wpAny_loadPart')
open PySem.MeetsSeq PySem.MeetsSeq2 PySem.MeetsSeq3
end
section
variable {prog:Program}{w:World}{A:Around}{E:Value->Shared->Prop}{s:Shared}
theorem cat_tup {t b:Addr}{vs ws:List Value}{Q:Value->Shared->Prop}(ht:IsTup s.heap t vs.toArray)(hb:IsTup s.heap b ws.toArray)(hv:vs≠[])
  (h1:ws=[]->Q (.ref t) s)(h2:ws≠[]->Q (.ref s.heap.objs.size) { s with heap:=s.heap.push { cls:=.type "tuple",data:=.seq (vs++ws).toArray } })
  (hsz:vs.length+ws.length<=sizeLine):wpAny (model prog w) A (binaryOp .Add (.ref t) (.ref b)) Q E s:=by
 obtain⟨⟨cls,dd,data,sl⟩,ho,hc,n,hd⟩:=id ht;obtain⟨⟨cls2,dd2,data2,sl2⟩,ho2,hc2,n2,hd2⟩:=id hb;simp only at hc hd hc2 hd2;subst hc hd hc2 hd2;have e:vs.toArray++ws.toArray=(vs++ws).toArray:=by simp
 by_cases hw:ws=[]
 .exact concat_meets ⟨_,ho,rfl⟩ ⟨_,ho2,rfl⟩ noFill_tuple_add seq_tuple_add PySem.F.slot_tuple_add PySem.F.entry_tuple_add (PySem.F.args_tuple_add_2 _ _)
   (tuple_addW1 t b vs.toArray ws.toArray n n2 dd dd2 sl sl2 (by simpa using hv) (by simp [hw])) ⟨ho,ho2,h1 hw⟩
 .refine concat_meets ⟨_,ho,rfl⟩ ⟨_,ho2,rfl⟩ noFill_tuple_add seq_tuple_add PySem.F.slot_tuple_add PySem.F.entry_tuple_add (PySem.F.args_tuple_add_2 _ _)
   (tuple_addW2 t b vs.toArray ws.toArray n n2 dd dd2 sl sl2 (by simpa using hv) (by simpa using hw) (by rw[san,san];exact hsz)) ⟨ho,ho2,?_⟩
  rw[e];exact h2 hw
def sIx (n d:Nat):Option Int->Nat
 | none=>d
 | some v=>if v < 0 then(v+(n:Int)).toNat else min v.toNat n
theorem sIx_none (n d:Nat):sIx n d none=d:=rfl
theorem sIx_nat (n d k:Nat):sIx n d (some (k:Int))=min k n:=by
 show(if(k:Int) < 0 then((k:Int)+(n:Int)).toNat else min (k:Int).toNat n)=min k n;rw[if_neg (by omega),sbt]
theorem zCT (n d:Nat)(hd:d<=n)(o:Option Int):sIx n d o<=n:=by
 cases o with
 | none=>exact hd
 | some v =>
  show(if v < 0 then(v+(n:Int)).toNat else min v.toNat n)<=n
  by_cases hv:v < 0
  .rw[if_pos hv];omega
  .rw[if_neg hv];exact Nat.min_le_right _ _
theorem zxD (v:Int)(n d:Nat):(if v < 0 then max (v+(n:Int)) 0 else min v (n:Int))=((sIx n d (some v):Nat):Int):=by
 show(if v < 0 then max (v+(n:Int)) 0 else min v (n:Int))=(((if v < 0 then(v+(n:Int)).toNat else min v.toNat n):Nat):Int)
 by_cases hv:v < 0
 .simp only[if_pos hv];omega
 .simp only[if_neg hv];omega
theorem zum (lo hi:Option Int)(n:Nat):scN lo hi 1 (n:Int)=(((sIx n 0 lo:Nat):Int),((sIx n n hi:Nat):Int)):=by
 have h1:¬ ((1:Int) < 0):=by omega
 unfold scN;simp only[h1,if_false];refine Prod.ext ?_ ?_
 .cases lo with
  | none=>rfl
  | some v=>exact zxD v n 0
 .cases hi with
  | none=>rfl
  | some v=>exact zxD v n n
theorem ztI (i j:Nat):sca (i:Int) (j:Int) 1=j-i:=by
 unfold sca;have h1:(1:Int) > 0:=by omega
 simp only[h1,if_true,Int.ediv_one];split<;>omega
theorem zmK {v:Value}{o:Option Int}{Q:Option Int->Shared->Prop}(p:IsPart v o)(h:Q o s):wpAny (model prog w) A (Builtin.Slice.slicePartIndex v) Q E s:=by
 cases p with
 | none=>exact slicePart_none h
 | int i t=>exact slicePart_int h
theorem zkr {sl:Addr}{vl vu:Value}{lo hi:Option Int}{n:Nat}{Q:Int×Int×Nat->Shared->Prop}(hs:s.heap.IsSliceOf sl vl vu .none)(pl:IsPart vl lo)(pu:IsPart vu hi)
  (h:Q (((sIx n 0 lo:Nat):Int),1,sIx n n hi-sIx n 0 lo) s):wpAny (model prog w) A (Builtin.Slice.sliceApplied (.ref sl) (pure (n:Int))) Q E s:=by
 obtain⟨os,hos,hcs,hds⟩:=id hs;unfold Builtin.Slice.sliceApplied Builtin.Slice.sliceFields;refine sae (sae (wpAny_field hos hds (x:=vl) rfl (sae (wpAny_field hos hds (x:=vu) rfl (sae (wpAny_field hos hds (x:=.none) rfl (sau ?_)))))));refine sae (slicePart_none ?_);show wpAny _ _ (if((1:Int)==0)=true then _ else _) _ _ s;rw[if_neg (by decide)];refine sae (zmK pl (sae (zmK pu (sae (sau ?_)))));show wpAny _ _ (match scN lo hi 1 (n:Int) with | (lo,hi)=>pure (lo,(1:Int),sca lo hi 1)) _ _ s;rw[zum lo hi n];show wpAny _ _ (pure (((sIx n 0 lo:Nat):Int),(1:Int),sca ((sIx n 0 lo:Nat):Int) ((sIx n n hi:Nat):Int) 1)) _ _ s;rw[ztI];exact sau h
theorem zyH (xs:Array Value)(i k:Nat):((saS k).filterMap fun(m:Nat)=>xs[((i:Int)+(m:Int)*1).toNat]?).toArray=((xs.toList.drop i).take k).toArray:=by
 have e:(fun(m:Nat)=>xs[((i:Int)+(m:Int)*1).toNat]?)=fun m=>xs[i+m]?:=by
  funext m;have:((i:Int)+(m:Int)*1).toNat=i+m:=by omega
  rw[this]
 rw[e];have:=pick_run xs i k;rw[scL] at this;have e2:((fun x=>xs[x]?)∘fun x=>i+x)=fun m=>xs[i+m]?:=rfl;rw[e2] at this;rw[this]
theorem getItem_tuple_cut {t sl:Addr}{items:Array Value}{vl vu:Value}{lo hi:Option Int}{Q:Value->Shared->Prop}(ht:IsTup s.heap t items)(hs:s.heap.IsSliceOf sl vl vu .none)(pl:IsPart vl lo)(pu:IsPart vu hi)
  (hw:¬ (sIx items.size 0 lo=0/\sIx items.size items.size hi=items.size))
  (h:Q (.ref s.heap.objs.size) { s with heap:=s.heap.push { cls:=.type "tuple",data:=.seq ((items.toList.drop (sIx items.size 0 lo)).take (sIx items.size items.size hi-sIx items.size 0 lo)).toArray } })
  (hsz:items.size<=sizeLine):wpAny (model prog w) A (getItem (.ref t) (.ref sl)) Q E s:=by
 have htake:sizeOk (.seq ((items.toList.drop (sIx items.size 0 lo)).take (sIx items.size items.size hi-sIx items.size 0 lo)).toArray):=by
  show((items.toList.drop (sIx items.size 0 lo)).take (sIx items.size items.size hi-sIx items.size 0 lo)).toArray.size<=sizeLine;rw[san,sa4,sbY,scG];omega
 have hj:sIx items.size items.size hi<=items.size:=zCT _ _ (saA _) hi;obtain⟨os,hos,hcs,hds⟩:=id hs;have hTs:s.TypeIs (.ref sl) "slice":=⟨os,hos,hcs⟩
 unfold getItem
 try with_reducible refine sbd ?_
 first | refine sae (sau ?_) | skip
 refine sae (wpAny_sequenceKey ht.typeIs (by decide) ?_);refine sae (wpAny_callSpecial?_slot (name:=Str.ofString "__getitem__") ht.typeIs sco
  (wpAny_call_entry sco ht.typeIs entry_tuple_getitem ?_ (args_tuple_getitem _ _)))
 show wpAny _ _ (Builtin.Tuple.tupleItemsOf (.ref t) >>= _) _ _ s;refine sae (tupleItemsOf_ ht ?_);refine sae (wpAny_typeOf hTs ?_);rw[if_pos (by decide)];refine sae (zkr hs pl pu ?_);have hno:¬ ((((sIx items.size 0 lo:Nat):Int)==0&&(1:Int)==1&&(sIx items.size items.size hi-sIx items.size 0 lo)==items.size)=true):=by
  intro q;rw[saF,saF] at q;have q1:((sIx items.size 0 lo:Nat):Int)=0:=eq_of_beq q.1.1;have q2:sIx items.size items.size hi-sIx items.size 0 lo=items.size:=eq_of_beq q.2;exact hw ⟨by omega,by omega⟩
 show wpAny _ _ (if(((sIx items.size 0 lo:Nat):Int)==0&&(1:Int)==1&&(sIx items.size items.size hi-sIx items.size 0 lo)==items.size)=true then _ else _) _ _ s;rw[if_neg hno,zyH]
 first
  | exact sae (m:=scf _) (wpAny_newObj_type (sau ⟨_,rfl,sau h⟩) htake)
  | exact sae (m:=scf _) (wpAny_newObj_type (sae (sau (sau ⟨_,rfl,sau h⟩))) htake)
  | exact sae (sae (m:=scf _) (wpAny_newObj_type (sau (sau ⟨_,rfl,sau h⟩)) htake))
  | exact sae (sae (m:=scf _) (wpAny_newObj_type (sau ⟨_,rfl,sau h⟩) htake))
end
end HT
namespace L2
open PySem PySem.Spec PyProof.Rows
abbrev TO:=St->Hp->(Option Int->Hp->Prop)->Prop
noncomputable def PO (X:Cx) (e:Option Expr) (t:TO):Prop :=
 ∀ (pins:List (Addr×Obj)) (s:Shared) (σ:St) (H:Hp) (Q:Option Int->Hp->Prop),Inv X pins σ H s->t σ H Q ->
  wpAny (model X.prog X.w) X.A (evalPart e X.env) (fun u s'=>∃ o H',Inv X pins σ H' s'/\IsPart u o/\Q o H') X.xe s
def zAt:TO:=fun _ H Q=>Q none H
def zE0 (t:TE):TO:=fun σ H Q=>t σ H fun x H1=>∃ i,x=.int i/\Q (some i) H1
section
variable {X:Cx}{e:Expr}{te:TE}{lo hi:Option Expr}{tl th:TO}{pos p2:Pos}
theorem zAH:PO X none zAt:=by
 intro pins s σ H Q I h;rw[evalPart_none];exact sau ⟨none,H,I,.none,h⟩
theorem zAG (h:PE X e te):PO X (some e) (zE0 te):=by
 intro pins s σ H Q I hw;rw[evalPart_some];refine thn (h pins s σ H _ I hw) fun u s1 ⟨x,H1,I1,r1,q1⟩=>?_;obtain⟨i,rfl,q⟩:=q1;obtain⟨t,rfl⟩:=r1;exact⟨some i,H1,I1,.int i t,q⟩
noncomputable def SlR (X:Cx) (r:V->Option Int->Option Int->Hp->VK->Prop):Prop :=
 ∀ (pins:List (Addr×Obj)) (s:Shared) (σ:St) (H:Hp) (x:V) (v vl vu:Value) (lo hi:Option Int) (sl:Addr) (Q:VK),Inv X pins σ H s->zcj x v->s.heap.IsSliceOf sl vl vu .none->IsPart vl lo->IsPart vu hi->r x lo hi H Q ->
  ∃ T id,typeLookup (.type T) "__getitem__"=pure (some (.builtin id))/\s.TypeIs v T/\wpAny (model X.prog X.w) X.A (getItem v (.ref sl)) (EP X pins σ Q) X.xe s
theorem SlR.or {r r':V->Option Int->Option Int->Hp->VK->Prop}(h:SlR X r)(h':SlR X r'):SlR X (fun x lo hi H Q=>r x lo hi H Q∨r' x lo hi H Q):=by
 intro pins s σ H x v vl vu lo hi sl Q I rx hs pl pu q;rcases q with q | q
 .exact h pins s σ H x v vl vu lo hi sl Q I rx hs pl pu q
 .exact h' pins s σ H x v vl vu lo hi sl Q I rx hs pl pu q
def tSl (r:V->Option Int->Option Int->Hp->VK->Prop)(te:TE)(tl th:TO):TE:=fun σ H Q=>te σ H fun x H1=>tl σ H1 fun l H2=>th σ H2 fun u H3=>r x l u H3 Q
theorem zyJ {r:V->Option Int->Option Int->Hp->VK->Prop}(hr:SlR X r)(he:PE X e te)(hl:PO X lo tl)(hu:PO X hi th):PE X (.Subscript e (.Slice lo hi none p2) pos) (tSl r te tl th):=by
 intro pins s σ H Q I h;refine Subscript_ (thn (he pins s σ H _ I h) fun v s1 ⟨x,H1,I1,r1,q1⟩=>?_);refine wpAny_Slice (thn (hl pins s1 σ H1 _ I1 q1) fun vl s2 ⟨l,H2,I2,pl,q2⟩=>thn (hu pins s2 σ H2 _ I2 q2) fun vu s3 ⟨u,H3,I3,pu,q3⟩=>?_);rw[evalPart_none];refine sau ?_;have I4:Inv X pins σ H3 { s3 with heap:=s3.heap.push { cls:=.type "slice",data:=.fields #[vl,vu,.none] } }:=I3.kept (t':=s3.toks) fun b ob q=>sah _ q;obtain⟨T,id,hT,ht,hg⟩:=hr pins { s3 with heap:=s3.heap.push { cls:=.type "slice",data:=.fields #[vl,vu,.none] } } σ H3 x v vl vu l u s3.heap.objs.size Q I4 r1 (Heap.IsSliceOf.new ..) pl pu q3;show wpAny (model X.prog X.w) X.A (subscriptTail e (.Slice lo hi none p2) v (.ref s3.heap.objs.size)) (EP X pins σ Q) X.xe { s3 with heap:=s3.heap.push { cls:=.type "slice",data:=.fields #[vl,vu,.none] } };exact tail_any (ops:=[.ref s3.heap.objs.size,v]) ht hT hg (by with_unfolding_all rfl)
def zz2 (xs:List V)(lo hi:Option Int):List V:=(xs.drop (HT.sIx xs.length 0 lo)).take (HT.sIx xs.length xs.length hi-HT.sIx xs.length 0 lo)
theorem zlJ (xs:List V)(lo hi:Option Int):(zz2 xs lo hi).length<=xs.length:=by
 unfold zz2;rw[sa4,sbY];omega
noncomputable def zGE (K:saj):V->Option Int->Option Int->Hp->VK->Prop:=fun x lo hi H Q=>∃ a xs,x=.ref a/\SqT K H a xs /\
 ¬ (HT.sIx xs.length 0 lo=0/\HT.sIx xs.length xs.length hi=xs.length)/\∀ p,H p=none->Q (.ref p) (upd H p (.tup (zz2 xs lo hi)))
theorem zCO:SlR X (zGE X.K):=by
 intro pins s σ H x v vl vu lo hi sl Q I rx hs pl pu h;obtain⟨a,xs,rfl,hx,hw,q⟩:=h;cases rx;obtain⟨its,r,ht,hz⟩:=I.tuple hx;have hlen:its.toArray.size=xs.length:=by rw[san];exact r.length.symm
 refine⟨"tuple",_,sco.lookup,ht.typeIs,?_⟩;refine HT.getItem_tuple_cut ht hs pl pu (by rw[hlen];exact hw) ?_ (by rw[hlen];exact hz);rw[hlen];refine⟨.ref s.heap.objs.size,_,I.laid (t':=s.toks) (o:=.tup (zz2 xs lo hi)) (fun b ob q=>sah _ q) (saA _) ?_,rfl,q _ (I.hok.fresh (saA _))⟩;exact⟨sal (zlJ xs lo hi) hz,_,(r.drop (HT.sIx xs.length 0 lo)).take (HT.sIx xs.length xs.length hi-HT.sIx xs.length 0 lo),IsTup.new _ _⟩
noncomputable def zFi (K:saj):R2:=fun x y H Q=>∃ a b xs ys,x=.ref a/\y=.ref b/\SqT K H a xs/\SqT K H b ys/\xs≠[]/\xs.length+ys.length<=sizeLine /\
 (ys=[]->Q (.ref a) H)/\(ys≠[]->∀ p,H p=none->Q (.ref p) (upd H p (.tup (xs++ys))))
theorem zbM.nil_iff {xs:List V}{us:List Value}(r:zbM xs us):us=[]↔xs=[]:=by
 cases r with
 | nil=>simp
 | cons _ _=>simp
theorem zAW:OpR X (binaryOp .Add) (zFi X.K):=by
 intro pins s σ H x y v u Q I rx ry h;obtain⟨a,b,xs,ys,rfl,rfl,ha,hb,hx,hz,q1,q2⟩:=h;cases rx;cases ry;obtain⟨its,r1,p1,_⟩:=I.tuple ha;obtain⟨its2,r2,p2,_⟩:=I.tuple hb;refine HT.cat_tup p1 p2 (fun z=>hx (r1.nil_iff.mp z)) (fun z=>⟨.ref a,H,I,rfl,q1 (r2.nil_iff.mp z)⟩) (fun z=>?_) (by rw[← r1.length,← r2.length];exact hz);refine⟨.ref s.heap.objs.size,_,I.laid (t':=s.toks) (o:=.tup (xs++ys)) (fun b ob q=>sah _ q) (saA _) ?_,rfl,q2 (fun w=>z (r2.nil_iff.mpr w)) _ (I.hok.fresh (saA _))⟩;exact⟨by rw[sba];exact hz,_,r1.append r2,IsTup.new _ _⟩
end
def ixN (n:Nat)(i:Int):Option Nat:=if 0<=i then(if i < n then some i.toNat else none) else if -(n:Int)<=i then some (i+n).toNat else none
def atI {α:Type}(xs:List α)(i:Int):Option α:=(ixN xs.length i).bind fun j=>xs[j]?
theorem zvU {n:Nat}{i:Int}{j:Nat}(h:ixN n i=some j):seqIndex? i n=some j/\j < n/\-(n:Int)<=i/\i < n:=by
 unfold ixN at h
 by_cases h0:0<=i
 .rw[if_pos h0] at h
  by_cases h1:i < n
  .rw[if_pos h1] at h
   have e:i.toNat=j:=saN h;exact⟨by rw[seqIndex_of h0 h1,e],by omega,by omega,h1⟩
  .rw[if_neg h1] at h;cases h
 .rw[if_neg h0] at h
  by_cases h1:-(n:Int)<=i
  .rw[if_pos h1] at h
   have e:(i+n).toNat=j:=saN h;exact⟨by rw[seqIndex_neg (by omega) h1,e],by omega,h1,by omega⟩
  .rw[if_neg h1] at h;cases h
theorem zr0 {α:Type}{xs:List α}{i:Int}{v:α}(h:atI xs i=some v):∃ j,seqIndex? i xs.length=some j/\xs[j]?=some v/\j < xs.length/\-(xs.length:Int)<=i/\i < xs.length:=by
 unfold atI at h;cases e:ixN xs.length i with
 | none=>rw[e] at h;cases h
 | some j =>
  rw[e] at h;obtain⟨h1,h2,h3,h4⟩:=zvU e;exact⟨j,h1,h,h2,h3,h4⟩
theorem zbz {α:Type}{xs:List α}{j:Nat}{v:α}(h:xs[j]?=some v):atI xs (j:Int)=some v:=by
 have hj:j < xs.length:=(sad.mp h).1;have e:ixN xs.length (j:Int)=some j:=by
  unfold ixN;rw[if_pos (by omega),if_pos (by omega)];simp
 unfold atI;rw[e];exact h
def zr5 (b:Expr):Prop:=∀ o i,subscripted b false o i=operate [o,i] (getItem o i)
noncomputable def IxR (X:Cx) (r:R2):Prop :=
 ∀ (value slice:Expr) (pins:List (Addr×Obj)) (s:Shared) (σ:St) (H:Hp) (x y:V) (v u:Value) (Q:VK),Inv X pins σ H s->zcj x v->zcj y u->r x y H Q ->
  subscripted slice false v u=operate [v,u] (getItem v u)->wpAny (model X.prog X.w) X.A (subscriptTail value slice v u) (EP X pins σ Q) X.xe s
noncomputable def MtR (X:Cx) (id:String) (r:V->List V->Hp->VK->Prop):Prop :=
 ∀ (pins:List (Addr×Obj)) (s:Shared) (σ:St) (H:Hp) (x:V) (xs:List V) (v:Value) (us:List Value) (Q:VK),Inv X pins σ H s->zcj x v->zbM xs us->r x xs H Q ->
  wpAny (model X.prog X.w) X.A (call (.builtin id) (v::us)) (EP X pins σ Q) X.xe s
section
variable {X:Cx}{a b:Expr}{ta tb:TE}{pos:Pos}
theorem IxR.or {r r':R2}(h:IxR X r)(h':IxR X r'):IxR X (fun x y H Q=>r x y H Q∨r' x y H Q):=by
 intro value slice pins s σ H x y v u Q I rx ry q hs;rcases q with q | q
 .exact h value slice pins s σ H x y v u Q I rx ry q hs
 .exact h' value slice pins s σ H x y v u Q I rx ry q hs
theorem zFq {r:R2}(hr:IxR X r)(ha:PE X a ta)(hb:PE X b tb)(hs:zr5 b):PE X (.Subscript a b pos) (tOp r ta tb):=by
 intro pins s σ H Q I h;exact Subscript_ (zFT ha hb I h fun v u s2 x y H2 I2 rx ry q=>hr a b pins s2 σ H2 x y v u Q I2 rx ry q (hs _ _))
def zF8 (K:saj):R2:=fun x y H Q=>∃ p xs i v,x=.ref p/\y=.int i/\SqL K H p xs/\atI xs i=some v/\Q v H
def zF6 (K:saj):R2:=fun x y H Q=>∃ p xs i v,x=.ref p/\y=.int i/\SqT K H p xs/\atI xs i=some v/\Q v H
def zF7:R2:=fun x y H Q=>∃ z i c,x=.str z/\y=.int i/\z.length<=sizeLine/\atI z.cps.toList i=some c/\Q (.str ⟨#[c]⟩) H
theorem zA7:IxR X (zF8 X.K):=by
 intro value slice pins s σ H x y v u Q I rx ry h hs;obtain⟨p,xs,i,z,rfl,rfl,hq,he,q⟩:=h;cases rx;obtain⟨t,rfl⟩:=ry;obtain⟨its,r,pl,hz⟩:=I.list hq;obtain⟨j,h1,h2,h3,h4,h5⟩:=zr0 he;obtain⟨w,ew,rw'⟩:=r.get h2;have hl:=r.length;have hn:=zmW;have fin:EP X pins σ Q w s:=⟨z,H,I,rw',q⟩
 by_cases h0:0<=i
 .have hj:i.toNat=j:=by
   rw[seqIndex_of h0 h5] at h1;exact saN h1
  exact item_listR pl.isList h0 (by omega) (by rw[hj];simpa using ew) fin hs
 .have hj:(i+(its.toArray.size:Int)).toNat=j:=by
   rw[seqIndex_neg (by omega) h4] at h1;rw[san,← hl];exact saN h1
  exact subscriptTail_builtinR (x:=w) pl.isList.typeIs slot_list_getitem.lookup
   (wpAny_getItem_list_neg (Q:=fun r s'=>r=w/\EP X pins σ Q r s') pl.isList (by omega) (by rw[san]<;>omega) (by omega) (by rw[hj];simpa using ew) ⟨rfl,fin⟩) hs
theorem zDR:IxR X (zF6 X.K):=by
 intro value slice pins s σ H x y v u Q I rx ry h hs;obtain⟨p,xs,i,z,rfl,rfl,hq,he,q⟩:=h;cases rx;obtain⟨t,rfl⟩:=ry;obtain⟨its,r,pl,hz⟩:=I.tuple hq;obtain⟨j,h1,h2,h3,h4,h5⟩:=zr0 he;obtain⟨w,ew,rw'⟩:=r.get h2;have hl:=r.length;have hn:=zmW;have fin:EP X pins σ Q w s:=⟨z,H,I,rw',q⟩
 exact subscriptTail_builtinR (x:=w) pl.typeIs slot_tuple_getitem.lookup
  (getItem_tuple (j:=j) (Q:=fun r s'=>r=w/\EP X pins σ Q r s') pl (by omega) (by omega) (by rw[san,← hl];exact h1) (by simpa using ew) ⟨rfl,fin⟩) hs
theorem zDS:IxR X zF7:=by
 intro value slice pins s σ H x y v u Q I rx ry h hs;obtain⟨z,i,c,rfl,rfl,hz,he,q⟩:=h;obtain⟨t,rfl⟩:=rx;obtain⟨t',rfl⟩:=ry;obtain⟨j,h1,h2,h3,h4,h5⟩:=zr0 he;have hl:z.cps.toList.length=z.length:=by simp [Str.length]
 rw[hl] at h1 h4 h5;have hn:=zmW;exact tail_any (typeIs_str s z t) slot_str_getitem.lookup (getItem_str (c:=c) (by
  have e1:decide (i < -(2 ^ 63:Int))=false:=decide_eq_false (by omega);have e2:decide (i≥2 ^ 63)=false:=decide_eq_false (by omega);rw[e1,e2,sdo]) (by rw[h1];simpa using h2) ⟨.str ⟨#[c]⟩,H,I.tok _,⟨_,rfl⟩,q⟩) hs
def rIx (K:saj):R2:=fun x y H Q=>zF8 K x y H Q∨zF6 K x y H Q∨zF7 x y H Q
theorem zDT:IxR X (rIx X.K):=zA7.or (zDR.or zDS)
theorem ztW (its:List Value)(n j:Nat)(u:Value):sdr (·.setIfInBounds j u) { cls:=.type "list",data:=.seq its.toArray n }={ cls:=.type "list",data:=.seq (its.set j u).toArray n }:=by
 simp [sdr]
theorem Inv.lst {pins:List (Addr×Obj)}{σ:St}{H:Hp}{s:Shared}{p:Addr}{xs:List V}(I:Inv X pins σ H s)(h:H p=some (.lst xs)) :
  ∃ (its:List Value) (n:Nat),zbM xs its/\s.heap.get? p=some { cls:=.type "list",data:=.seq its.toArray n }/\xs.length<=sizeLine:=by
 obtain⟨z,its,n,r,e⟩:=I.hok p _ h;exact⟨its,n,r,e,z⟩
theorem Inv.lstUpd {pins:List (Addr×Obj)}{σ:St}{H:Hp}{s:Shared}{p:Addr}{xs ys:List V}{its its':List Value}{n n':Nat}{f:Obj->Obj}(I:Inv X pins σ H s)(h:H p=some (.lst xs))
  (ho:s.heap.get? p=some { cls:=.type "list",data:=.seq its.toArray n })(hf:f { cls:=.type "list",data:=.seq its.toArray n }={ cls:=.type "list",data:=.seq its'.toArray n' })(r:zbM ys its')(hz:ys.length<=sizeLine)(t:Nat) :
  Inv X pins σ (upd H p (.lst ys)) { s with heap:=s.heap.update p f,toks:=t }:=by
 have e:(s.heap.update p f).get? p=some { cls:=.type "list",data:=.seq its'.toArray n' }:=by
  rw[sby f ho (by rw[hf]<;>rfl),hf]
 refine I.write (x:=p) (e:=p) (by rw[h];trivial) (.inl rfl) (fun b u hb q=>(sbp _ _ (saW hb)).trans q) ⟨_,e⟩ ?_;exact⟨hz,its',n',r,e⟩
def zCY:V->V->V->Hp->(Hp->Prop)->Prop:=fun o i v H Q=>∃ p xs k j,o=.ref p/\i=.int k/\H p=some (.lst xs)/\ixN xs.length k=some j/\Q (upd H p (.lst (xs.set j v)))
theorem zso:zGj X zCY:=by
 intro pins s σ H o i v ov iv u Q I ro ri rv h;obtain⟨p,xs,k,j,rfl,rfl,hp,hj,q⟩:=h;cases ro;obtain⟨t,rfl⟩:=ri;obtain⟨its,n,r,ho,hz⟩:=I.lst hp;obtain⟨h1,h2,h3,h4⟩:=zvU hj;have hl:=r.length;have hn:=zmW;have I':Inv X pins σ (upd H p (.lst (xs.set j v))) { s with heap:=s.heap.update p (sdr (·.setIfInBounds j u)) } :=
  I.lstUpd hp ho (ztW its n j u) (r.set rv j) (by rw[sbE];exact hz) s.toks
 by_cases h0:0<=k
 .have hk:k.toNat=j:=by
   rw[seqIndex_of h0 h4] at h1;exact saN h1
  exact W.ki_setAt ho h0 (by omega) (by rw[san,← hl];exact h4) (by rw[hk];exact⟨_,I',q⟩)
 .have hk:(k+(its.toArray.size:Int)).toNat=j:=by
   rw[seqIndex_neg (by omega) h3] at h1;rw[san,← hl];exact saN h1
  exact W.ki_setBack ho (by omega) (by rw[san,← hl];exact h3) (by omega) (by rw[hk];exact⟨_,I',q⟩)
theorem zpx (lo hi:Option Int)(n:Nat):(sliceBounds lo hi none n).1=((HT.sIx n 0 lo:Nat):Int)/\(sliceBounds lo hi none n).2.1=((HT.sIx n n hi:Nat):Int)/\(sliceBounds lo hi none n).2.2=1:=by
 refine⟨?_,?_,rfl⟩
 .cases lo with
  | none=>simp [sliceBounds,HT.sIx]
  | some i =>
   simp only[sliceBounds,HT.sIx,Option.getD_none,show(1:Int) > 0 by decide,if_true]
   by_cases h:i < 0
   .simp only[h,if_true]<;>omega
   .simp only[h,if_false]<;>omega
 .cases hi with
  | none=>simp [sliceBounds,HT.sIx]
  | some i =>
   simp only[sliceBounds,HT.sIx,Option.getD_none,show(1:Int) > 0 by decide,if_true]
   by_cases h:i < 0
   .simp only[h,if_true]<;>omega
   .simp only[h,if_false]<;>omega
theorem znV (its:List Value)(lo hi:Option Int):slicePick its.toArray lo hi none=((its.drop (HT.sIx its.length 0 lo)).take (HT.sIx its.length its.length hi-HT.sIx its.length 0 lo)).toArray:=by
 obtain⟨h1,h2,h3⟩:=zpx lo hi its.toArray.size;unfold slicePick;rw[h1,h2,h3];simp only[sliceRange_one,pick_run,san]<;>rfl
def zGG (K:saj):V->Option Int->Option Int->Hp->VK->Prop:=fun x lo hi H Q=>∃ a xs,x=.ref a/\SqL K H a xs/\∀ p,H p=none->Q (.ref p) (upd H p (.lst (zz2 xs lo hi)))
theorem zAu:SlR X (zGG X.K):=by
 intro pins s σ H x v vl vu lo hi sl Q I rx hs pl pu h;obtain⟨a,xs,rfl,hx,q⟩:=h;cases rx;obtain⟨its,r,ht,hz⟩:=I.list hx;have hlen:=r.length;refine⟨"list",_,slot_list_getitem.lookup,ht.isList.typeIs,?_⟩;refine wpAny_getItem_list_slice ht.isList hs pl pu .none (by simp) ?_ (by rw[san]<;>omega);rw[znV,← hlen];refine⟨.ref s.heap.objs.size,_,I.laid (t':=s.toks) (o:=.lst (zz2 xs lo hi)) (fun b ob q=>sah _ q) (saA _) ?_,rfl,q _ (I.hok.fresh (saA _))⟩;exact⟨sal (zlJ xs lo hi) hz,_,0,(r.drop (HT.sIx xs.length 0 lo)).take (HT.sIx xs.length xs.length hi-HT.sIx xs.length 0 lo),saV _ rfl⟩
theorem zpK:OpR X (compareOp .NotIn) (fun x y H Q=>∃ i j,x=.str i/\y=.str j/\Q (.bl (!(!(sc0 j i 0 j.length 1).isEmpty))) H):=by
 intro pins s σ H x y v u Q I rx ry h;obtain⟨i,j,rfl,rfl,q⟩:=h;obtain⟨t,rfl⟩:=rx;obtain⟨t',rfl⟩:=ry;exact notIn_str ⟨.bl _,H,I,rfl,q⟩
theorem zcu:zky X (.type "list") (fun xs H Q=>∃ p ys,xs=[.ref p]/\(SqL X.K H p ys∨SqT X.K H p ys)/\∀ l,H l=none->Q (.ref l) (upd H l (.lst ys))):=by
 intro pins s σ H xs us Q I r h;obtain⟨p,ys,rfl,hq,q⟩:=h;obtain⟨u,rfl,rx⟩:=ztt r;cases rx;have fin:∀ (its:List Value),zbM ys its->ys.length<=sizeLine->∀ (h':Heap) (c':Nat),(∀ b o',s.heap.get? b=some o'->h'.get? b=some o') ->
   h'.get? s.heap.objs.size=some { cls:=.type "list",dict:=none,data:=.seq its.toArray c',slots:=#[] }->EP X pins σ Q (.ref s.heap.objs.size) { s with heap:=h' }:=fun its r' hz h' c' kp e =>
  ⟨.ref s.heap.objs.size,_,I.laid (t':=s.toks) kp (saA _) (show zcg X.prog X.w _ h' _ (.lst ys) from⟨hz,its,c',r',e⟩),rfl,q _ (I.hok.fresh (saA _))⟩
 rcases hq with hq | hq
 .obtain⟨its,r',pl,hz⟩:=I.list hq
  have hlen:=r'.length;obtain⟨o,ho,hc,n,hd⟩:=pl.isList;exact call_list_seq p (.inl rfl) ho hc hd (fun h' c' kp e=>fin its r' hz h' c' kp e) (by simp only[san]<;>omega)
 .obtain⟨its,r',pl,hz⟩:=I.tuple hq
  have hlen:=r'.length;obtain⟨o,ho,hc,n,hd⟩:=pl;exact call_list_seq p (.inr rfl) ho hc hd (fun h' c' kp e=>fin its r' hz h' c' kp e) (by simp only[san]<;>omega)
theorem zo3:zky X (.type "tuple") (fun xs H Q=>∃ p ys,xs=[.ref p]/\((SqL X.K H p ys/\∀ l,H l=none->Q (.ref l) (upd H l (.tup ys)))∨(SqT X.K H p ys/\Q (.ref p) H))):=by
 intro pins s σ H xs us Q I r h;obtain⟨p,ys,rfl,h⟩:=h;obtain⟨u,rfl,rx⟩:=ztt r;cases rx;rcases h with⟨hq,q⟩ | ⟨hq,q⟩
 .obtain⟨its,r',pl,hz⟩:=I.list hq
  have hlen:=r'.length;refine call_tuple_list pl.isList (fun h' kp=>?_) (by simp only[san]<;>omega);have I1:Inv X pins σ H { s with heap:=h' }:=I.kept (t':=s.toks) kp;have I2:Inv X pins σ (upd H h'.objs.size (.tup ys)) { s with heap:=h'.push { cls:=.type "tuple",data:=.seq its.toArray } } :=
   I1.laid (t':=s.toks) (fun b o e=>sah _ e) (saA _) (show zcg X.prog X.w _ _ _ (.tup ys) from⟨hz,its,r',IsTup.new _ _⟩)
  exact⟨.ref h'.objs.size,_,I2,rfl,q _ (I1.hok.fresh (saA _))⟩
 .obtain⟨its,r',pl,hz⟩:=I.tuple hq
  exact call_tuple_same pl ⟨.ref p,H,I,rfl,q⟩
noncomputable def tyV (K:saj) (T:String) (x:V) (H:Hp):Prop:=match x with
 | .str _=>T="str"
 | .int _=>T="int"
 | .ref p=>(T="list"/\∃ xs,SqL K H p xs)∨(T="tuple"/\∃ o,K.lookup p=some o/\o.cls=.type "tuple"/\o.dict=none) ∨
   (T="dict"/\((∃ kvs,H p=some (.dK kvs))∨∃ kvs,H p=some (.dT kvs)))∨(T="set"/\∃ S n,H p=some (.set S n))
 | _=>False
theorem zCs {pins:List (Addr×Obj)}{σ:St}{H:Hp}{s:Shared}{T:String}{x:V}{v:Value}(I:Inv X pins σ H s)(r:zcj x v)(ty:tyV X.K T x H) :
  s.TypeIs v T/\∀ a,v=.ref a->∃ ob,s.heap.get? a=some ob/\ob.dict=none:=by
 cases x with
 | str z =>
  obtain⟨t,rfl⟩:=r;cases (show T="str" from ty);exact⟨typeIs_str s z t,fun _ e=>nomatch e⟩
 | int i =>
  obtain⟨t,rfl⟩:=r;cases (show T="int" from ty);exact⟨typeIs_int s i t,fun _ e=>nomatch e⟩
 | ref p =>
  cases r;rcases ty with⟨rfl,xs,hq⟩ | ⟨rfl,o,hk,hc,hd⟩ | ⟨rfl,hk⟩ | ⟨rfl,S,n,hk⟩
  .obtain⟨its,_,pl,_⟩:=I.list hq
   refine⟨pl.isList.typeIs,fun a e=>?_⟩;cases e;obtain⟨o,n,e,c,hd,_⟩:=pl;exact⟨o,e,hd⟩
  .refine⟨⟨o,I.kIn p o hk,hc⟩,fun a e=>?_⟩
   cases e;exact⟨o,I.kIn _ o hk,hd⟩
  .have z:∃ o,s.heap.get? p=some o/\o.ExactDict:=by
    rcases hk with⟨kvs,hk⟩ | ⟨kvs,hk⟩
    .obtain⟨_,_,_,_,o,_,_,e,ex,_⟩:=I.hok p _ hk
     exact⟨o,e,ex⟩
    .obtain⟨_,_,_,_,o,_,_,e,ex,_⟩:=I.hok p _ hk
     exact⟨o,e,ex⟩
   obtain⟨o,e,ex⟩:=z;refine⟨⟨o,e,ex.1⟩,fun a e2=>?_⟩;cases e2;exact⟨o,e,ex.2.1⟩
  .obtain⟨o,_,_,_,e,ex,_⟩:=I.hok p _ hk
   refine⟨⟨o,e,ex.1⟩,fun a e2=>?_⟩;cases e2;exact⟨o,e,ex.2.1⟩
 | _=>exact sbg ty
def tBM (K:saj)(T:String)(r:V->List V->Hp->VK->Prop)(to:TE)(t:TA):TE:=fun σ H Q=>to σ H fun x H1=>tyV K T x H1/\t σ H1 fun xs H2=>r x xs H2 Q
variable {o e:Expr}{es:List Expr}{to:TE}{t:TA}{name:Str}{apos cpos:Pos}{T id:String}{r:V->List V->Hp->VK->Prop}
theorem zDh (pa:PlainAttrs T)(slot:Slot T name id)(hty:typeOf (.builtin id)=pure (.type "method_descriptor"))(hm:MtR X id r)(ho:PE X o to)(ha:PA X (e::es) t)
  (hbase:attributeBase o name X.env (eval o X.env)=eval o X.env:=by rfl)
  (hfew:((backTo cpos (starEach (e::es) X.env)).all (fun x=>!x.1)&&(backToKw cpos (keywordEach [] X.env)).all (fun x=>x.1.isSome)
  &&decide ((e::es).length+([]:List Keyword).length+(if([]:List Keyword).isEmpty then 0 else 1) < 30))=true:=by rfl)
  (hline:(apos.endLine==cpos.line)=true:=by rfl) (hs:starEach (e::es) X.env=(false,eval e X.env)::starEach es X.env:=by rfl) (hplain:(backTo cpos (starEach es X.env)).any (·.1)=false:=by rfl) :
  PE X (.Call (.Attribute o name apos) (e::es) [] cpos) (tBM X.K T r to t):=by
 intro pins s σ H Q I h;refine wpAny_Call_method_late hbase hfew hline rfl (thn (ho pins s σ H _ I h) fun v s1 ⟨x,H1,I1,r1,ty,q1⟩=>?_);obtain⟨h1,h2⟩:=zCs I1 r1 ty;refine⟨T,id,pa,slot,hty,h1,h2,?_⟩;have hA:=ha cpos pins s1 σ H1 _ I1 q1;rw[hs] at hA ⊢;refine Calls.callWith_builtin (by show(false||(backTo cpos (starEach es X.env)).any (·.1))=false;rw[hplain]<;>rfl) (sdb ?_);exact thn hA fun us s2 ⟨vs,H2,I2,r2,q2⟩=>hm pins s2 σ H2 x vs v us Q I2 r1 r2 q2
end
noncomputable def MtM (X:Cx) (id:String) (r:V->List V->Hp->VK->Prop):Prop :=
 ∀ (pins:List (Addr×Obj)) (s:Shared) (σ:St) (H:Hp) (x:V) (xs:List V) (v:Value) (us:List Value) (Q:VK),Inv X pins σ H s->zcj x v->zbM xs us->r x xs H Q ->
  wpAny (model X.prog X.w) X.A (call (.builtin id) (v::us)) (EP X pins σ Q) X.xe s
theorem zbM.one:∀ {x:V}{us:List Value},zbM [x] us->∃ u,us=[u]/\zcj x u
 | _,_,.cons r .nil=>⟨_,rfl,r⟩
theorem zbM.dropLast {xs:List V}{us:List Value}(h:zbM xs us):zbM xs.dropLast us.dropLast:=by
 induction h with
 | nil=>exact .nil
 | cons r t ih =>
  cases t with
  | nil=>exact .nil
  | cons q t'=>exact .cons r ih
theorem zbM.rep {xs:List V}{us:List Value}(h:zbM xs us):∀ k:Nat,zbM (sat k xs).flatten (sat k us).flatten
 | 0=>.nil
 | k+1=>by
  rw[saX,saX,sbQ,sbQ];exact zbM.append h (zbM.rep h k)
theorem zCe {α:Type}(l:List α):l.eraseIdx (l.length-1)=l.dropLast:=by
 induction l with
 | nil=>rfl
 | cons a r ih =>
  cases r with
  | nil=>rfl
  | cons b r =>
   have e:(a::b::r).length-1=((b::r).length-1)+1:=by
    have h1:(a::b::r).length=r.length+2:=rfl;have h2:(b::r).length=r.length+1:=rfl;omega
   rw[e,List.eraseIdx_cons_succ,ih]
   all_goals rfl
theorem zpY (its:List Value):∀ (k:Nat) (acc:List Value),
  List.foldl (fun x1 x2=>x1++x2) acc.toArray (sat k its.toArray)=(acc++(sat k its).flatten).toArray
 | 0,acc=>by simp
 | k+1,acc=>by
  have e:acc.toArray++its.toArray=(acc++its).toArray:=by simp
  have e2:(acc++its)++(sat k its).flatten=acc++(sat (k+1) its).flatten:=by
   rw[saX,sbQ,scR]
  rw[← e2,← zpY its k (acc++its),← e,saX,List.foldl_cons]
section
variable {X:Cx}{pins:List (Addr×Obj)}{σ:St}{H:Hp}{s:Shared}{l b:Addr}{xs ys zs:List V}
theorem Inv.lset {its its':List Value}{n:Nat}{f:Array Value->Array Value}{t':Nat}(I:Inv X pins σ H s)(hH:H l=some (.lst xs))
  (e:s.heap.get? l=some { cls:=.type "list",data:=.seq its.toArray n })(hf:f its.toArray=its'.toArray)(hv:zbM ys its')(hz:ys.length<=sizeLine) :
  Inv X pins σ (upd H l (.lst ys)) { s with heap:=s.heap.update l (sdr f),toks:=t' }:=by
 have q:=PySem.IsL.update e f;rw[hf] at q;refine I.write (x:=l) (e:=l) (by rw[hH];exact trivial) (.inl rfl) (fun b' u hb hu=>(sbp s.heap (sdr f) (saW hb)).trans hu) ⟨_,q⟩ ?_;exact⟨hz,its',_,hv,q⟩
theorem Inv.lnew {its:List Value}{t':Nat}(I:Inv X pins σ H s)(hv:zbM ys its)(hz:ys.length<=sizeLine) :
  Inv X pins σ (upd H s.heap.objs.size (.lst ys)) { s with heap:=s.heap.push { cls:=.type "list",data:=.seq its.toArray },toks:=t' } :=
 I.laid (fun _ _ q=>sah _ q) (saA _) ⟨hz,its,0,hv,saV _ rfl⟩
theorem Inv.fresh (I:Inv X pins σ H s):H s.heap.objs.size=none:=I.hok.fresh (saA _)
theorem Inv.lstM (I:Inv X pins σ H s)(hH:H l=some (.lst xs)):xs.length<=sizeLine/\∃ (its:List Value) (n:Nat),zbM xs its/\xs.length=its.length/\s.heap.get? l=some { cls:=.type "list",data:=.seq its.toArray n }:=by
 obtain⟨z,its,n,r,e⟩:=I.hok l _ hH;exact⟨z,its,n,r,r.length,e⟩
theorem zyR {n:Nat}(h:n<=sizeLine):scT n=false:=by
 unfold scT;exact decide_eq_false (by omega)
end
section
variable {X:Cx}
def zAD:V->List V->Hp->VK->Prop:=fun x vs H Q=>∃ l xs y,x=.ref l/\vs=[y]/\H l=some (.lst xs)/\xs.length < sizeLine/\Q .non (upd H l (.lst (xs++[y])))
theorem zpP:MtM X "list.append" zAD:=by
 intro pins s σ H x vs v us Q I rx rv h;obtain⟨l,xs,y,rfl,rfl,hH,hz,q⟩:=h;cases rx;obtain⟨u,rfl,ru⟩:=rv.one;obtain⟨z,its,n,r,hl,e⟩:=I.lstM hH;refine call_meets F.slot_list_append ⟨_,e,rfl⟩ F.entry_list_append (F.args_list_append_2 _ _) (PySem.list_append l its.toArray n u (by rw[san];omega)) ⟨e,?_⟩;refine⟨.non,_,I.lset (its':=its++[u]) hH e (by simp) (r.append (.cons ru .nil)) ?_,rfl,q⟩;rw[sba,List.length_singleton];omega
def zG1:V->List V->Hp->VK->Prop:=fun x vs H Q=>∃ l xs y,x=.ref l/\vs=[]/\H l=some (.lst xs)/\xs[xs.length-1]?=some y/\Q y (upd H l (.lst xs.dropLast))
def zGH:R2:=fun x y H Q=>∃ l k xs,x=.ref l/\y=.int k/\H l=some (.lst xs)/\-(2 ^ 63)<=k/\k < 2 ^ 63/\xs.length*k.toNat<=sizeLine /\
 ∀ p,H p=none->Q (.ref p) (upd H p (.lst (sat k.toNat xs).flatten))
theorem zA5 {α:Type}(xs:List α)(k:Nat):(sat k xs).flatten.length=k*xs.length:=by
 induction k with
 | zero=>simp
 | succ k ih=>rw[saX,sbQ,sba,ih,Nat.succ_mul,Nat.add_comm]
theorem zDm:OpR X (binaryOp .Mult) zGH:=by
 intro pins s σ H x y v u Q I rx ry h;obtain⟨l,k,xs,rfl,rfl,hH,h1,h2,hz,q⟩:=h;cases rx;obtain⟨t,rfl⟩:=ry;obtain⟨z,its,n,r,hl,e⟩:=I.lstM hH;have hlen:its.toArray.size*k.toNat<=sizeLine:=by rw[san,← hl];exact hz
 have hcap:¬ its.toArray.size*k.toNat > (2 ^ 63-1) / 8:=by
  have:(sizeLine:Nat)<=(2 ^ 63-1) / 8:=by decide
  omega
 have hfit:¬ (!Builtin.List.listFitsIndex k)=true:=by
  rw[fitsIndex_both h1 h2];exact saD
 have hlong:¬ scT (its.toArray.size*k.toNat)=true:=by
  rw[zyR hlen];exact saD
 have hnew:List.foldl (fun x1 x2=>x1++x2) #[] (sat (if its.toArray.isEmpty=true then 0 else k.toNat) its.toArray)=(sat k.toNat its).flatten.toArray:=by
  have f0:∀ m:Nat,List.foldl (fun x1 x2=>x1++x2) #[] (sat m its.toArray)=(sat m its).flatten.toArray:=fun m=>by
   have:=zpY its m [];rw[sch] at this;exact this
  rw[f0];cases its with
  | nil=>simp
  | cons a r'=>rw[if_neg (by simp)]
 refine wpAny_binaryOp_repeat_ref (T:="list") (U:="int") (by decide) ⟨_,e,rfl⟩ (fun s'=>typeIs_int s' k t) noFill_list_mul F.fills_int_mul F.slot_int_rmul repeat_list F.slot_int_index.lookup
  (call_meets F.slot_int_rmul (typeIs_int s k t) F.entry_int_rmul (F.args_int_rmul_2 _ _) (int___rmul___int_list k t l its.toArray n)
   ⟨e,rfl,⟨_,e,rfl⟩,call_meets F.slot_list_mul ⟨_,e,rfl⟩ F.entry_list_mul (F.args_list_mul_2 _ _) (AutoListH.list___mul___list_int_3 l its.toArray n k t hfit hcap hlong) ⟨e,?_⟩⟩)
 rw[hnew];exact⟨.ref _,_,I.lnew (t':=s.toks) (r.rep k.toNat) (by rw[zA5,Nat.mul_comm];exact hz),rfl,q _ I.fresh⟩
end
section
variable {prog:Program}{w:World}{A:Around}{E:Value->Shared->Prop}{s:Shared}
set_option maxRecDepth 100000 in
end
section
variable {X:Cx}
end
end L2
namespace Att
open PySem PySem.W PySem.Calls PyProof.Rows
theorem zle {P:Params}{h:Heap}:∀ (ns:List Int) (vs:List Value),WellAll P h vs (ns.map WData.int)->IntsAre vs ns:=by
 intro ns
 induction ns with
 | nil =>
  intro vs w;rw[sbA] at w;cases w;exact .nil
 | cons n ns ih =>
  intro vs w;rw[saJ] at w;cases w with
  | cons a b =>
   cases a;exact .cons _ _ (ih _ b)
theorem zu1 {l:OpenLaw}{n:Nat}(hn:l.most=some n){P:Params}{h:Heap}{args:List WData}{vals:List Value}
  (hpre:l.row.toRowW.claim.pre args=true)(hwl:WellAll P h vals args) :
  ∃ a vs ns,vals=[saR a]/\args=[WData.list (ns.map WData.int)]/\h.get? a=some { cls:=.type "list",data:=.seq vs.toArray }/\IntsAre vs ns/\ns.length<=n:=by
 have hsh:WShape.hasAll [] args [.list .int]=true:=(pre_splitW hpre).1;have hc:l.pre.holds [] { args:=args }=true:=(pre_splitW hpre).2;obtain⟨d,r,rfl,h1,h2⟩:=hasAllW_cons hsh;obtain rfl:=hasAllW_nil h2;obtain⟨xs,rfl,h3⟩:=hasW_list h1;obtain⟨ns,rfl⟩:=items_int h3;have hlen:ns.length<=n:=by
  unfold OpenLaw.pre at hc;have h4:(WTm.not (.lt (.lit (.int (n:Int))) (.len (.arg 0)))).holds [] { args:=[.list (ns.map .int)] }=true:=by
   have h4:=(holds_andW hc).1;rw[hn] at h4;exact h4
  have h5:=condW_of h4 (w_not (w_lt w_lit (w_len_list (w_arg rfl))));rw[sab] at h5;refine Nat.le_of_not_lt fun q=>?_;have q':(n:Int) < ((ns.length:Nat):Int):=by omega
  first
   | (rw[decide_eq_true q'] at h5;exact absurd h5 (by decide))
   | (simp at h5;omega)
 cases hwl with
 | cons w1 w2 =>
  cases w2;cases w1 with
  | list ho hall=>exact⟨_,_,ns,rfl,rfl,ho,zle ns _ hall,hlen⟩
theorem zvh (l:OpenLaw)(args:List WData):l.row.toRowW.claim.post args (.bool true) args=true :=
 postW_of (r:=l.row.toRowW) (X:=(true==true))
  (show WShape.has [] (.bool true) .bool=true by first | rfl | decide | simp [WShape.has,WShape.arms,WShape.armsAll])
  (show(WTm.eq .res (.lit (.bool true))).value [] { args:=args,res:=some (.bool true),after:=args }=some (.bool (true==true)) from w_eq_bool (w_res rfl) w_lit) rfl
theorem attach_call {l:OpenLaw}{n:Nat}{q:Program}{loose:List Str}{XP:(Str->Option Value)->Heap->Prop}{YP:World->Heap->Prop}{d:DefRec}
  (hn:l.most=some n)(hdf:d.params.defaults=[])
  (call:∀ (w:World) (sk si:Shared) (mg mb:Str->Option Value) (fa:Addr) (o:Obj) (pm cd doc:Value) (a:Addr) (vs:List Value) (ns:List Int),
   Ground q loose [] XP w sk mg mb si.heap->YP w si.heap ->
   si.heap.get? fa=some o->o.data=.func (docDef d.name d.params d.body d.scope pm cd doc)->si.heap.CodeRec cd d.name->mg d.name=some (.ref fa) ->
   si.heap.get? a=some { cls:=.type "list",data:=.seq vs.toArray }->IntsAre vs ns->ns.length<=n->si.gens=#[] ->
   codeAny (model l.prog w) callerA (.call (.ref fa) ⟨[.ref a],[]⟩) (fun r s'=>r=.ok (.ret (.bool true))/\OldK si.heap s'.heap/\s'.os=si.os/\AllBare s'.gens) si) :
  WalkO q loose XP YP l.row.toRowW d [] (fun f vs=>PySem.call f vs):=by
 intro w sk si mg mb G Y fa o pm cd doc dV kV ho hd hcd hD hmg hg args vals as hpre hlay hrd hwl hlo;obtain rfl:dV=.none:=Dflts.none hD hdf;obtain rfl:kV=.none:=Dflts.noKw hD;obtain⟨a,vs,ns,rfl,rfl,hobj,hints,hlen⟩:=zu1 hn hpre hwl;refine enter_call (codeAny_mono (call w sk si mg mb fa o pm cd doc a vs ns G Y ho (fd_plain hd) hcd hmg hobj hints hlen hg) fun r s' hq=>?_);obtain⟨rfl,h2,h3,h4⟩:=hq;exact⟨.inl ⟨.bool true,.bool true,[],rfl,fun _=>rfl,.bool true,zvh l _,fun _=>⟨scY.nil,fun _ hm=>(nomatch hm)⟩⟩,h2,h3,h4⟩
section
variable {prog:Program}{w:World}{A:Around}{E:Value->Shared->Prop}{s:Shared}{K:Frag}
end
end Att
namespace L2
open PySem PySem.Spec PyProof.Rows
theorem zpr:∀ {vs:List Value}{ns:List Int},IntsAre vs ns->zbM (ns.map V.int) vs
 | _,_,.nil=>.nil
 | _,_,.cons n t h=>.cons ⟨t,rfl⟩ (zpr h)
def zEQ (H:Hp):Prop:=∀ b,H b=none∨∃ o xs,H b=some (.frz o (.lst xs))
theorem zyX {P:Program}{w:World}{K:saj}{mg mb:Str->Option Value}{CX:CXT}{k:Nat}{fa a:Addr}{fd:FuncData}{x:Str}{sp:Sp}{si:Shared}{vs:List Value}{ns:List Int}
  (KX:K.In si.heap)(hns:si.heap.Ns mainGlobals mg)(hb:si.heap.Ns builtinsNs mb)(hbb:∀ x:Str,x≠"__name__"->mb x=bootBuiltins x)(hlim:si.heap.NoLimit)(hg:si.gens=#[])
  (ha:si.heap.get? a=some { cls:=.type "list",data:=.seq vs.toArray })(hi:IntsAre vs ns)(hl:ns.length<=sizeLine)(hr:zhR k callerA)
  (F:∀ base:Heap,K.In base->base.Ns mainGlobals mg->zcB P w K mg base CX k fa fd [x] sp)(hbind:∀ (s:Shared) (u:Value),BindsTo s fd ⟨[u],[]⟩ [(x,u)])
  (hsp:∀ H:Hp,zEQ H->SqL K H a (ns.map V.int)->sp [.ref a] H (fun v _=>v=.bl true) fun _ _ _=>False)
  (hCX:∀ H e s',CX [] H si (fun _ _ _=>False) e s'->False) :
  codeAny (model P w) callerA (.call (.ref fa) ⟨[.ref a],[]⟩) (fun r s'=>r=.ok (.ret (.bool true))/\OldK si.heap s'.heap/\s'.os=si.os/\AllBare s'.gens) si:=by
 have rv:=zpr hi;have lenV:=hi.length;have core:∀ H:Hp,zEQ H->SqL K H a (ns.map V.int)->HOk P w H si.heap->(∀ b,H b≠none->b=a)->(H a≠none->K.lookup a=none) ->
   codeAny (model P w) callerA (.call (.ref fa) ⟨[.ref a],[]⟩) (fun r s'=>r=.ok (.ret (.bool true))/\OldK si.heap s'.heap/\s'.os=si.os/\AllBare s'.gens) si:=by
  intro H hO hS hok hA hK;have base_of:∀ {b:Addr}{o:Obj},si.heap.get? b=some o->H b=none->(zy5 si.heap H).get? b=some o:=fun e n=>zy4 e n;have noA:∀ {b:Addr}{o:Obj}{es:Array DictEntry}{ep:Nat},si.heap.get? b=some o->o.data=.dict es ep->H b=none:=fun {b o es ep} e d=>by
   cases q:H b with
   | none=>rfl
   | some u =>
    have e':b=a:=hA b (by rw[q];simp);subst e';rw[ha] at e;cases e;have d':Data.seq vs.toArray _=Data.dict es ep:=d;cases d'
  have nsK:∀ {b:Addr}{m:Str->Option Value},si.heap.Ns b m->(zy5 si.heap H).Ns b m:=fun {b m} ⟨o,es,ep,e,d,r⟩=>⟨o,es,ep,base_of e (noA e d),d,r⟩
  have hKb:K.In (zy5 si.heap H):=fun b o e=>base_of (KX b o e) (by
   cases q:H b with
   | none=>rfl
   | some u =>
    have e':b=a:=hA b (by rw[q];simp);subst e';rw[hK (by rw[q];simp)] at e;cases e)
  have hM:Mod K mg (zy5 si.heap H):=⟨hKb,nsK hns,⟨mb,nsK hb,hbb⟩,let ⟨mc,h1,h2⟩:=hlim;⟨mc,nsK h1,h2⟩⟩
  have e0:zz6 P w K mg (zy5 si.heap H) callerA [] si H:=⟨rfl,hM,fun b o e=>zAX e,sdB (zv5 _ _),trivial,fun b hb=>absurd (show b∈([]:List Addr) from hb) (by simp),hok,.of_eq hg⟩
  refine codeAny_mono ((F _ hKb (nsK hns)).run callerA [] si H ⟨[.ref a],[]⟩ [.ref a] [.ref a] _ _ hr e0 (hbind si (.ref a)) (.cons rfl .nil) (hsp H hO hS)) fun r s' h=>?_;cases r with
  | error e=>exact(hCX H e s' h).elim
  | ok fl =>
   cases fl with
   | next=>exact sbg h
   | brk=>exact sbg h
   | cont=>exact sbg h
   | ret u =>
    obtain⟨v,H',os,bare,un,hok',r',q⟩:=h;have q':v=.bl true:=q;subst q';obtain rfl:u=sa8 true:=r';refine⟨rfl,OldK.of_keep fun b o e=>?_,os,bare⟩;cases q:H b with
    | none=>exact un.keep b o e q (by intro z;exact absurd (show b∈([]:List Addr) from z) (by simp)) (by simp)
    | some u =>
     rcases hO b with z | ⟨ob,xs,z⟩
     .rw[q] at z;cases z
     .have z2:=un.frzs b ob _ z
      obtain⟨e1,_⟩:=hok b _ z;obtain⟨e2,_⟩:=hok' b _ z2;rw[e] at e1;cases e1;exact e2
 cases hk:K.lookup a with
 | some o =>
  have e:=KX a o hk;rw[ha] at e;cases e;refine core (fun _=>none) (fun _=>.inl rfl) (.inr ⟨_,vs.toArray,_,hk,rfl,rfl,rfl,by rw[san,lenV];exact hl,by simpa using rv⟩) (fun b u z=>by have z':(none:Option HO)=some u:=z;cases z') (fun b z=>absurd rfl z) fun z=>absurd rfl z
 | none =>
  refine core (fun b=>if b=a then some (.frz { cls:=.type "list",data:=.seq vs.toArray } (.lst (ns.map V.int))) else none) (fun b=>?_) (.inl (.inr ⟨{ cls:=.type "list",data:=.seq vs.toArray },if_pos rfl⟩)) (fun b u z=>?_) (fun b z=>?_) fun _=>hk
  .by_cases hb:b=a
   .exact .inr ⟨_,_,if_pos hb⟩
   .exact .inl (if_neg hb)
  .by_cases hb:b=a
   .have z':=(if_pos hb).symm.trans z
    cases z';subst hb;exact⟨ha,by rw[sab];exact hl,vs,_,rv,ha⟩
   .have z':=(if_neg hb).symm.trans z
    cases z'
  .by_cases hb:b=a
   .exact hb
   .exact absurd (if_neg hb) z
abbrev KOf {K:saj}{h:Heap}(_:K.In h):saj:=K
theorem zAm {l:W.OpenLaw}{n k:Nat}{q:Program}{loose:List Str}{XP:(Str->Option Value)->Heap->Prop}{YP:World->Heap->Prop}{d:DefRec}{K:Params->saj}{CX:World->CXT}{sp:World->Sp}{x:Str}
  (hn:l.most=some n)(hn2:n<=sizeLine)(hdf:d.params.defaults=[])(hr:zhR k callerA)
  (hY:∀ (w:World) (h:Heap),YP w h->(K w.params).In h)
  (F:∀ (w:World) (mg:Str->Option Value) (fa:Addr) (h:Heap),(K w.params).In h->h.Ns mainGlobals mg->mg d.name=some (.ref fa) ->
   ∃ fd:FuncData,(∀ (s:Shared) (u:Value),BindsTo s fd ⟨[u],[]⟩ [(x,u)]) /\
    ∀ base:Heap,(K w.params).In base->base.Ns mainGlobals mg->zcB l.prog w (K w.params) mg base (CX w) k fa fd [x] (sp w))
  (hsp:∀ (w:World) (H:Hp) (a:Addr) (ns:List Int),ns.length<=n->zEQ H->SqL (K w.params) H a (ns.map V.int)->sp w [.ref a] H (fun v _=>v=.bl true) fun _ _ _=>False)
  (hCX:∀ (w:World) (H:Hp) (s:Shared) (e:Value) (s':Shared),CX w [] H s (fun _ _ _=>False) e s'->False) :
  W.WalkO q loose XP YP l.row.toRowW d [] (fun f vs=>PySem.call f vs):=by
 refine Att.attach_call hn hdf fun w sk si mg mb fa o pm cd doc a vs ns G Y ho hd hcd hmg hobj hints hlen hg=>?_;have KX:=hY w _ Y;obtain⟨fd,hb,hF⟩:=F w mg fa _ KX G.T.g hmg;exact zyX KX G.T.g G.T.b G.T.builtins G.T.nolimit hg hobj hints (sal hlen hn2) hr hF hb (fun H hO hS=>hsp w H a ns hlen hO hS) fun H e s'=>hCX w H si e s'
theorem walk_ofK {l:W.OpenLaw}{n k:Nat}{q:Program}{loose:List Str}{XP:(Str->Option Value)->Heap->Prop}{YP:World->Heap->Prop}{d:DefRec}{K:Params->saj}{CX:CXT}{sp:saj->Sp}{x:Str}
  (hn:l.most=some n)(hn2:n<=sizeLine)(hdf:d.params.defaults=[])(hr:zhR k callerA)
  (hY:∀ (w:World) (h:Heap),YP w h->(K w.params).In h)
  (F:∀ (w:World) (mg:Str->Option Value) (fa:Addr) (h:Heap),(K w.params).In h->h.Ns mainGlobals mg->mg d.name=some (.ref fa) ->
   ∃ fd:FuncData,(∀ (s:Shared) (u:Value),BindsTo s fd ⟨[u],[]⟩ [(x,u)]) /\
    ∀ base:Heap,(K w.params).In base->base.Ns mainGlobals mg->zcB l.prog w (K w.params) mg base CX k fa fd [x] (sp (K w.params)))
  (hsp:∀ (K:saj) (H:Hp) (a:Addr) (ns:List Int),ns.length<=n->zEQ H->SqL K H a (ns.map V.int)->sp K [.ref a] H (fun v _=>v=.bl true) fun _ _ _=>False)
  (hCX:∀ (H:Hp) (s:Shared) (e:Value) (s':Shared),CX [] H s (fun _ _ _=>False) e s'->False) :
  W.WalkO q loose XP YP l.row.toRowW d [] (fun f vs=>PySem.call f vs) :=
 zAm (K:=K) (CX:=fun _=>CX) (sp:=fun w=>sp (K w.params)) hn hn2 hdf hr hY F (fun w H a ns h1 h2 h3=>hsp (K w.params) H a ns h1 h2 h3) fun _ H s e s'=>hCX H s e s'
def zv3 (s:Stmt)(j:Nat):Stmt:=match s with
 | .ClassDef _ _ _ body _ _ _ _ _ _ _=>body.getD j (.Pass ⟨0,0,0,0⟩)
 | _=>.Pass ⟨0,0,0,0⟩
def defArgs (s:Stmt):Arguments:=match s with
 | .FunctionDef _ a _ _ _ _ _ _ _ _=>a
 | _=>{ posonlyargs:=[],args:=[],vararg:=none,kwonlyargs:=[],kw_defaults:=[],kwarg:=none,defaults:=[] }
def defBody (s:Stmt):List Stmt:=match s with
 | .FunctionDef _ _ b _ _ _ _ _ _ _=>b
 | _=>[]
def defScope (s:Stmt):Scope:=match s with
 | .FunctionDef _ _ _ _ _ _ sc _ _ _=>sc
 | _=>{ kind:=.function,names:=[],isGenerator:=false,isCoroutine:=false }
abbrev CX0:CXT:=fun _ _ _ _ _ _=>False
abbrev E0:XK:=fun _ _ _=>False
theorem zaP {X:Cx}:zl5 CX0 X E0:=fun _ _ _ _ _ _ _ h=>h.elim
structure Fun (K:saj) (x qual:Str) (st:Stmt) (f:Addr) (fd:FuncData):Prop where
 ex:∃ (oc:Value) (od:Option Addr) (kV doc pm:Value) (an:Option Addr) (cdv ct:Value) (osl:Array (Option Value)),
  fd=sb9 x qual (defArgs st) (defBody st) (defScope st) .none kV doc pm an cdv ct/\K.lookup f=some ⟨oc,od,.func fd,osl⟩/\sdF K cdv qual=true
 kp:scU K (.ref f)=true
section
variable {P:Program}{w:World}{K:saj}{mg:Str->Option Value}{base:Heap}
theorem Fun.ok {x qual:Str}{st:Stmt}{f:Addr}{fd:FuncData}{N ps:List Str}{k:Nat}{sp:Sp}(F:Fun K x qual st f fd)(S:zay N ps (defScope st))(len:∀ vs H Q E,sp vs H Q E->vs.length=ps.length)
  (hbody:∀ (cdv:Value) (A:Around) (outer:List Env) (s:Shared) (H:Hp) (vs:List V) (Q:VK) (E:XK),zhR k (A.deeper (envOfC qual (defScope st) s.heap.objs.size f cdv))->sp vs H Q E ->
   ∃ t,PSs (zma CX0 P w K mg base N qual (defScope st) f cdv A outer s H E).nox (defBody st) t/\t { nx:=fun _ H'=>Q .non H',rt:=Q } (start N vs) H):zcB P w K mg base CX0 (k+1) f fd ps sp:=by
 obtain⟨oc,od,kV,doc,pm,an,cdv,ct,osl,rfl,lk,hcd⟩:=F.ex;refine zD0 lk hcd S len fun A outer s H vs Q E hr hsp=>?_;obtain⟨t,h,q⟩:=hbody cdv A outer s H vs Q E hr hsp;exact⟨t,h.nox,q⟩
theorem Fun.binds {x qual:Str}{st:Stmt}{f:Addr}{fd:FuncData}{ps:List Str}(F:Fun K x qual st f fd)
  (h:∀ (kV doc pm:Value) (an:Option Addr) (cdv ct:Value) (us:List Value),us.length=ps.length->bindArgs (sb9 x qual (defArgs st) (defBody st) (defScope st) .none kV doc pm an cdv ct) ⟨us,[]⟩=pure (ps.zip us)):zkz K fd ps []:=by
 obtain⟨oc,od,kV,doc,pm,an,cdv,ct,osl,rfl,lk,hcd⟩:=F.ex;exact .all (h kV doc pm an cdv ct)
theorem zm5 {x qual:Str}{st:Stmt}{f:Addr}{oc:Value}{od an:Option Addr}{osl:Array (Option Value)}{kV doc pm cdv ct:Value}(l:K.lookup f=some ⟨oc,od,.func (sb9 x qual (defArgs st) (defBody st) (defScope st) .none kV doc pm an cdv ct),osl⟩)
  (c:sdF K cdv qual=true)(k:scU K (.ref f)=true):Fun K x qual st f (sb9 x qual (defArgs st) (defBody st) (defScope st) .none kV doc pm an cdv ct):=⟨⟨oc,od,kV,doc,pm,an,cdv,ct,osl,rfl,l,c⟩,k⟩
end
section
variable {X:Cx}
end
def zaM (H H':Hp):Prop:=∀ b o,H b=some o->H' b=some o
theorem zaM.refl (H:Hp):zaM H H:=fun _ _ h=>h
theorem zaM.trans {H H1 H2:Hp}(a:zaM H H1)(b:zaM H1 H2):zaM H H2:=fun c o h=>b c o (a c o h)
theorem zaM.free {H H':Hp}(e:zaM H H'){l:Addr}(h:H' l=Option.none):H l=Option.none:=by
 cases q:H l with
 | none=>rfl
 | some o =>
  rw[e l o q] at h;cases h
end L2
namespace DL
open PySem PySem.Spec PySem.Calls PySem.W PyProof.Rows Builtin Builtin.ObjectAttr Builtin.Getset_descriptor
section
variable {prog:Program}{w:World}{A:Around}{E:Value->Shared->Prop}{h:Heap}{g:Array GenState}{d:Drawn}{t:Nat}{os:OsState}{a C:Addr}{o:Obj}{K:Frag}
structure zte (K:Frag) (C:Addr):Prop where
 cls:findIn K (.ref C) "__class__"=some (some (.builtin "object.__class__"))
 ga:findIn K (.ref C) "__getattribute__"=some (some (.builtin "BaseException.__getattribute__"))
 gt:findIn K (.ref C) "__getattr__"=some none
 ob:mroIn K C (.type "object")=some true
 be:subIn K (.ref C) (.type "BaseException")=some true
theorem zCm {R:Result->Shared->Prop}{tp:Value}(X:K.In h)(Z:zte K C)(hx:h.get? a=some o)(hc:o.cls=.ref C)(hq:R (.ok (.ret (.ref C))) ⟨h,g,d,t,os⟩) :
  codeAny (model prog w) A (.call (.builtin "getset_descriptor.__get__") ⟨[.builtin "object.__class__",.ref a,tp],[]⟩) R ⟨h,g,d,t,os⟩:=by
 have L0:Looks (model prog w) h (typeOf (.ref a)) (.ref C):=hc▸(Looks.ld hx).andThen .now;have L1:=looks_mroIn (M:=model prog w) X Z.ob;refine codeAny_call_builtin KF.slot_gs.plain KF.entry_gs (KF.slot_gs.check _ _ _ _ _ _ _ _ KF.type_class (KF.args_gs _ _ _) ?_);unfold Builtin.«getset_descriptor.__get__» descrGet;rw[dga_obj];refine sae (sau ?_);unfold descrGetter descrCheckInstance descrNameAndClass isInstance;simp only[KF.owner_class]
 repeat lk
 refine⟨scm _ (by decide +kernel),codeAny_builtin KF.entry_class ?_⟩;unfold Builtin.«object.__class__» shownTypeOf
 repeat lk
 exact hq
theorem zsd {M:Model}{nameV:Value}{Q:Unit->Shared->Prop}(X:K.In h)(Z:zte K C)(hx:h.get? a=some o)(hc:o.cls=.ref C)(hq:Q () ⟨h,g,d,t,os⟩):wpAny M A (checkBuiltinCall "BaseException.__getattribute__" ⟨[.ref a,nameV],[]⟩) Q E ⟨h,g,d,t,os⟩:=by
 have hk:builtinKind "BaseException.__getattribute__"=some .slot:=by decide +kernel
 have hsplit:splitId "BaseException.__getattribute__"=some ("BaseException","__getattribute__"):=by decide +kernel
 have ha:=F.args_bexc_ga (.ref a) nameV;have LS:Looks M h (isSubtype (.ref C) (.type "BaseException")) true:=looks_subIn X Z.be;simp only[checkBuiltinCall,hk,hsplit];refine sae ?_
 .unfold isInstance
  repeat (first | (with_reducible refine sbq hx ?_;rw[hc]) | (with_reducible refine LS.at ?_) | wp_step)
  exact hq
theorem zx9 {tk:Tok}{Q:Fin->Shared->Prop}(X:K.In h)(Z:zte K C)(hx:h.get? a=some o)(hc:o.cls=.ref C)(hq:Q (.done (.ret (.ref C))) ⟨h,g,d,t,os⟩) :
  wpAny (model prog w) A (Builtin.«object.__getattribute__» ⟨[.ref a,.str "__class__" tk],[]⟩) Q E ⟨h,g,d,t,os⟩:=by
 have hT5:(⟨h,g,d,t,os⟩:Shared).TypeIs (.builtin "object.__class__") "getset_descriptor":=F.typeOf_object_class;have f5:=F.typeOf_object_class;have f6:=F.slot_gs_get.lookup;have f7:=F.slot_gs_set.lookup;have LC:Looks (model prog w) h (typeLookup (.ref C) "__class__") (some (.builtin "object.__class__")):=looks_findIn X Z.cls
 repeat (any_goals (first | assumption | (with_reducible refine sbq hx ?_;rw[hc]) | (with_reducible refine LC.at ?_) | wp_step))
 refine zCm X Z hx hc ?_
 repeat (any_goals (first | assumption | wp_step))
theorem zAh {tk:Tok}{R:Result->Shared->Prop}(X:K.In h)(Z:zte K C)(hx:h.get? a=some o)(hc:o.cls=.ref C)(hq:R (.ok (.ret (.ref C))) ⟨h,g,d,t,os⟩) :
  codeAny (model prog w) A (.call (.builtin "BaseException.__getattribute__") ⟨[.ref a,.str "__class__" tk],[]⟩) R ⟨h,g,d,t,os⟩ :=
 codeAny_call_builtin scS.ga.plain F.entry_bexc_ga (zsd X Z hx hc (zx9 X Z hx hc hq))
theorem zEU {tk:Tok}{Q:Value->Shared->Prop}(X:K.In h)(Z:zte K C)(hx:h.get? a=some o)(hc:o.cls=.ref C)(hq:Q (.ref C) ⟨h,g,d,t,os⟩) :
  wpAny (model prog w) A (getAttrBy (.ref a) (.str "__class__" tk) false) Q E ⟨h,g,d,t,os⟩:=by
 have f3:=scS.ga.bind (.ref a);have hx2:(sbT "BaseException.__getattribute__"==sbT "object.__getattribute__")=false:=by decide +kernel
 have hx1:(onTheHeap (saR C)&&sbT "BaseException.__getattribute__"==sbT "object.__getattribute__")=false:=by rw[hx2];rfl
 have L1:Looks (model prog w) h (typeLookup (.ref C) "__getattribute__") (some (.builtin "BaseException.__getattribute__")):=looks_findIn X Z.ga;have L2:Looks (model prog w) h (typeLookup (.ref C) "__getattr__") none:=looks_findIn X Z.gt
 repeat (any_goals (first | assumption | (with_reducible refine sbq hx ?_;rw[hc]) | (with_reducible refine L1.at ?_) | (with_reducible refine L2.at ?_) | wp_step))
 refine zAh X Z hx hc ?_
 repeat (any_goals (first | assumption | wp_step))
theorem zAi {Q:Option Value->Shared->Prop}(X:K.In h)(Z:zte K C)(hx:h.get? a=some o)(hc:o.cls=.ref C)(hq:Q (some (.ref C)) ⟨h,g,d,t+1,os⟩):wpAny (model prog w) A (getAttr? (.ref a) "__class__") Q E ⟨h,g,d,t,os⟩:=by
 unfold getAttr? getAttrBy?
 repeat (any_goals (first | assumption | with_reducible apply zEU X Z hx hc | wp_step))
end
def ExD (a C:Addr)(dc:Option Addr):Heap->Prop:=fun h=>∃ o vs,h.get? a=some o/\o.cls=.ref C/\o.data=.fields vs/\o.dict=dc
theorem zoi {K:Frag}{a C:Addr}{dc:Option Addr}(Z:zte K C)(hC:(clsIn K C).isSome=true):KitX K (.ref a) (.ref C) (ExD a C dc) where
 ty:=fun _ _ _ ⟨o,_,h1,h2,_⟩=>h2▸(Looks.ld h1).andThen .now
 it:=fun _ _ X _=>by
  obtain⟨cd,hcD⟩:=scO.mp hC;unfold clsIn at hcD;split at hcD
  .rename_i c' d' cd' sl' ho
   intro A' Q' E' s' k q;unfold isType loadHead;exact sae (wpAny_loadPart (k _ _ (X _ _ ho)) (sau q))
  .cases hcD
 ne:=fun h tp dd its n sl X htp=>by
  obtain⟨cd,hcD⟩:=scO.mp hC;refine Bool.eq_false_iff.mpr fun q=>?_;have e:C=tp:=saR.inj (beq_iff_eq.mp q);subst e;unfold clsIn at hcD;split at hcD
  .rename_i c' d' cd' sl' ho
   have z:=(X _ _ ho).symm.trans htp;cases z
  .cases hcD
 ca:=fun {_ _ _ _ _ s} X ⟨o,_,h1,h2,_⟩ k=>by
  obtain⟨h,g,d,t,os⟩:=s;exact zAi X Z h1 h2 k
theorem zte.isCls {K:Frag}{C:Addr}(Z:zte K C):(clsIn K C).isSome=true:=by
 obtain⟨cd,a,b⟩:=Option.bind_eq_some_iff.mp Z.ob;rw[a];rfl
def zg0:List String:=["NoneType","bool","int","str","tuple","list","dict"]
structure XC (K:Frag) (x:Str) (C:Addr):Prop where
 ns:nsIn K mainGlobals x=some (some (.ref C))
 ek:zte K C
 bt:∀ T∈zg0,kitOne K (.ref C) (.type T)=some false
end DL
namespace DL
open PySem PySem.Spec PyProof.Rows L2
theorem zmy (o:Obj)(f:Array Value->Array Value):(o.mapFields f).dict=o.dict:=by unfold Obj.mapFields;split<;>rfl
def zqA (h:Heap)(e:Addr)(dc:Option Addr):Prop:=∃ o,h.get? e=some o/\o.dict=dc
section
variable {M:Model}{A:Around}{E:Value->Shared->Prop}{s:Shared}{base:Heap}{env:sbo}{outer l:List sbo}{L e:Addr}{cls a0 fl:Value}{dc:Option Addr}{Q:Unit->Shared->Prop}
theorem zsQ {oe:Obj}{vs:Array Value}{head:Value}{b0:Bool}(hfr:A.frames=some (env::outer))(hl:s.heap.FunFrames base (env::outer))(hf:env.frame=some L)(he:s.heap.get? e=some oe)(kb:base.StaysIn s.heap)(hen:base.get? e=none)(hd:oe.data=.fields vs)(hz:1 < vs.size)(h0:vs[0]?=some a0)
  (h:∀ h',Heap.NotedW base (env::outer) e oe.cls a0 (rawInt L) s.heap h'->zqA h' e oe.dict->Q () { s with heap:=h' }) :
  wpAny M A (do
   let a ← frameOf env
   let pl ← entryPlaceOf L b0
   let b ← EntryCells.newEntry head a .none (rawInt L) .none pl
   setField (.ref e) 1 b) Q E s:=by
 have nf:e∉(env::outer).filterMap (·.frame):=fun hm=>by
  obtain⟨_,o,ho,q⟩:=hl.mem hm;rw[he] at ho;cases ho;exact q vs hd
 refine sae (wpAny_frameOf_fun hfr hl hf fun g ⟨_,same,slots⟩=>sae (wpAny_entryPlaceOf fun pl hpl=>?_));have ge:g.get? e=some oe:=(same e nf).trans he;have up:∀ (N:Obj) (f:Obj->Obj) (b:Addr) (o:Obj),b≠e->g.get? b=some o->((g.push N).update e f).get? b=some o:=fun N f b o hb q=>(sbp _ _ (saW hb)).trans (sah _ q);have ne:∀ b o,s.heap.get? b=some o->(∀ vs,o.data≠.fields vs)->b≠e:=fun b o q z c=>by subst c;rw[he] at q;cases q;exact z vs hd
 have kg:base.StaysIn g:=fun b o q=>(same b fun hm=>by rw[(hl.mem hm).1] at q;cases q).trans (kb b o q);unfold EntryCells.newEntry newFields;refine sae (wpAny_newObj_type ?_ (hpl.sizeOk5 _ _ _ _ _));have d3:=sdh hd (·.setIfInBounds 1 (saR g.objs.size));have hTe:g.objs.size≠e:=scd (sam ge);have at_e:∀ N:Obj,((g.push N).update e (Obj.mapFields (·.setIfInBounds 1 (saR g.objs.size)))).get? e=some (oe.mapFields (·.setIfInBounds 1 (saR g.objs.size))):=fun N=>sby _ (sah _ ge) (Obj.isFreed_of_fields d3);refine wpAny_setField (sah _ ge) hd hz (h _ ⟨fun b o q=>up _ _ b o (fun c=>by subst c;rw[hen] at q;cases q) (kg b o q),hl.of_keeps fun b o q z=>?_,?_,fun b o q z=>?_⟩ ⟨_,at_e _,zmy _ _⟩)
 .obtain⟨sl,x⟩:=slots b o q
  exact⟨_,up _ _ b _ (ne b o q z) x,rfl⟩
 .refine⟨_,_,g.objs.size,_,_,at_e _,⟨Obj.cls_mapFields _ _,?_⟩,d3,?_,kg.fresh,hTe,(sbp _ _ (saW hTe)).trans (saV g rfl),rfl,?_⟩
  .rw[Array.getElem?_setIfInBounds_ne (by decide)];exact h0
  .simp [hz]
  .first | (simp;done) | (rcases hpl with rfl | ⟨_,_,_,_,_,_,_,rfl⟩<;>simp)
 .obtain⟨sl,x⟩:=slots b o q
  exact⟨sl,up _ _ b _ (ne b o q z) x⟩
theorem zzb {oe:Obj}{vs:Array Value}(hfr:A.frames=some (env::outer))(hl:s.heap.FunFrames base (env::outer))(hf:env.frame=some L)(he:s.heap.get? e=some oe)(kb:base.StaysIn s.heap)(hen:base.get? e=none)(hd:oe.data=.fields vs)(h1:vs[1]?=some .none)(h0:vs[0]?=some a0)
  (h:∀ h',Heap.NotedW base (env::outer) e oe.cls a0 (rawInt L) s.heap h'->zqA h' e oe.dict->Q () { s with heap:=h' }):wpAny M A (noteFrame (.ref e) env) Q E s:=by
 unfold noteFrame;simp only[hf];refine sae (wpAny_field he hd h1 ?_);rw[if_neg (by decide)];exact zsQ hfr hl hf he kb hen hd (sb8.mp h1).1 h0 h
theorem zwf (hfr:A.frames=some (env::outer))(hl:s.heap.FunFrames base (env::outer))(hf:env.frame=some L)(ht:s.heap.TracedW base e cls a0)(hc:zqA s.heap e dc)(kb:base.StaysIn s.heap)(hen:base.get? e=none)
  (h:∀ h',Heap.NotedW base (env::outer) e cls a0 (rawInt L) s.heap h'->zqA h' e dc->Q () { s with heap:=h' }):wpAny M A (noteFrame (.ref e) env) Q E s:=by
 obtain⟨oe,vs,T,oT,ts,he,⟨rfl,h0⟩,hd,h1,hnT,hTe,hT,dT,h3⟩:=ht;obtain⟨o',q,rfl⟩:=hc;rw[he] at q;cases q;have oth:∀ (f:Obj->Obj) (b:Addr),b≠T->(s.heap.update T f).get? b=s.heap.get? b:=fun f b hb=>sbp _ _ (saW hb);have ne:∀ b o,s.heap.get? b=some o->(∀ vs,o.data≠.fields vs)->b≠T:=fun b o q z c=>by subst c;rw[hT] at q;cases q;exact z ts dT
 unfold noteFrame;simp only[hf];refine sae (wpAny_field he hd h1 ?_);rw[if_pos (by simp)];refine sae (wpAny_field hT dT h3 ?_);rw[if_neg (by simp [rawInt])];refine sae (wpAny_setField hT dT (sb8.mp h3).1 ?_);refine zsQ hfr (hl.of_keeps fun b o q z=>⟨o,(oth _ b (ne b o q z)).trans q,rfl⟩) hf ((oth _ e (saW hTe)).trans he) (fun b o q=>(oth _ b fun c=>by subst c;rw[hnT] at q;cases q).trans (kb b o q)) hen hd (sb8.mp h1).1 h0 fun h' ⟨x1,x2,x3,x4⟩ x5=>h h' ⟨x1,x2,x3,fun b o q z=>x4 b o ((oth _ b (ne b o q z)).trans q) z⟩ x5
theorem ziD (kb:base.StaysIn s.heap)(hl:s.heap.FunFrames base l)(ht:s.heap.TracedAtW base e cls a0 fl)(hc:zqA s.heap e dc)
  (h:∀ h',base.StaysIn h'->h'.FunFrames base l->h'.TracedW base e cls a0->(∀ b o,s.heap.get? b=some o->(∀ vs,o.data≠.fields vs)->h'.get? b=some o)->zqA h' e dc->Q () { s with heap:=h' }):wpAny M A (setFlight (.ref e) none) Q E s:=by
 obtain⟨oe,vs,T,oT,ts,he,hcl,hd,h1,hnT,hTe,hT,dT,h3⟩:=ht;have z3:3 < ts.size:=(sb8.mp h3).1;have oth:∀ (f:Obj->Obj) (b:Addr),b≠T->(s.heap.update T f).get? b=s.heap.get? b:=fun f b hb=>sbp _ _ (saW hb);have ne:∀ b o,s.heap.get? b=some o->(∀ vs,o.data≠.fields vs)->b≠T:=fun b o q z c=>by subst c;rw[hT] at q;cases q;exact z ts dT
 unfold setFlight;refine sae (wpAny_field he hd h1 ?_);rw[if_pos (by simp)];obtain⟨o',q',rfl⟩:=hc;refine wpAny_setField hT dT z3 (h _ (fun b o q=>(oth _ b fun c=>by subst c;rw[hnT] at q;cases q).trans (kb b o q)) (hl.of_keeps fun b o q z=>⟨o,(oth _ b (ne b o q z)).trans q,rfl⟩) ?_ (fun b o q z=>(oth _ b (ne b o q z)).trans q) ⟨o',(oth _ e (saW hTe)).trans q',rfl⟩);exact⟨oe,vs,T,_,_,(oth _ e (saW hTe)).trans he,hcl,hd,h1,hnT,hTe,sby _ hT (Obj.isFreed_of_fields (sdh dT _)),sdh dT _,by simp [z3]⟩
def zGk (h:Heap)(e:Addr)(ox:Option Addr):Prop:=∃ dc,zqA h e dc/\(ox=none∨ox=dc)
theorem zt8 {oe:Obj}{vs:Array Value}(hfr:A.frames=some (env::outer))(hl:s.heap.FunFrames base (env::outer))(hf:env.frame=some L)(he:s.heap.get? e=some oe)(kb:base.StaysIn s.heap)(hen:base.get? e=none)(hd:oe.data=.fields vs)(h1:vs[1]?=some .none)(h0:vs[0]?=some a0)
  (h:∀ h',sb3 base outer e oe.cls a0 h'->s.heap.UpToSlots h'->zqA h' e oe.dict->Q () { s with heap:=h' }):wpAny M A (leaving env (.ref e)) Q E s:=by
 unfold leaving;refine sae (zzb hfr hl hf he kb hen hd h1 h0 fun g ⟨k1,k2,k3,k4⟩ dg=>?_);refine ziD (s:={ s with heap:=g }) k1 k2 k3 dg fun h' m1 ⟨_,_,m2⟩ m3 m4 dh=>h h' ⟨m1,hen,m2,m3⟩ (fun b o q z=>?_) dh;obtain⟨sl,x⟩:=k4 b o q z;exact⟨sl,m4 b _ x z⟩
theorem zwg (hfr:A.frames=some (env::outer))(hf:env.frame=some L)(hfl:sb3 base (env::outer) e cls a0 s.heap)(hc:zqA s.heap e dc)
  (h:∀ h',sb3 base outer e cls a0 h'->s.heap.UpToSlots h'->zqA h' e dc->Q () { s with heap:=h' }):wpAny M A (leaving env (.ref e)) Q E s:=by
 obtain⟨f1,f2,f3,f4⟩:=hfl;unfold leaving;refine sae (zwf hfr f3 hf f4 hc f1 f2 fun g ⟨k1,k2,k3,k4⟩ dg=>?_);refine ziD (s:={ s with heap:=g }) k1 k2 k3 dg fun h' m1 ⟨_,_,m2⟩ m3 m4 dh=>h h' ⟨m1,f2,m2,m3⟩ (fun b o q z=>?_) dh;obtain⟨sl,x⟩:=k4 b o q z;exact⟨sl,m4 b _ x z⟩
theorem zzc (hfr:A.frames=some (env::outer))(hf:env.frame=some L)(hfl:sb3 base (env::outer) e cls a0 s.heap)(hc:zqA s.heap e dc)
  (h:∀ h',Heap.HeldW base (env::outer) e cls a0 L h'->s.heap.UpToSlots h'->zqA h' e dc->Q () { s with heap:=h' }):wpAny M A (noteFrame (.ref e) env) Q E s:=by
 obtain⟨f1,f2,f3,f4⟩:=hfl;exact zwf hfr f3 hf f4 hc f1 f2 fun g ⟨k1,k2,k3,k4⟩ dg=>h g ⟨k1,f2,k2,k3⟩ k4 dg
theorem zzd (hh:Heap.HeldW base l e cls a0 L s.heap)(hc:zqA s.heap e dc)(h:∀ h',sb3 base l e cls a0 h'->s.heap.UpToSlots h'->zqA h' e dc->Q () { s with heap:=h' }):wpAny M A (setFlight (.ref e) none) Q E s:=by
 obtain⟨f1,f2,f3,f4⟩:=hh;exact ziD f1 f3 f4 hc fun h' k1 k2 k3 k4 k5=>h h' ⟨k1,f2,k2,k3⟩ (fun b o q z=>⟨o.slots,k4 b o q z⟩) k5
theorem zze (hh:sb3 base l e cls a0 s.heap)(hc:zqA s.heap e dc)(h:∀ h',sb3 base l e cls a0 h'->s.heap.UpToSlots h'->zqA h' e dc->Q () { s with heap:=h' }):wpAny M A (setFlight (.ref e) none) Q E s:=by
 obtain⟨f1,f2,f3,f4⟩:=hh;exact ziD f1 f3 f4.at hc fun h' k1 k2 k3 k4 k5=>h h' ⟨k1,f2,k2,k3⟩ (fun b o q z=>⟨o.slots,k4 b o q z⟩) k5
end
end DL
namespace L2
open PySem PySem.Spec PyProof.Rows
section
variable {κ:Type}[DecidableEq κ]
def zFk (kvs:List (κ×V))(k:κ)(v:V):List (κ×V) :=
 if(kvs.any fun kv=>decide (kv.1=k))=true then kvs.map (fun kv=>if kv.1=k then(kv.1,v) else kv) else kvs++[(k,v)]
def zBL (kvs:List (κ×V))(k:κ):List (κ×V):=kvs.filter fun kv=>decide (kv.1≠k)
theorem KV.length {kvs:List (κ×V)}{vs:List (κ×Value)}(r:KV kvs vs):kvs.length=vs.length:=Paired.length r
end
section
variable {P:Program}{w:World}{H:Hp}{h:Heap}{a:Addr}
end
section
variable {X:Cx}{pins:List (Addr×Obj)}{σ:St}{H:Hp}{s:Shared}{a:Addr}{y v:V}{u r:Value}{o:Option V}{A:Around}{E:Value->Shared->Prop}
theorem Inv.big (I:Inv X pins σ H s):sysModules < s.heap.objs.size:=by
 have h:mainGlobals < s.heap.objs.size:=(I.mod.glob.keeps I.bk).lt;exact Nat.lt_trans (by decide) h
theorem zEk {P:Program}{w:World}{H':Hp}{h':Heap}{kvs:List (Key×V)}{vs:List (Key×Value)}(z:kvs.length<=sizeLine)(hd:(a==sysModules)=false)(rel:KV kvs vs)(dd:h'.DictOf (mixKind P w) a vs) :
  zcg P w H' h' a (.dK kvs):=⟨z,hd,vs,rel,dd⟩
end
section
variable {X:Cx}{pins:List (Addr×Obj)}{σ:St}{H:Hp}{s:Shared}{a:Addr}{kvs:List (Key×V)}{k:Key}{u:Value}{A:Around}{E:Value->Shared->Prop}
end
section
variable {X:Cx}{o i e value:Expr}{pos pos' tpos:Pos}{td ty tv:TE}
end
theorem zzk {P:Program}{w:World}{H:Hp}(h:Heap)(hb:sysModules < h.objs.size):zcg P w H (h.push { cls:=.type "dict",data:=.dict #[] }) h.objs.size (.dK []) :=
 ⟨scp _,beq_eq_false_iff_ne.mpr (saW (saB hb)),[],.nil,Heap.DictOf.new h⟩
def zCE:TE:=fun _ H Q=>∀ p,H p=none->Q (.ref p) (upd H p (.dK []))
section
variable {X:Cx}{pos:Pos}
theorem zyL:PE X (.Dict [] [] pos) zCE:=fun pins s σ H Q I h =>
 wpAny_Dict_empty ⟨.ref s.heap.objs.size,_,I.laid (a:=s.heap.objs.size) (o:=.dK []) (t':=s.toks) (fun _ _ q=>sah _ q) (saA _) (zzk s.heap I.big),rfl,h _ (I.hok.fresh (saA _))⟩
end
section
variable {X:Cx}{pins:List (Addr×Obj)}{σ:St}{H:Hp}{s:Shared}{a:Addr}{y d:V}{u r:Value}{o:Option V}{A:Around}{E:Value->Shared->Prop}
end
section
variable {X:Cx}{o e f:Expr}{apos cpos:Pos}{td ty tx:TE}
end
section
variable {X:Cx}{pins:List (Addr×Obj)}{σ:St}{H:Hp}{s:Shared}{a:Addr}{kvs:List (Key×V)}{A:Around}{E:Value->Shared->Prop}
end
section
variable {X:Cx}{pins:List (Addr×Obj)}{σ:St}{H:Hp}{s:Shared}{a:Addr}{y:V}{u:Value}{A:Around}{E:Value->Shared->Prop}
end
end L2
namespace DL
open PySem PySem.Spec PyProof.Rows L2
def nst:Expr->Bool
 | .Starred _ _=>false
 | _=>true
theorem zaN {e:Expr}{es:List Expr}{env:sbo}(h:nst e=true):starEach (e::es) env=(false,eval e env)::starEach es env:=by
 cases e<;>first | (rw[starEach];intros;contradiction) | rw[starEach] | (cases h)
theorem zc0 {e:Expr}{env:sbo}(h:nst e=true):starEach [e] env=[(false,eval e env)]:=by
 rw[zaN h,starEach]
theorem zbR {env:sbo}{pos:Pos}:∀ {es:List Expr},es.all nst=true->(backTo pos (starEach es env)).any (·.1)=false
 | [],_=>by rw[starEach];rfl
 | e::es,h=>by
  rw[sb7,saF] at h;rw[zaN h.1];have:=zbR (env:=env) (pos:=pos) h.2;show(false||(backTo pos (starEach es env)).any (·.1))=false;rw[this];rfl
theorem zsP {e:Expr}{env:sbo}{pos:Pos}(h:nst e=true):((backTo pos (starEach [e] env)).all (fun x=>!x.1)&&(backToKw pos (keywordEach [] env)).all (fun x=>x.1.isSome)
  &&decide ([e].length+([]:List Keyword).length+(if([]:List Keyword).isEmpty then 0 else 1) < 30))=true:=by
 rw[zc0 h,keywordEach];rfl
inductive Kd where
 | ins (c:Str) (ks:List Str) | dint (ks:List Int) | exf (c:Str) (ks:List Str)
inductive D where
 | non | bl (b:Bool) | int (i:Int) | str (x:Str) | tup (xs:List D) | lst (xs:List D) | dic (ks:List Str) (xs:List D) | exc (x:Str) | ob (k:Kd) (xs:List D)
structure zGY (K:saj) (ks:List Str) (C:Addr):Prop where
 cls:Cls K C
 no:∀ f∈ks,zhS K C f
 gc:sbF K (.ref C) "__class__"=some (some (.builtin "object.__class__"))
 gn:W.specialIn K (.builtin "object.__class__") "__get__"=some (some (.builtin "getset_descriptor.__get__"))
 tk:W.takesIn K (.builtin "object.__class__")=some true
 mo:W.mroIn K C (.type "object")=some true
 bt:∀ T∈zg0,sdg K (.ref C) (.type T)=some false
noncomputable def zEF (K:saj) (H:Hp):Kd->Addr->List V->Prop
 | .ins c ks,a,vs=>∃ C dx,sbh K mainGlobals c=some (some (.ref C))/\zGY K ks C/\H a=some (.ins C dx (ks.zip vs))/\ks.length=vs.length
 | .dint ks,a,vs=>∃ kvs,Rd H a (.dK kvs)/\kvs=(ks.map sbB).zip vs/\ks.length=vs.length
 | .exf c ks,a,vs=>∃ C dx fs,XC K c C/\Rd H a (.ext (ExD a C (some dx)))/\H dx=some (.xd fs)/\ks.length=vs.length/\∀ (i:Nat) (f:Str) (v:V),ks[i]?=some f->vs[i]?=some v->fs.lookup f=some v
structure Exn where
 cls:Str
 flds:List (Str×D)
inductive Res (α:Type) where
 | ok (a:α) | exn (x:Exn) | stuck
def Res.bind {α β:Type}(r:Res α)(f:α->Res β):Res β:=match r with
 | .ok a=>f a
 | .exn x=>.exn x
 | .stuck=>.stuck
mutual
def Rep (K:saj)(H:Hp):D->V->Prop
 | .non,v=>v=.non
 | .bl b,v=>v=.bl b
 | .int i,v=>v=.int i
 | .str x,v=>v=.str x
 | .tup ds,v=>∃ a vs,v=.ref a/\SqT K H a vs/\Reps K H ds vs
 | .lst ds,v=>∃ a vs,v=.ref a/\SqL K H a vs/\Reps K H ds vs
 | .dic ks ds,v=>∃ a kvs vs,v=.ref a/\Rd H a (.dK kvs)/\kvs=(ks.map sc6).zip vs/\ks.length=vs.length/\Reps K H ds vs
 | .exc x,v=>∃ a C dc,v=.ref a/\XC K x C/\Rd H a (.ext (ExD a C dc))
 | .ob k ds,v=>∃ a vs,v=.ref a/\zEF K H k a vs/\Reps K H ds vs
def Reps (K:saj)(H:Hp):List D->List V->Prop
 | [],vs=>vs=[]
 | d::ds,vs=>∃ v r,vs=v::r/\Rep K H d v/\Reps K H ds r
end
theorem zaM.rd {H H':Hp}(e:zaM H H'){a:Addr}{o:HO}(h:Rd H a o):Rd H' a o:=by
 rcases h with h | ⟨o',h⟩
 .exact .inl (e _ _ h)
 .exact .inr ⟨o',e _ _ h⟩
theorem zaM.sqT {K:saj}{H H':Hp}(e:zaM H H'){a:Addr}{xs:List V}(h:SqT K H a xs):SqT K H' a xs:=by
 rcases h with h | h
 .exact .inl (zaM.rd e h)
 .exact .inr h
theorem zaM.sqL {K:saj}{H H':Hp}(e:zaM H H'){a:Addr}{xs:List V}(h:SqL K H a xs):SqL K H' a xs:=by
 rcases h with h | h
 .exact .inl (zaM.rd e h)
 .exact .inr h
theorem zEF.mono {K:saj}{H H':Hp}(e:zaM H H'):∀ {k:Kd}{a:Addr}{vs:List V},zEF K H k a vs->zEF K H' k a vs
 | .ins c ks,a,vs,⟨C,dx,h0,h1,h2,h3⟩=>⟨C,dx,h0,h1,e _ _ h2,h3⟩
 | .dint ks,a,vs,⟨kvs,h1,h2,h3⟩=>⟨kvs,zaM.rd e h1,h2,h3⟩
 | .exf c ks,a,vs,⟨C,dx,fs,h1,h2,h3,h4⟩=>⟨C,dx,fs,h1,zaM.rd e h2,e _ _ h3,h4⟩
mutual
theorem Rep.mono {K:saj}{H H':Hp}(e:zaM H H'):∀ {d:D}{v:V},Rep K H d v->Rep K H' d v
 | .non,_,h=>by unfold Rep at h ⊢;exact h
 | .bl _,_,h=>by unfold Rep at h ⊢;exact h
 | .int _,_,h=>by unfold Rep at h ⊢;exact h
 | .str _,_,h=>by unfold Rep at h ⊢;exact h
 | .tup ds,_,h=>by
  unfold Rep at h ⊢;obtain⟨a,vs,e1,e2,e3⟩:=h;exact⟨a,vs,e1,zaM.sqT e e2,Reps.mono e e3⟩
 | .lst ds,_,h=>by
  unfold Rep at h ⊢;obtain⟨a,vs,e1,e2,e3⟩:=h;exact⟨a,vs,e1,zaM.sqL e e2,Reps.mono e e3⟩
 | .dic ks ds,_,h=>by
  unfold Rep at h ⊢;obtain⟨a,kvs,vs,e1,e2,e3,e4,e5⟩:=h;exact⟨a,kvs,vs,e1,zaM.rd e e2,e3,e4,Reps.mono e e5⟩
 | .exc x,_,h=>by
  unfold Rep at h ⊢;obtain⟨a,C,dc,e1,e2,e3⟩:=h;exact⟨a,C,dc,e1,e2,zaM.rd e e3⟩
 | .ob k ds,_,h=>by
  unfold Rep at h ⊢;obtain⟨a,vs,e1,e2,e3⟩:=h;exact⟨a,vs,e1,e2.mono e,Reps.mono e e3⟩
theorem Reps.mono {K:saj}{H H':Hp}(e:zaM H H'):∀ {ds:List D}{vs:List V},Reps K H ds vs->Reps K H' ds vs
 | [],_,h=>by unfold Reps at h ⊢;exact h
 | d::ds,_,h=>by
  unfold Reps at h ⊢;obtain⟨v,r,e1,e2,e3⟩:=h;exact⟨v,r,e1,Rep.mono e e2,Reps.mono e e3⟩
end
section
variable {K:saj}{H:Hp}{v:V}{vs:List V}{d:D}{ds:List D}
theorem zaF:Rep K H .non v↔v=.non:=by unfold Rep;exact Iff.rfl
theorem zaq {b}:Rep K H (.bl b) v↔v=.bl b:=by unfold Rep;exact Iff.rfl
theorem zan {i}:Rep K H (.int i) v↔v=.int i:=by unfold Rep;exact Iff.rfl
theorem Rep.str_iff {x}:Rep K H (.str x) v↔v=.str x:=by unfold Rep;exact Iff.rfl
theorem zaz:Rep K H (.tup ds) v↔∃ a vs,v=.ref a/\SqT K H a vs/\Reps K H ds vs:=by rw[Rep]
theorem zao:Rep K H (.lst ds) v↔∃ a vs,v=.ref a/\SqL K H a vs/\Reps K H ds vs:=by rw[Rep]
theorem zeq {x}:Rep K H (.exc x) v↔∃ a C dc,v=.ref a/\XC K x C/\Rd H a (.ext (ExD a C dc)):=by rw[Rep]
theorem zcX {k}:Rep K H (.ob k ds) v↔∃ a vs,v=.ref a/\zEF K H k a vs/\Reps K H ds vs:=by rw[Rep]
theorem Rep.exf_exc {c:Str}{ks:List Str}(h:Rep K H (.ob (.exf c ks) ds) v):Rep K H (.exc c) v:=by
 obtain⟨a,vs,e,⟨C,dx,fs,h1,h2,_⟩,_⟩:=zcX.mp h;exact zeq.mpr ⟨a,C,some dx,e,h1,h2⟩
theorem Reps.nil_iff:Reps K H [] vs↔vs=[]:=by unfold Reps;exact Iff.rfl
theorem zap:Reps K H (d::ds) vs↔∃ v r,vs=v::r/\Rep K H d v/\Reps K H ds r:=by rw[Reps]
theorem Reps.nil:Reps K H [] []:=Reps.nil_iff.mpr rfl
theorem Reps.cons (h:Rep K H d v)(h':Reps K H ds vs):Reps K H (d::ds) (v::vs):=zap.mpr ⟨_,_,rfl,h,h'⟩
end
theorem Reps.length {K:saj}{H:Hp}:∀ {ds:List D}{vs:List V},Reps K H ds vs->ds.length=vs.length
 | [],_,h=>by rw[Reps.nil_iff.mp h];rfl
 | d::ds,_,h=>by
  obtain⟨v,r,rfl,_,h⟩:=zap.mp h;simp [Reps.length h]
theorem Reps.get {K:saj}{H:Hp}:∀ {ds:List D}{vs:List V}{i:Nat}{d:D},Reps K H ds vs->ds[i]?=some d->∃ v,vs[i]?=some v/\Rep K H d v
 | [],_,_,_,h,e=>by simp at e
 | x::ds,_,0,d,h,e=>by
  obtain⟨v,r,rfl,h1,_⟩:=zap.mp h;simp at e;subst e;exact⟨v,rfl,h1⟩
 | x::ds,_,i+1,d,h,e=>by
  obtain⟨v,r,rfl,_,h2⟩:=zap.mp h;obtain⟨u,e1,e2⟩:=Reps.get (i:=i) h2 (by simpa using e);exact⟨u,by simpa using e1,e2⟩
theorem Reps.app {K:saj}{H:Hp}:∀ {ds es:List D}{vs us:List V},Reps K H ds vs->Reps K H es us->Reps K H (ds++es) (vs++us)
 | [],_,_,_,h,h'=>by rw[Reps.nil_iff.mp h];exact h'
 | d::ds,_,_,_,h,h'=>by
  obtain⟨v,r,rfl,h1,h2⟩:=zap.mp h;exact Reps.cons h1 (Reps.app h2 h')
theorem Reps.take {K:saj}{H:Hp}:∀ {ds:List D}{vs:List V}(n:Nat),Reps K H ds vs->Reps K H (ds.take n) (vs.take n)
 | _,_,0,_=>by simp;exact Reps.nil
 | [],_,n+1,h=>by rw[Reps.nil_iff.mp h];exact Reps.nil
 | d::ds,_,n+1,h=>by
  obtain⟨v,r,rfl,h1,h2⟩:=zap.mp h;exact Reps.cons h1 (Reps.take n h2)
theorem Reps.drop {K:saj}{H:Hp}:∀ {ds:List D}{vs:List V}(n:Nat),Reps K H ds vs->Reps K H (ds.drop n) (vs.drop n)
 | _,_,0,h=>by simpa using h
 | [],_,n+1,h=>by rw[Reps.nil_iff.mp h];exact Reps.nil
 | d::ds,_,n+1,h=>by
  obtain⟨v,r,rfl,h1,h2⟩:=zap.mp h;exact Reps.drop n h2
theorem Reps.set {K:saj}{H:Hp}{d:D}{v:V}(h:Rep K H d v):∀ {ds:List D}{vs:List V}(n:Nat),Reps K H ds vs->Reps K H (ds.set n d) (vs.set n v)
 | [],_,n,h'=>by rw[Reps.nil_iff.mp h'];exact Reps.nil
 | x::ds,_,0,h'=>by
  obtain⟨v,r,rfl,h1,h2⟩:=zap.mp h';exact Reps.cons h h2
 | x::ds,_,n+1,h'=>by
  obtain⟨v,r,rfl,h1,h2⟩:=zap.mp h';exact Reps.cons h1 (Reps.set h n h2)
theorem zqu {K:saj}{H:Hp}:∀ (ns:List Int),Reps K H (ns.map D.int) (ns.map V.int)
 | []=>Reps.nil
 | n::r=>Reps.cons (zan.mpr rfl) (zqu r)
structure zcv (H Ha H' Ha':Hp):Prop where
 s:zaM H H'
 z:zaM Ha Ha'
 sub:zaM Ha' H'
 nw:∀ a,Ha' a≠none->Ha a=none->H a=none
theorem zcv.refl {H Ha:Hp}(h:zaM Ha H):zcv H Ha H Ha:=⟨zaM.refl _,zaM.refl _,h,fun a h1 h2=>absurd h2 h1⟩
theorem zcv.trans {H Ha H1 H01 H2 H02:Hp}(a:zcv H Ha H1 H01)(b:zcv H1 H01 H2 H02):zcv H Ha H2 H02 :=
 ⟨a.s.trans b.s,a.z.trans b.z,b.sub,fun x h1 h2=>by
  cases q:H01 x with
  | none=>exact a.s.free (b.nw x h1 q)
  | some o=>exact a.nw x (by rw[q];simp) h2⟩
theorem zaB {H Ha:Hp}{p:Addr}{o:HO}(hs:zaM Ha H)(hp:H p=none):zcv H Ha (upd H p o) (upd Ha p o) :=
 ⟨same_new hp o,same_new (hs.free hp) o,fun b u e=>by
  by_cases hb:b=p
  .subst hb;rw[zau] at e ⊢;exact e
  .rw[zav hb] at e ⊢;exact hs _ _ e,fun a h1 h2=>by
  by_cases hb:a=p
  .subst hb;exact hp
  .rw[zav hb] at h1;exact absurd h2 h1⟩
where
 same_new {H:Hp}{p:Addr}(h:H p=none) (o:HO):zaM H (upd H p o):=fun b u q=>by rw[zav (zaJ q h)];exact q
inductive Sl where
 | no | sh (d:D) | ow (d:D) | ox (j:Nat) (ds:List D)
abbrev Ev:=List Sl
def zhb (K:saj)(Ha:Hp)(σ:L2.St)(ρ:Ev):Prop:=∀ (i:Nat) (d:D),ρ[i]?=some (.sh d)->∃ v,σ[i]?=some (some v)/\Rep K Ha d v
theorem zhb.mono {K:saj}{H H':Hp}{σ:L2.St}{ρ:Ev}(e:zaM H H')(r:zhb K H σ ρ):zhb K H' σ ρ:=fun i d h =>
 let ⟨v,h1,h2⟩:=r i d h
 ⟨v,h1,h2.mono e⟩
noncomputable def ExR (K:saj) (H:Hp) (x:Exn) (C:Value) (ox:Option Addr):Prop :=
 (∃ c,C=.ref c/\XC K x.cls c)/\match ox with
  | none=>x.flds=[]
  | some a=>∃ fs,H a=some (.xd fs)/\∀ n d,x.flds.lookup n=some d->∃ v,fs.lookup n=some v/\Rep K H d v
def post (K:saj)(E:XK)(H Ha:Hp)(r:Res D)(Q:VK):Prop:=match r with
 | .ok d=>∀ v H' Ha',zcv H Ha H' Ha'->Rep K Ha' d v->Q v H'
 | .exn x=>∀ C ox H' Ha',zcv H Ha H' Ha'->ExR K Ha' x C ox->E C ox H'
 | .stuck=>False
noncomputable def ztF (K:saj) (E:XK) (H Ha:Hp) (r:Res (List D)) (Q:List V->Hp->Prop):Prop:=match r with
 | .ok ds=>∀ vs H' Ha',zcv H Ha H' Ha'->Reps K Ha' ds vs->Q vs H'
 | .exn x=>∀ C ox H' Ha',zcv H Ha H' Ha'->ExR K Ha' x C ox->E C ox H'
 | .stuck=>False
noncomputable def zqL (K:saj) (E:XK) (H Ha:Hp) (r:Res D) (Q:Bool->Hp->Prop):Prop:=match r with
 | .ok (.bl b)=>∀ H' Ha',zcv H Ha H' Ha'->Q b H'
 | .ok _=>False
 | .exn x=>∀ C ox H' Ha',zcv H Ha H' Ha'->ExR K Ha' x C ox->E C ox H'
 | .stuck=>False
section
variable {K:saj}{E:XK}{H Ha H1 H01:Hp}
theorem post.grow {r:Res D}{Q:VK}(h:post K E H Ha r Q)(g:zcv H Ha H1 H01):post K E H1 H01 r Q:=by
 cases r with
 | ok d=>exact fun v H' Ha' g'=>h v H' Ha' (g.trans g')
 | exn x=>exact fun C ox H' Ha' g'=>h C ox H' Ha' (g.trans g')
 | stuck=>exact h
theorem ztF.grow {r:Res (List D)}{Q:List V->Hp->Prop}(h:ztF K E H Ha r Q)(g:zcv H Ha H1 H01):ztF K E H1 H01 r Q:=by
 cases r with
 | ok d=>exact fun v H' Ha' g'=>h v H' Ha' (g.trans g')
 | exn x=>exact fun C ox H' Ha' g'=>h C ox H' Ha' (g.trans g')
 | stuck=>exact h
theorem zqL.grow {r:Res D}{Q:Bool->Hp->Prop}(h:zqL K E H Ha r Q)(g:zcv H Ha H1 H01):zqL K E H1 H01 r Q:=by
 cases r with
 | ok d =>
  cases d with
  | bl b=>exact fun H' Ha' g'=>h H' Ha' (g.trans g')
  | _=>exact h
 | exn x=>exact fun C ox H' Ha' g'=>h C ox H' Ha' (g.trans g')
 | stuck=>exact h
end
def tD (K:saj)(E:XK)(f:Ev->Res D):TE:=fun σ H Q=>∃ Ha ρ,zaM Ha H/\zhb K Ha σ ρ/\post K E H Ha (f ρ) Q
def tDA (K:saj)(E:XK)(f:Ev->Res (List D)):TA:=fun σ H Q=>∃ Ha ρ,zaM Ha H/\zhb K Ha σ ρ/\ztF K E H Ha (f ρ) Q
def tDT (K:saj)(E:XK)(f:Ev->Res D):TT:=fun σ H Q=>∃ Ha ρ,zaM Ha H/\zhb K Ha σ ρ/\zqL K E H Ha (f ρ) Q
structure DE (X:Cx) (E:XK) (e:Expr) (f:Ev->Res D):Prop where
 o:PE X e (tD X.K E f)
structure DA (X:Cx) (E:XK) (es:List Expr) (f:Ev->Res (List D)):Prop where
 o:PA X es (tDA X.K E f)
structure DT (X:Cx) (E:XK) (e:Expr) (f:Ev->Res D):Prop where
 o:PT X e (tDT X.K E f)
structure DW (X:Cx) (E:XK) (e:Expr) (f:Ev->Res D):Prop where
 o:PW X e (tDT X.K E f)
section
variable {X:Cx}{E:XK}{e a b:Expr}{es:List Expr}{f g:Ev->Res D}{fa:Ev->Res (List D)}{pos:Pos}
theorem zaX {t t':TE}(h:PE X e t)(w:∀ σ H Q,t' σ H Q->t σ H Q):PE X e t':=fun pins s σ H Q I q=>h pins s σ H Q I (w σ H Q q)
theorem zvr {t t':TA}(h:PA X es t)(w:∀ σ H Q,t' σ H Q->t σ H Q):PA X es t':=fun pos pins s σ H Q I q=>h pos pins s σ H Q I (w σ H Q q)
theorem zn4 {t t':TT}(h:PT X e t)(w:∀ σ H Q,t' σ H Q->t σ H Q):PT X e t':=fun pins s σ H Q I q=>h pins s σ H Q I (w σ H Q q)
theorem zvb {t t':TT}(h:PW X e t)(w:∀ σ H Q,t' σ H Q->t σ H Q):PW X e t':=fun wh pins s σ H Q I q=>h wh pins s σ H Q I (w σ H Q q)
def zag (i:Nat):Ev->Res D:=fun ρ=>match ρ[i]? with
 | some (.sh d)=>.ok d
 | _=>.stuck
def dC (d:D):Ev->Res D:=fun _=>.ok d
theorem zEn {i:Nat}{x:Str}(hN:X.N[i]?=some x)(hv:Vis X.env.scope x)(hd:(x==("__debug__" : Str))=false:=by decide)(hcd:(x==("__classdict__" : Str))=false:=by decide):DE X E (.Name x pos) (zag i):=by
 refine⟨?_⟩;refine zaX (zk0 hN hv hd hcd) fun σ H Q ⟨Ha,ρ,hs,hr,q⟩=>?_;unfold zag at q;cases e:ρ[i]? with
 | none=>rw[e] at q;exact q.elim
 | some s =>
  rw[e] at q;cases s with
  | sh d =>
   obtain⟨v,e1,e2⟩:=hr i d e;exact⟨v,e1,q v H Ha (zcv.refl hs) e2⟩
  | no=>exact q.elim
  | ow d=>exact q.elim
  | ox j ds=>exact q.elim
theorem zae {i j}:DE X E (.Constant (.int i) j pos) (dC (.int i)):=⟨zaX zzM fun σ H Q ⟨Ha,ρ,hs,hr,q⟩=>q _ H Ha (zcv.refl hs) (zan.mpr rfl)⟩
theorem zer {i j}:DE X E (.Constant (.bool i) j pos) (dC (.bl i)):=⟨zaX zFr fun σ H Q ⟨Ha,ρ,hs,hr,q⟩=>q _ H Ha (zcv.refl hs) (zaq.mpr rfl)⟩
theorem zdc {j}:DE X E (.Constant .none j pos) (dC .non):=⟨zaX zDg fun σ H Q ⟨Ha,ρ,hs,hr,q⟩=>q _ H Ha (zcv.refl hs) (zaF.mpr rfl)⟩
theorem zeh {x j}:DE X E (.Constant (.str x) j pos) (dC (.str x)):=⟨zaX zDc fun σ H Q ⟨Ha,ρ,hs,hr,q⟩=>q _ H Ha (zcv.refl hs) (Rep.str_iff.mpr rfl)⟩
theorem zBO {x:Str}{v:V}{u:Value}{d:D}(hg:Gl X x)(hm:X.mg x=some u)(r:zcj v u)(hr:∀ H,Rep X.K H d v)(hd:(x==("__debug__" : Str))=false:=by decide):DE X E (.Name x pos) (dC d) :=
 ⟨zaX (zvn hg hm r hd) fun σ H Q ⟨Ha,ρ,hs,hr',q⟩=>q _ H Ha (zcv.refl hs) (hr Ha)⟩
def zac (f g:Ev->Res D)(op:D->D->Res D):Ev->Res D:=fun ρ=>(f ρ).bind fun x=>(g ρ).bind fun y=>op x y
def zaY (f:Ev->Res D)(op:D->Res D):Ev->Res D:=fun ρ=>(f ρ).bind op
def OpD (K:saj)(E:XK)(r:R2)(op:D->D->Res D):Prop:=∀ (x y:D) (v u:V) (H Ha:Hp) (Q:VK),zaM Ha H->Rep K Ha x v->Rep K Ha y u->post K E H Ha (op x y) Q->r v u H Q
theorem ziq {r:R2}{op:D->D->Res D}(ho:OpD X.K E r op)(σ:L2.St)(H:Hp)(Q:VK)(h:tD X.K E (zac f g op) σ H Q):tOp r (tD X.K E f) (tD X.K E g) σ H Q:=by
 obtain⟨Ha,ρ,hs,hr,q⟩:=h;refine⟨Ha,ρ,hs,hr,?_⟩;unfold zac at q;cases e1:f ρ with
 | stuck=>rw[e1] at q;exact q
 | exn x=>rw[e1] at q;exact q
 | ok x =>
  rw[e1] at q;intro v H1 H01 g1 r1;refine⟨H01,ρ,g1.sub,hr.mono g1.z,?_⟩;replace q:post X.K E H Ha ((g ρ).bind fun y=>op x y) Q:=q;replace q:=q.grow g1;cases e2:g ρ with
  | stuck=>rw[e2] at q;exact q
  | exn x=>rw[e2] at q;exact q
  | ok y =>
   rw[e2] at q;intro u H2 H02 g2 r2;exact ho x y v u H2 H02 Q g2.sub (r1.mono g2.z) r2 (post.grow (r:=op x y) q g2)
theorem zp9 {op:Operator}{r:R2}{o:D->D->Res D}(h:OpR X (binaryOp op) r)(ho:OpD X.K E r o)(ha:DE X E a f)(hb:DE X E b g):DE X E (.BinOp a op b pos) (zac f g o) :=
 ⟨zaX (zAO h ha.o hb.o) (ziq ho)⟩
theorem zdd {op:CmpOp}{r:R2}{o:D->D->Res D}(h:OpR X (compareOp op) r)(ho:OpD X.K E r o)(ha:DE X E a f)(hb:DE X E b g)(hm:behindInMarks op b=false):DE X E (.Compare a [op] [b] pos) (zac f g o) :=
 ⟨zaX (zAQ h ha.o hb.o hm) (ziq ho)⟩
theorem zFM {r:R2}{o:D->D->Res D}(h:IxR X r)(ho:OpD X.K E r o)(ha:DE X E a f)(hb:DE X E b g)(hs:zr5 b):DE X E (.Subscript a b pos) (zac f g o) :=
 ⟨zaX (zFq h ha.o hb.o hs) (ziq ho)⟩
def UnD (K:saj)(E:XK)(r:V->Hp->VK->Prop)(op:D->Res D):Prop:=∀ (x:D) (v:V) (H Ha:Hp) (Q:VK),zaM Ha H->Rep K Ha x v->post K E H Ha (op x) Q->r v H Q
theorem zFL {op:UnaryOp}{r:V->Hp->VK->Prop}{o:D->Res D}(h:UnR X (unaryOp op) r)(ho:UnD X.K E r o)(ha:DE X E a f):DE X E (.UnaryOp op a pos) (zaY f o):=by
 refine⟨?_⟩;refine zaX (zDa h ha.o) fun σ H Q ⟨Ha,ρ,hs,hr,q⟩=>⟨Ha,ρ,hs,hr,?_⟩
 unfold zaY at q;cases e1:f ρ with
 | stuck=>rw[e1] at q;exact q
 | exn x=>rw[e1] at q;exact q
 | ok x =>
  rw[e1] at q;intro v H1 H01 g1 r1;exact ho x v H1 H01 Q g1.sub r1 (post.grow (r:=o x) q g1)
def zar:Ev->Res (List D):=fun _=>.ok []
def zad (f:Ev->Res D)(fa:Ev->Res (List D)):Ev->Res (List D):=fun ρ=>(f ρ).bind fun x=>(fa ρ).bind fun xs=>.ok (x::xs)
theorem zai:DA X E [] zar:=⟨zvr ziw fun σ H Q ⟨Ha,ρ,hs,hr,q⟩=>q [] H Ha (zcv.refl hs) Reps.nil⟩
theorem zaa (ha:DE X E e f)(hr:DA X E es fa)(hs:starEach (e::es) X.env=(false,eval e X.env)::starEach es X.env:=by exact zaN rfl):DA X E (e::es) (zad f fa):=by
 refine⟨?_⟩;refine zvr (zdE ha.o hr.o hs) fun σ H Q ⟨Ha,ρ,hs,hr,q⟩=>⟨Ha,ρ,hs,hr,?_⟩
 unfold zad at q;cases e1:f ρ with
 | stuck=>rw[e1] at q;exact q
 | exn x=>rw[e1] at q;exact q
 | ok x =>
  rw[e1] at q;intro v H1 H01 g1 r1;refine⟨H01,ρ,g1.sub,hr.mono g1.z,?_⟩;replace q:ztF X.K E H Ha ((fa ρ).bind fun xs=>.ok (x::xs)) Q:=q;replace q:=q.grow g1;cases e2:fa ρ with
  | stuck=>rw[e2] at q;exact q
  | exn x=>rw[e2] at q;exact q
  | ok xs =>
   rw[e2] at q;intro us H2 H02 g2 r2;exact q (v::us) H2 H02 g2 (Reps.cons (r1.mono g2.z) r2)
def line:Nat:=1000000
theorem zdF {n:Nat}(h:n<=line):n<=sizeLine:=sal h (by decide)
def zak (fa:Ev->Res (List D))(m:List D->Res D):Ev->Res D:=fun ρ=>(fa ρ).bind m
def zcZ:List D->Res D:=fun ds=>if ds.length<=line then .ok (.tup ds) else .stuck
def zcP:List D->Res D:=fun ds=>if ds.length<=line then .ok (.lst ds) else .stuck
theorem ziZ {m:List D->Res D}{r:List V->Hp->VK->Prop}(ho:∀ (ds:List D) (vs:List V) (H Ha:Hp) (Q:VK),zaM Ha H->Reps X.K Ha ds vs->post X.K E H Ha (m ds) Q->r vs H Q)
  (σ:L2.St)(H:Hp)(Q:VK)(h:tD X.K E (zak fa m) σ H Q):tDA X.K E fa σ H fun vs H1=>r vs H1 Q:=by
 obtain⟨Ha,ρ,hs,hr,q⟩:=h;refine⟨Ha,ρ,hs,hr,?_⟩;unfold zak at q;cases e1:fa ρ with
 | stuck=>rw[e1] at q;exact q
 | exn x=>rw[e1] at q;exact q
 | ok x =>
  rw[e1] at q;intro v H1 H01 g1 r1;exact ho x v H1 H01 Q g1.sub r1 (post.grow (r:=m x) q g1)
theorem za2 {x1}(h:DA X E es fa):DE X E (.Tuple es x1 pos) (zak fa zcZ):=by
 refine⟨?_⟩;refine zaX (zDb h.o) (ziZ (r:=fun xs H1 Q=>xs.length<=sizeLine/\∀ p,H1 p=none->Q (.ref p) (upd H1 p (.tup xs))) fun ds vs H Ha Q hs hr q=>?_);unfold zcZ at q
 by_cases hl:ds.length<=line
 .rw[if_pos hl] at q
  refine⟨by rw[← hr.length];exact zdF hl,fun p hp=>q _ _ _ (zaB hs hp) (zaz.mpr ⟨p,vs,rfl,SqT.of zau,hr.mono (zaB hs hp).z⟩)⟩
 .rw[if_neg hl] at q;exact q.elim
theorem zbu (h:DA X E es fa):DE X E (.List es pos) (zak fa zcP):=by
 refine⟨?_⟩;refine zaX (zzL h.o) (ziZ (r:=fun xs H1 Q=>xs.length<=sizeLine/\∀ p,H1 p=none->Q (.ref p) (upd H1 p (.lst xs))) fun ds vs H Ha Q hs hr q=>?_);unfold zcP at q
 by_cases hl:ds.length<=line
 .rw[if_pos hl] at q
  refine⟨by rw[← hr.length];exact zdF hl,fun p hp=>q _ _ _ (zaB hs hp) (zao.mpr ⟨p,vs,rfl,SqL.of zau,hr.mono (zaB hs hp).z⟩)⟩
 .rw[if_neg hl] at q;exact q.elim
def spD (K:saj)(n:Nat)(m:List D->Res D):Sp:=fun vs H Q E=>vs.length=n/\∃ Ha ds,zaM Ha H/\Reps K Ha ds vs/\post K E H Ha (m ds) Q
theorem zBP {CX:CXT}{k n:Nat}{fn:Addr}{fd:FuncData}{ps:List Str}{m:List D->Res D}{x:Str}{p:Pos}(F:zcB X.prog X.w X.K X.mg X.base CX k fn fd ps (spD X.K n m))(hr:zhR k X.A)(hg:Gl X x)(hm:X.mg x=some (.ref fn))
  (hk:scU X.K (.ref fn)=true)(hb:zkz X.K fd ps [])(hx:zl5 CX X E)(ha:DA X E (e::es) fa)(hn:(e::es).length=n:=by rfl)(hl:∀ ρ ds,fa ρ=.ok ds->ds.length=(e::es).length)
  (hdb:(x==("__debug__" : Str))=false:=by decide)(he:starEach (e::es) X.env=(false,eval e X.env)::starEach es X.env:=by exact zaN rfl)(hpl:(backTo pos (starEach es X.env)).any (·.1)=false:=by exact zbR rfl) :
  DE X E (.Call (.Name x p) (e::es) [] pos) (zak fa m):=by
 refine⟨?_⟩;refine zaX (zAR F hr hg hm hk hb .nil hx ha.o hdb he hpl) fun σ H Q h=>?_;obtain⟨Ha,ρ,hs,hr,q⟩:=h;refine⟨Ha,ρ,hs,hr,?_⟩;unfold zak at q;cases e1:fa ρ with
 | stuck=>rw[e1] at q;exact q
 | exn x=>rw[e1] at q;exact q
 | ok ds =>
  rw[e1] at q;intro v H1 H01 g1 r1;refine⟨?_,H01,ds,g1.sub,by simpa using r1,post.grow (r:=m ds) q g1⟩;have:=r1.length;have:=hl ρ ds e1;simp only[sbR];omega
theorem zzs {ρ:Ev}{ds:List D}(h:zar ρ=.ok ds):ds.length=0:=by cases h;rfl
theorem zg9 {ρ:Ev}{ds:List D}{n:Nat}(hr:∀ es,fa ρ=.ok es->es.length=n)(h:zad f fa ρ=.ok ds):ds.length=n+1:=by
 unfold zad at h;cases e1:f ρ with
 | stuck=>rw[e1] at h;cases h
 | exn x=>rw[e1] at h;cases h
 | ok x =>
  rw[e1] at h;replace h:((fa ρ).bind fun xs=>Res.ok (x::xs))=.ok ds:=h;cases e2:fa ρ with
  | stuck=>rw[e2] at h;cases h
  | exn x=>rw[e2] at h;cases h
  | ok xs =>
   rw[e2] at h;cases h;simp [hr xs e2]
def zl8 (X:Cx)(E:XK)(r:List V->Hp->VK->Prop)(m:List D->Res D):Prop:=∀ (ds:List D) (vs:List V) (H Ha:Hp) (Q:VK),zaM Ha H->Reps X.K Ha ds vs->post X.K E H Ha (m ds) Q->r vs H Q
theorem zaE {id:String}{r:List V->Hp->VK->Prop}{m:List D->Res D}{x:Str}{p:Pos}(hc:zky X (.builtin id) r)(hd:zl8 X E r m)(hg:Gl X x)(hm:X.mg x=none)(hv:bootBuiltins x=some (.builtin id))(ha:DA X E (e::es) fa)(hn:x≠"__name__":=by decide)(hdb:(x==("__debug__" : Str))=false:=by decide)
  (he:starEach (e::es) X.env=(false,eval e X.env)::starEach es X.env:=by exact zaN rfl)(hpl:(backTo pos (starEach es X.env)).any (·.1)=false:=by exact zbR rfl):DE X E (.Call (.Name x p) (e::es) [] pos) (zak fa m) :=
 ⟨zaX (zn6 hc hg hm hv ha.o hn hdb he hpl) (ziZ hd)⟩
theorem zzj (h:PT X e (tB (tD X.K E f))):DT X E e f:=by
 refine⟨?_⟩;refine zn4 h fun σ H Q ⟨Ha,ρ,hs,hr,q⟩=>⟨Ha,ρ,hs,hr,?_⟩
 cases e1:f ρ with
 | stuck=>rw[e1] at q;exact q
 | exn x=>rw[e1] at q;exact q
 | ok d =>
  rw[e1] at q;intro v H1 H01 g1 r1;cases d with
  | bl b=>rw[zaq.mp r1];exact⟨b,rfl,q H1 H01 g1⟩
  | _=>exact q.elim
theorem zbk (h:DE X E e f)(he:∀ whole,isTrue e X.env whole=(do let v ← whole;standAt e.pos;holding [v] (truthy v)):=by intro _;rfl):DT X E e f:=zzj (zC3 h.o he)
theorem zat {op:CmpOp}{r:R2}{o:D->D->Res D}(h:OpR X (compareOp op) r)(ho:OpD X.K E r o)(ha:DE X E a f)(hb:DE X E b g)(hm:behindInMarks op b=false):DT X E (.Compare a [op] [b] pos) (zac f g o):=by
 refine⟨?_⟩;refine zn4 (zAF h ha.o hb.o hm) fun σ H Q h=>?_;have w:tD X.K E (zac f g o) σ H fun x H'=>∃ k,x=.bl k/\Q k H':=by
  obtain⟨Ha,ρ,hs,hr,q⟩:=h;refine⟨Ha,ρ,hs,hr,?_⟩;cases e1:zac f g o ρ with
  | stuck=>rw[e1] at q;exact q
  | exn x=>rw[e1] at q;exact q
  | ok d =>
   rw[e1] at q;intro v H1 H01 g1 r1;cases d with
   | bl b=>rw[zaq.mp r1];exact⟨b,rfl,q H1 H01 g1⟩
   | _=>exact q.elim
 exact ziq ho σ H _ w
def zdJ (f:Ev->Res D):Ev->Res D:=zaY f fun x=>match x with
 | .bl b=>.ok (.bl (!b))
 | _=>.stuck
def zgY (f g:Ev->Res D):Ev->Res D:=fun ρ=>(f ρ).bind fun x=>match x with
 | .bl true=>g ρ
 | .bl false=>.ok (.bl false)
 | _=>.stuck
def dOr (f g:Ev->Res D):Ev->Res D:=fun ρ=>(f ρ).bind fun x=>match x with
 | .bl true=>.ok (.bl true)
 | .bl false=>g ρ
 | _=>.stuck
theorem zbl (ha:DT X E a f):DT X E (.UnaryOp .Not a pos) (zdJ f):=by
 refine⟨?_⟩;refine zn4 (zC4 ha.o) fun σ H Q ⟨Ha,ρ,hs,hr,q⟩=>⟨Ha,ρ,hs,hr,?_⟩
 unfold zdJ zaY at q;cases e1:f ρ with
 | stuck=>rw[e1] at q;exact q
 | exn x=>rw[e1] at q;exact q
 | ok d =>
  rw[e1] at q;cases d with
  | bl b=>exact q
  | _=>exact q.elim
theorem zxq (ha:DE X E a f):DE X E (.UnaryOp .Not a pos) (zdJ f):=by
 refine⟨?_⟩;refine zaX (zDf ha.o) fun σ H Q ⟨Ha,ρ,hs,hr,q⟩=>⟨Ha,ρ,hs,hr,?_⟩
 unfold zdJ zaY at q;cases e1:f ρ with
 | stuck=>rw[e1] at q;exact q
 | exn x=>rw[e1] at q;exact q
 | ok d =>
  rw[e1] at q;intro v H1 H01 g1 r1;cases d with
  | bl b=>rw[zaq.mp r1];exact⟨b,rfl,q (.bl !b) H1 H01 g1 (zaq.mpr rfl)⟩
  | _=>exact q.elim
variable {rest:List Expr}
theorem zbC (ha:DT X E a f):DW X E (.BoolOp .And [a] pos) f:=⟨zAE ha.o⟩
theorem zaO (ha:DT X E a f):DW X E (.BoolOp .Or [a] pos) f:=⟨zC0 ha.o⟩
theorem zdL (ha:DT X E a f)(hb:DW X E (.BoolOp .And (b::rest) pos) g):DW X E (.BoolOp .And (a::b::rest) pos) (zgY f g):=by
 refine⟨?_⟩;refine zvb (zC1 ha.o hb.o) fun σ H Q ⟨Ha,ρ,hs,hr,q⟩=>⟨Ha,ρ,hs,hr,?_⟩
 unfold zgY at q;cases e1:f ρ with
 | stuck=>rw[e1] at q;exact q
 | exn x=>rw[e1] at q;exact q
 | ok d =>
  rw[e1] at q;cases d with
  | bl b =>
   cases b with
   | true=>exact fun H1 H01 g1=>⟨H01,ρ,g1.sub,hr.mono g1.z,zqL.grow (r:=g ρ) q g1⟩
   | false=>exact fun H1 H01 g1=>q H1 H01 g1
  | _=>exact q.elim
theorem zdq (ha:DT X E a f)(hb:DW X E (.BoolOp .Or (b::rest) pos) g):DW X E (.BoolOp .Or (a::b::rest) pos) (dOr f g):=by
 refine⟨?_⟩;refine zvb (zFj ha.o hb.o) fun σ H Q ⟨Ha,ρ,hs,hr,q⟩=>⟨Ha,ρ,hs,hr,?_⟩
 unfold dOr at q;cases e1:f ρ with
 | stuck=>rw[e1] at q;exact q
 | exn x=>rw[e1] at q;exact q
 | ok d =>
  rw[e1] at q;cases d with
  | bl b =>
   cases b with
   | false=>exact fun H1 H01 g1=>⟨H01,ρ,g1.sub,hr.mono g1.z,zqL.grow (r:=g ρ) q g1⟩
   | true=>exact fun H1 H01 g1=>q H1 H01 g1
  | _=>exact q.elim
theorem DW.dt (h:DW X E e f):DT X E e f:=⟨PW.pt h.o⟩
theorem zei {op}(h:DE X E a f):DE X E (.BoolOp op [a] pos) f:=⟨zDe h.o⟩
theorem zfl (ha:DE X E a f)(hb:DE X E (.BoolOp .And (b::rest) pos) g):DE X E (.BoolOp .And (a::b::rest) pos) (zgY f g):=by
 refine⟨?_⟩;refine zaX (zDi ha.o hb.o) fun σ H Q ⟨Ha,ρ,hs,hr,q⟩=>⟨Ha,ρ,hs,hr,?_⟩
 unfold zgY at q;cases e1:f ρ with
 | stuck=>rw[e1] at q;exact q
 | exn x=>rw[e1] at q;exact q
 | ok d =>
  rw[e1] at q;intro v H1 H01 g1 r1;cases d with
  | bl b =>
   rw[zaq.mp r1];cases b with
   | true=>exact⟨true,rfl,H01,ρ,g1.sub,hr.mono g1.z,post.grow (r:=g ρ) q g1⟩
   | false=>exact⟨false,rfl,q (.bl false) H1 H01 g1 (zaq.mpr rfl)⟩
  | _=>exact q.elim
theorem zEq (ha:DE X E a f)(hb:DE X E (.BoolOp .Or (b::rest) pos) g):DE X E (.BoolOp .Or (a::b::rest) pos) (dOr f g):=by
 refine⟨?_⟩;refine zaX (zFp ha.o hb.o) fun σ H Q ⟨Ha,ρ,hs,hr,q⟩=>⟨Ha,ρ,hs,hr,?_⟩
 unfold dOr at q;cases e1:f ρ with
 | stuck=>rw[e1] at q;exact q
 | exn x=>rw[e1] at q;exact q
 | ok d =>
  rw[e1] at q;intro v H1 H01 g1 r1;cases d with
  | bl b =>
   rw[zaq.mp r1];cases b with
   | false=>exact⟨false,rfl,H01,ρ,g1.sub,hr.mono g1.z,post.grow (r:=g ρ) q g1⟩
   | true=>exact⟨true,rfl,q (.bl true) H1 H01 g1 (zaq.mpr rfl)⟩
  | _=>exact q.elim
def dIf (c f g:Ev->Res D):Ev->Res D:=fun ρ=>(c ρ).bind fun x=>match x with
 | .bl true=>f ρ
 | .bl false=>g ρ
 | _=>.stuck
theorem zoR {c:Expr}{fc:Ev->Res D}(hc:DT X E c fc)(ha:DE X E a f)(hb:DE X E b g):DE X E (.IfExp c a b pos) (dIf fc f g):=by
 refine⟨?_⟩;refine zaX (zyK hc.o ha.o hb.o) fun σ H Q ⟨Ha,ρ,hs,hr,q⟩=>⟨Ha,ρ,hs,hr,?_⟩
 unfold dIf at q;cases e1:fc ρ with
 | stuck=>rw[e1] at q;exact q
 | exn x=>rw[e1] at q;exact q
 | ok d =>
  rw[e1] at q;cases d with
  | bl b =>
   cases b with
   | true=>exact fun H1 H01 g1=>⟨H01,ρ,g1.sub,hr.mono g1.z,post.grow (r:=f ρ) q g1⟩
   | false=>exact fun H1 H01 g1=>⟨H01,ρ,g1.sub,hr.mono g1.z,post.grow (r:=g ρ) q g1⟩
  | _=>exact q.elim
end
def zGZ (K:saj)(Ha H:Hp)(a:Addr)(d:D):Prop:=match d with
 | .lst ds=>∃ vs,H a=some (.lst vs)/\Reps K Ha ds vs
 | _=>False
noncomputable def OXr (K:saj) (He Ha H:Hp) (a:Addr) (j:Nat) (ds:List D) (p:Addr):Prop:=∃ vs es us,He a=none/\H a=some (.tup vs)/\He p=none/\Ha p=none/\ds[j]?=some (.lst es)/\vs[j]?=some (.ref p)/\H p=some (.lst us)/\Reps K Ha es us/\ds.length=vs.length/\∀ k d v,k≠j->ds[k]?=some d->vs[k]?=some v->Rep K Ha d v
noncomputable def OX (K:saj) (He Ha:Hp) (σ:L2.St) (H:Hp) (ρ:Ev):Prop:=∀ (i j:Nat) (ds:List D),ρ[i]?=some (.ox j ds)->∃ a p,σ[i]?=some (some (.ref a))/\OXr K He Ha H a j ds p/\(∀ (k:Nat) (d:D),ρ[k]?=some (.ow d)->σ[k]?≠some (some (.ref p)))/\∀ (k j':Nat) (ds':List D),ρ[k]?=some (.ox j' ds')->k=i
theorem OX.upd {K:saj}{He Ha Ha' H H':Hp}{σ σ':L2.St}{ρ ρ':Ev}(h:OX K He Ha σ H ρ)
  (hk:∀ (j:Nat) (s:Sl),ρ'[j]?=some s->(ρ[j]?=some s/\σ'[j]?=σ[j]?)∨(∃ d,s=.sh d)∨s=.no∨∃ d q,s=.ow d/\σ'[j]?=some (some (.ref q))/\∀ (i j:Nat) (ds:List D) (a p:Addr),ρ[i]?=some (.ox j ds)->σ[i]?=some (some (.ref a))->OXr K He Ha H a j ds p->q≠p)
  (hz:zaM Ha Ha')(ht:∀ a vs,He a=none->H a=some (.tup vs)->H' a=some (.tup vs))
  (hl:∀ p us,He p=none->Ha p=none->H p=some (.lst us)->(∀ (k:Nat) (d:D),ρ[k]?=some (.ow d)->σ[k]?≠some (some (.ref p)))->H' p=some (.lst us)/\Ha' p=none):OX K He Ha' σ' H' ρ':=fun i j ds e=>by
 have old:ρ[i]?=some (.ox j ds)/\σ'[i]?=σ[i]?:=by
  rcases hk i _ e with h1 | ⟨d,h1⟩ | h1 | ⟨d,q,h1,_⟩
  .exact h1
  .cases h1
  .cases h1
  .cases h1
 obtain⟨a,p,h1,h2,h3,h4⟩:=h i j ds old.1;have h2':=h2;obtain⟨vs,es,us,r1,r2,r3,r4,r5,r6,r7,r8,r9,r10⟩:=h2;obtain⟨l1,l2⟩:=hl p us r3 r4 r7 h3;refine⟨a,p,old.2.trans h1,⟨vs,es,us,r1,ht a vs r1 r2,r3,l2,r5,r6,l1,r8.mono hz,r9,fun k d v hk e1 e2=>(r10 k d v hk e1 e2).mono hz⟩,fun k d ek z=>?_,fun k j' ds' ek=>?_⟩
 .rcases hk k _ ek with h1' | ⟨d',h1'⟩ | h1' | ⟨d',q,h1',h2'',h3'⟩
  .exact h3 k d h1'.1 (by rw[← h1'.2];exact z)
  .cases h1'
  .cases h1'
  .rw[h2''] at z
   cases z;exact h3' i j ds a p old.1 h1 h2' rfl
 .rcases hk k _ ek with h1' | ⟨d',h1'⟩ | h1' | ⟨d',q,h1',_⟩
  .exact h4 k j' ds' h1'.1
  .cases h1'
  .cases h1'
  .cases h1'
theorem OX.none {K:saj}{He Ha H:Hp}{σ:L2.St}{ρ:Ev}(h:∀ (i j:Nat) (ds:List D),ρ[i]?≠some (.ox j ds)):OX K He Ha σ H ρ:=fun i j ds e=>absurd e (h i j ds)
theorem zu6 {K:saj}{H:Hp}:∀ {ds:List D}{vs:List V},ds.length=vs.length->(∀ (k:Nat) (d:D) (v:V),ds[k]?=some d->vs[k]?=some v->Rep K H d v)->Reps K H ds vs
 | [],[],_,_=>Reps.nil
 | d::ds,v::vs,hl,h=>Reps.cons (h 0 d v rfl rfl) (zu6 (by simpa using hl) fun k d' v' e1 e2=>h (k+1) d' v' e1 e2)
structure SRx (K:saj) (He H0e Ha:Hp) (σ:L2.St) (H:Hp) (ρ:Ev):Prop where
 g:zcv He H0e H Ha
 rd:zhb K Ha σ ρ
 ow:∀ (i:Nat) (d:D),ρ[i]?=some (.ow d)->∃ a,σ[i]?=some (some (.ref a))/\He a=none/\Ha a=none/\zGZ K Ha H a d
 ap:∀ (i j:Nat) (d d':D),i≠j->ρ[i]?=some (.ow d)->ρ[j]?=some (.ow d')->σ[i]?≠σ[j]?
 ln:ρ.length=σ.length
 ex:OX K He Ha σ H ρ
inductive Fl where
 | nx (ρ:Ev) | rt (d:D) | bk (ρ:Ev) | ct (ρ:Ev)
noncomputable def zcm (K:saj) (E:XK) (He H0e Ha:Hp) (r:Res Fl) (D:zmH):Prop:=match r with
 | .ok (.nx ρ)=>∀ σ H Ha',zaM Ha Ha'->SRx K He H0e Ha' σ H ρ->D.nx σ H
 | .ok (.rt d)=>∀ v H Ha',zcv He H0e H Ha'->Rep K Ha' d v->D.rt v H
 | .ok (.bk ρ)=>∀ σ H Ha',zaM Ha Ha'->SRx K He H0e Ha' σ H ρ->D.bk σ H
 | .ok (.ct ρ)=>∀ σ H Ha',zaM Ha Ha'->SRx K He H0e Ha' σ H ρ->D.ct σ H
 | .exn x=>∀ C ox H Ha',zcv He H0e H Ha'->ExR K Ha' x C ox->E C ox H
 | .stuck=>False
theorem zcm.grow {K:saj}{E:XK}{He H0e Ha Hb:Hp}{r:Res Fl}{D:zmH}(h:zcm K E He H0e Ha r D)(s:zaM Ha Hb):zcm K E He H0e Hb r D:=by
 cases r with
 | ok f =>
  cases f with
  | nx ρ=>exact fun σ H Ha' s'=>h σ H Ha' (s.trans s')
  | rt d=>exact h
  | bk ρ=>exact fun σ H Ha' s'=>h σ H Ha' (s.trans s')
  | ct ρ=>exact fun σ H Ha' s'=>h σ H Ha' (s.trans s')
 | exn x=>exact h
 | stuck=>exact h
def tS (K:saj)(E:XK)(He H0e:Hp)(g:Ev->Res Fl):TS:=fun D σ H=>∃ Ha ρ,SRx K He H0e Ha σ H ρ/\zcm K E He H0e Ha (g ρ) D
structure DS (X:Cx) (E:XK) (He H0e:Hp) (st:Stmt) (g:Ev->Res Fl):Prop where
 o:PS X st (tS X.K E He H0e g)
structure DSs (X:Cx) (E:XK) (He H0e:Hp) (st:List Stmt) (g:Ev->Res Fl):Prop where
 o:PSs X st (tS X.K E He H0e g)
def shr (ρ:Ev):Ev:=ρ.map fun s=>match s with
 | .ow d=>.sh d
 | .ox _ ds=>.sh (.tup ds)
 | x=>x
def frz (He Ha H:Hp):Hp:=fun a=>match He a with
 | none=>H a
 | some _=>Ha a
section
variable {K:saj}{E:XK}{He H0e Ha H H1:Hp}{σ:L2.St}{ρ:Ev}
theorem SRx.same (h:SRx K He H0e Ha σ H ρ)(s:zaM H H1):SRx K He H0e Ha σ H1 ρ :=
 ⟨⟨h.g.s.trans s,h.g.z,h.g.sub.trans s,h.g.nw⟩,h.rd,fun i d e=>by
  obtain⟨a,h1,h2,h3,h4⟩:=h.ow i d e;refine⟨a,h1,h2,h3,?_⟩;cases d with
  | lst ds=>obtain⟨vs,h5,h6⟩:=h4;exact⟨vs,s _ _ h5,h6⟩
  | _=>exact h4,h.ap,h.ln,h.ex.upd (fun j s' e=>.inl ⟨e,rfl⟩) (zaM.refl _) (fun a vs _ e=>s _ _ e) fun p us _ h0 hp _=>⟨s _ _ hp,h0⟩⟩
theorem SRx.grow {H01:Hp}(h:SRx K He H0e Ha σ H ρ)(s:zcv H Ha H1 H01):SRx K He H0e H01 σ H1 ρ :=
 ⟨h.g.trans s,h.rd.mono s.z,fun i d e=>by
  obtain⟨a,h1,h2,h3,h4⟩:=h.ow i d e;have ha:H01 a=none:=by
   cases q:H01 a with
   | none=>rfl
   | some o =>
    have:=s.nw a (by rw[q];simp) h3;cases d with
    | lst ds=>obtain⟨vs,h5,_⟩:=h4;rw[h5] at this;cases this
    | _=>exact h4.elim
  refine⟨a,h1,h2,ha,?_⟩;cases d with
  | lst ds=>obtain⟨vs,h5,h6⟩:=h4;exact⟨vs,s.s _ _ h5,h6.mono s.z⟩
  | _=>exact h4,h.ap,h.ln,h.ex.upd (fun j s' e=>.inl ⟨e,rfl⟩) s.z (fun a vs _ e=>s.s _ _ e) fun p us _ h0 hp _=>⟨s.s _ _ hp,by
   cases q:H01 p with
   | none=>rfl
   | some o=>have:=s.nw p (by rw[q];simp) h0;rw[hp] at this;cases this⟩⟩
theorem SRx.frz_sub (h:SRx K He H0e Ha σ H ρ):zaM Ha (frz He Ha H):=fun b o e=>by
 unfold frz;cases q:He b with
 | none=>exact h.g.sub _ _ e
 | some _=>exact e
theorem SRx.frz_le (h:SRx K He H0e Ha σ H ρ):zaM (frz He Ha H) H:=fun b o e=>by
 unfold frz at e;cases q:He b with
 | none=>rw[q] at e;exact e
 | some _=>rw[q] at e;exact h.g.sub _ _ e
theorem SRx.frz_grow (h:SRx K He H0e Ha σ H ρ):zcv He H0e H (frz He Ha H) :=
 ⟨h.g.s,h.g.z.trans h.frz_sub,h.frz_le,fun a h1 h2=>by
  cases q:He a with
  | none=>rfl
  | some o =>
   unfold frz at h1;rw[q] at h1;have:=h.g.nw a h1 h2;rw[q] at this;cases this⟩
theorem SRx.looks (h:SRx K He H0e Ha σ H ρ):zhb K (frz He Ha H) σ (shr ρ):=fun i d e=>by
 unfold shr at e;rw[sai] at e;cases q:ρ[i]? with
 | none=>rw[q] at e;cases e
 | some s =>
  rw[q] at e;cases s with
  | no=>cases e
  | sh d' =>
   cases e;obtain⟨v,h1,h2⟩:=h.rd i d q;exact⟨v,h1,h2.mono h.frz_sub⟩
  | ow d' =>
   cases e;obtain⟨a,h1,h2,h3,h4⟩:=h.ow i d q;refine⟨_,h1,?_⟩;cases d with
   | lst ds =>
    obtain⟨vs,h5,h6⟩:=h4;exact zao.mpr ⟨a,vs,rfl,SqL.of (by unfold frz;rw[h2];exact h5),h6.mono h.frz_sub⟩
   | _=>exact h4.elim
  | ox j ds =>
   cases e;obtain⟨a,p,h1,⟨vs,es,us,r1,r2,r3,r4,r5,r6,r7,r8,r9,r10⟩,_⟩:=h.ex i j ds q;refine⟨_,h1,zaz.mpr ⟨a,vs,rfl,SqT.of (by unfold frz;rw[r1];exact r2),zu6 r9 fun k d v e1 e2=>?_⟩⟩
   by_cases hk:k=j
   .subst hk
    rw[r5] at e1;cases e1;rw[r6] at e2;cases e2;exact zao.mpr ⟨p,us,rfl,SqL.of (by unfold frz;rw[r3];exact r7),r8.mono h.frz_sub⟩
   .exact(r10 k d v hk e1 e2).mono h.frz_sub
theorem SRx.put (h:SRx K He H0e Ha σ H ρ){i:Nat}{d:D}{v:V}(r:Rep K Ha d v):SRx K He H0e Ha (σ.set i (some v)) H (ρ.set i (.sh d)):=by
 have key:∀ (j:Nat) (s:Sl),(ρ.set i (.sh d))[j]?=some s->(j=i/\s=.sh d/\i < σ.length)∨(j≠i/\ρ[j]?=some s):=fun j s e=>by
  by_cases hj:i=j
  .subst hj
   rw[sck] at e;cases q:ρ[i]? with
   | none=>rw[q] at e;cases e
   | some s' =>
    rw[q] at e;cases e;refine .inl ⟨rfl,rfl,?_⟩;rw[← h.ln];exact(sad.mp q).1
  .rw[sao hj] at e
   exact .inr ⟨fun z=>hj z.symm,e⟩
 refine⟨h.g,fun j d' e=>?_,fun j d' e=>?_,fun j k d1 d2 hn e1 e2=>?_,by simp [h.ln],h.ex.upd (fun j s e=>?_) (zaM.refl _) (fun a vs _ e=>e) fun p us _ h0 hp _=>⟨hp,h0⟩⟩
 rotate_left 3
 .rcases key j _ e with⟨rfl,e',hl⟩ | ⟨hj,e'⟩
  .exact .inr (.inl ⟨d,e'⟩)
  .exact .inl ⟨e',by rw[sao (saW hj)]⟩
 .rcases key j _ e with⟨rfl,e',hl⟩ | ⟨hj,e'⟩
  .cases e'
   exact⟨v,by rw[saO hl],r⟩
  .obtain⟨v',h1,h2⟩:=h.rd j d' e'
   exact⟨v',by rw[sao (saW hj)];exact h1,h2⟩
 .rcases key j _ e with⟨rfl,e',hl⟩ | ⟨hj,e'⟩
  .cases e'
  .obtain⟨a,h1,h2⟩:=h.ow j d' e'
   exact⟨a,by rw[sao (saW hj)];exact h1,h2⟩
 .rcases key j _ e1 with⟨_,e',_⟩ | ⟨hj,e1'⟩
  .cases e'
  rcases key k _ e2 with⟨_,e',_⟩ | ⟨hk,e2'⟩
  .cases e'
  rw[sao (saW hj),sao (saW hk)];exact h.ap j k d1 d2 hn e1' e2'
theorem SRx.putOwn (h:SRx K He H0e Ha σ H ρ){i:Nat}{ds:List D}{vs:List V}{p:Addr}(hp:∀ (j:Nat) (a:Addr),σ[j]?=some (some (V.ref a))->a=p->∀ d:D,ρ[j]?≠some (Sl.ow d))(he:He p=none)(h0:Ha p=none)(hv:H p=some (.lst vs))(r:Reps K Ha ds vs)(hx:∀ (i j:Nat) (ds:List D) (a q:Addr),ρ[i]?=some (.ox j ds)->σ[i]?=some (some (.ref a))->OXr K He Ha H a j ds q->p≠q) :
  SRx K He H0e Ha (σ.set i (some (.ref p))) H (ρ.set i (.ow (.lst ds))):=by
 have key:∀ (j:Nat) (s:Sl),(ρ.set i (.ow (.lst ds)))[j]?=some s->(j=i/\s=.ow (.lst ds)/\i < σ.length)∨(j≠i/\ρ[j]?=some s):=fun j s e=>by
  by_cases hj:i=j
  .subst hj
   rw[sck] at e;cases q:ρ[i]? with
   | none=>rw[q] at e;cases e
   | some s' =>
    rw[q] at e;cases e;refine .inl ⟨rfl,rfl,?_⟩;rw[← h.ln];exact(sad.mp q).1
  .rw[sao hj] at e
   exact .inr ⟨fun z=>hj z.symm,e⟩
 have other:∀ (k:Nat) (d2:D),k≠i->ρ[k]?=some (.ow d2)->some (some (V.ref p))≠σ[k]?:=fun k d2 hk e2 z=>by
  obtain⟨a,h1,_⟩:=h.ow k d2 e2;rw[h1] at z;cases z;exact hp k p h1 rfl d2 e2
 refine⟨h.g,fun j d' e=>?_,fun j d' e=>?_,fun j k d1 d2 hn e1 e2=>?_,by simp [h.ln],h.ex.upd (fun j s e=>?_) (zaM.refl _) (fun a vs _ e=>e) fun p us _ h0 hp _=>⟨hp,h0⟩⟩
 rotate_left 3
 .rcases key j _ e with⟨rfl,e',hl⟩ | ⟨hj,e'⟩
  .exact .inr (.inr (.inr ⟨.lst ds,p,e',by rw[saO hl],hx⟩))
  .exact .inl ⟨e',by rw[sao (saW hj)]⟩
 .rcases key j _ e with⟨rfl,e',hl⟩ | ⟨hj,e'⟩
  .cases e'
  .obtain⟨v',h1,h2⟩:=h.rd j d' e'
   exact⟨v',by rw[sao (saW hj)];exact h1,h2⟩
 .rcases key j _ e with⟨rfl,e',hl⟩ | ⟨hj,e'⟩
  .cases e'
   exact⟨p,by rw[saO hl],he,h0,vs,hv,r⟩
  .obtain⟨a,h1,h2⟩:=h.ow j d' e'
   exact⟨a,by rw[sao (saW hj)];exact h1,h2⟩
 .rcases key j _ e1 with⟨rfl,_,hl⟩ | ⟨hj,e1'⟩
  .rcases key k _ e2 with⟨rfl,_,_⟩ | ⟨hk,e2'⟩
   .exact absurd rfl hn
   .rw[saO hl,sao (saW hk)]
    exact other k d2 hk e2'
  .rcases key k _ e2 with⟨rfl,_,hl⟩ | ⟨hk,e2'⟩
   .rw[saO hl,sao (saW hj)]
    exact fun z=>other j d1 hj e1' z.symm
   .rw[sao (saW hj),sao (saW hk)]
    exact h.ap j k d1 d2 hn e1' e2'
theorem SRx.fresh_x {H01:Hp}{p:Addr}(h:SRx K He H0e Ha σ H ρ)(s:zaM H H1)(hp:H p=none):∀ (i j:Nat) (ds:List D) (a q:Addr),ρ[i]?=some (.ox j ds)->σ[i]?=some (some (.ref a))->OXr K He H01 H1 a j ds q->p≠q:=fun i j ds a q x1 x2 x3=>by
 obtain⟨a2,p2,y1,⟨vs2,_,us2,_,z3,_,_,_,z4,z5,_⟩,_⟩:=h.ex i j ds x1;rw[x2] at y1;cases y1;obtain⟨vs1,_,_,_,z1,_,_,_,z2,_⟩:=x3;have:=s _ _ z3;rw[z1] at this;cases this;rw[z2] at z4;cases z4;intro z;subst z;rw[hp] at z5;cases z5
theorem SRx.write (h:SRx K He H0e Ha σ H ρ){i:Nat}{d:D}{p:Addr}{ds:List D}{vs:List V}(e:ρ[i]?=some (.ow d))(es:σ[i]?=some (some (.ref p)))(r:Reps K Ha ds vs) :
  SRx K He H0e Ha σ (upd H p (.lst vs)) (ρ.set i (.ow (.lst ds))):=by
 obtain⟨a,h1,h2,h3,h4⟩:=h.ow i d e;rw[h1] at es;cases es;have hil:i < ρ.length:=(sad.mp e).1;have key:∀ (j:Nat) (s:Sl),(ρ.set i (.ow (.lst ds)))[j]?=some s->(j=i/\s=.ow (.lst ds))∨(j≠i/\ρ[j]?=some s):=fun j s e=>by
  by_cases hj:i=j
  .subst hj
   rw[saO hil] at e;cases e;exact .inl ⟨rfl,rfl⟩
  .rw[sao hj] at e
   exact .inr ⟨fun z=>hj z.symm,e⟩
 refine⟨⟨fun b o eb=>?_,h.g.z,fun b o eb=>?_,h.g.nw⟩,fun j d' e'=>?_,fun j d' e'=>?_,fun j k d1 d2 hn e1 e2=>?_,by simp [h.ln],h.ex.upd (fun j s e'=>?_) (zaM.refl _) (fun b us _ eb=>?_) fun q us _ q0 hq hd=>?_⟩
 rotate_left 5
 .rcases key j _ e' with⟨rfl,e''⟩ | ⟨hj,e''⟩
  .exact .inr (.inr (.inr ⟨.lst ds,p,e'',h1,fun i' j' ds' a' p' x1 x2 x3=>by
    obtain⟨a2,p2,y1,y2,y3,_⟩:=h.ex i' j' ds' x1;rw[x2] at y1;cases y1;have:p2=p':=by
     obtain⟨vs1,_,_,_,z1,_,_,_,z2,_⟩:=x3;obtain⟨vs2,_,_,_,z3,_,_,_,z4,_⟩:=y2;rw[z1] at z3;cases z3;rw[z2] at z4;cases z4;rfl
    subst this;intro zz;subst zz;exact y3 j d e h1⟩))
  .exact .inl ⟨e'',rfl⟩
 .rw[zav (by
   intro z;subst z;cases d with
   | lst ds'=>obtain⟨vs',h5,_⟩:=h4;rw[h5] at eb;cases eb
   | _=>exact h4)];exact eb
 .have hq':q≠p:=by
   intro z;subst z;exact hd i d e h1
  exact⟨by rw[zav hq'];exact hq,q0⟩
 .rw[zav (by intro z;subst z;rw[h2] at eb;cases eb)];exact h.g.s _ _ eb
 .rw[zav (by intro z;subst z;rw[h3] at eb;cases eb)];exact h.g.sub _ _ eb
 .rcases key j _ e' with⟨rfl,e''⟩ | ⟨hj,e''⟩
  .cases e''
  .exact h.rd j d' e''
 .rcases key j _ e' with⟨rfl,e''⟩ | ⟨hj,e''⟩
  .cases e''
   exact⟨p,h1,h2,h3,vs,zau,r⟩
  .obtain⟨b,k1,k2,k3,k4⟩:=h.ow j d' e''
   refine⟨b,k1,k2,k3,?_⟩;have hb:b≠p:=by
    intro z;subst z;exact h.ap j i d' d hj e'' e (by rw[k1,h1])
   cases d' with
   | lst ds' =>
    obtain⟨vs',h5,h6⟩:=k4;exact⟨vs',by rw[zav hb];exact h5,h6⟩
   | _=>exact k4.elim
 .rcases key j _ e1 with⟨rfl,e1'⟩ | ⟨hj,e1'⟩
  .rcases key k _ e2 with⟨rfl,_⟩ | ⟨hk,e2'⟩
   .exact absurd rfl hn
   .exact h.ap j k d d2 hn e e2'
  .rcases key k _ e2 with⟨rfl,_⟩ | ⟨hk,e2'⟩
   .exact h.ap j k d1 d hn e1' e
   .exact h.ap j k d1 d2 hn e1' e2'
end
mutual
def zln:D->Bool
 | .lst _=>false
 | .dic _ _=>false
 | .exc _=>false
 | .ob _ _=>false
 | .tup ds=>flats ds
 | _=>true
def flats:List D->Bool
 | []=>true
 | d::ds=>zln d&&flats ds
end
mutual
theorem Rep.flat_to {K:saj}{H H':Hp}(e:∀ a vs,Rd H a (.tup vs)->Rd H' a (.tup vs)):∀ {d:D}{v:V},zln d=true->Rep K H d v->Rep K H' d v
 | .non,_,_,h=>by unfold Rep at h ⊢;exact h
 | .bl _,_,_,h=>by unfold Rep at h ⊢;exact h
 | .int _,_,_,h=>by unfold Rep at h ⊢;exact h
 | .str _,_,_,h=>by unfold Rep at h ⊢;exact h
 | .tup ds,_,f,h=>by
  unfold zln at f;obtain⟨a,vs,e1,e2,e3⟩:=zaz.mp h;refine zaz.mpr ⟨a,vs,e1,?_,Reps.flat_to e f e3⟩;rcases e2 with e2 | e2
  .exact .inl (e _ _ e2)
  .exact .inr e2
 | .lst ds,_,f,h=>by unfold zln at f;cases f
 | .dic ks ds,_,f,h=>by unfold zln at f;cases f
 | .exc x,_,f,h=>by unfold zln at f;cases f
 | .ob k ds,_,f,h=>by unfold zln at f;cases f
theorem Reps.flat_to {K:saj}{H H':Hp}(e:∀ a vs,Rd H a (.tup vs)->Rd H' a (.tup vs)):∀ {ds:List D}{vs:List V},flats ds=true->Reps K H ds vs->Reps K H' ds vs
 | [],_,_,h=>by unfold Reps at h ⊢;exact h
 | d::ds,_,f,h=>by
  unfold flats at f;rw[saF] at f;obtain⟨v,r,e1,e2,e3⟩:=zap.mp h;exact zap.mpr ⟨v,r,e1,Rep.flat_to e f.1 e2,Reps.flat_to e f.2 e3⟩
end
def zpf (Ha J:Hp):Hp:=fun a=>match Ha a with
 | some o=>some o
 | none=>match J a with
  | some (.tup vs)=>some (.tup vs)
  | some (.frz o (.tup vs))=>some (.frz o (.tup vs))
  | _=>none
section
variable {K:saj}{E:XK}{He H0e Ha H H1 J:Hp}{σ:L2.St}{ρ:Ev}
theorem zB2 (h:zaM Ha J):∀ a o,zpf Ha J a=some o->J a=some o:=fun a o e=>by
 unfold zpf at e;cases q:Ha a with
 | some u=>rw[q] at e;cases e;exact h _ _ q
 | none =>
  rw[q] at e;cases q2:J a with
  | none=>rw[q2] at e;cases e
  | some u =>
   rw[q2] at e;cases u with
   | tup vs=>cases e;rfl
   | frz o u' =>
    cases u' with
    | tup vs=>cases e;rfl
    | _=>cases e
   | _=>cases e
theorem zr1 (h:zaM Ha J)(a:Addr)(vs:List V)(e:Rd J a (.tup vs)):Rd (zpf Ha J) a (.tup vs):=by
 rcases e with e | ⟨o,e⟩
 .refine .inl ?_
  unfold zpf;cases q:Ha a with
  | some u=>have:=h _ _ q;rw[e] at this;cases this;rfl
  | none=>rw[e]
 .refine .inr ⟨o,?_⟩
  unfold zpf;cases q:Ha a with
  | some u=>have:=h _ _ q;rw[e] at this;cases this;rfl
  | none=>rw[e]
theorem SRx.behind (h:SRx K He H0e Ha σ H ρ)(g:zcv H (frz He Ha H) H1 J):SRx K He H0e (zpf Ha J) σ H1 ρ:=by
 have hJ:zaM Ha J:=h.frz_sub.trans g.z;have le:=zB2 (Ha:=Ha) (J:=J) hJ;have z:zaM Ha (zpf Ha J):=fun b o e=>by unfold zpf;rw[e]
 refine⟨⟨h.g.s.trans g.s,h.g.z.trans z,fun b o e=>g.sub _ _ (le b o e),fun a h1 h2=>?_⟩,h.rd.mono z,fun i d e=>?_,h.ap,h.ln,h.ex.upd (fun j s e=>.inl ⟨e,rfl⟩) z (fun a vs _ e=>g.s _ _ e) fun p us hp h0 hl _=>⟨g.s _ _ hl,by
  have:frz He Ha H p=some (.lst us):=by unfold frz;rw[hp];exact hl
  have:=g.z _ _ this;unfold zpf;rw[h0,this]⟩⟩
 .cases q:zpf Ha J a with
  | none=>exact absurd q h1
  | some o =>
   have hj:=le a o q;exact(h.frz_grow.trans g).nw a (by rw[hj];simp) h2
 .obtain⟨a,k1,k2,k3,k4⟩:=h.ow i d e
  refine⟨a,k1,k2,?_,?_⟩
  .cases d with
   | lst ds =>
    obtain⟨vs,h5,_⟩:=k4;have:frz He Ha H a=some (.lst vs):=by unfold frz;rw[k2];exact h5
    have:=g.z _ _ this;unfold zpf;rw[k3,this]
   | _=>exact k4.elim
  .cases d with
   | lst ds=>obtain⟨vs,h5,h6⟩:=k4;exact⟨vs,g.s _ _ h5,h6.mono z⟩
   | _=>exact k4.elim
end
section
variable {X:Cx}{E:XK}{He H0e:Hp}{st:Stmt}{rest:List Stmt}{e a b:Expr}{es:List Expr}{f g:Ev->Res D}{fa:Ev->Res (List D)}{s t:Ev->Res Fl}{pos:Pos}
theorem zbT {t t':TS}(h:PS X st t)(w:∀ D σ H,t' D σ H->t D σ H):PS X st t':=fun pins s σ H D I q=>h pins s σ H D I (w D σ H q)
theorem zkC {t t':TS}(h:PSs X rest t)(w:∀ D σ H,t' D σ H->t D σ H):PSs X rest t':=fun pins s σ H D I q=>h pins s σ H D I (w D σ H q)
def zaj:Ev->Res Fl:=fun ρ=>.ok (.nx ρ)
def zam (s t:Ev->Res Fl):Ev->Res Fl:=fun ρ=>(s ρ).bind fun r=>match r with
 | .nx ρ'=>t ρ'
 | r=>.ok r
theorem zah:DSs X E He H0e [] zaj:=⟨zkC zve fun D σ H ⟨Ha,ρ,h,q⟩=>q σ H Ha (zaM.refl _) h⟩
theorem zab (h1:DS X E He H0e st s)(h2:DSs X E He H0e rest t):DSs X E He H0e (st::rest) (zam s t):=by
 refine⟨?_⟩;refine zkC (zn5 h1.o h2.o) fun D σ H ⟨Ha,ρ,h,q⟩=>⟨Ha,ρ,h,?_⟩
 unfold zam at q;cases e1:s ρ with
 | stuck=>rw[e1] at q;exact q
 | exn x=>rw[e1] at q;exact q
 | ok r =>
  rw[e1] at q;cases r with
  | nx ρ'=>exact fun σ' H' Ha' s' h'=>⟨Ha',ρ',h',zcm.grow (r:=t ρ') q s'⟩
  | rt d=>exact q
  | bk ρ'=>exact q
  | ct ρ'=>exact q
def zc3:Ev->Res Fl:=fun _=>.stuck
theorem zc9:DS X E He H0e st zc3:=⟨zbT zyF fun D σ H ⟨Ha,ρ,h,q⟩=>q⟩
theorem plain {K:saj}{Ha H:Hp}{σ:L2.St}{ρ:Ev}{k:D->Res Fl}{D':zmH}(h:SRx K He H0e Ha σ H ρ){r:Res D}{Q:VK}
  (q:zcm K E He H0e Ha (r.bind k) D')(hk:∀ d v H' Ha',r=.ok d->zcv H Ha H' Ha'->Rep K Ha' d v->zcm K E He H0e Ha' (k d) D'->Q v H'):post K E H Ha r Q:=by
 cases r with
 | stuck=>exact q
 | exn x=>exact fun C ox H' Ha' g ex=>q C ox H' Ha' (h.g.trans g) ex
 | ok d=>exact fun v H' Ha' g rp=>hk d v H' Ha' rfl g rp (zcm.grow (r:=k d) q g.z)
theorem look {K:saj}{Ha H:Hp}{σ:L2.St}{ρ:Ev}{k:D->Res Fl}{D':zmH}(h:SRx K He H0e Ha σ H ρ){r:Res D}{Q:VK}
  (q:zcm K E He H0e Ha (r.bind k) D')(hk:∀ d v H' J,r=.ok d->zcv H (frz He Ha H) H' J->Rep K J d v->zcm K E He H0e Ha (k d) D'->Q v H'):post K E H (frz He Ha H) r Q:=by
 cases r with
 | stuck=>exact q
 | exn x=>exact fun C ox H' Ha' g ex=>q C ox H' Ha' (h.frz_grow.trans g) ex
 | ok d=>exact fun v H' J g rp=>hk d v H' J rfl g rp q
theorem zDH {K:saj}{Ha H:Hp}{σ:L2.St}{ρ:Ev}{k:Bool->Res Fl}{D':zmH}(h:SRx K He H0e Ha σ H ρ){r:Res D}{Q:Bool->Hp->Prop}
  (q:zcm K E He H0e Ha (r.bind fun x=>match x with | .bl b=>k b | _=>.stuck) D')(hk:∀ b H',zaM H H'->zcm K E He H0e Ha (k b) D'->Q b H'):zqL K E H (frz He Ha H) r Q:=by
 cases r with
 | stuck=>exact q
 | exn x=>exact fun C ox H' Ha' g ex=>q C ox H' Ha' (h.frz_grow.trans g) ex
 | ok d =>
  cases d with
  | bl b=>exact fun H' J g=>hk b H' g.s q
  | _=>exact q.elim
def za4 (i:Nat)(f:Ev->Res D):Ev->Res Fl:=fun ρ=>(f ρ).bind fun d=>.ok (.nx (ρ.set i (.sh d)))
def zyu (i:Nat)(f:Ev->Res D):Ev->Res Fl:=fun ρ=>(f (shr ρ)).bind fun d=>if zln d=true then .ok (.nx (ρ.set i (.sh d))) else .stuck
def zbQ (f:Ev->Res D):Ev->Res Fl:=fun ρ=>(f (shr ρ)).bind fun d=>.ok (.rt d)
def zks (f:Ev->Res D):Ev->Res Fl:=fun ρ=>(f (shr ρ)).bind fun _=>.ok (.nx ρ)
def sIf (c:Ev->Res D)(s t:Ev->Res Fl):Ev->Res Fl:=fun ρ=>(c (shr ρ)).bind fun x=>match x with
 | .bl b=>if b=true then s ρ else t ρ
 | _=>.stuck
theorem zaA {i:Nat}{x:Str}{pos':Pos}(hN:X.N.Nodup)(hi:X.N[i]?=some x)(hx:Loc X.env.scope x)(he:DE X E e f)(hs:swapsWith e (some (.Name x pos')) pos.line X.env=pure false:=by rfl)
  (hf:X.fn x=true∨X.env.scope.names.lookup x=some .local := by first | exact .inl rfl | exact .inr rfl | assumption):DS X E He H0e (.Assign [.Name x pos'] e pos) (za4 i f):=by
 refine⟨?_⟩;refine zbT (zvf hN hi hx he.o hs hf) fun D σ H ⟨Ha,ρ,h,q⟩=>⟨Ha,ρ,h.g.sub,h.rd,?_⟩
 refine plain h q fun d v H' Ha' _ g rp q'=>?_;exact q' _ H' Ha' (zaM.refl _) ((h.grow g).put rp)
theorem zBK {i:Nat}{x:Str}{pos':Pos}(hN:X.N.Nodup)(hi:X.N[i]?=some x)(hx:Loc X.env.scope x)(he:DE X E e f)(hs:swapsWith e (some (.Name x pos')) pos.line X.env=pure false:=by rfl)
  (hf:X.fn x=true∨X.env.scope.names.lookup x=some .local := by first | exact .inl rfl | exact .inr rfl | assumption):DS X E He H0e (.Assign [.Name x pos'] e pos) (zyu i f):=by
 refine⟨?_⟩;refine zbT (zvf hN hi hx he.o hs hf) fun D σ H ⟨Ha,ρ,h,q⟩=>⟨frz He Ha H,shr ρ,h.frz_le,h.looks,?_⟩
 refine look h q fun d v H' J _ g rp q'=>?_
 by_cases fl:zln d=true
 .rw[if_pos fl] at q'
  have hJ:zaM Ha J:=h.frz_sub.trans g.z;refine q' _ H' (zpf Ha J) (fun b o e=>by unfold zpf;rw[e]) ((h.behind g).put (rp.flat_to (zr1 hJ) fl))
 .rw[if_neg fl] at q';exact q'.elim
theorem zaC (he:DE X E e f):DS X E He H0e (.Return (some e) pos) (zbQ f):=by
 refine⟨?_⟩;refine zbT (zC5 he.o) fun D σ H ⟨Ha,ρ,h,q⟩=>⟨frz He Ha H,shr ρ,h.frz_le,h.looks,?_⟩
 exact look h q fun d v H' J _ g rp q'=>q' v H' J (h.frz_grow.trans g) rp
def zFd:Ev->Res Fl:=fun _=>.ok (.rt .non)
theorem zgP (he:DE X E e f)(hs:swapsWith e none pos.line X.env=pure false:=by rfl):DS X E He H0e (.Expr e pos) (zks f):=by
 refine⟨?_⟩;refine zbT (zqJ he.o hs) fun D σ H ⟨Ha,ρ,h,q⟩=>⟨frz He Ha H,shr ρ,h.frz_le,h.looks,?_⟩
 exact look h q fun d v H' J _ g rp q'=>q' σ H' Ha (zaM.refl _) (h.same g.s)
theorem za1 {c:Expr}{fc:Ev->Res D}{sa sb:List Stmt}(hc:DT X E c fc)(ha:DSs X E He H0e sa s)(hb:DSs X E He H0e sb t):DS X E He H0e (.If c sa sb pos) (sIf fc s t):=by
 refine⟨?_⟩;refine zbT (zFm hc.o ha.o hb.o) fun D σ H ⟨Ha,ρ,h,q⟩=>⟨frz He Ha H,shr ρ,h.frz_le,h.looks,?_⟩
 refine zDH (k:=fun b=>if b=true then s ρ else t ρ) h q fun b H' hs q'=>?_;cases b with
 | true=>rw[if_pos rfl] at q' ⊢;exact⟨Ha,ρ,h.same hs,q'⟩
 | false=>rw[if_neg saD] at q' ⊢;exact⟨Ha,ρ,h.same hs,q'⟩
noncomputable def tF (K:saj) (E:XK) (f:Ev->Res D):TE:=fun σ H Q=>∃ Ha ρ,zaM Ha H/\zhb K Ha σ ρ/\match f ρ with
 | .ok (.lst ds)=>∀ p vs H' Ha',zcv H Ha H' Ha'->H p=none->Ha' p=none->H' p=some (.lst vs)->Reps K Ha' ds vs->Q (.ref p) H'
 | .ok _=>False
 | .exn x=>∀ C ox H' Ha',zcv H Ha H' Ha'->ExR K Ha' x C ox->E C ox H'
 | .stuck=>False
structure DF (X:Cx) (E:XK) (e:Expr) (f:Ev->Res D):Prop where
 o:PE X e (tF X.K E f)
def zqH (i:Nat)(f:Ev->Res D):Ev->Res Fl:=fun ρ=>(f ρ).bind fun d=>match d with
 | .lst ds=>.ok (.nx (ρ.set i (.ow (.lst ds))))
 | _=>.stuck
theorem zj3 {i:Nat}{x:Str}{pos':Pos}(hN:X.N.Nodup)(hi:X.N[i]?=some x)(hx:Loc X.env.scope x)(he:DF X E e f)(hs:swapsWith e (some (.Name x pos')) pos.line X.env=pure false:=by rfl)
  (hf:X.fn x=true∨X.env.scope.names.lookup x=some .local := by first | exact .inl rfl | exact .inr rfl | assumption):DS X E He H0e (.Assign [.Name x pos'] e pos) (zqH i f):=by
 refine⟨?_⟩;refine zbT (zvf hN hi hx he.o hs hf) fun D σ H ⟨Ha,ρ,h,q⟩=>⟨Ha,ρ,h.g.sub,h.rd,?_⟩
 unfold zqH at q;cases e1:f ρ with
 | stuck=>rw[e1] at q;exact q
 | exn x=>rw[e1] at q;exact fun C ox H' Ha' g ex=>q C ox H' Ha' (h.g.trans g) ex
 | ok d =>
  rw[e1] at q;cases d with
  | lst ds =>
   intro p vs H' Ha' g hp h0 hv rp;refine q _ H' Ha' g.z ((h.grow g).putOwn (fun j a ej ea d ed=>?_) (h.g.s.free hp) h0 hv rp (h.fresh_x g.s hp));subst ea;obtain⟨a',k1,_,_,k4⟩:=h.ow j d ed;rw[ej] at k1;cases k1;cases d with
   | lst ds'=>obtain⟨vs',h5,_⟩:=k4;rw[hp] at h5;cases h5
   | _=>exact k4.elim
  | _=>exact q.elim
theorem zgT (h:DA X E es fa):DF X E (.List es pos) (zak fa zcP):=by
 refine⟨?_⟩;refine zaX (zzL h.o) fun σ H Q h=>?_;obtain⟨Ha,ρ,hs,hr,q⟩:=h;refine⟨Ha,ρ,hs,hr,?_⟩;unfold zak at q;cases e1:fa ρ with
 | stuck=>rw[e1] at q;exact q
 | exn x=>rw[e1] at q;exact q
 | ok ds =>
  rw[e1] at q;intro vs H1 H01 g1 r1;replace q:match zcP ds with
   | .ok (.lst ds)=>∀ p vs H' Ha',zcv H Ha H' Ha'->H p=none->Ha' p=none->H' p=some (.lst vs)->Reps X.K Ha' ds vs->Q (.ref p) H'
   | .ok _=>False
   | .exn x=>∀ C ox H' Ha',zcv H Ha H' Ha'->ExR X.K Ha' x C ox->E C ox H'
   | .stuck=>False:=q
  unfold zcP at q
  by_cases hl:ds.length<=line
  .rw[if_pos hl] at q
   refine⟨by rw[← r1.length];exact zdF hl,fun p hp=>?_⟩;have h0:H01 p=none:=g1.sub.free hp;refine q p vs _ H01 (g1.trans ⟨fun b o q=>by rw[zav (zaJ q hp)];exact q,zaM.refl _,fun b o q=>?_,fun a h1 h2=>absurd h2 h1⟩) (g1.s.free hp) h0 zau r1;rw[zav (by intro z;subst z;rw[h0] at q;cases q)];exact g1.sub _ _ q
  .rw[if_neg hl] at q;exact q.elim
def ztL (ρ:Ev)(i:Nat)(k:List D->Res Fl):Res Fl:=match ρ[i]? with
 | some (.ow (.lst ds))=>k ds
 | _=>.stuck
def zc4 (i:Nat)(f:Ev->Res D):Ev->Res Fl:=fun ρ=>ztL ρ i fun ds=>(f ρ).bind fun d=>if ds.length < line then .ok (.nx (ρ.set i (.ow (.lst (ds++[d]))))) else .stuck
def zyw (i:Nat)(f:Ev->Res D):Ev->Res Fl:=fun ρ=>ztL ρ i fun ds=>(f (shr ρ)).bind fun d=>if zln d=true/\ds.length < line then .ok (.nx (ρ.set i (.ow (.lst (ds++[d]))))) else .stuck
theorem zn7 {K:saj}{Ha H:Hp}{σ:L2.St}{ρ:Ev}{i:Nat}{k:List D->Res Fl}{D':zmH}(h:SRx K He H0e Ha σ H ρ)(q:zcm K E He H0e Ha (ztL ρ i k) D') :
  ∃ ds p vs,ρ[i]?=some (.ow (.lst ds))/\σ[i]?=some (some (.ref p))/\He p=none/\Ha p=none/\H p=some (.lst vs)/\Reps K Ha ds vs/\zcm K E He H0e Ha (k ds) D':=by
 unfold ztL at q;cases e:ρ[i]? with
 | none=>rw[e] at q;exact q.elim
 | some s =>
  rw[e] at q;cases s with
  | no=>exact q.elim
  | sh d=>exact q.elim
  | ox j ds=>exact q.elim
  | ow d =>
   cases d with
   | lst ds =>
    obtain⟨p,h1,h2,h3,vs,h4,h5⟩:=h.ow i _ e;exact⟨ds,p,vs,rfl,h1,h2,h3,h4,h5,q⟩
   | _=>exact q.elim
theorem zda {i:Nat}{x:Str}{p1 p2 p3:Pos}(hN:X.N[i]?=some x)(hv:Vis X.env.scope x)(he:DE X E e f)
  (hd:(x==("__debug__" : Str))=false:=by decide)(hcd:(x==("__classdict__" : Str))=false:=by decide)
  (hbase:attributeBase (.Name x p1) "append" X.env (eval (.Name x p1) X.env)=eval (.Name x p1) X.env:=by rfl)
  (hfew:((backTo p3 (starEach [e] X.env)).all (fun x=>!x.1)&&(backToKw p3 (keywordEach [] X.env)).all (fun x=>x.1.isSome)
  &&decide ([e].length+([]:List Keyword).length+(if([]:List Keyword).isEmpty then 0 else 1) < 30))=true:=by exact zsP rfl)
  (hline:(p2.endLine==p3.line)=true:=by rfl) (hs:starEach [e] X.env=(false,eval e X.env)::starEach [] X.env:=by exact zaN rfl) (hplain:(backTo p3 (starEach [] X.env)).any (·.1)=false:=by exact zbR rfl)
  (hw:swapsWith (.Call (.Attribute (.Name x p1) "append" p2) [e] [] p3) none pos.line X.env=pure false:=by rfl) :
  DS X E He H0e (.Expr (.Call (.Attribute (.Name x p1) "append" p2) [e] [] p3) pos) (zc4 i f):=by
 refine⟨?_⟩;refine zbT (zqJ (zDh PySem.F.plainAttrs_list PySem.F.slot_list_append PySem.F.type_list_append zpP (zk0 hN hv hd hcd) (zdE he.o ziw hs) hbase hfew hline hs hplain) hw) fun D σ H ⟨Ha,ρ,h,q⟩=>?_;obtain⟨ds,p,vs,e1,e2,e3,e4,e5,e6,q⟩:=zn7 h q;refine⟨.ref p,e2,.inl ⟨rfl,vs,SqL.of e5⟩,?_⟩;refine⟨Ha,ρ,h.g.sub,h.rd,plain h q fun d v H' Ha' _ g rp q'=>?_⟩
 by_cases hl:ds.length < line
 .rw[if_pos hl] at q'
  have e5':H' p=some (.lst vs):=g.s _ _ e5;refine⟨p,vs,v,rfl,rfl,e5',by rw[← e6.length];exact saf hl (by decide),?_⟩;exact q' σ _ Ha' (zaM.refl _) ((h.grow g).write e1 e2 ((e6.mono g.z).app (Reps.cons rp Reps.nil)))
 .rw[if_neg hl] at q';exact q'.elim
def putAt (ρ:Ev)(i:Nat)(ds:List D)(d:D)(j:D):Res Fl:=match j with
 | .int j=>match ixN ds.length j with
  | some n=>.ok (.nx (ρ.set i (.ow (.lst (ds.set n d)))))
  | none=>.stuck
 | _=>.stuck
def zu4 (i:Nat)(f k:Ev->Res D):Ev->Res Fl:=fun ρ=>ztL ρ i fun ds=>(f ρ).bind fun d=>(k ρ).bind fun j=>putAt ρ i ds d j
def zyv (i:Nat)(f k:Ev->Res D):Ev->Res Fl:=fun ρ=>ztL ρ i fun ds=>(f (shr ρ)).bind fun d=>(k (shr ρ)).bind fun j=>if zln d=true then putAt ρ i ds d j else .stuck
theorem zsw {K:saj}{Ha H:Hp}{σ:L2.St}{ρ:Ev}{i:Nat}{D':zmH}{ds:List D}{d j:D}{p:Addr}{vs:List V}{v u:V}(h:SRx K He H0e Ha σ H ρ)(e1:ρ[i]?=some (.ow (.lst ds)))(e2:σ[i]?=some (some (.ref p)))(e5:H p=some (.lst vs))(e6:Reps K Ha ds vs)
  (rp:Rep K Ha d v)(rj:Rep K Ha j u)(q:zcm K E He H0e Ha (putAt ρ i ds d j) D'):zCY (.ref p) u v H fun H'=>D'.nx σ H':=by
 unfold putAt at q;cases j with
 | int n =>
  cases en:ixN ds.length n with
  | none=>simp only[en] at q;exact q.elim
  | some m =>
   simp only[en] at q;refine⟨p,vs,n,m,rfl,zan.mp rj,e5,by rw[← e6.length];exact en,?_⟩;exact q σ _ Ha (zaM.refl _) (h.write e1 e2 (e6.set rp m))
 | _=>exact q.elim
section
variable {i:Nat}{x:Str}{p1 p2:Pos}{k:Ev->Res D}
theorem ziK (hN:X.N[i]?=some x)(hv:Vis X.env.scope x)(he:DE X E e f)(hk:DE X E b k)
  (hd:(x==("__debug__" : Str))=false:=by decide)(hcd:(x==("__classdict__" : Str))=false:=by decide)
  (ha:∀ v,assign (.Subscript (.Name x p1) b p2) X.env v=(do
   let ov ← holding [v] (eval (.Name x p1) X.env)
   let iv ← holding [v,ov] (eval b X.env)
   standAt p2
   holding [v,ov,iv] (setItem ov iv v)
   release [v,ov,iv] []):=by intro _;rfl)
  (hs:swapsWithSole [.Subscript (.Name x p1) b p2] e pos.line X.env=pure false:=by rfl) (hw:swappedStores [.Subscript (.Name x p1) b p2] e X.env=pure none:=by rfl)
  (h1:(assignEach [.Subscript (.Name x p1) b p2] X.env).map (·.2)=[assign (.Subscript (.Name x p1) b p2) X.env]:=by rfl) :
  DS X E He H0e (.Assign [.Subscript (.Name x p1) b p2] e pos) (zu4 i f k):=by
 refine⟨?_⟩;refine zbT (zsx he.o (zzK (zk0 hN hv hd hcd) hk.o zso ha) hs hw h1) fun D σ H ⟨Ha,ρ,h,q⟩=>⟨Ha,ρ,h.g.sub,h.rd,?_⟩
 obtain⟨ds,p,vs,e1,e2,e3,e4,e5,e6,q⟩:=zn7 h q;refine plain (k:=fun d=>(k ρ).bind fun j=>putAt ρ i ds d j) h q fun d v H1 H01 _ g1 r1 q1=>⟨.ref p,e2,?_⟩
 have h1':=h.grow g1;refine⟨H01,ρ,h1'.g.sub,h1'.rd,plain (k:=fun j=>putAt ρ i ds d j) h1' q1 fun j u H2 H02 _ g2 r2 q2=>?_⟩;exact zsw (h1'.grow g2) e1 e2 (g2.s _ _ (g1.s _ _ e5)) ((e6.mono g1.z).mono g2.z) (r1.mono g2.z) r2 q2
theorem zxk (hN:X.N[i]?=some x)(hv:Vis X.env.scope x)(he:DE X E e f)(hk:DE X E b k)
  (hd:(x==("__debug__" : Str))=false:=by decide)(hcd:(x==("__classdict__" : Str))=false:=by decide)
  (ha:∀ v,assign (.Subscript (.Name x p1) b p2) X.env v=(do
   let ov ← holding [v] (eval (.Name x p1) X.env)
   let iv ← holding [v,ov] (eval b X.env)
   standAt p2
   holding [v,ov,iv] (setItem ov iv v)
   release [v,ov,iv] []):=by intro _;rfl)
  (hs:swapsWithSole [.Subscript (.Name x p1) b p2] e pos.line X.env=pure false:=by rfl) (hw:swappedStores [.Subscript (.Name x p1) b p2] e X.env=pure none:=by rfl)
  (h1:(assignEach [.Subscript (.Name x p1) b p2] X.env).map (·.2)=[assign (.Subscript (.Name x p1) b p2) X.env]:=by rfl) :
  DS X E He H0e (.Assign [.Subscript (.Name x p1) b p2] e pos) (zyv i f k):=by
 refine⟨?_⟩;refine zbT (zsx he.o (zzK (zk0 hN hv hd hcd) hk.o zso ha) hs hw h1) fun D σ H ⟨Ha,ρ,h,q⟩=>⟨frz He Ha H,shr ρ,h.frz_le,h.looks,?_⟩
 obtain⟨ds,p,vs,e1,e2,e3,e4,e5,e6,q⟩:=zn7 h q;refine look (k:=fun d=>(k (shr ρ)).bind fun j=>if zln d=true then putAt ρ i ds d j else .stuck) h q fun d v H1 J1 _ g1 r1 q1=>⟨.ref p,e2,?_⟩
 have hJ1:zaM Ha J1:=h.frz_sub.trans g1.z;refine⟨J1,shr ρ,g1.sub,h.looks.mono g1.z,?_⟩;cases ek:k (shr ρ) with
 | stuck=>rw[ek] at q1;exact q1
 | exn x=>rw[ek] at q1;exact fun C ox H' Ha' g ex=>q1 C ox H' Ha' (h.frz_grow.trans (g1.trans g)) ex
 | ok j =>
  rw[ek] at q1;intro u H2 J2 g2 r2;replace q1:zcm X.K E He H0e Ha (if zln d=true then putAt ρ i ds d j else .stuck) D:=q1
  by_cases fl:zln d=true
  .rw[if_pos fl] at q1
   have g:=g1.trans g2;have hJ:zaM Ha J2:=h.frz_sub.trans g.z;have z:zaM Ha (zpf Ha J2):=fun b o e=>by unfold zpf;rw[e]
   have rd:=(r1.mono g2.z).flat_to (zr1 hJ) fl;have rj:Rep X.K (zpf Ha J2) j u:=by
    cases j with
    | int n=>exact zan.mpr (zan.mp r2)
    | _=>exact q1.elim
   exact zsw (h.behind g) e1 e2 (g.s _ _ e5) (e6.mono z) rd rj (q1.grow z)
  .rw[if_neg fl] at q1;exact q1.elim
end
noncomputable def zdH (tg:Ev->D->Res Ev) (body:Ev->Res Fl):List D->Ev->Res Fl
 | [],ρ=>.ok (.nx ρ)
 | d::r,ρ=>(tg ρ d).bind fun ρ1=>(body ρ1).bind fun x=>match x with
  | .nx ρ2=>zdH tg body r ρ2
  | .ct ρ2=>zdH tg body r ρ2
  | .bk ρ2=>.ok (.nx ρ2)
  | .rt d=>.ok (.rt d)
def tG (K:saj)(He H0e:Hp)(tg:Ev->D->Res Ev):TG:=fun v σ H Q=>∃ Ha ρ d,SRx K He H0e Ha σ H ρ/\Rep K Ha d v/\match tg ρ d with
  | .ok ρ'=>∀ σ' H' Ha',zaM Ha Ha'->SRx K He H0e Ha' σ' H' ρ'->Q σ' H'
  | _=>False
structure DG (X:Cx) (E:XK) (He H0e:Hp) (target:Expr) (tg:Ev->D->Res Ev):Prop where
 o:PG X target (tG X.K He H0e tg)
def zea (i:Nat):Ev->D->Res Ev:=fun ρ d=>.ok (ρ.set i (.sh d))
theorem zqN {tgt:Expr}{t t':TG}(h:PG X tgt t)(w:∀ v σ H Q,t' v σ H Q->t v σ H Q):PG X tgt t':=fun pins s σ H v u Q I r q=>h pins s σ H v u Q I r (w v σ H Q q)
theorem zcE {i:Nat}{x:Str}(hN:X.N.Nodup)(hi:X.N[i]?=some x)(hx:Loc X.env.scope x)(hf:X.fn x=true∨X.env.scope.names.lookup x=some .local := by first | exact .inl rfl | exact .inr rfl | assumption):DG X E He H0e (.Name x pos) (zea i) :=
 ⟨zqN (zvm hN hi hx hf) fun v σ H Q ⟨Ha,ρ,d,h,rp,q⟩=>q _ H Ha (zaM.refl _) (h.put rp)⟩
def zi6 (K:saj)(E:XK)(He H0e Hb:Hp)(tg:Ev->D->Res Ev)(s:Ev->Res Fl)(ds:List D)(D':zmH)(i:Nat)(σ:L2.St)(H:Hp):Prop :=
 ∃ Ha ρ,zaM Hb Ha/\SRx K He H0e Ha σ H ρ/\zcm K E He H0e Ha (zdH tg s (ds.drop i) ρ) D'
theorem zi6.step {K:saj}{Hb:Hp}{tg:Ev->D->Res Ev}{ds:List D}{D':zmH}{i:Nat}{σ:L2.St}{H:Hp}{d:D}{v:V}(h:zi6 K E He H0e Hb tg s ds D' i σ H)(hd:ds[i]?=some d)(rv:Rep K Hb d v)
  (he:∀ ρ,tg ρ d=.stuck∨∃ ρ',tg ρ d=.ok ρ') :
  tG K He H0e tg v σ H fun σ2 H2=>tS K E He H0e s { D' with nx:=zi6 K E He H0e Hb tg s ds D' (i+1),ct:=zi6 K E He H0e Hb tg s ds D' (i+1),bk:=D'.nx } σ2 H2:=by
 obtain⟨Ha,ρ,z,h,q⟩:=h;have hi:i < ds.length:=(sad.mp hd).1;have hdr:ds.drop i=d::ds.drop (i+1):=by
  rw[sbc hi];rw[saa hi] at hd;cases hd;rfl
 rw[hdr] at q;refine⟨Ha,ρ,d,h,rv.mono z,?_⟩;unfold zdH at q;rcases he ρ with e1 | ⟨ρ1,e1⟩
 .rw[e1] at q;exact q.elim
 .rw[e1] at q ⊢
  intro σ' H' Ha' z' h';refine⟨Ha',ρ1,h',?_⟩;replace q:=zcm.grow (r:=(s ρ1).bind fun x=>match x with
   | .nx ρ2=>zdH tg s (ds.drop (i+1)) ρ2
   | .ct ρ2=>zdH tg s (ds.drop (i+1)) ρ2
   | .bk ρ2=>.ok (.nx ρ2)
   | .rt d=>.ok (.rt d)) q z'
  cases e2:s ρ1 with
  | stuck=>rw[e2] at q;exact q
  | exn x=>rw[e2] at q;exact q
  | ok r =>
   rw[e2] at q;cases r with
   | nx ρ2=>exact fun σ3 H3 H03 z3 h3=>⟨H03,ρ2,(z.trans z').trans z3,h3,zcm.grow (r:=zdH tg s (ds.drop (i+1)) ρ2) q z3⟩
   | ct ρ2=>exact fun σ3 H3 H03 z3 h3=>⟨H03,ρ2,(z.trans z').trans z3,h3,zcm.grow (r:=zdH tg s (ds.drop (i+1)) ρ2) q z3⟩
   | bk ρ2=>exact q
   | rt d=>exact q
theorem zi6.done {K:saj}{Hb:Hp}{tg:Ev->D->Res Ev}{ds:List D}{D':zmH}{σ:L2.St}{H:Hp}(h:zi6 K E He H0e Hb tg s ds D' ds.length σ H):D'.nx σ H:=by
 obtain⟨Ha,ρ,z,h,q⟩:=h;rw[List.drop_length] at q;unfold zdH at q;exact q σ H Ha (zaM.refl _) h
def zxT (tg:Ev->D->Res Ev):Prop:=∀ ρ d,tg ρ d=.stuck∨∃ ρ',tg ρ d=.ok ρ'
theorem zdv {i:Nat}:zxT (zea i):=fun ρ d=>.inr ⟨_,rfl⟩
def zsq (f:Ev->Res D)(tg:Ev->D->Res Ev)(s:Ev->Res Fl):Ev->Res Fl:=fun ρ=>(f ρ).bind fun d=>match d with
 | .lst ds=>zdH tg s ds ρ
 | _=>.stuck
theorem zne {tgt iter:Expr}{body:List Stmt}{tg:Ev->D->Res Ev}(hp:PassesOwn (model X.prog X.w) X.A X.env X.xe)(hc:X.calm=true)(hi:DE X E iter f)(hg:DG X E He H0e tgt tg)(ht:zxT tg)(hb:DSs X E He H0e body s)
  (hs:∀ x,foldedSetIterable iter X.env x=pure x:=by intro _;rfl):DS X E He H0e (.For tgt iter body [] pos) (zsq f tg s):=by
 refine⟨?_⟩;refine zbT (zvg hp hc (zvk hi.o) hg.o hb.o hs) fun D' σ H ⟨Ha,ρ,h,q⟩=>⟨Ha,ρ,h.g.sub,h.rd,?_⟩
 refine plain h q fun d v H1 H01 _ g rp q1=>?_;cases d with
 | lst ds =>
  obtain⟨a,vs,rfl,hv,hr⟩:=zao.mp rp;refine⟨a,rfl,⟨vs,zaM.sqL g.sub hv⟩,?_⟩;refine zy7 (K:=X.K) (a:=a) (g:=tG X.K He H0e tg) (tb:=tS X.K E He H0e s) (D:=D') (xs:=vs) (zi6 X.K E He H0e H01 tg s ds D') ⟨H01,ρ,zaM.refl _,h.grow g,q1⟩ ?_ ?_ ?_
  .rintro i σ' H' _ ⟨Ha',ρ',z,h',_⟩
   exact zaM.sqL (z.trans h'.g.sub) hv
  .intro i x σ' H' hx hI
   have hil:i < ds.length:=by rw[hr.length];exact(sad.mp hx).1
   obtain⟨u,e1,e2⟩:=hr.get (saa hil);rw[hx] at e1;cases e1;exact hI.step (saa hil) e2 fun ρ=>ht ρ _
  .intro σ' H' hI
   rw[← hr.length] at hI;exact hI.done
 | _=>exact q1.elim
def intsFrom (lo:Int)(n:Nat):List D:=(saS n).map fun(k:Nat)=>D.int (lo+(k:Int))
noncomputable def zu5 (f:Ev->Res D) (tg:Ev->D->Res Ev) (s:Ev->Res Fl):Ev->Res Fl:=fun ρ=>(f (shr ρ)).bind fun d=>match d with
 | .int j=>if -4611686018427387904<=j/\j < 4611686018427387904 then zdH tg s (intsFrom 0 j.toNat) ρ else .stuck
 | _=>.stuck
theorem zrV {tgt iter:Expr}{p pos2:Pos}{body:List Stmt}{tg:Ev->D->Res Ev}(hp:PassesOwn (model X.prog X.w) X.A X.env X.xe)(hc:X.calm=true)(hgl:Gl X "range")(hm:X.mg "range"=none)(hi:DE X E iter f)(hg:DG X E He H0e tgt tg)(ht:zxT tg)(hb:DSs X E He H0e body s)
  (hst:starEach [iter] X.env=[(false,eval iter X.env)]:=by exact zc0 rfl)(hs:∀ x,foldedSetIterable (.Call (.Name "range" p) [iter] [] pos2) X.env x=pure x:=by intro _;rfl):DS X E He H0e (.For tgt (.Call (.Name "range" p) [iter] [] pos2) body [] pos) (zu5 f tg s):=by
 refine⟨?_⟩;refine zbT (zvg hp hc (zpG hgl hm (zdE hi.o ziw hst) hst) hg.o hb.o hs) fun D' σ H ⟨Ha,ρ,h,q⟩=>?_;refine⟨frz He Ha H,shr ρ,h.frz_le,h.looks,look h q fun d v H1 J _ g rp q1=>?_⟩;cases d with
 | int j =>
  rw[zan.mp rp];replace q1:zcm X.K E He H0e Ha (if -4611686018427387904<=j/\j < 4611686018427387904 then zdH tg s (intsFrom 0 j.toNat) ρ else .stuck) D':=q1
  by_cases hj:-4611686018427387904<=j/\j < 4611686018427387904
  .rw[if_pos hj] at q1
   refine⟨j,rfl,by omega,by omega,?_⟩;have hlen:(intsFrom 0 j.toNat).length=j.toNat:=by unfold intsFrom;simp
   refine zwa (lo:=0) (n:=j.toNat) (g:=tG X.K He H0e tg) (tb:=tS X.K E He H0e s) (D:=D') (zi6 X.K E He H0e Ha tg s (intsFrom 0 j.toNat) D') ⟨Ha,ρ,zaM.refl _,h.same g.s,q1⟩ ?_ ?_
   .intro i σ' H' hlt hI
    refine hI.step (d:=.int (0+i)) ?_ (zan.mpr rfl) fun ρ=>ht ρ _;unfold intsFrom;simp [hlt]
   .intro σ' H' hI
    exact zi6.done (ds:=intsFrom 0 j.toNat) (by rw[hlen];exact hI)
  .rw[if_neg hj] at q1;exact q1.elim
 | _=>exact q1.elim
noncomputable def zbO (c:Ev->Res D) (s:Ev->Res Fl):Nat->Ev->Res Fl
 | 0,_=>.stuck
 | n+1,ρ=>(c (shr ρ)).bind fun x=>match x with
  | .bl b=>if b=true then(s ρ).bind fun x=>match x with
    | .nx ρ2=>zbO c s n ρ2
    | .ct ρ2=>zbO c s n ρ2
    | .bk ρ2=>.ok (.nx ρ2)
    | .rt d=>.ok (.rt d)
   else .ok (.nx ρ)
  | _=>.stuck
def zge (fuel:Ev->Nat)(c:Ev->Res D)(s:Ev->Res Fl):Ev->Res Fl:=fun ρ=>zbO c s (fuel ρ) ρ
theorem zkI (fuel:Ev->Nat){c:Expr}{body:List Stmt}{fc:Ev->Res D}(hp:PassesOwn (model X.prog X.w) X.A X.env X.xe)(hc:DT X E c fc)(hb:DSs X E He H0e body s):DS X E He H0e (.While c body [] pos) (zge fuel fc s):=by
 refine⟨?_⟩;refine zbT (zyE hp hc.o hb.o) fun D' σ H ⟨Ha,ρ,h,q⟩=>?_;refine⟨fun m σ H=>∃ Ha ρ,SRx X.K He H0e Ha σ H ρ/\zcm X.K E He H0e Ha (zbO fc s m ρ) D',⟨fuel ρ,Ha,ρ,h,q⟩,?_⟩;rintro m σ1 H1 ⟨H01,ρ1,h1,q1⟩;cases m with
 | zero=>exact q1.elim
 | succ m =>
  refine⟨frz He H01 H1,shr ρ1,h1.frz_le,h1.looks,?_⟩;unfold zbO at q1;refine zDH (k:=fun b=>if b=true then(s ρ1).bind fun x=>match x with
    | .nx ρ2=>zbO fc s m ρ2
    | .ct ρ2=>zbO fc s m ρ2
    | .bk ρ2=>.ok (.nx ρ2)
    | .rt d=>.ok (.rt d)
   else .ok (.nx ρ1)) h1 q1 fun b H2 hs q2=>?_
  cases b with
  | false =>
   rw[if_neg saD] at q2 ⊢;exact q2 σ1 H2 H01 (zaM.refl _) (h1.same hs)
  | true =>
   rw[if_pos rfl] at q2 ⊢;refine⟨fun σ' H'=>∃ m',m' < m+1/\∃ Ha ρ,SRx X.K He H0e Ha σ' H' ρ/\zcm X.K E He H0e Ha (zbO fc s m' ρ) D',fun σ' H' z=>z,H01,ρ1,h1.same hs,?_⟩;cases e2:s ρ1 with
   | stuck=>rw[e2] at q2;exact q2
   | exn x=>rw[e2] at q2;exact q2
   | ok r =>
    rw[e2] at q2;cases r with
    | nx ρ2=>exact fun σ3 H3 H03 z3 h3=>⟨m,scb _,H03,ρ2,h3,zcm.grow (r:=zbO fc s m ρ2) q2 z3⟩
    | ct ρ2=>exact fun σ3 H3 H03 z3 h3=>⟨m,scb _,H03,ρ2,h3,zcm.grow (r:=zbO fc s m ρ2) q2 z3⟩
    | bk ρ2=>exact q2
    | rt d=>exact q2
end
def zcD (n:Nat)(s:Ev->Res Fl)(ds:List D):Res D:=(s (ds.map Sl.sh++sat (n-ds.length) .no)).bind fun r=>match r with
 | .nx _=>.ok .non
 | .rt d=>.ok d
 | _=>.stuck
theorem zkP {K:saj}{Ha:Hp}{N:List Str}{ds:List D}{vs:List V}(h:Reps K Ha ds vs):zhb K Ha (start N vs) (ds.map Sl.sh++sat (N.length-ds.length) .no):=by
 intro i d e;have hl:=h.length
 by_cases hi:i < ds.length
 .rw[saC (by simpa using hi),sai] at e
  cases q:ds[i]? with
  | none=>rw[q] at e;cases e
  | some d' =>
   rw[q] at e;cases e;obtain⟨v,h1,h2⟩:=h.get q;refine⟨v,?_,h2⟩;unfold L2.start;rw[saC (by simp;omega),sai,h1];rfl
 .rw[saI (by simpa using hi),saP] at e
  split at e<;>cases e
theorem zpw {ds:List D}{n:Nat}(i j:Nat)(es:List D):(ds.map Sl.sh++sat n Sl.no)[i]?≠some (.ox j es):=fun e=>by
 have:=say e;rw[saQ] at this;rcases this with h | h
 .obtain⟨_,_,h⟩:=saG.mp h;cases h
 .have:=List.eq_of_mem_replicate h;cases this
theorem zas {P:Program}{w:World}{K:saj}{mg:Str->Option Value}{base:Heap}{x qual:Str}{st:Stmt}{f:Addr}{fd:FuncData}{N ps:List Str}{k:Nat}{s:Ev->Res Fl}(F:Fun K x qual st f fd)(S:zay N ps (defScope st))
  (hbody:∀ (cdv:Value) (A:Around) (outer:List sbo) (s0:Shared) (H Ha:Hp) (E:XK),zhR k (A.deeper (envOfC qual (defScope st) s0.heap.objs.size f cdv)) ->
   DSs (zma CX0 P w K mg base N qual (defScope st) f cdv A outer s0 H E).nox E H Ha (defBody st) s):zcB P w K mg base CX0 (k+1) f fd ps (spD K ps.length (zcD N.length s)):=by
 have hpl:ps.length<=N.length:=by have:=congrArg List.length S.pre;rw[sa4] at this;omega
 refine F.ok S (fun vs H Q E h=>h.1) fun cdv A outer s0 H vs Q E hr h=>?_;obtain⟨hn,Ha,ds,hs,hv,q⟩:=h;refine⟨_,(hbody cdv A outer s0 H Ha E hr).o,Ha,ds.map Sl.sh++sat (N.length-ds.length) .no,?_,?_⟩
 .refine⟨zcv.refl hs,zkP hv,fun i d e=>?_,fun i j d d' hij e=>?_,?_,OX.none zpw⟩
  .by_cases hi:i < ds.length
   .rw[saC (by simpa using hi),sai] at e
    cases q:ds[i]? with
    | none=>rw[q] at e;cases e
    | some d'=>rw[q] at e;cases e
   .rw[saI (by simpa using hi),saP] at e
    split at e<;>cases e
  .by_cases hi:i < ds.length
   .rw[saC (by simpa using hi),sai] at e
    cases q:ds[i]? with
    | none=>rw[q] at e;cases e
    | some d'=>rw[q] at e;cases e
   .rw[saI (by simpa using hi),saP] at e
    split at e<;>cases e
  .unfold L2.start
   have:=hv.length;simp only[sba,sab,sbw];omega
 .unfold zcD at q
  cases e1:s (ds.map Sl.sh++sat (N.length-ds.length) .no) with
  | stuck=>rw[e1] at q;exact q
  | exn x=>rw[e1] at q;exact q
  | ok r =>
   rw[e1] at q;cases r with
   | nx ρ'=>exact fun σ' H' Ha' _ h'=>q .non H' Ha' h'.g (zaF.mpr rfl)
   | rt d=>exact fun v H' Ha' g rp=>q v H' Ha' g rp
   | bk ρ'=>exact q.elim
   | ct ρ'=>exact q.elim
mutual
def eqD:D->D->Bool
 | .non,.non=>true
 | .bl a,.bl b=>a==b
 | .bl a,.int b=>(if a then 1 else 0)==b
 | .int a,.bl b=>a==(if b then 1 else 0)
 | .int a,.int b=>a==b
 | .str a,.str b=>a==b
 | .tup xs,.tup ys=>eqDs xs ys
 | .lst xs,.lst ys=>eqDs xs ys
 | _,_=>false
def eqDs:List D->List D->Bool
 | [],[]=>true
 | x::xs,y::ys=>eqD x y&&eqDs xs ys
 | _,_=>false
end
def zbb:Nat->D->Bool
 | _,.non=>true
 | _,.bl _=>true
 | _,.int _=>true
 | _,.str _=>true
 | n+1,.tup ds=>ds.all (zbb n)
 | n+1,.lst ds=>ds.all (zbb n)
 | _,_=>false
theorem zp4 {ds:List D}(h:∀ d∈ds,eqD d d=true):eqDs ds ds=true:=by
 induction ds with
 | nil=>simp [eqDs]
 | cons d r ih =>
  unfold eqDs;rw[h d saq,ih fun x hx=>h x (sak _ hx)];rfl
theorem zdS:∀ (n:Nat) (d:D),zbb n d=true->eqD d d=true
 | _,.non,_=>by simp [eqD]
 | _,.bl b,_=>by simp [eqD]
 | _,.int b,_=>by simp [eqD]
 | _,.str b,_=>by simp [eqD]
 | n+1,.tup ds,h=>by
  unfold zbb at h;unfold eqD;exact zp4 fun d hd=>zdS n d (saE.mp h d hd)
 | n+1,.lst ds,h=>by
  unfold zbb at h;unfold eqD;exact zp4 fun d hd=>zdS n d (saE.mp h d hd)
 | 0,.tup ds,h=>by unfold zbb at h;cases h
 | 0,.lst ds,h=>by unfold zbb at h;cases h
 | 0,.dic ks ds,h=>by unfold zbb at h;cases h
 | n+1,.dic ks ds,h=>by unfold zbb at h;cases h
 | 0,.exc x,h=>by unfold zbb at h;cases h
 | 0,.ob k x,h=>by unfold zbb at h;cases h
 | n+1,.ob k x,h=>by unfold zbb at h;cases h
 | n+1,.exc x,h=>by unfold zbb at h;cases h
theorem zBD {xs ys:List D}:eqD (.tup xs) (.tup ys)=eqDs xs ys:=by rw[eqD]
theorem zjz {xs ys:List D}:eqD (.lst xs) (.lst ys)=eqDs xs ys:=by rw[eqD]
theorem zjy:∀ (xs ys:List D),xs.length=ys.length->eqDs xs ys=(saS xs.length).all fun j=>eqD (xs.getD j .non) (ys.getD j .non)
 | [],[],_=>by simp [eqDs]
 | x::xs,y::ys,h=>by
  have ih:=zjy xs ys (by simpa using h);unfold eqDs;rw[ih,sar,sc5,sb7,sc8];rfl
 | [],_::_,h=>by simp at h
 | _::_,[],h=>by simp at h
theorem zkH:∀ (xs ys:List D),xs.length≠ys.length->eqDs xs ys=false
 | [],[],h=>absurd rfl h
 | x::xs,y::ys,h=>by
  unfold eqDs;rw[zkH xs ys (by simpa using h),sb0]
 | [],_::_,h=>by simp [eqDs]
 | _::_,[],h=>by simp [eqDs]
section
variable {X:Cx}{pins:List (Addr×Obj)}{σ:L2.St}{H:Hp}{s:Shared}
theorem zaV (I:Inv X pins σ H s){ds:List D}{v:V}{u:Value}(r:Rep X.K H (.tup ds) v)(rv:zcj v u):∃ a vs its,v=.ref a/\u=.ref a/\SqT X.K H a vs/\Reps X.K H ds vs/\zbM vs its/\IsTup s.heap a its.toArray/\ds.length=its.length:=by
 obtain⟨a,vs,rfl,h1,h2⟩:=zaz.mp r;obtain rfl:u=saR a:=rv;obtain⟨its,h3,h4,_⟩:=I.tuple h1;exact⟨a,vs,its,rfl,rfl,h1,h2,h3,h4,h2.length.trans h3.length⟩
theorem zaL (I:Inv X pins σ H s){ds:List D}{v:V}{u:Value}(r:Rep X.K H (.lst ds) v)(rv:zcj v u):∃ a vs its,v=.ref a/\u=.ref a/\SqL X.K H a vs/\Reps X.K H ds vs/\zbM vs its/\s.heap.IsList a its.toArray/\ds.length=its.length:=by
 obtain⟨a,vs,rfl,h1,h2⟩:=zao.mp r;obtain rfl:u=saR a:=rv;obtain⟨its,h3,h4,_⟩:=I.list h1;exact⟨a,vs,its,rfl,rfl,h1,h2,h3,h4.isList,h2.length.trans h3.length⟩
theorem zn1 {n:Nat}(ih:∀ (d d':D) (v:V),zbb n d=true->zbb n d'=true->Rep X.K H d v->Rep X.K H d' v->d=d'):∀ (ds ds':List D) (vs:List V),ds.all (zbb n)=true->ds'.all (zbb n)=true->Reps X.K H ds vs->Reps X.K H ds' vs->ds=ds'
 | [],ds',vs,_,_,h,h'=>by
  rw[Reps.nil_iff.mp h] at h';cases ds' with
  | nil=>rfl
  | cons d r=>obtain⟨_,_,e,_⟩:=zap.mp h';cases e
 | d::ds,ds',vs,a,a',h,h'=>by
  obtain⟨v,r,rfl,h1,h2⟩:=zap.mp h;cases ds' with
  | nil=>cases Reps.nil_iff.mp h'
  | cons d' ds' =>
   obtain⟨v',r',e,h1',h2'⟩:=zap.mp h';cases e;rw[sb7,saF] at a a';rw[ih d d' v a.1 a'.1 h1 h1',zn1 ih ds ds' r a.2 a'.2 h2 h2']
theorem Rep.inj (I:Inv X pins σ H s):∀ (n:Nat) (d d':D) (v:V),zbb n d=true->zbb n d'=true->Rep X.K H d v->Rep X.K H d' v->d=d':=by
 have atom:∀ (n:Nat) (d d':D) (v:V),(∀ ds,d≠.tup ds)->(∀ ds,d≠.lst ds)->zbb n d=true->zbb n d'=true->Rep X.K H d v->Rep X.K H d' v->d=d':=by
  intro n d d' v n1 n2 s1 s2 h h';have nd:∀ m ks ds,zbb m (.dic ks ds)=true->False:=fun m ks ds h=>by cases m<;>(unfold zbb at h;cases h)
  have nx:∀ m x,zbb m (.exc x)=true->False:=fun m x h=>by cases m<;>(unfold zbb at h;cases h)
  have nb:∀ m k x,zbb m (.ob k x)=true->False:=fun m k x h=>by cases m<;>(unfold zbb at h;cases h)
  cases d with
  | tup ds=>exact absurd rfl (n1 ds)
  | lst ds=>exact absurd rfl (n2 ds)
  | dic ks ds=>exact(nd _ _ _ s1).elim
  | exc x=>exact(nx _ _ s1).elim
  | ob k x=>exact(nb _ _ _ s1).elim
  | non =>
   rw[zaF.mp h] at h';cases d' with
   | non=>rfl
   | bl b=>cases zaq.mp h'
   | int b=>cases zan.mp h'
   | str b=>cases Rep.str_iff.mp h'
   | tup ds=>obtain⟨_,_,e,_⟩:=zaz.mp h';cases e
   | lst ds=>obtain⟨_,_,e,_⟩:=zao.mp h';cases e
   | dic ks ds=>exact(nd _ _ _ s2).elim
   | exc x=>exact(nx _ _ s2).elim
   | ob k x=>exact(nb _ _ _ s2).elim
  | bl x =>
   rw[zaq.mp h] at h';cases d' with
   | non=>cases zaF.mp h'
   | bl b=>cases zaq.mp h';rfl
   | int b=>cases zan.mp h'
   | str b=>cases Rep.str_iff.mp h'
   | tup ds=>obtain⟨_,_,e,_⟩:=zaz.mp h';cases e
   | lst ds=>obtain⟨_,_,e,_⟩:=zao.mp h';cases e
   | dic ks ds=>exact(nd _ _ _ s2).elim
   | exc x=>exact(nx _ _ s2).elim
   | ob k x=>exact(nb _ _ _ s2).elim
  | int x =>
   rw[zan.mp h] at h';cases d' with
   | non=>cases zaF.mp h'
   | bl b=>cases zaq.mp h'
   | int b=>cases zan.mp h';rfl
   | str b=>cases Rep.str_iff.mp h'
   | tup ds=>obtain⟨_,_,e,_⟩:=zaz.mp h';cases e
   | lst ds=>obtain⟨_,_,e,_⟩:=zao.mp h';cases e
   | dic ks ds=>exact(nd _ _ _ s2).elim
   | exc x=>exact(nx _ _ s2).elim
   | ob k x=>exact(nb _ _ _ s2).elim
  | str x =>
   rw[Rep.str_iff.mp h] at h';cases d' with
   | non=>cases zaF.mp h'
   | bl b=>cases zaq.mp h'
   | int b=>cases zan.mp h'
   | str b=>cases Rep.str_iff.mp h';rfl
   | tup ds=>obtain⟨_,_,e,_⟩:=zaz.mp h';cases e
   | lst ds=>obtain⟨_,_,e,_⟩:=zao.mp h';cases e
   | dic ks ds=>exact(nd _ _ _ s2).elim
   | exc x=>exact(nx _ _ s2).elim
   | ob k x=>exact(nb _ _ _ s2).elim
 intro n
 induction n with
 | zero =>
  intro d d' v s1 s2 h h';exact atom 0 d d' v (fun ds e=>by subst e;unfold zbb at s1;cases s1) (fun ds e=>by subst e;unfold zbb at s1;cases s1) s1 s2 h h'
 | succ n ih =>
  intro d d' v s1 s2 h h'
  by_cases t1:∃ ds,d=.tup ds
  .obtain⟨ds,rfl⟩:=t1
   by_cases t2:∃ ds',d'=.tup ds'
   .obtain⟨ds',rfl⟩:=t2
    obtain⟨a,vs,rfl,h1,h2⟩:=zaz.mp h;obtain⟨a',vs',e,h1',h2'⟩:=zaz.mp h';cases e;rw[I.tuple_inj h1' h1] at h2';unfold zbb at s1 s2;rw[zn1 ih ds ds' vs s1 s2 h2 h2']
   .by_cases t3:∃ ds',d'=.lst ds'
    .obtain⟨ds',rfl⟩:=t3
     obtain⟨a0,_,ev,_,_⟩:=zaz.mp h;subst ev;obtain⟨a,vs,its,ea,_,h1,h2,h3,h4,_⟩:=zaV I h rfl;cases ea;obtain⟨a',vs',its',e,_,h1',h2',h3',h4',_⟩:=zaL I h' rfl;cases e;exact absurd rfl (SeqAt.ne_of_list_tuple h4' h4)
    .exact(atom (n+1) d' _ v (fun ds e=>t2 ⟨ds,e⟩) (fun ds e=>t3 ⟨ds,e⟩) s2 s1 h' h).symm
  .by_cases t1':∃ ds,d=.lst ds
   .obtain⟨ds,rfl⟩:=t1'
    by_cases t2:∃ ds',d'=.lst ds'
    .obtain⟨ds',rfl⟩:=t2
     obtain⟨a,vs,rfl,h1,h2⟩:=zao.mp h;obtain⟨a',vs',e,h1',h2'⟩:=zao.mp h';cases e;rw[I.list_inj h1' h1] at h2';unfold zbb at s1 s2;rw[zn1 ih ds ds' vs s1 s2 h2 h2']
    .by_cases t3:∃ ds',d'=.tup ds'
     .obtain⟨ds',rfl⟩:=t3
      obtain⟨a0,_,ev,_,_⟩:=zao.mp h;subst ev;obtain⟨a,vs,its,ea,_,h1,h2,h3,h4,_⟩:=zaL I h rfl;cases ea;obtain⟨a',vs',its',e,_,h1',h2',h3',h4',_⟩:=zaV I h' rfl;cases e;exact absurd rfl (SeqAt.ne_of_list_tuple h4 h4')
     .exact(atom (n+1) d' _ v (fun ds e=>t3 ⟨ds,e⟩) (fun ds e=>t2 ⟨ds,e⟩) s2 s1 h' h).symm
   .exact atom (n+1) d d' v (fun ds e=>t1 ⟨ds,e⟩) (fun ds e=>t1' ⟨ds,e⟩) s1 s2 h h'
theorem zsI {n:Nat}{A:Around}{xs ys:List D}{vs us:List V}{is js:List Value}
  (ih:∀ (x y:D) (v u:V) (a b:Value),zbb n x=true->zbb n y=true->Rep X.K H x v->Rep X.K H y u->zcj v a->zcj u b->saw A.in1 s a b (eqD x y))
  (sx:xs.all (zbb n)=true)(sy:ys.all (zbb n)=true)(rx:Reps X.K H xs vs)(ry:Reps X.K H ys us)(qx:zbM vs is)(qy:zbM us js) :
  ∀ j (h1:j < is.toArray.size) (h2:j < js.toArray.size),saw A.in1 s is.toArray[j] js.toArray[j] (eqD (xs.getD j .non) (ys.getD j .non)):=by
 intro j h1 h2;have lx:=rx.length;have ly:=ry.length;have kx:=qx.length;have ky:=qy.length;have h1':j < is.length:=by simpa using h1
 have h2':j < js.length:=by simpa using h2
 have hx:j < xs.length:=by omega
 have hy:j < ys.length:=by omega
 obtain⟨v,e1,r1⟩:=rx.get (saa hx);obtain⟨u,e2,r2⟩:=ry.get (saa hy);obtain⟨a,e3,r3⟩:=qx.get e1;obtain⟨b,e4,r4⟩:=qy.get e2;have ea:is.toArray[j]=a:=by
  rw[saa h1'] at e3;simpa using saN e3
 have eb:js.toArray[j]=b:=by
  rw[saa h2'] at e4;simpa using saN e4
 rw[ea,eb];have gx:xs.getD j .non=xs[j]:=by simp [scE,saa hx]
 have gy:ys.getD j .non=ys[j]:=by simp [scE,saa hy]
 rw[gx,gy];exact ih _ _ v u a b (saE.mp sx _ (saL hx)) (saE.mp sy _ (saL hy)) r1 r2 r3 r4
theorem zss (I:Inv X pins σ H s){A:Around}(hu:A.units < cLine){x y:D}{v u:V}{a b:Value}(rx:Rep X.K H x v)(ry:Rep X.K H y u)(qx:zcj v a)(qy:zcj u b)
  (n1:∀ ds ds',¬ (x=.lst ds/\y=.lst ds'))(n2:∀ ds ds',¬ (x=.tup ds/\y=.tup ds'))(d1:∀ ks ds,x≠.dic ks ds)(d2:∀ ks ds,y≠.dic ks ds)(x1:∀ c,x≠.exc c)(x2:∀ c,y≠.exc c)(o1:∀ k c,x≠.ob k c)(o2:∀ k c,y≠.ob k c) :
  saK A s a b (eqD x y)/\saw A s a b (eqD x y)/\sax A s a b (!(eqD x y)):=by
 cases x with
 | non =>
  cases y with
  | non =>
   obtain rfl:=zaF.mp rx;obtain rfl:a=sbr:=qx;obtain rfl:=zaF.mp ry;obtain rfl:b=sbr:=qy;unfold eqD;exact⟨saK.none_none ,sc7 _,sax.none_none ⟩
  | bl y =>
   obtain rfl:=zaF.mp rx;obtain rfl:a=sbr:=qx;obtain rfl:=zaq.mp ry;obtain rfl:b=sa8 _:=qy;unfold eqD;exact⟨saK.none_bool _,saw.none_bool _,sax.none_bool _⟩
  | int y =>
   obtain rfl:=zaF.mp rx;obtain rfl:a=sbr:=qx;obtain rfl:=zan.mp ry;obtain⟨ty,rfl⟩:∃ t,b=sbK _ t:=qy;unfold eqD;exact⟨saK.none_int _ _,saw.none_int _ _,sax.none_int _ _⟩
  | str y =>
   obtain rfl:=zaF.mp rx;obtain rfl:a=sbr:=qx;obtain rfl:=Rep.str_iff.mp ry;obtain⟨ty,rfl⟩:∃ t,b=sbJ _ t:=qy;unfold eqD;exact⟨saK.none_str _ _,saw.none_str _ _,sax.none_str _ _⟩
  | lst y =>
   obtain rfl:=zaF.mp rx;obtain rfl:a=sbr:=qx;obtain⟨ly,_,_,rfl,rfl,_,_,_,hy,_⟩:=zaL I ry qy;unfold eqD;exact⟨saK.none_list  hy hu,saw.none_list  hy hu,sax.none_list  hy hu⟩
  | tup y =>
   obtain rfl:=zaF.mp rx;obtain rfl:a=sbr:=qx;obtain⟨ly,_,_,rfl,rfl,_,_,_,hy,_⟩:=zaV I ry qy;unfold eqD;exact⟨saK.none_tuple  hy hu,saw.none_tuple  hy hu,sax.none_tuple  hy hu⟩
  | dic ks ds=>exact absurd rfl (d2 ks ds)
  | exc c=>exact absurd rfl (x2 c)
  | ob k c=>exact absurd rfl (o2 k c)
 | bl x =>
  cases y with
  | non =>
   obtain rfl:=zaq.mp rx;obtain rfl:a=sa8 _:=qx;obtain rfl:=zaF.mp ry;obtain rfl:b=sbr:=qy;unfold eqD;exact⟨saK.bool_none _,saw.bool_none _,sax.bool_none _⟩
  | bl y =>
   obtain rfl:=zaq.mp rx;obtain rfl:a=sa8 _:=qx;obtain rfl:=zaq.mp ry;obtain rfl:b=sa8 _:=qy;unfold eqD;exact⟨saK.bool_bool _ _,saw.bool_bool _ _,sax.bool_bool _ _⟩
  | int y =>
   obtain rfl:=zaq.mp rx;obtain rfl:a=sa8 _:=qx;obtain rfl:=zan.mp ry;obtain⟨ty,rfl⟩:∃ t,b=sbK _ t:=qy;unfold eqD;exact⟨saK.bool_int _ _ _,saw.bool_int _ _ _,sax.bool_int _ _ _⟩
  | str y =>
   obtain rfl:=zaq.mp rx;obtain rfl:a=sa8 _:=qx;obtain rfl:=Rep.str_iff.mp ry;obtain⟨ty,rfl⟩:∃ t,b=sbJ _ t:=qy;unfold eqD;exact⟨saK.bool_str _ _ _,saw.bool_str _ _ _,sax.bool_str _ _ _⟩
  | lst y =>
   obtain rfl:=zaq.mp rx;obtain rfl:a=sa8 _:=qx;obtain⟨ly,_,_,rfl,rfl,_,_,_,hy,_⟩:=zaL I ry qy;unfold eqD;exact⟨saK.bool_list _ hy hu,saw.bool_list _ hy hu,sax.bool_list _ hy hu⟩
  | tup y =>
   obtain rfl:=zaq.mp rx;obtain rfl:a=sa8 _:=qx;obtain⟨ly,_,_,rfl,rfl,_,_,_,hy,_⟩:=zaV I ry qy;unfold eqD;exact⟨saK.bool_tuple _ hy hu,saw.bool_tuple _ hy hu,sax.bool_tuple _ hy hu⟩
  | dic ks ds=>exact absurd rfl (d2 ks ds)
  | exc c=>exact absurd rfl (x2 c)
  | ob k c=>exact absurd rfl (o2 k c)
 | int x =>
  cases y with
  | non =>
   obtain rfl:=zan.mp rx;obtain⟨tx,rfl⟩:∃ t,a=sbK _ t:=qx;obtain rfl:=zaF.mp ry;obtain rfl:b=sbr:=qy;unfold eqD;exact⟨saK.int_none _ _,saw.int_none _ _,sax.int_none _ _⟩
  | bl y =>
   obtain rfl:=zan.mp rx;obtain⟨tx,rfl⟩:∃ t,a=sbK _ t:=qx;obtain rfl:=zaq.mp ry;obtain rfl:b=sa8 _:=qy;unfold eqD;exact⟨saK.int_bool _ _ _,saw.int_bool _ _ _,sax.int_bool _ _ _⟩
  | int y =>
   obtain rfl:=zan.mp rx;obtain⟨tx,rfl⟩:∃ t,a=sbK _ t:=qx;obtain rfl:=zan.mp ry;obtain⟨ty,rfl⟩:∃ t,b=sbK _ t:=qy;unfold eqD;exact⟨saK.int_int _ _ _ _,saw.int_int _ _ _ _,sax.int_int _ _ _ _⟩
  | str y =>
   obtain rfl:=zan.mp rx;obtain⟨tx,rfl⟩:∃ t,a=sbK _ t:=qx;obtain rfl:=Rep.str_iff.mp ry;obtain⟨ty,rfl⟩:∃ t,b=sbJ _ t:=qy;unfold eqD;exact⟨saK.int_str _ _ _ _,saw.int_str _ _ _ _,sax.int_str _ _ _ _⟩
  | lst y =>
   obtain rfl:=zan.mp rx;obtain⟨tx,rfl⟩:∃ t,a=sbK _ t:=qx;obtain⟨ly,_,_,rfl,rfl,_,_,_,hy,_⟩:=zaL I ry qy;unfold eqD;exact⟨saK.int_list _ _ hy hu,saw.int_list _ _ hy hu,sax.int_list _ _ hy hu⟩
  | tup y =>
   obtain rfl:=zan.mp rx;obtain⟨tx,rfl⟩:∃ t,a=sbK _ t:=qx;obtain⟨ly,_,_,rfl,rfl,_,_,_,hy,_⟩:=zaV I ry qy;unfold eqD;exact⟨saK.int_tuple _ _ hy hu,saw.int_tuple _ _ hy hu,sax.int_tuple _ _ hy hu⟩
  | dic ks ds=>exact absurd rfl (d2 ks ds)
  | exc c=>exact absurd rfl (x2 c)
  | ob k c=>exact absurd rfl (o2 k c)
 | str x =>
  cases y with
  | non =>
   obtain rfl:=Rep.str_iff.mp rx;obtain⟨tx,rfl⟩:∃ t,a=sbJ _ t:=qx;obtain rfl:=zaF.mp ry;obtain rfl:b=sbr:=qy;unfold eqD;exact⟨saK.str_none _ _,saw.str_none _ _,sax.str_none _ _⟩
  | bl y =>
   obtain rfl:=Rep.str_iff.mp rx;obtain⟨tx,rfl⟩:∃ t,a=sbJ _ t:=qx;obtain rfl:=zaq.mp ry;obtain rfl:b=sa8 _:=qy;unfold eqD;exact⟨saK.str_bool _ _ _,saw.str_bool _ _ _,sax.str_bool _ _ _⟩
  | int y =>
   obtain rfl:=Rep.str_iff.mp rx;obtain⟨tx,rfl⟩:∃ t,a=sbJ _ t:=qx;obtain rfl:=zan.mp ry;obtain⟨ty,rfl⟩:∃ t,b=sbK _ t:=qy;unfold eqD;exact⟨saK.str_int _ _ _ _,saw.str_int _ _ _ _,sax.str_int _ _ _ _⟩
  | str y =>
   obtain rfl:=Rep.str_iff.mp rx;obtain⟨tx,rfl⟩:∃ t,a=sbJ _ t:=qx;obtain rfl:=Rep.str_iff.mp ry;obtain⟨ty,rfl⟩:∃ t,b=sbJ _ t:=qy;unfold eqD;exact⟨saK.str_str _ _ _ _,saw.str_str _ _ _ _,sax.str_str _ _ _ _⟩
  | lst y =>
   obtain rfl:=Rep.str_iff.mp rx;obtain⟨tx,rfl⟩:∃ t,a=sbJ _ t:=qx;obtain⟨ly,_,_,rfl,rfl,_,_,_,hy,_⟩:=zaL I ry qy;unfold eqD;exact⟨saK.str_list _ _ hy hu,saw.str_list _ _ hy hu,sax.str_list _ _ hy hu⟩
  | tup y =>
   obtain rfl:=Rep.str_iff.mp rx;obtain⟨tx,rfl⟩:∃ t,a=sbJ _ t:=qx;obtain⟨ly,_,_,rfl,rfl,_,_,_,hy,_⟩:=zaV I ry qy;unfold eqD;exact⟨saK.str_tuple _ _ hy hu,saw.str_tuple _ _ hy hu,sax.str_tuple _ _ hy hu⟩
  | dic ks ds=>exact absurd rfl (d2 ks ds)
  | exc c=>exact absurd rfl (x2 c)
  | ob k c=>exact absurd rfl (o2 k c)
 | lst x =>
  cases y with
  | non =>
   obtain⟨lx,_,_,rfl,rfl,_,_,_,hx,_⟩:=zaL I rx qx;obtain rfl:=zaF.mp ry;obtain rfl:b=sbr:=qy;unfold eqD;exact⟨saK.list_none  hx hu,saw.list_none  hx hu,sax.list_none  hx hu⟩
  | bl y =>
   obtain⟨lx,_,_,rfl,rfl,_,_,_,hx,_⟩:=zaL I rx qx;obtain rfl:=zaq.mp ry;obtain rfl:b=sa8 _:=qy;unfold eqD;exact⟨saK.list_bool _ hx hu,saw.list_bool _ hx hu,sax.list_bool _ hx hu⟩
  | int y =>
   obtain⟨lx,_,_,rfl,rfl,_,_,_,hx,_⟩:=zaL I rx qx;obtain rfl:=zan.mp ry;obtain⟨ty,rfl⟩:∃ t,b=sbK _ t:=qy;unfold eqD;exact⟨saK.list_int _ _ hx hu,saw.list_int _ _ hx hu,sax.list_int _ _ hx hu⟩
  | str y =>
   obtain⟨lx,_,_,rfl,rfl,_,_,_,hx,_⟩:=zaL I rx qx;obtain rfl:=Rep.str_iff.mp ry;obtain⟨ty,rfl⟩:∃ t,b=sbJ _ t:=qy;unfold eqD;exact⟨saK.list_str _ _ hx hu,saw.list_str _ _ hx hu,sax.list_str _ _ hx hu⟩
  | lst y =>
   exact absurd ⟨rfl,rfl⟩ (n1 x y)
  | tup y =>
   obtain⟨lx,_,_,rfl,rfl,_,_,_,hx,_⟩:=zaL I rx qx;obtain⟨ly,_,_,rfl,rfl,_,_,_,hy,_⟩:=zaV I ry qy;unfold eqD;exact⟨saK.list_tuple  hx hy hu,saw.list_tuple  hx hy hu,sax.list_tuple  hx hy hu⟩
  | dic ks ds=>exact absurd rfl (d2 ks ds)
  | exc c=>exact absurd rfl (x2 c)
  | ob k c=>exact absurd rfl (o2 k c)
 | tup x =>
  cases y with
  | non =>
   obtain⟨lx,_,_,rfl,rfl,_,_,_,hx,_⟩:=zaV I rx qx;obtain rfl:=zaF.mp ry;obtain rfl:b=sbr:=qy;unfold eqD;exact⟨saK.tuple_none  hx hu,saw.tuple_none  hx hu,sax.tuple_none  hx hu⟩
  | bl y =>
   obtain⟨lx,_,_,rfl,rfl,_,_,_,hx,_⟩:=zaV I rx qx;obtain rfl:=zaq.mp ry;obtain rfl:b=sa8 _:=qy;unfold eqD;exact⟨saK.tuple_bool _ hx hu,saw.tuple_bool _ hx hu,sax.tuple_bool _ hx hu⟩
  | int y =>
   obtain⟨lx,_,_,rfl,rfl,_,_,_,hx,_⟩:=zaV I rx qx;obtain rfl:=zan.mp ry;obtain⟨ty,rfl⟩:∃ t,b=sbK _ t:=qy;unfold eqD;exact⟨saK.tuple_int _ _ hx hu,saw.tuple_int _ _ hx hu,sax.tuple_int _ _ hx hu⟩
  | str y =>
   obtain⟨lx,_,_,rfl,rfl,_,_,_,hx,_⟩:=zaV I rx qx;obtain rfl:=Rep.str_iff.mp ry;obtain⟨ty,rfl⟩:∃ t,b=sbJ _ t:=qy;unfold eqD;exact⟨saK.tuple_str _ _ hx hu,saw.tuple_str _ _ hx hu,sax.tuple_str _ _ hx hu⟩
  | lst y =>
   obtain⟨lx,_,_,rfl,rfl,_,_,_,hx,_⟩:=zaV I rx qx;obtain⟨ly,_,_,rfl,rfl,_,_,_,hy,_⟩:=zaL I ry qy;unfold eqD;exact⟨saK.tuple_list  hx hy hu,saw.tuple_list  hx hy hu,sax.tuple_list  hx hy hu⟩
  | tup y =>
   exact absurd ⟨rfl,rfl⟩ (n2 x y)
  | dic ks ds=>exact absurd rfl (d2 ks ds)
  | exc c=>exact absurd rfl (x2 c)
  | ob k c=>exact absurd rfl (o2 k c)
 | dic ks ds=>exact absurd rfl (d1 ks ds)
 | exc c=>exact absurd rfl (x1 c)
 | ob k c=>exact absurd rfl (o1 k c)
theorem zCX (I:Inv X pins σ H s):∀ (n:Nat) (A:Around),A.units+n < cLine->∀ (x y:D) (v u:V) (a b:Value),zbb n x=true->zbb n y=true->Rep X.K H x v->Rep X.K H y u->zcj v a->zcj u b ->
  saK A s a b (eqD x y)/\saw A s a b (eqD x y)/\sax A s a b (!(eqD x y)):=by
 have nd:∀ m ks ds,zbb m (.dic ks ds)=true->False:=fun m ks ds h=>by cases m<;>(unfold zbb at h;cases h)
 have nx:∀ m x,zbb m (.exc x)=true->False:=fun m x h=>by cases m<;>(unfold zbb at h;cases h)
 have nb:∀ m k x,zbb m (.ob k x)=true->False:=fun m k x h=>by cases m<;>(unfold zbb at h;cases h)
 intro n
 induction n with
 | zero =>
  intro A hu x y v u a b sx sy rx ry qa qb;refine zss I (by omega) rx ry qa qb (fun ds ds' z=>?_) (fun ds ds' z=>?_) (fun ks ds z=>?_) (fun ks ds z=>?_) (fun c z=>nx _ _ (z▸sx)) (fun c z=>nx _ _ (z▸sy)) (fun k c z=>nb _ _ _ (z▸sx)) (fun k c z=>nb _ _ _ (z▸sy))
  .rw[z.1] at sx;unfold zbb at sx;cases sx
  .rw[z.1] at sx;unfold zbb at sx;cases sx
  .rw[z] at sx;exact nd _ _ _ sx
  .rw[z] at sy;exact nd _ _ _ sy
 | succ n ih =>
  intro A hu x y v u a b sx sy rx ry qa qb;have ih':∀ (x y:D) (v u:V) (a b:Value),zbb n x=true->zbb n y=true->Rep X.K H x v->Rep X.K H y u->zcj v a->zcj u b->saw A.in1 s a b (eqD x y) :=
   fun x y v u a b s1 s2 r1 r2 q1 q2=>(ih A.in1 (by show A.units+1+n < cLine;omega) x y v u a b s1 s2 r1 r2 q1 q2).2.1
  by_cases t1:∃ ds ds',x=.tup ds/\y=.tup ds'
  .obtain⟨xs,ys,rfl,rfl⟩:=t1
   obtain⟨l,vs,is,rfl,rfl,h1,h2,h3,h4,h5⟩:=zaV I rx qa;obtain⟨m,us,js,rfl,rfl,k1,k2,k3,k4,k5⟩:=zaV I ry qb;have hsx:=sx;have hsy:=sy;unfold zbb at sx sy;have each:=zsI (A:=A) ih' sx sy h2 k2 h3 k3;have eall:eqD (.tup xs) (.tup ys)=((saS (min is.toArray.size js.toArray.size)).all (fun j=>eqD (xs.getD j .non) (ys.getD j .non))&&is.toArray.size==js.toArray.size):=by
    rw[zBD];simp only[san,← h5,← k5]
    by_cases hl:xs.length=ys.length
    .rw[zjy xs ys hl,← hl,Nat.min_self,beq_self_eq_true,Bool.and_true]
    .rw[zkH xs ys hl,beq_eq_false_iff_ne.mpr hl,sb0]
   refine⟨?_,?_,?_⟩
   .rw[eall];exact saK.tuples h4 k4 (by omega) each
   .by_cases hlm:l=m
    .subst hlm
     rw[Rep.inj I (n+1) _ _ _ hsx hsy rx ry,zdS (n+1) _ hsy];exact sc7 _
    .refine scJ hlm ?_
     rw[eall];exact saK.tuples h4 k4 (by omega) each
   .rw[eall];exact sax.tuples h4 k4 (by omega) each
  .by_cases t2:∃ ds ds',x=.lst ds/\y=.lst ds'
   .obtain⟨xs,ys,rfl,rfl⟩:=t2
    obtain⟨l,vs,is,rfl,rfl,h1,h2,h3,h4,h5⟩:=zaL I rx qa;obtain⟨m,us,js,rfl,rfl,k1,k2,k3,k4,k5⟩:=zaL I ry qb;have hsx:=sx;have hsy:=sy;unfold zbb at sx sy;have each:=zsI (A:=A) ih' sx sy h2 k2 h3 k3
    by_cases hl:xs.length=ys.length
    .have hsz:is.toArray.size=js.toArray.size:=by simp only[san];omega
     have eall:eqD (.lst xs) (.lst ys)=(saS is.toArray.size).all (fun j=>eqD (xs.getD j .non) (ys.getD j .non)):=by
      rw[zjz];simp only[san,← h5];exact zjy xs ys hl
     refine⟨?_,?_,?_⟩
     .rw[eall];exact saK.lists h4 k4 hsz (by omega) each
     .by_cases hlm:l=m
      .subst hlm
       rw[Rep.inj I (n+1) _ _ _ hsx hsy rx ry,zdS (n+1) _ hsy];exact sc7 _
      .refine scJ hlm ?_
       rw[eall];exact saK.lists h4 k4 hsz (by omega) each
     .rw[eall];exact sax.lists h4 k4 hsz (by omega) each
    .have hsz:(is.toArray.size != js.toArray.size)=true:=by simp only[san,bne_iff_ne,ne_eq];omega
     have eall:eqD (.lst xs) (.lst ys)=false:=by rw[zjz];exact zkH xs ys hl
     rw[eall];refine⟨saK.lists_lengths h4 k4 hsz (by omega),?_,sax.lists_lengths h4 k4 hsz (by omega)⟩;refine scJ (fun e=>?_) (saK.lists_lengths h4 k4 hsz (by omega));subst e;have:=Rep.inj I (n+1) _ _ _ hsx hsy rx ry;cases this;exact hl rfl
   .exact zss I (by omega) rx ry qa qb (fun ds ds' z=>t2 ⟨ds,ds',z⟩) (fun ds ds' z=>t1 ⟨ds,ds',z⟩) (fun ks ds z=>by rw[z] at sx;exact nd _ _ _ sx) (fun ks ds z=>by rw[z] at sy;exact nd _ _ _ sy) (fun c z=>nx _ _ (z▸sx)) (fun c z=>nx _ _ (z▸sy)) (fun k c z=>nb _ _ _ (z▸sx)) (fun k c z=>nb _ _ _ (z▸sy))
end
section
variable {X:Cx}{E:XK}
def dEq (x y:D):Res D:=if zbb 40 x=true/\zbb 40 y=true then .ok (.bl (eqD x y)) else .stuck
def dNe (x y:D):Res D:=if zbb 40 x=true/\zbb 40 y=true then .ok (.bl (!(eqD x y))) else .stuck
def zF9 (K:saj):R2:=fun v u H Q=>∃ x y,Rep K H x v/\Rep K H y u/\zbb 40 x=true/\zbb 40 y=true/\Q (.bl (eqD x y)) H
def zFg (K:saj):R2:=fun v u H Q=>∃ x y,Rep K H x v/\Rep K H y u/\zbb 40 x=true/\zbb 40 y=true/\Q (.bl (!(eqD x y))) H
theorem za0 (hu:X.A.units+64 < cLine):OpR X (compareOp .Eq) (zF9 X.K):=by
 intro pins s σ H x y v u Q I rx ry h;obtain⟨d,d',h1,h2,s1,s2,q⟩:=h;exact(zCX I 40 X.A (by omega) d d' x y v u s1 s2 h1 h2 rx ry).1 _ _ _ _ ⟨.bl _,H,I,rfl,q⟩
theorem zdw (hu:X.A.units+64 < cLine):OpR X (compareOp .NotEq) (zFg X.K):=by
 intro pins s σ H x y v u Q I rx ry h;obtain⟨d,d',h1,h2,s1,s2,q⟩:=h;exact(zCX I 40 X.A (by omega) d d' x y v u s1 s2 h1 h2 rx ry).2.2 _ _ _ _ ⟨.bl _,H,I,rfl,q⟩
theorem zbL:OpD X.K E (zF9 X.K) dEq:=by
 intro x y v u H Ha Q hs r1 r2 q;unfold dEq at q
 by_cases c:zbb 40 x=true/\zbb 40 y=true
 .rw[if_pos c] at q
  exact⟨x,y,r1.mono hs,r2.mono hs,c.1,c.2,q _ H Ha (zcv.refl hs) (zaq.mpr rfl)⟩
 .rw[if_neg c] at q;exact q.elim
theorem zgs:OpD X.K E (zFg X.K) dNe:=by
 intro x y v u H Ha Q hs r1 r2 q;unfold dNe at q
 by_cases c:zbb 40 x=true/\zbb 40 y=true
 .rw[if_pos c] at q
  exact⟨x,y,r1.mono hs,r2.mono hs,c.1,c.2,q _ H Ha (zcv.refl hs) (zaq.mpr rfl)⟩
 .rw[if_neg c] at q;exact q.elim
open Classical in
noncomputable def zqy (K:saj) (H:Hp) (ds:List D) (x:D) (u:Value):Bool :=
 if h:∃ d,d∈ds/\∃ v,Rep K H d v/\zcj v u then eqD h.choose x else false
theorem zxf {pins:List (Addr×Obj)}{σ:L2.St}{H:Hp}{s:Shared}(I:Inv X pins σ H s){ds:List D}{x d:D}{v:V}{u:Value}(sd:ds.all (zbb 40)=true)(hd:d∈ds)(r:Rep X.K H d v)(q:zcj v u):zqy X.K H ds x u=eqD d x:=by
 have h:∃ d,d∈ds/\∃ v,Rep X.K H d v/\zcj v u:=⟨d,hd,v,r,q⟩
 unfold zqy;rw[dif_pos h];obtain⟨h1,v',h2,h3⟩:=h.choose_spec;have e:v'=v:=h3.inj q;subst e;rw[Rep.inj I 40 _ _ _ (saE.mp sd _ h1) (saE.mp sd _ hd) h2 r]
def zAC (K:saj)(neg:Bool):R2:=fun v u H Q=>∃ x ds,Rep K H x v/\(Rep K H (.lst ds) u∨Rep K H (.tup ds) u)/\zbb 40 x=true/\ds.all (zbb 40)=true/\Q (.bl (if neg then !(ds.any fun d=>eqD d x) else ds.any fun d=>eqD d x)) H
theorem zi0 {pins:List (Addr×Obj)}{σ:L2.St}{H:Hp}{s:Shared}(I:Inv X pins σ H s){x:D}{es:List D}(se:es.all (zbb 40)=true):∀ {ds:List D}{vs:List V}{us:List Value},(∀ d∈ds,d∈es)->Reps X.K H ds vs->zbM vs us->us.any (zqy X.K H es x)=ds.any fun d=>eqD d x
 | [],_,_,_,h,q=>by
  rw[Reps.nil_iff.mp h] at q;cases q;rfl
 | d::ds,_,_,hm,h,q=>by
  obtain⟨v,r,rfl,h1,h2⟩:=zap.mp h;cases q with
  | cons q1 q2 =>
   rw[scX,scX,zxf I se (hm d saq) h1 q1,zi0 I se (fun x hx=>hm x (sak _ hx)) h2 q2]
theorem zgO {pins:List (Addr×Obj)}{σ:L2.St}{H:Hp}{s:Shared}(I:Inv X pins σ H s)(hu:X.A.units+64 < cLine){x:D}{v:V}{u:Value}(sx:zbb 40 x=true)(rx:Rep X.K H x v)(qx:zcj v u){es:List D}(se:es.all (zbb 40)=true):∀ {ds:List D}{vs:List V}{us:List Value},(∀ d∈ds,d∈es)->Reps X.K H ds vs->zbM vs us->∀ y∈us,saw X.A.in1 s y u (zqy X.K H es x y)
 | [],_,_,_,h,q=>fun y hy=>by
  rw[Reps.nil_iff.mp h] at q;cases q;cases hy
 | d::ds,_,_,hm,h,q=>fun y hy=>by
  obtain⟨w,r,rfl,h1,h2⟩:=zap.mp h;cases q with
  | cons q1 q2 =>
   rcases sas.mp hy with rfl | hy
   .rw[zxf I se (hm d saq) h1 q1]
    exact(zCX I 40 X.A.in1 (by show X.A.units+1+40 < cLine;omega) d x w v _ u (saE.mp se _ (hm d saq)) sx h1 rx q1 qx).2.1
   .exact zgO I hu sx rx qx se (fun x hx=>hm x (sak _ hx)) h2 q2 y hy
theorem zDs (hu:X.A.units+64 < cLine):OpR X (compareOp .In) (zAC X.K false):=by
 intro pins s σ H x y v u Q I rx ry h;obtain⟨d,ds,h1,h2,s1,s2,q⟩:=h;rcases h2 with h2 | h2
 .obtain⟨a,vs,its,rfl,rfl,k1,k2,k3,k4,k5⟩:=zaL I h2 ry
  refine SeqAt.in_listAt (zqy X.K H ds d) k4 (fun w hw=>zgO I hu s1 h1 rx s2 (fun _ z=>z) k2 k3 w (by simpa using hw)) ⟨.bl _,H,I,rfl,?_⟩;rw[show its.toArray.any (zqy X.K H ds d)=its.any (zqy X.K H ds d) by simp,zi0 I s2 (fun _ z=>z) k2 k3];exact q
 .obtain⟨a,vs,its,rfl,rfl,k1,k2,k3,k4,k5⟩:=zaV I h2 ry
  refine SeqAt.in_tupleAt (zqy X.K H ds d) k4 (fun w hw=>zgO I hu s1 h1 rx s2 (fun _ z=>z) k2 k3 w (by simpa using hw)) ⟨.bl _,H,I,rfl,?_⟩;rw[show its.toArray.any (zqy X.K H ds d)=its.any (zqy X.K H ds d) by simp,zi0 I s2 (fun _ z=>z) k2 k3];exact q
theorem zvt (hu:X.A.units+64 < cLine):OpR X (compareOp .NotIn) (zAC X.K true):=by
 intro pins s σ H x y v u Q I rx ry h;obtain⟨d,ds,h1,h2,s1,s2,q⟩:=h;rcases h2 with h2 | h2
 .obtain⟨a,vs,its,rfl,rfl,k1,k2,k3,k4,k5⟩:=zaL I h2 ry
  refine SeqAt.notIn_listAt (zqy X.K H ds d) k4 (fun w hw=>zgO I hu s1 h1 rx s2 (fun _ z=>z) k2 k3 w (by simpa using hw)) ⟨.bl _,H,I,rfl,?_⟩;rw[show its.toArray.any (zqy X.K H ds d)=its.any (zqy X.K H ds d) by simp,zi0 I s2 (fun _ z=>z) k2 k3];exact q
 .obtain⟨a,vs,its,rfl,rfl,k1,k2,k3,k4,k5⟩:=zaV I h2 ry
  refine SeqAt.notIn_tupleAt (zqy X.K H ds d) k4 (fun w hw=>zgO I hu s1 h1 rx s2 (fun _ z=>z) k2 k3 w (by simpa using hw)) ⟨.bl _,H,I,rfl,?_⟩;rw[show its.toArray.any (zqy X.K H ds d)=its.any (zqy X.K H ds d) by simp,zi0 I s2 (fun _ z=>z) k2 k3];exact q
def occ (i j:Str):Bool:=!(sc0 j i 0 j.length 1).isEmpty
noncomputable def inD (x y:D):Option Bool:=match y with
 | .lst ds=>if zbb 40 x=true/\ds.all (zbb 40)=true then some (ds.any fun d=>eqD d x) else none
 | .tup ds=>if zbb 40 x=true/\ds.all (zbb 40)=true then some (ds.any fun d=>eqD d x) else none
 | .str j=>match x with
  | .str i=>some (occ i j)
  | _=>none
 | _=>none
def dIn (x y:D):Res D:=match inD x y with
 | some b=>.ok (.bl b)
 | none=>.stuck
def zb3 (x y:D):Res D:=match inD x y with
 | some b=>.ok (.bl (!b))
 | none=>.stuck
def zCZ (neg:Bool):R2:=fun x y H Q=>∃ i j,x=.str i/\y=.str j/\Q (.bl (if neg then !(occ i j) else occ i j)) H
theorem ztO (hu:X.A.units+64 < cLine):OpR X (compareOp .In) (fun v u H Q=>zAC X.K false v u H Q∨zCZ false v u H Q):=OpR.or (zDs hu) (by
 intro pins s σ H x y v u Q I rx ry h;obtain⟨i,j,rfl,rfl,q⟩:=h;exact zvu pins s σ H _ _ v u Q I rx ry ⟨i,j,rfl,rfl,q⟩)
theorem zdN (hu:X.A.units+64 < cLine):OpR X (compareOp .NotIn) (fun v u H Q=>zAC X.K true v u H Q∨zCZ true v u H Q):=OpR.or (zvt hu) (by
 intro pins s σ H x y v u Q I rx ry h;obtain⟨i,j,rfl,rfl,q⟩:=h;exact zpK pins s σ H _ _ v u Q I rx ry ⟨i,j,rfl,rfl,q⟩)
theorem zsA {neg:Bool}{x y:D}{v u:V}{H Ha:Hp}{Q:VK}(hs:zaM Ha H)(r1:Rep X.K Ha x v)(r2:Rep X.K Ha y u)
  (q:post X.K E H Ha (match inD x y with | some b=>.ok (.bl (if neg then !b else b)) | none=>.stuck) Q):zAC X.K neg v u H Q∨zCZ neg v u H Q:=by
 cases y with
 | lst ds =>
  simp only[inD] at q
  by_cases c:zbb 40 x=true/\ds.all (zbb 40)=true
  .rw[if_pos c] at q
   exact .inl ⟨x,ds,r1.mono hs,.inl (r2.mono hs),c.1,c.2,q _ H Ha (zcv.refl hs) (zaq.mpr rfl)⟩
  .rw[if_neg c] at q;exact q.elim
 | tup ds =>
  simp only[inD] at q
  by_cases c:zbb 40 x=true/\ds.all (zbb 40)=true
  .rw[if_pos c] at q
   exact .inl ⟨x,ds,r1.mono hs,.inr (r2.mono hs),c.1,c.2,q _ H Ha (zcv.refl hs) (zaq.mpr rfl)⟩
  .rw[if_neg c] at q;exact q.elim
 | str j =>
  cases x with
  | str i=>exact .inr ⟨i,j,Rep.str_iff.mp r1,Rep.str_iff.mp r2,q _ H Ha (zcv.refl hs) (zaq.mpr rfl)⟩
  | _=>exact q.elim
 | _=>exact q.elim
theorem ztS:OpD X.K E (fun v u H Q=>zAC X.K false v u H Q∨zCZ false v u H Q) dIn:=fun x y v u H Ha Q hs r1 r2 q=>zsA (neg:=false) (E:=E) hs r1 r2 (by
 unfold dIn at q;cases e:inD x y with
 | none=>rw[e] at q;exact q
 | some b=>rw[e] at q;exact q)
theorem zdP:OpD X.K E (fun v u H Q=>zAC X.K true v u H Q∨zCZ true v u H Q) zb3:=fun x y v u H Ha Q hs r1 r2 q=>zsA (neg:=true) (E:=E) hs r1 r2 (by
 unfold zb3 at q;cases e:inD x y with
 | none=>rw[e] at q;exact q
 | some b=>rw[e] at q;exact q)
end
@[irreducible] def B9:Nat:=2 ^ 9000
@[irreducible] def B13:Nat:=2 ^ 13500
@[irreducible] def B60:Nat:=2 ^ 60000
theorem zB9:B9=2 ^ 9000:=by unfold B9;rfl
theorem znI:B13=2 ^ 13500:=by unfold B13;rfl
theorem ztf:B60=2 ^ 60000:=by unfold B60;rfl
theorem zmV {n k:Nat}(h:n < 2 ^ k)(hk:0 < k):n.log2 < k:=by
 by_cases h0:n=0
 .rw[h0]
  have:Nat.log2 0=0:=by decide
  omega
 .exact(Nat.log2_lt h0).mpr h
theorem zFu {x y:Int}(h:y.natAbs < B9):sb2 x y=false:=by
 rw[zB9] at h;exact PyProof.noPylong_of_log2 (zmV h (by omega))
theorem zDC {x y:Int}(h:x.natAbs < B13):sb2 x y=false:=by
 rw[znI] at h;have hx:x.natAbs.log2 < 13500:=zmV h (by omega);show(decide ((if y==0 then 0 else y.natAbs.log2 / 30+1) > 300)&&decide ((if x==0 then 0 else x.natAbs.log2 / 30+1) > (if y==0 then 0 else y.natAbs.log2 / 30+1)+150))=false;have k:(if x==0 then 0 else x.natAbs.log2 / 30+1)<=450:=by
  by_cases hx0:(x==0)=true
  .rw[if_pos hx0];omega
  .rw[if_neg hx0];omega
 by_cases c:(if y==0 then 0 else y.natAbs.log2 / 30+1) > 300
 .rw[Bool.and_eq_false_iff];right;exact decide_eq_false (by omega)
 .rw[Bool.and_eq_false_iff];left;exact decide_eq_false c
def zgR (i j:Int):Bool:=decide (j≠0)&&(decide (j.natAbs < B9)||decide (i.natAbs < B13))
def zcA (i j:Int):Bool:=decide (i.natAbs < B60)&&decide (j.natAbs < B60)
theorem zgR.ok {i j:Int}(h:zgR i j=true):j≠0/\sb2 i j=false:=by
 unfold zgR at h;rw[saF,Bool.or_eq_true] at h;refine⟨of_decide_eq_true h.1,?_⟩;rcases h.2 with h | h
 .exact zFu (of_decide_eq_true h)
 .exact zDC (of_decide_eq_true h)
theorem zcA.ok {i j:Int}(h:zcA i j=true):IntMulOk i j:=by
 unfold zcA at h;rw[saF] at h;have h1:=of_decide_eq_true h.1;have h2:=of_decide_eq_true h.2;rw[ztf] at h1 h2;exact PyProof.Rows.mulOk_of_bits (m:=60000) (n:=60000) (PySem.intBits_le_iff.mpr h1) (PySem.intBits_le_iff.mpr h2) (by decide)
section
variable {X:Cx}{E:XK}{e a b c:Expr}{es:List Expr}{f g k:Ev->Res D}{fa:Ev->Res (List D)}{pos:Pos}
theorem zbn {K:saj}{H Ha:Hp}{d:D}{v:V}{Q:VK}(hs:zaM Ha H)(q:post K E H Ha (.ok d) Q)(r:Rep K Ha d v):Q v H:=q v H Ha (zcv.refl hs) r
def iop (c:Int->Int->Bool)(g:Int->Int->D)(x y:D):Res D:=match x,y with
 | .int i,.int j=>if c i j=true then .ok (g i j) else .stuck
 | _,_=>.stuck
theorem zsz {C:Int->Int->Prop}{c:Int->Int->Bool}{gv:Int->Int->V}{g:Int->Int->D}(hc:∀ i j,c i j=true->C i j)(hg:∀ K H i j,Rep K H (g i j) (gv i j)):OpD X.K E (rI C gv) (iop c g):=by
 intro x y v u H Ha Q hs r1 r2 q;unfold iop at q;cases x with
 | int i =>
  cases y with
  | int j =>
   by_cases h:c i j=true
   .simp only[if_pos h] at q
    exact⟨i,j,zan.mp r1,zan.mp r2,hc i j h,zbn hs q (hg _ _ i j)⟩
   .simp only[if_neg h] at q;exact q.elim
  | _=>exact q.elim
 | _=>exact q.elim
theorem zco {gv:Int->Int->V}{g:Int->Int->D}(hg:∀ K H i j,Rep K H (g i j) (gv i j)):OpD X.K E (rI0 gv) (iop (fun _ _=>true) g):=by
 intro x y v u H Ha Q hs r1 r2 q;unfold iop at q;cases x with
 | int i =>
  cases y with
  | int j=>simp only[if_pos] at q;exact⟨i,j,zan.mp r1,zan.mp r2,zbn hs q (hg _ _ i j)⟩
  | _=>exact q.elim
 | _=>exact q.elim
theorem ri {K:saj}{H:Hp}(n:Int):Rep K H (.int n) (.int n):=zan.mpr rfl
theorem rb {K:saj}{H:Hp}(n:Bool):Rep K H (.bl n) (.bl n):=zaq.mpr rfl
abbrev zl9:=iop (fun _ _=>true) fun i j=>.int (i-j)
abbrev zqz:=iop zgR fun i j=>.int (i.fdiv j)
abbrev zdW:=iop (fun _ j=>decide (j≠0)) fun i j=>.int (i.fmod j)
abbrev zs4:=iop (fun i j=>decide (0<=j)&&decide (j<=1000000)&&decide (i.natAbs < 18446744073709551616)) fun i j=>.int (i ^ j.toNat)
abbrev dLt:=iop (fun _ _=>true) fun i j=>.bl (decide (i < j))
abbrev dLe:=iop (fun _ _=>true) fun i j=>.bl (decide (i<=j))
abbrev dGt:=iop (fun _ _=>true) fun i j=>.bl (decide (j < i))
abbrev dGe:=iop (fun _ _=>true) fun i j=>.bl (decide (j<=i))
theorem zAT:OpR X (binaryOp .Mult) (rI IntMulOk fun i j=>.int (i*j)):=opI fun _ _ _ _ _ _ _ hc q=>mul_int q hc
theorem zAV:OpR X (binaryOp .FloorDiv) (rI (fun i j=>j≠0/\sb2 i j=false) fun i j=>.int (i.fdiv j)):=opI fun _ _ _ _ _ _ _ hc q=>floordiv_int hc.1 q (.inl hc.2)
theorem znf (ha:DE X E a f)(hb:DE X E b g):DE X E (.BinOp a .Sub b pos) (zac f g zl9):=zp9 zDk (zco fun _ _ _ _=>ri _) ha hb
theorem zqa (ha:DE X E a f)(hb:DE X E b g):DE X E (.BinOp a .FloorDiv b pos) (zac f g zqz):=zp9 zAV (zsz (fun _ _ h=>zgR.ok h) fun _ _ _ _=>ri _) ha hb
theorem zbY (ha:DE X E a f)(hb:DE X E b g):DE X E (.BinOp a .Mod b pos) (zac f g zdW):=zp9 zAU (zsz (fun _ _ h=>of_decide_eq_true h) fun _ _ _ _=>ri _) ha hb
theorem zj5 (ha:DE X E a f)(hb:DE X E b g):DE X E (.BinOp a .Pow b pos) (zac f g zs4):=zp9 zDn (zsz (fun i j h=>by
 rw[saF,saF] at h;exact⟨of_decide_eq_true h.1.1,of_decide_eq_true h.1.2,of_decide_eq_true h.2⟩) fun _ _ _ _=>ri _) ha hb
theorem nm {op:CmpOp}{b:Expr}(h1:op≠.In:=by decide)(h2:op≠.NotIn:=by decide):behindInMarks op b=false:=zsD _ h1 h2
def znq (x:D):Res D:=match x with
 | .int i=>.ok (.int (-i))
 | _=>.stuck
theorem zj6 (ha:DE X E a f):DE X E (.UnaryOp .USub a pos) (zaY f znq):=zFL zzA (by
 intro x v H Ha Q hs r q;cases x with
 | int i=>exact⟨i,zan.mp r,zbn hs q (ri _)⟩
 | _=>exact q.elim) ha
theorem zvw:OpR X (binaryOp .Add) (fun x y H Q=>∃ l b xs zs,x=.ref l/\y=.ref b/\SqL X.K H l xs/\SqL X.K H b zs/\xs.length+zs.length<=sizeLine/\∀ p,H p=none->Q (.ref p) (upd H p (.lst (xs++zs)))):=by
 intro pins s σ H x y v u Q I rx ry h;obtain⟨l,b,xs,zs,rfl,rfl,hH,hB,hz,q⟩:=h;cases rx;cases ry;obtain⟨its,r,pl,z⟩:=I.list hH;obtain⟨its2,r2,pl2,z2⟩:=I.list hB;obtain⟨⟨cls,dd,data,sl⟩,ho,hc,n,hd⟩:=pl.isList;obtain⟨⟨cls2,dd2,data2,sl2⟩,ho2,hc2,n2,hd2⟩:=pl2.isList;simp only at hc hd hc2 hd2;subst hc hd hc2 hd2;have e:its.toArray++its2.toArray=(its++its2).toArray:=by simp
 have l1:=r.length;have l2:=r2.length;refine concat_meets ⟨_,ho,rfl⟩ ⟨_,ho2,rfl⟩ noFill_list_add seq_list_add PySem.F.slot_list_add PySem.F.entry_list_add (PySem.F.args_list_add_2 _ _) (list_addW l b its.toArray its2.toArray n n2 dd dd2 sl sl2 (by simp only[san];omega)) ⟨ho,ho2,?_⟩;rw[e];exact⟨.ref _,_,I.lnew (t':=s.toks) (r.append r2) (by rw[sba];omega),rfl,q _ I.fresh⟩
noncomputable def zca (x y:D):Res D:=match x,y with
 | .int i,.int j=>.ok (.int (i+j))
 | .str i,.str j=>if i.length+j.length<=line then .ok (.str (i++j)) else .stuck
 | .lst ds,.lst es=>if ds.length+es.length<=line then .ok (.lst (ds++es)) else .stuck
 | .tup ds,.tup es=>if ds.isEmpty=false/\ds.length+es.length<=line then .ok (.tup (ds++es)) else .stuck
 | _,_=>.stuck
theorem zba (ha:DE X E a f)(hb:DE X E b g):DE X E (.BinOp a .Add b pos) (zac f g zca):=zp9 (OpR.or zDu (OpR.or ztP (OpR.or zvw zAW))) (by
 intro x y v u H Ha Q hs r1 r2 q;unfold zca at q;cases x with
 | int i =>
  cases y with
  | int j=>exact .inl ⟨i,j,zan.mp r1,zan.mp r2,zbn hs q (ri _)⟩
  | _=>exact q.elim
 | str i =>
  cases y with
  | str j =>
   by_cases h:i.length+j.length<=line
   .simp only[if_pos h] at q
    exact .inr (.inl ⟨i,j,Rep.str_iff.mp r1,Rep.str_iff.mp r2,zdF h,zbn hs q (Rep.str_iff.mpr rfl)⟩)
   .simp only[if_neg h] at q;exact q.elim
  | _=>exact q.elim
 | lst ds =>
  cases y with
  | lst es =>
   by_cases h:ds.length+es.length<=line
   .simp only[if_pos h] at q
    obtain⟨l,vs,rfl,h1,h2⟩:=zao.mp r1;obtain⟨m,us,rfl,k1,k2⟩:=zao.mp r2;refine .inr (.inr (.inl ⟨l,m,vs,us,rfl,rfl,zaM.sqL hs h1,zaM.sqL hs k1,by rw[← h2.length,← k2.length];exact zdF h,fun p hp=>?_⟩));exact q _ _ _ (zaB hs hp) (zao.mpr ⟨p,_,rfl,SqL.of zau,(h2.app k2).mono (zaB hs hp).z⟩)
   .simp only[if_neg h] at q;exact q.elim
  | _=>exact q.elim
 | tup ds =>
  cases y with
  | tup es =>
   by_cases h:ds.isEmpty=false/\ds.length+es.length<=line
   .simp only[if_pos h] at q
    obtain⟨l,vs,rfl,h1,h2⟩:=zaz.mp r1;obtain⟨m,us,rfl,k1,k2⟩:=zaz.mp r2;refine .inr (.inr (.inr ⟨l,m,vs,us,rfl,rfl,zaM.sqT hs h1,zaM.sqT hs k1,fun z=>?_,by rw[← h2.length,← k2.length];exact zdF h.2,fun z=>?_,fun z p hp=>?_⟩))
    .have:=h2.length
     rw[z] at this;have e:ds=[]:=scj.mp this;rw[e] at h;exact absurd h.1 (by decide)
    .have:=k2.length
     rw[z] at this;have e:es=[]:=scj.mp this;rw[e,sbR] at q;exact zbn hs q r1
    .exact q _ _ _ (zaB hs hp) (zaz.mpr ⟨p,_,rfl,SqT.of zau,(h2.app k2).mono (zaB hs hp).z⟩)
   .simp only[if_neg h] at q;exact q.elim
  | _=>exact q.elim
 | _=>exact q.elim) ha hb
noncomputable def dIx (x y:D):Res D:=match y with
 | .int i=>match x with
  | .lst ds=>match atI ds i with
   | some d=>.ok d
   | none=>.stuck
  | .tup ds=>match atI ds i with
   | some d=>.ok d
   | none=>.stuck
  | .str z=>if z.length<=line then match atI z.cps.toList i with
   | some c=>.ok (.str ⟨#[c]⟩)
   | none=>.stuck else .stuck
  | _=>.stuck
 | _=>.stuck
theorem Reps.atI {K:saj}{H:Hp}{ds:List D}{vs:List V}{i:Int}{d:D}(h:Reps K H ds vs)(e:atI ds i=some d):∃ v,L2.atI vs i=some v/\Rep K H d v:=by
 unfold L2.atI at e ⊢;rw[← h.length];cases q:ixN ds.length i with
 | none=>rw[q] at e;cases e
 | some j =>
  rw[q] at e;exact h.get e
theorem zFt:OpD X.K E (rIx X.K) dIx:=by
 intro x y v u H Ha Q hs r1 r2 q;unfold dIx at q;cases y with
 | int i =>
  cases x with
  | lst ds =>
   obtain⟨l,vs,rfl,h1,h2⟩:=zao.mp r1;cases e:atI ds i with
   | none=>simp only[e] at q;exact q.elim
   | some d =>
    simp only[e] at q;obtain⟨w,e1,e2⟩:=h2.atI e;exact .inl ⟨l,vs,i,w,rfl,zan.mp r2,zaM.sqL hs h1,e1,zbn hs q e2⟩
  | tup ds =>
   obtain⟨l,vs,rfl,h1,h2⟩:=zaz.mp r1;cases e:atI ds i with
   | none=>simp only[e] at q;exact q.elim
   | some d =>
    simp only[e] at q;obtain⟨w,e1,e2⟩:=h2.atI e;exact .inr (.inl ⟨l,vs,i,w,rfl,zan.mp r2,zaM.sqT hs h1,e1,zbn hs q e2⟩)
  | str z =>
   by_cases hz:z.length<=line
   .simp only[if_pos hz] at q
    cases e:atI z.cps.toList i with
    | none=>simp only[e] at q;exact q.elim
    | some c =>
     simp only[e] at q;exact .inr (.inr ⟨z,i,c,Rep.str_iff.mp r1,zan.mp r2,zdF hz,e,zbn hs q (Rep.str_iff.mpr rfl)⟩)
   .simp only[if_neg hz] at q;exact q.elim
  | _=>exact q.elim
 | _=>exact q.elim
theorem zaf (ha:DE X E a f)(hb:DE X E b g)(hs:zr5 b:=by intro _ _;rfl):DE X E (.Subscript a b pos) (zac f g dIx):=zFM zDT zFt ha hb hs
def zfC:Ev->Res (Option Int):=fun _=>.ok none
def zci (f:Ev->Res D):Ev->Res (Option Int):=fun ρ=>(f ρ).bind fun x=>match x with
 | .int i=>.ok (some i)
 | _=>.stuck
noncomputable def tDO (K:saj) (E:XK) (f:Ev->Res (Option Int)):TO:=fun σ H Q=>∃ Ha ρ,zaM Ha H/\zhb K Ha σ ρ/\match f ρ with
 | .ok o=>∀ H' Ha',zcv H Ha H' Ha'->Q o H'
 | .exn x=>∀ C ox H' Ha',zcv H Ha H' Ha'->ExR K Ha' x C ox->E C ox H'
 | .stuck=>False
structure DO (X:Cx) (E:XK) (e:Option Expr) (f:Ev->Res (Option Int)):Prop where
 o:PO X e (tDO X.K E f)
theorem zvi {eo:Option Expr}{t t':TO}(h:PO X eo t)(w:∀ σ H Q,t' σ H Q->t σ H Q):PO X eo t':=fun pins s σ H Q I q=>h pins s σ H Q I (w σ H Q q)
theorem zgQ:DO X E none zfC:=⟨zvi zAH fun σ H Q ⟨Ha,ρ,hs,hr,q⟩=>q H Ha (zcv.refl hs)⟩
theorem zby (ha:DE X E a f):DO X E (some a) (zci f):=by
 refine⟨?_⟩;refine zvi (zAG ha.o) fun σ H Q ⟨Ha,ρ,hs,hr,q⟩=>⟨Ha,ρ,hs,hr,?_⟩
 unfold zci at q;cases e1:f ρ with
 | stuck=>rw[e1] at q;exact q
 | exn x=>rw[e1] at q;exact q
 | ok d =>
  rw[e1] at q;intro v H1 H01 g1 r1;cases d with
  | int i=>exact⟨i,zan.mp r1,q H1 H01 g1⟩
  | _=>exact q.elim
def zmA (xs:List D)(lo hi:Option Int):List D:=(xs.drop (HT.sIx xs.length 0 lo)).take (HT.sIx xs.length xs.length hi-HT.sIx xs.length 0 lo)
theorem Reps.cut {K:saj}{H:Hp}{ds:List D}{vs:List V}(h:Reps K H ds vs)(lo hi:Option Int):Reps K H (zmA ds lo hi) (zz2 vs lo hi):=by
 unfold zmA zz2;rw[← h.length];exact(h.drop _).take _
theorem zqG {r:V->Option Int->Option Int->Hp->VK->Prop}{lo hi:Ev->Res (Option Int)}{m:D->Option Int->Option Int->Res D}
  (ho:∀ x v l h H Ha Q,zaM Ha H->Rep X.K Ha x v->post X.K E H Ha (m x l h) Q->r v l h H Q)(σ:L2.St)(H:Hp)(Q:VK)
  (h:tD X.K E (fun ρ=>(f ρ).bind fun x=>(lo ρ).bind fun l=>(hi ρ).bind fun h=>m x l h) σ H Q):tSl r (tD X.K E f) (tDO X.K E lo) (tDO X.K E hi) σ H Q:=by
 obtain⟨Ha,ρ,hs,hr,q⟩:=h;refine⟨Ha,ρ,hs,hr,?_⟩;replace q:post X.K E H Ha ((f ρ).bind fun x=>(lo ρ).bind fun l=>(hi ρ).bind fun h=>m x l h) Q:=q;cases e1:f ρ with
 | stuck=>rw[e1] at q;exact q
 | exn x=>rw[e1] at q;exact q
 | ok x =>
  rw[e1] at q;intro v H1 H01 g1 r1;refine⟨H01,ρ,g1.sub,hr.mono g1.z,?_⟩;replace q:post X.K E H Ha ((lo ρ).bind fun l=>(hi ρ).bind fun h=>m x l h) Q:=q;replace q:=q.grow g1;cases e2:lo ρ with
  | stuck=>rw[e2] at q;exact q
  | exn x=>rw[e2] at q;exact q
  | ok l =>
   rw[e2] at q;intro H2 H02 g2;refine⟨H02,ρ,g2.sub,(hr.mono g1.z).mono g2.z,?_⟩;replace q:post X.K E H1 H01 ((hi ρ).bind fun h=>m x l h) Q:=q;replace q:=q.grow g2;cases e3:hi ρ with
   | stuck=>rw[e3] at q;exact q
   | exn x=>rw[e3] at q;exact q
   | ok h =>
    rw[e3] at q;intro H3 H03 g3;exact ho x v l h H3 H03 Q g3.sub ((r1.mono g2.z).mono g3.z) (post.grow (r:=m x l h) q g3)
def m1 (m:D->Res D)(ds:List D):Res D:=match ds with
 | [x]=>m x
 | _=>.stuck
def m2 (m:D->D->Res D)(ds:List D):Res D:=match ds with
 | [x,y]=>m x y
 | _=>.stuck
theorem zug {r:List V->Hp->VK->Prop}{m:D->Res D}(h:∀ x v H Ha Q,zaM Ha H->Rep X.K Ha x v->post X.K E H Ha (m x) Q->r [v] H Q):zl8 X E r (m1 m):=by
 intro ds vs H Ha Q hs hr q;unfold m1 at q
 match ds,hr,q with
 | [x],hr,q =>
  obtain⟨v,r',rfl,h1,h2⟩:=zap.mp hr;rw[Reps.nil_iff.mp h2];exact h x v H Ha Q hs h1 q
 | [],_,q=>exact q.elim
 | _::_::_,_,q=>exact q.elim
theorem zFS {r:List V->Hp->VK->Prop}{m:D->D->Res D}(h:∀ x y v u H Ha Q,zaM Ha H->Rep X.K Ha x v->Rep X.K Ha y u->post X.K E H Ha (m x y) Q->r [v,u] H Q):zl8 X E r (m2 m):=by
 intro ds vs H Ha Q hs hr q;unfold m2 at q
 match ds,hr,q with
 | [x,y],hr,q =>
  obtain⟨v,r',rfl,h1,h2⟩:=zap.mp hr;obtain⟨u,r'',rfl,h3,h4⟩:=zap.mp h2;rw[Reps.nil_iff.mp h4];exact h x y v u H Ha Q hs h1 h3 q
 | [],_,q=>exact q.elim
 | [_],_,q=>exact q.elim
 | _::_::_::_,_,q=>exact q.elim
def zxy (x:D):Res D:=match x with
 | .int i=>.ok (.int (if i < 0 then -i else i))
 | _=>.stuck
def zGS (x y:D):Res D:=match x,y with
 | .int i,.int j=>.ok (.int (if j > i then j else i))
 | _,_=>.stuck
def zgt (x:D):Res D:=match x with
 | .lst ds=>.ok (.int ds.length)
 | .tup ds=>.ok (.int ds.length)
 | .str z=>if z.length<=line then .ok (.int z.length) else .stuck
 | _=>.stuck
def zz1 (x:D):Res D:=match x with
 | .int i=>.ok (.int i)
 | .bl b=>.ok (.int (if b then 1 else 0))
 | _=>.stuck
def zih (x:D):Res D:=match x with
 | .lst ds=>.ok (.lst ds)
 | .tup ds=>.ok (.lst ds)
 | _=>.stuck
theorem zlQ:zl8 X E (fun xs H Q=>∃ i,xs=[.int i]/\Q (.int (if i < 0 then -i else i)) H) (m1 zxy):=zug fun x v H Ha Q hs r q=>by
 cases x with
 | int i=>exact⟨i,by rw[zan.mp r],zbn hs q (ri _)⟩
 | _=>exact q.elim
theorem zbP:zl8 X E (fun xs H Q=>∃ x n,xs=[x]/\zGm X.K x H n/\Q (.int n) H) (m1 zgt):=zug fun x v H Ha Q hs r q=>by
 cases x with
 | lst ds =>
  obtain⟨p,vs,rfl,h1,h2⟩:=zao.mp r;refine⟨_,vs.length,rfl,.inl ⟨vs,zaM.sqL hs h1,rfl⟩,?_⟩;rw[← h2.length];exact zbn hs q (ri _)
 | tup ds =>
  obtain⟨p,vs,rfl,h1,h2⟩:=zaz.mp r;refine⟨_,vs.length,rfl,.inr ⟨vs,zaM.sqT hs h1,rfl⟩,?_⟩;rw[← h2.length];exact zbn hs q (ri _)
 | str z =>
  unfold zgt at q
  by_cases hz:z.length<=line
  .simp only[if_pos hz] at q
   rw[Rep.str_iff.mp r];exact⟨_,z.length,rfl,⟨zdF hz,rfl⟩,zbn hs q (ri _)⟩
  .simp only[if_neg hz] at q;exact q.elim
 | _=>exact q.elim
theorem zjD:zl8 X E (fun xs H Q=>∃ p ys,xs=[.ref p]/\(SqL X.K H p ys∨SqT X.K H p ys)/\∀ l,H l=none->Q (.ref l) (upd H l (.lst ys))) (m1 zih):=zug fun x v H Ha Q hs r q=>by
 cases x with
 | lst ds =>
  obtain⟨p,vs,rfl,h1,h2⟩:=zao.mp r;exact⟨p,vs,rfl,.inl (zaM.sqL hs h1),fun n hn=>q _ _ _ (zaB hs hn) (zao.mpr ⟨n,_,rfl,SqL.of zau,h2.mono (zaB hs hn).z⟩)⟩
 | tup ds =>
  obtain⟨p,vs,rfl,h1,h2⟩:=zaz.mp r;exact⟨p,vs,rfl,.inr (zaM.sqT hs h1),fun n hn=>q _ _ _ (zaB hs hn) (zao.mpr ⟨n,_,rfl,SqL.of zau,h2.mono (zaB hs hn).z⟩)⟩
 | _=>exact q.elim
theorem zeA {T:String}{r:List V->Hp->VK->Prop}{m:List D->Res D}{x:Str}{p:Pos}(hc:zky X (.type T) r)(hd:zl8 X E r m)(hg:Gl X x)(hm:X.mg x=none)(hv:bootBuiltins x=some (.type T))(ha:DA X E (e::es) fa)(hn:x≠"__name__":=by decide)(hdb:(x==("__debug__" : Str))=false:=by decide)
  (he:starEach (e::es) X.env=(false,eval e X.env)::starEach es X.env:=by exact zaN rfl)(hpl:(backTo pos (starEach es X.env)).any (·.1)=false:=by exact zbR rfl):DE X E (.Call (.Name x p) (e::es) [] pos) (zak fa m) :=
 ⟨zaX (zpH hc hg hm hv ha.o hn hdb he hpl) (ziZ hd)⟩
theorem zBM {x:Expr}{p:Pos}(hg:Gl X "list")(hm:X.mg "list"=none)(ha:DA X E [x] fa)(he:starEach [x] X.env=(false,eval x X.env)::starEach [] X.env:=by exact zaN rfl)(hpl:(backTo pos (starEach [] X.env)).any (·.1)=false:=by exact zbR rfl) :
  DF X E (.Call (.Name "list" p) [x] [] pos) (zak fa (m1 zih)):=by
 refine⟨?_⟩;refine zaX (zpH zcu hg hm PyProof.Rows.Boot.«list» ha.o (by decide) (by decide) he hpl) fun σ H Q h=>?_;obtain⟨Ha,ρ,hs,hr,q⟩:=h;refine⟨Ha,ρ,hs,hr,?_⟩;unfold zak at q;cases e1:fa ρ with
 | stuck=>rw[e1] at q;exact q
 | exn x=>rw[e1] at q;exact q
 | ok ds =>
  rw[e1] at q;intro vs H1 H01 g1 r1;have fin:∀ (es:List D) (us:List V) (p:Addr),m1 zih ds=.ok (.lst es)->H1 p=none->Reps X.K H01 es us->Q (.ref p) (upd H1 p (.lst us)):=fun es us p hm hp hu=>by
   have h0:H01 p=none:=g1.sub.free hp;have q':∀ p vs H' Ha',zcv H Ha H' Ha'->H p=none->Ha' p=none->H' p=some (.lst vs)->Reps X.K Ha' es vs->Q (.ref p) H':=by
    have q2:match m1 zih ds with
     | .ok (.lst ds)=>∀ p vs H' Ha',zcv H Ha H' Ha'->H p=none->Ha' p=none->H' p=some (.lst vs)->Reps X.K Ha' ds vs->Q (.ref p) H'
     | .ok _=>False
     | .exn x=>∀ C ox H' Ha',zcv H Ha H' Ha'->ExR X.K Ha' x C ox->E C ox H'
     | .stuck=>False:=q
    rw[hm] at q2;exact q2
   refine q' p us _ H01 (g1.trans ⟨fun b o q=>by rw[zav (zaJ q hp)];exact q,zaM.refl _,fun b o q=>?_,fun a h1 h2=>absurd h2 h1⟩) (g1.s.free hp) h0 zau hu;rw[zav (by intro z;subst z;rw[h0] at q;cases q)];exact g1.sub _ _ q
  have q2:match m1 zih ds with
     | .ok (.lst ds)=>∀ p vs H' Ha',zcv H Ha H' Ha'->H p=none->Ha' p=none->H' p=some (.lst vs)->Reps X.K Ha' ds vs->Q (.ref p) H'
     | .ok _=>False
     | .exn x=>∀ C ox H' Ha',zcv H Ha H' Ha'->ExR X.K Ha' x C ox->E C ox H'
     | .stuck=>False:=q
  match ds,r1,q2,fin with
  | [],_,q2,_=>exact q2.elim
  | _::_::_,_,q2,_=>exact q2.elim
  | [x],r1,q2,fin =>
   obtain⟨v,r',rfl,h1,h2⟩:=zap.mp r1;rw[Reps.nil_iff.mp h2];cases x with
   | lst ds =>
    obtain⟨p,vs,rfl,k1,k2⟩:=zao.mp h1;exact⟨p,vs,rfl,.inl (zaM.sqL g1.sub k1),fun n hn=>fin ds vs n rfl hn k2⟩
   | tup ds =>
    obtain⟨p,vs,rfl,k1,k2⟩:=zaz.mp h1;exact⟨p,vs,rfl,.inr (zaM.sqT g1.sub k1),fun n hn=>fin ds vs n rfl hn k2⟩
   | _=>exact q2.elim
def zt3:D->Bool
 | .non=>true
 | _=>false
def zoU (x y:D):Res D:=match y with
 | .non=>.ok (.bl (zt3 x))
 | _=>.stuck
def zjC (x y:D):Res D:=match y with
 | .non=>.ok (.bl (!(zt3 x)))
 | _=>.stuck
theorem Rep.is_non {K:saj}{H:Hp}{x:D}{v:V}(r:Rep K H x v):decide (v=.non)=zt3 x:=by
 cases x with
 | non=>rw[zaF.mp r];rfl
 | bl b=>rw[zaq.mp r];rfl
 | int b=>rw[zan.mp r];rfl
 | str b=>rw[Rep.str_iff.mp r];rfl
 | tup ds=>obtain⟨_,_,e,_⟩:=zaz.mp r;rw[e];rfl
 | lst ds=>obtain⟨_,_,e,_⟩:=zao.mp r;rw[e];rfl
 | dic ks ds=>rw[Rep] at r;obtain⟨_,_,_,e,_⟩:=r;rw[e];rfl
 | exc x=>obtain⟨_,_,_,e,_⟩:=zeq.mp r;rw[e];rfl
 | ob k x=>obtain⟨_,_,e,_⟩:=zcX.mp r;rw[e];rfl
theorem zjT:OpD X.K E (fun x y H Q=>y=.non/\Q (.bl (decide (x=.non))) H) zoU:=by
 intro x y v u H Ha Q hs r1 r2 q;unfold zoU at q;cases y with
 | non=>exact⟨zaF.mp r2,by rw[r1.is_non];exact zbn hs q (rb _)⟩
 | _=>exact q.elim
theorem zvz:OpD X.K E (fun x y H Q=>y=.non/\Q (.bl (!decide (x=.non))) H) zjC:=by
 intro x y v u H Ha Q hs r1 r2 q;unfold zjC at q;cases y with
 | non =>
  refine⟨zaF.mp r2,?_⟩;rw[r1.is_non];exact zbn hs q (rb _)
 | _=>exact q.elim
noncomputable def tyD:D->String
 | .non=>"NoneType"
 | .bl _=>"bool"
 | .int _=>"int"
 | .str _=>"str"
 | .tup _=>"tuple"
 | .lst _=>"list"
 | .dic _ _=>"dict"
 | .exc _=>"<exc>"
 | .ob (.ins _ _) _=>"<exc>"
 | .ob (.dint _) _=>"dict"
 | .ob (.exf _ _) _=>"<exc>"
def zcY (T:String)(x:D):Res D:=.ok (.bl (tyD x==T||(tyD x=="bool"&&T=="int")))
def zsa (K:saj)(T:String):Prop:=∀ S,S∈["NoneType","bool","int","str","tuple","list","dict"]->sdg K (.type S) (.type T)=some (S==T||(S=="bool"&&T=="int"))
theorem zyZ {pins:List (Addr×Obj)}{σ:L2.St}{H:Hp}{s:Shared}{A:Around}{Q:Value->Shared->Prop}{x:D}{v:V}{u:Value}{T:String}(I:Inv X pins σ H s)(r:Rep X.K H x v)(q:zcj v u)(hk:zsa X.K T)(hT:T∈zg0)(h:∀ tk,Q (.bool (tyD x==T||(tyD x=="bool"&&T=="int"))) { s with toks:=tk }) :
  wpAny (model X.prog X.w) A (call (.builtin "isinstance") [u,.type T]) Q X.xe s:=by
 cases x with
 | non=>rw[zaF.mp r] at q;exact ziB I q .non (hk _ (by simp)) h
 | bl b=>rw[zaq.mp r] at q;exact ziB I q (.bl b) (hk _ (by simp)) h
 | int b=>rw[zan.mp r] at q;exact ziB I q (.int b) (hk _ (by simp)) h
 | str b=>rw[Rep.str_iff.mp r] at q;exact ziB I q (.str b) (hk _ (by simp)) h
 | tup ds =>
  obtain⟨a,vs,its,rfl,rfl,h1,h2,h3,h4,_⟩:=zaV I r q;obtain⟨o,k1,k2,_⟩:=h4;exact sbv W.kitx_tuple I.kIn ⟨o,k1,k2⟩ (hk _ (by simp)) (fun z=>nomatch z) h
 | lst ds =>
  obtain⟨a,vs,its,rfl,rfl,h1,h2,h3,h4,_⟩:=zaL I r q;obtain⟨o,k1,k2,_⟩:=h4;exact sbv W.kitx_list I.kIn ⟨o,k1,k2⟩ (hk _ (by simp)) (fun z=>nomatch z) h
 | dic ks ds =>
  rw[Rep] at r;obtain⟨a,kvs,vs,rfl,h1,h2,_⟩:=r;cases (show u=saR a from q);obtain⟨_,_,vs',_,p⟩:=h1.ok I.hok;obtain⟨o,es,ep,k1,k2,_⟩:=p;exact sbv W.kitx_dict I.kIn ⟨o,k1,k2.1⟩ (hk _ (by simp)) (fun z=>nomatch z) h
 | exc x =>
  obtain⟨a,C,dc,rfl,hc,h1⟩:=zeq.mp r;cases (show u=saR a from q);obtain⟨p,_,_⟩:=h1.ok I.hok;have e:(tyD (.exc x)==T||(tyD (.exc x)=="bool"&&T=="int"))=false:=by
   have:∀ T∈zg0,(tyD (.exc x)==T||(tyD (.exc x)=="bool"&&T=="int"))=false:=by show ∀ T∈zg0,("<exc>"==T||("<exc>"=="bool"&&T=="int"))=false;decide
   exact this T hT
  rw[e] at h;exact sbv (zoi hc.ek hc.ek.isCls) I.kIn p (hc.bt T hT) (fun z=>nomatch z) h
 | ob k xs =>
  obtain⟨a,vs,rfl,h1,_⟩:=zcX.mp r;cases (show u=saR a from q);cases k with
  | exf c ks =>
   obtain⟨C,dx,fs,hc,h2,_⟩:=h1;obtain⟨p,_,_⟩:=h2.ok I.hok;have e:(tyD (.ob (.exf c ks) xs)==T||(tyD (.ob (.exf c ks) xs)=="bool"&&T=="int"))=false:=by
    have:∀ T∈zg0,("<exc>"==T||("<exc>"=="bool"&&T=="int"))=false:=by decide
    exact this T hT
   rw[e] at h;exact sbv (zoi hc.ek hc.ek.isCls) I.kIn p (hc.bt T hT) (fun z=>nomatch z) h
  | ins c ks =>
   obtain⟨C,dx,_,hc,h2,_⟩:=h1;obtain⟨mA,O,_⟩:=zv1 I.hok h2;obtain⟨od,O',_⟩:=O.look;have e:(tyD (.ob (.ins c ks) xs)==T||(tyD (.ob (.ins c ks) xs)=="bool"&&T=="int"))=false:=by
    have:∀ T∈zg0,(tyD (.ob (.ins c ks) xs)==T||(tyD (.ob (.ins c ks) xs)=="bool"&&T=="int"))=false:=by show ∀ T∈zg0,("<exc>"==T||("<exc>"=="bool"&&T=="int"))=false;decide
    exact this T hT
   rw[e] at h;exact sbv (W.kitx_own (hc.cls.get _) hc.cls.hd hc.gc hc.gn hc.tk hc.mo) I.kIn O' (hc.bt T hT) (fun z=>nomatch z) h
  | dint ks =>
   obtain⟨kvs,h2,_⟩:=h1;obtain⟨_,_,vs',_,p⟩:=h2.ok I.hok;obtain⟨o,es,ep,k1,k2,_⟩:=p;exact sbv W.kitx_dict I.kIn ⟨o,k1,k2.1⟩ (hk _ (by simp)) (fun z=>nomatch z) h
theorem zbp {T:String}{x:Str}{p1 p2:Pos}(hk:zsa X.K T)(hgi:Gl X "isinstance")(hmi:X.mg "isinstance"=none)(hg:Gl X x)(hm:X.mg x=none)(hv:bootBuiltins x=some (.type T))(ha:DE X E a f)
  (hn:x≠"__name__":=by decide)(hdb:(x==("__debug__" : Str))=false:=by decide)(hT:T∈zg0:=by decide)
  (he:starEach [a,.Name x p2] X.env=(false,eval a X.env)::starEach [.Name x p2] X.env:=by exact zaN rfl)(he2:starEach [.Name x p2] X.env=(false,eval (.Name x p2) X.env)::starEach [] X.env:=by exact zaN rfl)(hpl:(backTo pos (starEach [.Name x p2] X.env)).any (·.1)=false:=by exact zbR rfl) :
  DE X E (.Call (.Name "isinstance" p1) [a,.Name x p2] [] pos) (zaY f (zcY T)):=by
 refine⟨?_⟩;refine zaX (zn6 (r:=fun vs H Q=>∃ d v,vs=[v,.ty T]/\Rep X.K H d v/\Q (.bl (tyD d==T||(tyD d=="bool"&&T=="int"))) H) ?_ hgi hmi PyProof.Rows.Boot.«isinstance» (zdE ha.o (zdE (zvo (v:=.ty T) hg hm hv rfl hn hdb) ziw he2) he) (by decide) (by decide) he hpl) fun σ H Q ⟨Ha,ρ,hs,hr,q⟩=>⟨Ha,ρ,hs,hr,?_⟩
 .intro pins s σ H xs us Q I r h
  obtain⟨d,v,rfl,h1,q⟩:=h;cases r with
  | cons r1 r2 =>
   cases r2 with
   | cons r3 r4 =>
    cases r4;rename_i u1 u2;obtain rfl:u2=Value.type T:=r3;exact zyZ I h1 r1 hk hT fun tk=>⟨.bl _,H,I.tok _,rfl,q⟩
 .unfold zaY at q
  cases e1:f ρ with
  | stuck=>rw[e1] at q;exact q
  | exn x=>rw[e1] at q;exact q
  | ok d =>
   rw[e1] at q;intro v H1 H01 g1 r1;exact⟨d,v,rfl,r1.mono g1.sub,q _ H1 H01 g1 (rb _)⟩
end
theorem zp8 {prog:Program}{w:World}{A:Around}{E:Value->Shared->Prop}{it t:Addr}{items:Array Value}(hne:t≠it):∀ (n i:Nat) (s:Shared) (Q:List Value->Shared->Prop),s.heap.IsListIter it t i->s.heap.IsList t items->i+n<=items.size ->
  (∀ h',h'.IsListIter it t (i+n)->sbN it s.heap h'->Q ((items.toList.drop i).take n) { s with heap:=h' })->wpAny (model prog w) A (draw (.ref it) n) Q E s
 | 0,i,s,Q,hit,_,_,hQ=>by
  show wpAny _ _ (pure []) Q E s;exact sau (by simpa using hQ s.heap hit (sbN.refl ..))
 | n+1,i,s,Q,hit,ht,hle,hQ=>by
  have hlt:i < items.size:=by omega
  show wpAny _ _ (pyNext (.ref it) >>= _) Q E s;refine sae (wpAny_pyNext_list_item hit ht (x:=items[i]) (by simp [hlt]) fun h₁ hit₁ hs₁=>?_);have ht₁:h₁.IsList t items:=by
   obtain⟨o,k1,k2⟩:=ht;exact⟨o,(hs₁.2 t hne).trans k1,k2⟩
  refine sae (sbd (zp8 hne n (i+1) _ _ hit₁ ht₁ (by omega) fun h₂ hit₂ hs₂=>sau ?_));have hd:items.toList.drop i=items[i]::items.toList.drop (i+1):=by simp [sbc,hlt]
  have:=hQ h₂ (by rw[show i+(n+1)=i+1+n by omega];exact hit₂) (hs₁.trans hs₂);rw[hd,List.take_succ_cons] at this;exact this
theorem zkq {prog:Program}{w:World}{A:Around}{E:Value->Shared->Prop}{s:Shared}{t:Addr}{items:Array Value}{Q:List Value->Shared->Prop}(hh:A.handled=none)(ht:s.heap.IsList t items)
  (hQ:∀ h',Heap.ExtBut s.heap.objs.size s.heap h'->Q items.toList { s with heap:=h' }):wpAny (model prog w) A (unpackItems (.ref t) items.size none) Q E s:=by
 have hlt:t≠s.heap.objs.size:=by obtain⟨o,ho,_⟩:=ht;exact saB (sam ho)
 unfold unpackItems;refine sae ?_
 .unfold notIterableAtAll
  refine sae (wpAny_specialOf ht.typeIs slot_list_iter.lookup ?_);refine sau ?_;simp only[sbb,if_false];refine sae (sbd (wpAny_pyIter_list ht ?_));have ht0:(s.heap.push { cls:=.type "list_iterator",data:=.fields #[.ref t,.int 0 0] }).IsList t items:=by
   obtain⟨o,k1,k2⟩:=ht;exact⟨o,sah _ k1,k2⟩
  refine sae (sbd (zp8 hlt items.size 0 _ _ ⟨_,saV _ rfl,rfl,rfl⟩ ht0 (by omega) fun h₁ hit₁ hs₁=>?_));have hall:List.take items.size (List.drop 0 items.toList)=items.toList:=by
   rw[List.drop_zero];exact sc4 (by simp)
  rw[hall];rw[if_neg (by simp)];have ht₁:h₁.IsList t items:=by
   obtain⟨o,k1,k2⟩:=ht0;exact⟨o,(hs₁.2 t hlt).trans k1,k2⟩
  refine sae (sbd (wpAny_pyNext_list_end hh hit₁ ht₁ (by simp) fun h₂ he₂=>?_));simp only[Option.isSome_none,sbb,if_false];refine sau (hQ h₂ fun b o hb e=>he₂ b o hb (hs₁.extBut b o hb (sah _ e)))
def zAy (σ:L2.St):List Nat->List V->L2.St
 | i::is,v::vs=>zAy (σ.set i (some v)) is vs
 | _,_=>σ
def zcC (ρ:Ev):List Nat->List D->Ev
 | i::is,d::ds=>zcC (ρ.set i (.sh d)) is ds
 | _,_=>ρ
theorem SRx.putAll {K:saj}{He H0e Ha H:Hp}:∀ {is:List Nat}{ds:List D}{vs:List V}{σ:L2.St}{ρ:Ev},SRx K He H0e Ha σ H ρ->Reps K Ha ds vs->SRx K He H0e Ha (zAy σ is vs) H (zcC ρ is ds)
 | [],_,_,_,_,h,_=>by unfold zAy zcC;exact h
 | _::_,[],_,_,_,h,r=>by rw[Reps.nil_iff.mp r];unfold zAy zcC;exact h
 | i::is,d::ds,_,_,_,h,r=>by
  obtain⟨v,vs,rfl,h1,h2⟩:=zap.mp r;unfold zAy zcC;exact SRx.putAll (h.put h1) h2
section
variable {X:Cx}{E:XK}{He H0e:Hp}{e a b:Expr}{es:List Expr}{f g:Ev->Res D}{fa:Ev->Res (List D)}{pos:Pos}{is:List Nat}
def tVs (is:List Nat):TGs:=fun vs σ H Q=>vs.length=is.length/\Q (zAy σ is vs) H
theorem zsy {t t':TGs}(h:PGs X es t)(w:∀ vs σ H Q,t' vs σ H Q->t vs σ H Q):PGs X es t':=fun pins s σ H vs us Q I r q=>h pins s σ H vs us Q I r (w vs σ H Q q)
theorem zdb:PGs X [] (tVs []):=zsy zAM fun vs σ H Q ⟨h,q⟩=>by
 have e:vs=[]:=scj.mp h;subst e;exact⟨rfl,q⟩
theorem zaR {i:Nat}{x:Str}{p:Pos}(hN:X.N.Nodup)(hi:X.N[i]?=some x)(hx:Loc X.env.scope x)(h:PGs X es (tVs is))(hf:X.fn x=true∨X.env.scope.names.lookup x=some .local := by first | exact .inl rfl | exact .inr rfl | assumption)
  (hs:(assignEach (.Name x p::es) X.env).map (·.2)=assign (.Name x p) X.env::(assignEach es X.env).map (·.2):=by rfl):PGs X (.Name x p::es) (tVs (i::is)) :=
 zsy (zyI (zvm hN hi hx hf) h hs) fun vs σ H Q ⟨h,q⟩=>by
  cases vs with
  | nil=>simp at h
  | cons v vs=>exact⟨v,vs,rfl,by simpa using h,q⟩
theorem zAN {k:Nat}{t:TGs}{n:Nat}(hc:X.calm=true)(h:PGs X es t)
  (hn:(assignEach es X.env).length=n:=by rfl)(hst:(assignEach es X.env).findIdx? (·.1)=none:=by rfl):PG X (.Tuple es k pos) (fun v σ H Q=>∃ a xs,v=.ref a/\SqL X.K H a xs/\xs.length=n/\t xs σ H Q):=by
 intro pins s σ H v u Q I r hw;obtain⟨a,xs,e1,hq,hl,hw⟩:=hw;subst e1;cases r;obtain⟨its,rv,ht,hz⟩:=I.list hq;rw[assign_Tuple];refine sae (wpAny_standAt ?_);unfold unpack;rw[hn,hst];have hsz:n=its.toArray.size:=by rw[san,← rv.length,hl]
 rw[hsz];refine sae (sbd (zkq (I.ok.hd hc) ht.isList fun h' hx=>?_));have I1:Inv X pins σ H { s with heap:=h' }:=I.kept (t':=s.toks) fun b o e=>hx b o (saB (sam e)) e;exact h pins _ σ H xs _ Q I1 (by simpa using rv) hw
theorem zFn {tgt:Expr}{t t':TG}(h:PG X tgt t)(h':PG X tgt t'):PG X tgt (fun v σ H Q=>t v σ H Q∨t' v σ H Q):=fun pins s σ H v u Q I r q=>q.elim (h pins s σ H v u Q I r) (h' pins s σ H v u Q I r)
theorem zvl {k:Nat}(hc:X.calm=true)(h:PGs X es (tVs is))(hn:(assignEach es X.env).length=is.length:=by rfl)(hst:(assignEach es X.env).findIdx? (·.1)=none:=by rfl) :
  PG X (.Tuple es k pos) (fun v σ H Q=>∃ a xs,v=.ref a/\(SqT X.K H a xs∨SqL X.K H a xs)/\xs.length=is.length/\Q (zAy σ is xs) H) :=
 zqN (zFn (zC9 hc h hn hst) (zAN hc h hn hst)) fun v σ H Q ⟨a,xs,e,hq,hl,q⟩=>hq.elim (fun z=>.inl ⟨a,xs,e,z,hl,hl,q⟩) fun z=>.inr ⟨a,xs,e,z,hl,hl,q⟩
def zc5 (n:Nat)(d:D):Option (List D):=match d with
 | .tup ds=>if ds.length=n then some ds else none
 | .lst ds=>if ds.length=n then some ds else none
 | _=>none
theorem zh1 {K:saj}{H:Hp}{n:Nat}{d:D}{ds:List D}{v:V}(h:zc5 n d=some ds)(r:Rep K H d v):∃ a vs,v=.ref a/\(SqT K H a vs∨SqL K H a vs)/\vs.length=n/\Reps K H ds vs:=by
 unfold zc5 at h;cases d with
 | tup es =>
  by_cases c:es.length=n
  .simp only[if_pos c] at h;cases h
   obtain⟨a,vs,rfl,h1,h2⟩:=zaz.mp r;exact⟨a,vs,rfl,.inl h1,by rw[← h2.length];exact c,h2⟩
  .simp only[if_neg c] at h;cases h
 | lst es =>
  by_cases c:es.length=n
  .simp only[if_pos c] at h;cases h
   obtain⟨a,vs,rfl,h1,h2⟩:=zao.mp r;exact⟨a,vs,rfl,.inr h1,by rw[← h2.length];exact c,h2⟩
  .simp only[if_neg c] at h;cases h
 | _=>cases h
theorem znX {K:saj}{H H':Hp}{a:Addr}{vs:List V}(hs:zaM H H')(h:SqT K H a vs∨SqL K H a vs):SqT K H' a vs∨SqL K H' a vs:=h.elim (fun z=>.inl (zaM.sqT hs z)) fun z=>.inr (zaM.sqL hs z)
def zFc (is:List Nat)(f:Ev->Res D):Ev->Res Fl:=fun ρ=>(f ρ).bind fun d=>match zc5 is.length d with
 | some ds=>.ok (.nx (zcC ρ is ds))
 | none=>.stuck
theorem zEh {k:Nat}{tp:Pos}(hc:X.calm=true)(he:DE X E e f)(h:PGs X es (tVs is))(hs:swapsWithSole [.Tuple es k tp] e pos.line X.env=pure false:=by rfl)(hw:swappedStores [.Tuple es k tp] e X.env=pure none:=by rfl)
  (h1:(assignEach [.Tuple es k tp] X.env).map (·.2)=[assign (.Tuple es k tp) X.env]:=by rfl)(hn:(assignEach es X.env).length=is.length:=by rfl)(hst:(assignEach es X.env).findIdx? (·.1)=none:=by rfl) :
  DS X E He H0e (.Assign [.Tuple es k tp] e pos) (zFc is f):=by
 refine⟨?_⟩;refine zbT (zsx he.o (zvl hc h hn hst) hs hw h1) fun D σ H ⟨Ha,ρ,h,q⟩=>⟨Ha,ρ,h.g.sub,h.rd,?_⟩
 refine plain (k:=fun d=>match zc5 is.length d with
  | some ds=>.ok (.nx (zcC ρ is ds))
  | none=>.stuck) h q fun d v H' Ha' _ g rp q'=>?_
 cases e1:zc5 is.length d with
 | none=>rw[e1] at q';exact q'.elim
 | some ds =>
  rw[e1] at q';obtain⟨a,vs,rfl,k1,k2,k3⟩:=zh1 e1 rp;exact⟨a,vs,rfl,znX g.sub k1,k2,q' _ H' Ha' (zaM.refl _) ((h.grow g).putAll k3)⟩
def zff (is:List Nat):Ev->D->Res Ev:=fun ρ d=>match zc5 is.length d with
 | some ds=>.ok (zcC ρ is ds)
 | none=>.stuck
theorem zcF:zxT (zff is):=fun ρ d=>by
 unfold zff;cases zc5 is.length d with
 | none=>exact .inl rfl
 | some ds=>exact .inr ⟨_,rfl⟩
theorem zgj {k:Nat}(hc:X.calm=true)(h:PGs X es (tVs is))(hn:(assignEach es X.env).length=is.length:=by rfl)(hst:(assignEach es X.env).findIdx? (·.1)=none:=by rfl):DG X E He H0e (.Tuple es k pos) (zff is) :=
 ⟨zqN (zvl hc h hn hst) fun v σ H Q ⟨Ha,ρ,d,h,rp,q⟩=>by
  unfold zff at q;cases e1:zc5 is.length d with
  | none=>rw[e1] at q;exact q.elim
  | some ds =>
   rw[e1] at q;obtain⟨a,vs,rfl,k1,k2,k3⟩:=zh1 e1 rp;exact⟨a,vs,rfl,znX h.g.sub k1,k2,q _ H Ha (zaM.refl _) (h.putAll k3)⟩⟩
def zxY (i j:Nat)(fa:Ev->Res (List D)):Ev->Res Fl:=fun ρ=>(fa ρ).bind fun ds=>match ds with
 | [x,y]=>.ok (.nx ((ρ.set i (.sh x)).set j (.sh y)))
 | _=>.stuck
theorem zEj {i j:Nat}{x y:Str}{px py pt pt2:Pos}{kt k2}(hc:X.calm=true)(hN:X.N.Nodup)(hi:X.N[i]?=some x)(hj:X.N[j]?=some y)(hij:i≠j)
  (hx:X.env.scope.names.lookup x=some .local)(hy:X.env.scope.names.lookup y=some .local)(ha:DA X E [a,b] fa)
  (hw:swappedStores [.Tuple [.Name x px,.Name y py] kt pt] (.Tuple [a,b] k2 pt2) X.env=pure (some [x,y]))
  (hs:swapsWithSole [.Tuple [.Name x px,.Name y py] kt pt] (.Tuple [a,b] k2 pt2) pos.line X.env=pure false:=by rfl) :
  DS X E He H0e (.Assign [.Tuple [.Name x px,.Name y py] kt pt] (.Tuple [a,b] k2 pt2) pos) (zxY i j fa):=by
 refine⟨?_⟩;refine zbT (zC6 hc hN hi hj hij hx hy ha.o hw hs) fun D σ H ⟨Ha,ρ,h,q⟩=>⟨Ha,ρ,h.g.sub,h.rd,?_⟩
 unfold zxY at q;cases e1:fa ρ with
 | stuck=>rw[e1] at q;exact q
 | exn x=>rw[e1] at q;exact fun C ox H' Ha' g ex=>q C ox H' Ha' (h.g.trans g) ex
 | ok ds =>
  rw[e1] at q;intro vs H1 H01 g1 r1
  match ds,r1,q with
  | [x,y],r1,q =>
   obtain⟨v,r',rfl,h1,h2⟩:=zap.mp r1;obtain⟨u,r'',rfl,h3,h4⟩:=zap.mp h2;rw[Reps.nil_iff.mp h4];exact⟨v,u,rfl,q _ H1 H01 g1.z (((h.grow g1).put h1).put h3)⟩
  | [],_,q=>exact q.elim
  | [_],_,q=>exact q.elim
  | _::_::_::_,_,q=>exact q.elim
end
theorem zm0 {K:saj}:zsa K "int":=by
 intro S hS;simp only[sas,scu,or_false] at hS;rcases hS with rfl | rfl | rfl | rfl | rfl | rfl | rfl<;>first | rfl | decide +kernel
theorem zlc {K:saj}:zsa K "bool":=by
 intro S hS;simp only[sas,scu,or_false] at hS;rcases hS with rfl | rfl | rfl | rfl | rfl | rfl | rfl<;>first | rfl | decide +kernel
theorem zmZ {K:saj}:zsa K "str":=by
 intro S hS;simp only[sas,scu,or_false] at hS;rcases hS with rfl | rfl | rfl | rfl | rfl | rfl | rfl<;>first | rfl | decide +kernel
theorem zew {K:saj}:zsa K "tuple":=by
 intro S hS;simp only[sas,scu,or_false] at hS;rcases hS with rfl | rfl | rfl | rfl | rfl | rfl | rfl<;>first | rfl | decide +kernel
theorem zdp {K:saj}:zsa K "list":=by
 intro S hS;simp only[sas,scu,or_false] at hS;rcases hS with rfl | rfl | rfl | rfl | rfl | rfl | rfl<;>first | rfl | decide +kernel
section
variable {X:Cx}{E:XK}{He H0e:Hp}{e a b c:Expr}{f g h:Ev->Res D}{pos:Pos}
theorem dv (i:Nat){x:Str}(hN:X.N[i]?=some x:=by rfl)(hv:Vis X.env.scope x:=by first | exact sap rfl | exact sdy (sap rfl) | exact sdy (sdy rfl))(hd:(x==("__debug__" : Str))=false:=by decide)
  (hcd:(x==("__classdict__" : Str))=false:=by decide):DE X E (.Name x pos) (zag i):=zEn hN hv hd hcd
def Kon (K:saj)(mg:Str->Option Value)(x:Str)(d:D):Prop:=∃ v u,mg x=some u/\zcj v u/\∀ H,Rep K H d v
theorem za9 {x:Str}{d:D}(k:Kon X.K X.mg x d)(hg:Gl X x)(hd:(x==("__debug__" : Str))=false:=by decide):DE X E (.Name x pos) (dC d):=by
 obtain⟨v,u,h1,h2,h3⟩:=k;exact zBO hg h1 h2 h3 hd
theorem zdo {K:saj}{mg:Str->Option Value}{x:Str}{i:Int}{t:Tok}(h:mg x=some (.int i t)):Kon K mg x (.int i):=⟨.int i,_,h,⟨t,rfl⟩,fun _=>ri _⟩
theorem zA6 {K:saj}{mg:Str->Option Value}{x:Str}{i:Str}{t:Tok}(h:mg x=some (.str i t)):Kon K mg x (.str i):=⟨.str i,_,h,⟨t,rfl⟩,fun _=>Rep.str_iff.mpr rfl⟩
theorem zvL {K:saj}{mg:Str->Option Value}{x:Str}{a:Addr}{od:Option Addr}{its:Array Value}{n:Nat}{sl:Array (Option Value)}{ds:List D}{vs:List V}(h:mg x=some (.ref a))(l:K.lookup a=some ⟨.type "tuple",od,.seq its n,sl⟩)
  (hv:zbM vs its.toList)(hz:its.size<=sizeLine)(hd:∀ H,Reps K H ds vs):Kon K mg x (.tup ds):=⟨.ref a,_,h,rfl,fun H=>zaz.mpr ⟨a,vs,rfl,.inr ⟨_,its,n,l,rfl,rfl,hz,hv⟩,hd H⟩⟩
def zhK (op op':D->D->Res D)(f g h:Ev->Res D):Ev->Res D:=fun ρ=>(f ρ).bind fun x=>(g ρ).bind fun y=>(op x y).bind fun z=>match z with
 | .bl true=>(h ρ).bind fun w=>op' y w
 | .bl false=>.ok (.bl false)
 | _=>.stuck
def zr4 (r:R2)(o:D->D->Res D):Prop:=∀ (K:saj) (x y:D) (v u:V) (H Ha:Hp) (Q:VK) (d:D),zaM Ha H->Rep K Ha x v->Rep K Ha y u->o x y=.ok d->(∀ w,Rep K Ha d w->Q w H)->r v u H Q
theorem ze9 {gv:Int->Int->V}{g:Int->Int->D}(hg:∀ K H i j,Rep K H (g i j) (gv i j)):zr4 (rI0 gv) (iop (fun _ _=>true) g):=by
 intro K x y v u H Ha Q d hs r1 r2 e q;unfold iop at e;cases x with
 | int i =>
  cases y with
  | int j=>simp only[if_pos] at e;cases e;exact⟨i,j,zan.mp r1,zan.mp r2,q _ (hg _ _ i j)⟩
  | _=>cases e
 | _=>cases e
def zr6 (o:D->D->Res D):Prop:=∀ x y,∀ z,o x y≠.exn z
theorem zlP {r r':R2}{o o':D->D->Res D}(p:zr4 r o)(p':zr4 r' o')(n:zr6 o)(n':zr6 o')(σ:L2.St)(H:Hp)(Q:VK)(q:tD X.K E (zhK o o' f g h) σ H Q) :
  zuQ r r' (tD X.K E f) (tD X.K E g) (tD X.K E h) σ H Q:=by
 obtain⟨Ha,ρ,hs,hr,q⟩:=q;refine⟨Ha,ρ,hs,hr,?_⟩;unfold zhK at q;cases e1:f ρ with
 | stuck=>rw[e1] at q;exact q
 | exn x=>rw[e1] at q;exact q
 | ok x =>
  rw[e1] at q;intro v H1 H01 g1 r1;refine⟨H01,ρ,g1.sub,hr.mono g1.z,?_⟩;replace q:=post.grow (r:=(g ρ).bind fun y=>(o x y).bind fun z=>match z with
   | .bl true=>(h ρ).bind fun w=>o' y w
   | .bl false=>.ok (.bl false)
   | _=>.stuck) q g1
  cases e2:g ρ with
  | stuck=>rw[e2] at q;exact q
  | exn x=>rw[e2] at q;exact q
  | ok y =>
   rw[e2] at q;intro u H2 H02 g2 r2;replace q:=post.grow (r:=(o x y).bind fun z=>match z with
    | .bl true=>(h ρ).bind fun w=>o' y w
    | .bl false=>.ok (.bl false)
    | _=>.stuck) q g2
   cases e3:o x y with
   | stuck=>rw[e3] at q;exact q.elim
   | exn z=>exact absurd e3 (n x y z)
   | ok z =>
    rw[e3] at q;refine p X.K x y v u H2 H02 _ z g2.sub (r1.mono g2.z) r2 e3 fun w rw'=>?_;cases z with
    | bl b =>
     rw[zaq.mp rw'];refine⟨b,rfl,?_⟩;cases b with
     | false=>rw[if_neg saD];exact q _ H2 H02 (zcv.refl g2.sub) (rb _)
     | true =>
      rw[if_pos rfl];refine⟨H02,ρ,g2.sub,(hr.mono g1.z).mono g2.z,?_⟩;replace q:post X.K E H2 H02 ((h ρ).bind fun w=>o' y w) Q:=q;cases e4:h ρ with
      | stuck=>rw[e4] at q;exact q
      | exn x=>rw[e4] at q;exact q
      | ok w2 =>
       rw[e4] at q;intro v3 H3 H03 g3 r3;replace q:=post.grow (r:=o' y w2) q g3;cases e5:o' y w2 with
       | stuck=>rw[e5] at q;exact q.elim
       | exn z=>exact absurd e5 (n' y w2 z)
       | ok d =>
        rw[e5] at q;exact p' X.K y w2 u v3 H3 H03 Q d g3.sub (r2.mono g3.z) r3 e5 fun w3 r5=>q w3 H3 H03 (zcv.refl g3.sub) r5
    | _=>exact q.elim
theorem zzm {op op':CmpOp}{r r':R2}{o o':D->D->Res D}(ho:OpR X (compareOp op) r)(ho':OpR X (compareOp op') r')(p:zr4 r o)(p':zr4 r' o')(n:zr6 o)(n':zr6 o')(ha:DE X E a f)(hb:DE X E b g)(hc:DE X E c h)
  (hm:lastMarks [op,op'] [b,c]=false:=by with_unfolding_all rfl):DE X E (.Compare a [op,op'] [b,c] pos) (zhK o o' f g h):=⟨zaX (zyM ho ho' ha.o hb.o hc.o hm) (zlP p p' n n')⟩
theorem zs0 {op op':CmpOp}{r r':R2}{o o':D->D->Res D}(ho:OpR X (compareOp op) r)(ho':OpR X (compareOp op') r')(p:zr4 r o)(p':zr4 r' o')(n:zr6 o)(n':zr6 o')(ha:DE X E a f)(hb:DE X E b g)(hc:DE X E c h)
  (hm:lastMarks [op,op'] [b,c]=false:=by with_unfolding_all rfl):DT X E (.Compare a [op,op'] [b,c] pos) (zhK o o' f g h):=by
 refine⟨?_⟩;refine zn4 (zyD ho ho' ha.o hb.o hc.o hm) fun σ H Q q=>?_;have w:tD X.K E (zhK o o' f g h) σ H fun x H'=>∃ k,x=.bl k/\Q k H':=by
  obtain⟨Ha,ρ,hs,hr,q⟩:=q;refine⟨Ha,ρ,hs,hr,?_⟩;cases e1:zhK o o' f g h ρ with
  | stuck=>rw[e1] at q;exact q
  | exn x=>rw[e1] at q;exact q
  | ok d =>
   rw[e1] at q;intro v H1 H01 g1 r1;cases d with
   | bl b=>rw[zaq.mp r1];exact⟨b,rfl,q H1 H01 g1⟩
   | _=>exact q.elim
 exact zlP p p' n n' σ H _ w
theorem zfe {c:Int->Int->Bool}{g:Int->Int->D}:zr6 (iop c g):=by
 intro x y z;unfold iop;cases x<;>cases y<;>simp<;>split<;>simp
end
def zjo (i:Nat):Ev->Nat:=fun ρ=>match ρ[i]? with
 | some (.sh (.int j))=>j.natAbs+1
 | _=>0
section
variable {X:Cx}{E:XK}{a b:Expr}{f g:Ev->Res D}{pos:Pos}
def zbv (x y:D):Res D:=match x,y with
 | .int i,.int j=>if zcA i j=true then .ok (.int (i*j)) else .stuck
 | _,_=>.stuck
theorem zb2 (ha:DE X E a f)(hb:DE X E b g):DE X E (.BinOp a .Mult b pos) (zac f g zbv):=zp9 zAT (by
 intro x y v u H Ha Q hs r1 r2 q;unfold zbv at q;cases x with
 | int i =>
  cases y with
  | int j =>
   by_cases h:zcA i j=true
   .simp only[if_pos h] at q
    exact⟨i,j,zan.mp r1,zan.mp r2,zcA.ok h,zbn hs q (ri _)⟩
   .simp only[if_neg h] at q;exact q.elim
  | _=>exact q.elim
 | _=>exact q.elim) ha hb
end
def zFD (K:saj)(tg:Ev->D->Res Ev):TG:=fun v σ H Q=>∃ He H0e,tG K He H0e tg v σ H Q
theorem Reps.rep {K:saj}{H:Hp}{ds:List D}{vs:List V}(h:Reps K H ds vs):∀ k:Nat,Reps K H (sat k ds).flatten (sat k vs).flatten
 | 0=>by simp;exact Reps.nil
 | k+1=>by
  rw[saX,saX,sbQ,sbQ];exact h.app (Reps.rep h k)
section
variable {X:Cx}{E:XK}{a b:Expr}{f g:Ev->Res D}{pos:Pos}
def zz0 (x y:D):Res D:=match x,y with
 | .lst ds,.int k=>if ds.length*k.toNat<=line/\-9223372036854775808<=k/\k < 9223372036854775808 then .ok (.lst (sat k.toNat ds).flatten) else .stuck
 | _,_=>.stuck
def zsr (f g:Ev->Res D):Ev->Res D:=fun ρ=>(f ρ).bind fun x=>match x with
 | .lst ds=>(g ρ).bind fun y=>zz0 (.lst ds) y
 | _=>.stuck
theorem zlA (ha:DF X E a f)(hb:DE X E b g):DE X E (.BinOp a .Mult b pos) (zsr f g):=by
 refine⟨?_⟩;refine zaX (zAO zDm ha.o hb.o) fun σ H Q ⟨Ha,ρ,hs,hr,q⟩=>⟨Ha,ρ,hs,hr,?_⟩
 unfold zsr at q;cases e1:f ρ with
 | stuck=>rw[e1] at q;exact q
 | exn x=>rw[e1] at q;exact q
 | ok x =>
  rw[e1] at q;cases x with
  | lst ds =>
   replace q:post X.K E H Ha ((g ρ).bind fun y=>zz0 (.lst ds) y) Q:=q;intro p vs H1 H01 g1 hp h0 hv rp;refine⟨H01,ρ,g1.sub,hr.mono g1.z,?_⟩;replace q:=q.grow g1;cases e2:g ρ with
   | stuck=>rw[e2] at q;exact q
   | exn x=>rw[e2] at q;exact q
   | ok y =>
    rw[e2] at q;intro u H2 H02 g2 r2;replace q:=post.grow (r:=zz0 (.lst ds) y) q g2;cases y with
    | int k =>
     unfold zz0 at q
     by_cases c:ds.length*k.toNat<=line/\-9223372036854775808<=k/\k < 9223372036854775808
     .simp only[if_pos c] at q
      refine⟨p,k,vs,rfl,zan.mp r2,g2.s _ _ hv,by omega,by omega,by rw[← rp.length];exact zdF c.1,fun n hn=>?_⟩;exact q _ _ _ (zaB g2.sub hn) (zao.mpr ⟨n,_,rfl,SqL.of zau,((rp.mono g2.z).rep _).mono (zaB g2.sub hn).z⟩)
     .simp only[if_neg c] at q;exact q.elim
    | _=>exact q.elim
  | _=>exact q.elim
def zxv (x:D):Res D:=match x with
 | .lst ds=>.ok (.tup ds)
 | .tup ds=>.ok (.tup ds)
 | _=>.stuck
theorem zzo:zl8 X E (fun xs H Q=>∃ p ys,xs=[.ref p]/\((SqL X.K H p ys/\∀ l,H l=none->Q (.ref l) (upd H l (.tup ys)))∨(SqT X.K H p ys/\Q (.ref p) H))) (m1 zxv):=zug fun x v H Ha Q hs r q=>by
 cases x with
 | lst ds =>
  obtain⟨p,vs,rfl,h1,h2⟩:=zao.mp r;exact⟨p,vs,rfl,.inl ⟨zaM.sqL hs h1,fun n hn=>q _ _ _ (zaB hs hn) (zaz.mpr ⟨n,_,rfl,SqT.of zau,h2.mono (zaB hs hn).z⟩)⟩⟩
 | tup ds =>
  obtain⟨p,vs,e,h1,h2⟩:=zaz.mp r;subst e;exact⟨p,vs,rfl,.inr ⟨zaM.sqT hs h1,zbn hs q r⟩⟩
 | _=>exact q.elim
end
def zhs:List D->Option (List Str)
 | []=>some []
 | .str x::r=>(zhs r).map (x::·)
 | _=>none
theorem zsk {K:saj}{H:Hp}:∀ {ds:List D}{ys:List Str}{vs:List V}{us:List Value},zhs ds=some ys->Reps K H ds vs->zbM vs us->StrsAre us ys
 | [],ys,vs,us,h,r,q=>by
  cases h;rw[Reps.nil_iff.mp r] at q;cases q;exact .nil
 | d::ds,ys,vs,us,h,r,q=>by
  obtain⟨v,r',rfl,h1,h2⟩:=zap.mp r;cases q with
  | cons q1 q2 =>
   cases d with
   | str x =>
    unfold zhs at h;cases e:zhs ds with
    | none=>rw[e] at h;cases h
    | some zs =>
     rw[e] at h;cases h;rw[Rep.str_iff.mp h1] at q1;obtain⟨t,rfl⟩:=q1;exact .cons _ _ (zsk e h2 q2)
   | _=>cases h
section
variable {X:Cx}{E:XK}{o e:Expr}{fo:Ev->Res D}{fa:Ev->Res (List D)}
def zgF (z:Str)(ys:List Str):Bool:=decide (z.length<=16)&&decide ((ys.map (·.length)).sum+ys.length<=1048576)
def zFh (K:saj):V->List V->Hp->VK->Prop:=fun x xs H Q=>∃ z p ds ys,x=.str z/\xs=[.ref p]/\Rep K H (.lst ds) (.ref p)/\zhs ds=some ys/\zgF z ys=true/\Q (.str (Txt.join z ys)) H
theorem zA3:MtR X "str.join" (zFh X.K):=by
 intro pins s σ H x xs v us Q I rx rs h;obtain⟨z,p,ds,ys,rfl,rfl,hr,hy,hf,q⟩:=h;obtain⟨t,rfl⟩:=rx;obtain⟨u,rfl,ru⟩:=rs.one;obtain⟨a,vs,its,ea,rfl,h1,h2,h3,h4,_⟩:=zaL I hr ru;unfold zgF at hf;rw[saF] at hf;exact join_listW h4 (by simpa using zsk hy h2 h3) (of_decide_eq_true hf.1) (of_decide_eq_true hf.2) fun t' k=>⟨.str (Txt.join z ys),H,I.tok _,⟨_,rfl⟩,q⟩
def zqY (z:Str)(xs:List D):Res D:=match xs with
 | [.lst ds]=>match zhs ds with
  | some ys=>if zgF z ys=true then .ok (.str (Txt.join z ys)) else .stuck
  | none=>.stuck
 | _=>.stuck
def zxw (fo:Ev->Res D)(fa:Ev->Res (List D)):Ev->Res D:=fun ρ=>(fo ρ).bind fun x=>match x with
 | .str z=>(fa ρ).bind fun xs=>zqY z xs
 | _=>.stuck
theorem zBN {apos cpos:Pos}(ho:DE X E o fo)(ha:DA X E [e] fa)
  (hbase:attributeBase o "join" X.env (eval o X.env)=eval o X.env:=by rfl)
  (hfew:((backTo cpos (starEach [e] X.env)).all (fun x=>!x.1)&&(backToKw cpos (keywordEach [] X.env)).all (fun x=>x.1.isSome)
  &&decide ([e].length+([]:List Keyword).length+(if([]:List Keyword).isEmpty then 0 else 1) < 30))=true:=by exact zsP rfl)
  (hline:(apos.endLine==cpos.line)=true:=by rfl) (hs:starEach [e] X.env=(false,eval e X.env)::starEach [] X.env:=by exact zaN rfl) (hplain:(backTo cpos (starEach [] X.env)).any (·.1)=false:=by exact zbR rfl) :
  DE X E (.Call (.Attribute o "join" apos) [e] [] cpos) (zxw fo fa):=by
 refine⟨?_⟩;refine zaX (zDh PySem.F.plainAttrs_str PySem.F.slot_str_join PySem.F.type_str_join zA3 ho.o ha.o hbase hfew hline hs hplain) fun σ H Q ⟨Ha,ρ,hs,hr,q⟩=>⟨Ha,ρ,hs,hr,?_⟩
 unfold zxw at q;cases e1:fo ρ with
 | stuck=>rw[e1] at q;exact q
 | exn x=>rw[e1] at q;exact q
 | ok x =>
  rw[e1] at q;intro v H1 H01 g1 r1;cases x with
  | str z =>
   rw[Rep.str_iff.mp r1];refine⟨rfl,H01,ρ,g1.sub,hr.mono g1.z,?_⟩;replace q:=post.grow (r:=(fa ρ).bind fun xs=>zqY z xs) q g1;cases e2:fa ρ with
   | stuck=>rw[e2] at q;exact q
   | exn x=>rw[e2] at q;exact q
   | ok xs =>
    rw[e2] at q;intro us H2 H02 g2 r2;replace q:=post.grow (r:=zqY z xs) q g2;unfold zqY at q
    match xs,r2,q with
    | [.lst ds],r2,q =>
     obtain⟨w,r',rfl,k1,k2⟩:=zap.mp r2;rw[Reps.nil_iff.mp k2];obtain⟨p,vs,rfl,k3,k4⟩:=zao.mp k1;cases e3:zhs ds with
     | none=>simp only[e3] at q;exact q.elim
     | some ys =>
      simp only[e3] at q
      by_cases c:zgF z ys=true
      .rw[if_pos c] at q
       exact⟨z,p,ds,ys,rfl,rfl,k1.mono g2.sub,e3,c,zbn g2.sub q (Rep.str_iff.mpr rfl)⟩
      .rw[if_neg c] at q;exact q.elim
    | [],_,q=>exact q.elim
    | d1::_::_,_,q=>cases d1<;>exact sbg q
    | [.non],_,q=>exact q.elim
    | [.bl _],_,q=>exact q.elim
    | [.int _],_,q=>exact q.elim
    | [.str _],_,q=>exact q.elim
    | [.tup _],_,q=>exact q.elim
    | [.dic _ _],_,q=>exact q.elim
    | [.exc _],_,q=>exact q.elim
    | [.ob _ _],_,q=>exact q.elim
  | _=>exact q.elim
end
section
variable {X:Cx}{E:XK}{a:Expr}{f:Ev->Res D}{pos:Pos}
def zGF:V->Option Int->Option Int->Hp->VK->Prop:=fun x lo hi H Q=>∃ z,x=.str z/\z.length<=sizeLine/\Q (.str (scq z lo hi)) H
theorem zCP:SlR X zGF:=by
 intro pins s σ H x v vl vu lo hi sl Q I rx hs pl pu h;obtain⟨z,rfl,hz,q⟩:=h;obtain⟨t,rfl⟩:=rx;have fin:∀ t' k,EP X pins σ Q (.str (scq z lo hi) t') { s with toks:=k }:=fun t' k=>⟨.str (scq z lo hi),H,I.tok _,⟨_,rfl⟩,q⟩
 refine⟨"str",_,PySem.F.slot_str_getitem.lookup,typeIs_str s z t,?_⟩;cases pl with
 | none =>
  cases pu with
  | none=>exact wpAny_getItem_str_slice (l:=none) (u:=none) (st:=none) hs rfl (post_val_or_str ⟨sal (sdx z _ _) hz,fin⟩)
  | int j uj=>exact wpAny_getItem_str_slice (l:=none) (u:=some (j,uj)) (st:=none) hs rfl (post_val_or_str ⟨sal (sdx z _ _) hz,fin⟩)
 | int i ui =>
  cases pu with
  | none=>exact wpAny_getItem_str_slice (l:=some (i,ui)) (u:=none) (st:=none) hs rfl (post_val_or_str ⟨sal (sdx z _ _) hz,fin⟩)
  | int j uj=>exact wpAny_getItem_str_slice (l:=some (i,ui)) (u:=some (j,uj)) (st:=none) hs rfl (post_val_or_str ⟨sal (sdx z _ _) hz,fin⟩)
noncomputable def zpy (x:D) (l h:Option Int):Res D:=match x with
 | .lst ds=>.ok (.lst (zmA ds l h))
 | .str z=>if z.length<=line then .ok (.str (scq z l h)) else .stuck
 | .tup ds=>if HT.sIx ds.length 0 l=0/\HT.sIx ds.length ds.length h=ds.length then .stuck else .ok (.tup (zmA ds l h))
 | _=>.stuck
def zjB (f:Ev->Res D)(lo hi:Ev->Res (Option Int)):Ev->Res D:=fun ρ=>(f ρ).bind fun x=>(lo ρ).bind fun l=>(hi ρ).bind fun h=>zpy x l h
theorem zbt {lo hi:Option Expr}{p2:Pos}{fl fh:Ev->Res (Option Int)}(ha:DE X E a f)(hl:DO X E lo fl)(hh:DO X E hi fh):DE X E (.Subscript a (.Slice lo hi none p2) pos) (zjB f fl fh) :=
 ⟨zaX (zyJ (SlR.or zAu (SlR.or zCP zCO)) ha.o hl.o hh.o) (zqG (m:=zpy) fun x v l h H Ha Q hs r q=>by
  cases x with
  | lst ds =>
   obtain⟨p,vs,rfl,h1,h2⟩:=zao.mp r;exact .inl ⟨p,vs,rfl,zaM.sqL hs h1,fun n hn=>q _ _ _ (zaB hs hn) (zao.mpr ⟨n,_,rfl,SqL.of zau,(h2.cut l h).mono (zaB hs hn).z⟩)⟩
  | str z =>
   unfold zpy at q
   by_cases c:z.length<=line
   .simp only[if_pos c] at q
    exact .inr (.inl ⟨z,Rep.str_iff.mp r,zdF c,zbn hs q (Rep.str_iff.mpr rfl)⟩)
   .simp only[if_neg c] at q;exact q.elim
  | tup ds =>
   unfold zpy at q
   by_cases c:HT.sIx ds.length 0 l=0/\HT.sIx ds.length ds.length h=ds.length
   .simp only[if_pos c] at q;exact q.elim
   .simp only[if_neg c] at q
    obtain⟨p,vs,rfl,h1,h2⟩:=zaz.mp r;exact .inr (.inr ⟨p,vs,rfl,zaM.sqT hs h1,by rw[← h2.length];exact c,fun n hn=>q _ _ _ (zaB hs hn) (zaz.mpr ⟨n,_,rfl,SqT.of zau,(h2.cut l h).mono (zaB hs hn).z⟩)⟩)
  | _=>exact q.elim)⟩
end
def Its (z:Str):It:=⟨fun i _=>i < z.cps.size,fun i H x H'=>H'=H/\∃ c,z.cps[i]?=some c/\x=.str ⟨#[c]⟩,fun i _=>z.cps.size<=i⟩
theorem ztw {P:Program}{w:World}{K:saj}{tg:Expr}(z:Str)(t:Tok)(it:Addr):zB5 P w K tg (Its z) [it] it (fun i h=>h.IsStrIter it "str_ascii_iterator" z t i) where
 mem:=by simp
 obj:=fun i h st b hb=>by
  have e:b=it:=by simpa using hb
  subst e;obtain⟨o,e,c,d⟩:=st;exact⟨o,e,fun v z=>by rw[d] at z;cases z⟩
 keep:=fun i h h' st k=>let ⟨o,ho,r⟩:=st;⟨o,k it (by simp) o ho,r⟩
 item:=by
  intro X hP hw hK hc i pins s σ H E I hf st hg;subst hP hw hK;have hg':i < z.cps.size:=hg;obtain⟨f0,f1,f2,f3,f4,f5⟩:=hf it (by simp);refine wpAny_pyNext_ascii_item st (c:=z.cps[i]) (by simp [hg']) fun h' st' sb=>?_;have I1:Inv X pins σ H { s with heap:=h',toks:=s.toks+1 }:=I.turned (t':=s.toks+1) (fun b o hb e=>(sb.2 b hb).trans e) f0 f1 f3 f4 f5;obtain⟨o,e,c,d⟩:=id st';exact⟨_,rfl,zy6 (s:={ s with heap:=h',toks:=s.toks+1 }) e c d (by decide) ⟨.str ⟨#[z.cps[i]]⟩,H,I1,⟨_,rfl⟩,⟨rfl,_,by simp [hg'],rfl⟩,st',fun b hb=>(hf b hb).1⟩⟩
 done:=by
  intro X hP hw hK hc i pins s σ H E I hf st hg;subst hP hw hK;have hg':z.cps.size<=i:=hg;obtain⟨f0,f1,f2,f3,f4,f5⟩:=hf it (by simp);exact wpAny_pyNext_ascii_end (I.ok.hd hc) st (by simp [hg']) fun h' eb=>⟨rfl,I.turned (t':=s.toks) (fun b o hb e=>eb b o hb e) f0 f1 f3 f4 f5⟩
 self:=fun _ _ _ _ _ st h=>wpAny_pyIter_striter_ascii st h
theorem zuF {P:Program}{w:World}{K:saj}{tg:Expr}(z:Str)(t:Tok)(it:Addr):zB5 P w K tg (Its z) [it] it (fun i h=>h.IsStrIter it "str_iterator" z t i) where
 mem:=by simp
 obj:=fun i h st b hb=>by
  have e:b=it:=by simpa using hb
  subst e;obtain⟨o,e,c,d⟩:=st;exact⟨o,e,fun v z=>by rw[d] at z;cases z⟩
 keep:=fun i h h' st k=>let ⟨o,ho,r⟩:=st;⟨o,k it (by simp) o ho,r⟩
 item:=by
  intro X hP hw hK hc i pins s σ H E I hf st hg;subst hP hw hK;have hg':i < z.cps.size:=hg;obtain⟨f0,f1,f2,f3,f4,f5⟩:=hf it (by simp);refine wpAny_pyNext_wide_item st (c:=z.cps[i]) (by simp [hg']) fun h' st' sb=>?_;have I1:Inv X pins σ H { s with heap:=h',toks:=s.toks+1 }:=I.turned (t':=s.toks+1) (fun b o hb e=>(sb.2 b hb).trans e) f0 f1 f3 f4 f5;obtain⟨o,e,c,d⟩:=id st';exact⟨_,rfl,zy6 (s:={ s with heap:=h',toks:=s.toks+1 }) e c d (by decide) ⟨.str ⟨#[z.cps[i]]⟩,H,I1,⟨_,rfl⟩,⟨rfl,_,by simp [hg'],rfl⟩,st',fun b hb=>(hf b hb).1⟩⟩
 done:=by
  intro X hP hw hK hc i pins s σ H E I hf st hg;subst hP hw hK;have hg':z.cps.size<=i:=hg;obtain⟨f0,f1,f2,f3,f4,f5⟩:=hf it (by simp);exact wpAny_pyNext_wide_end (I.ok.hd hc) st (by simp [hg']) fun h' eb=>⟨rfl,I.turned (t':=s.toks) (fun b o hb e=>eb b o hb e) f0 f1 f3 f4 f5⟩
 self:=fun _ _ _ _ _ st h=>wpAny_pyIter_striter_wide st h
def zGO (tl:TE):TI:=fun σ H R=>tl σ H fun x H1=>∃ z,x=.str z/\R (Its z) H1
theorem zC8 {X:Cx}{tg l:Expr}{tl:TE}(hl:PE X l tl):PI X tg l (zGO tl):=by
 intro pins s σ H R I h;refine thn (hl pins s σ H _ I h) fun v s1 ⟨x,H1,I1,r1,q1⟩=>?_;obtain⟨z,rfl,q⟩:=q1;obtain⟨t,rfl⟩:=r1;have fpo:∀ b∈[s1.heap.objs.size],zuq X pins H1 b:=fun b hb=>by
  have e:b=s1.heap.objs.size:=by simpa using hb
  subst e;exact I1.fpOk (saA _) (I1.hok.fresh (saA _))
 cases ha:z.cps.all (· < 128) with
 | false=>exact wpAny_pyIter_wide ha ⟨s1.heap.objs.size,[s1.heap.objs.size],_,_,H1,rfl,I1.kept (t':=s1.toks) fun b o e=>sah _ e,zuF z t _,⟨_,saV _ rfl,rfl,rfl⟩,fpo,q⟩
 | true=>exact wpAny_pyIter_ascii ha ⟨s1.heap.objs.size,[s1.heap.objs.size],_,_,H1,rfl,I1.kept (t':=s1.toks) fun b o e=>sah _ e,ztw z t _,⟨_,saV _ rfl,rfl,rfl⟩,fpo,q⟩
def zjJ (z:Str):List D:=z.cps.toList.map fun c=>.str ⟨#[c]⟩
theorem zi7 (z:Str):(zjJ z).length=z.cps.size:=by unfold zjJ;simp
section
variable {X:Cx}{E:XK}{He H0e:Hp}{f:Ev->Res D}{s:Ev->Res Fl}{pos:Pos}
end
section
variable {X:Cx}{E:XK}
def zGa (K:saj):List V->Hp->VK->Prop:=fun xs H Q=>∃ (p:Addr) (bs:List Bool),xs=[.ref p]/\SqL K H p (bs.map V.bl)/\Q (.bl (bs.all id)) H
theorem zqr:∀ bs:List Bool,(saS bs.length).all (fun i=>bs.getD i false)=bs.all id
 | []=>rfl
 | b::r=>by
  rw[sar,sc5,sb7,sc8,sb7,← zqr r];rfl
theorem zs7 (hc:X.calm=true):zky X (.builtin "all") (zGa X.K):=by
 intro pins s σ H xs us Q I r h;obtain⟨p,bs,rfl,hq,q⟩:=h;obtain⟨u,rfl,rx⟩:=ztt r;cases rx;obtain⟨its,rv,pl,hz⟩:=I.list hq;have hlen:=rv.length;rw[sab] at hlen;have hne:p≠s.heap.objs.size:=saB pl.lt;refine call_all_walk (wpAny_pyIter_list pl.isList ?_);have pl2:(s.heap.push { cls:=.type "list_iterator",data:=.fields #[.ref p,.int 0 0] }).IsList p its.toArray:=by
  obtain⟨o,k1,k2⟩:=pl.isList;exact⟨o,sah _ k1,k2⟩
 refine⟨s.heap.objs.size,_,_,_,_,_,fun i=>bs.getD i false,rfl,Walks.list (A:=X.A.in1) (I.ok.hd hc) s.heap.objs.size p hne its.toArray,⟨⟨_,saV _ rfl,rfl,rfl⟩,pl2⟩,?_,fun h' tk hk=>?_⟩
 .intro i v s' Q' E' hv hQ
  have hv':its[i]?=some v:=by simpa using hv
  have hi:i < its.length:=(sad.mp hv').1;obtain⟨w,e1,e2⟩:=rv.get (show(bs.map V.bl)[i]?=some (V.bl (bs.getD i false)) by
   rw[sai,saa (by omega)];simp [scE,saa (show i < bs.length by omega)])
  rw[hv'] at e1;cases e1;obtain rfl:v=sa8 _:=e2;exact sa7 hQ
 .have hall:(saS its.toArray.size).all (fun i=>bs.getD i false)=bs.all id:=by
   rw[san,← hlen];exact zqr bs
  rw[hall];exact⟨.bl _,H,I.kept (t':=tk) (fun b o e=>hk b o (by simp only[List.mem_singleton];exact saB (sam e)) (sah _ e)),rfl,q⟩
def zek:List D->Option (List Bool)
 | []=>some []
 | .bl b::r=>(zek r).map (b::·)
 | _=>none
theorem zqi {K:saj}{H:Hp}:∀ {ds:List D}{bs:List Bool}{vs:List V},zek ds=some bs->Reps K H ds vs->vs=bs.map V.bl
 | [],bs,vs,h,r=>by cases h;exact Reps.nil_iff.mp r
 | d::ds,bs,vs,h,r=>by
  obtain⟨v,r',rfl,h1,h2⟩:=zap.mp r;cases d with
  | bl x =>
   unfold zek at h;cases e:zek ds with
   | none=>rw[e] at h;cases h
   | some zs =>
    rw[e] at h;cases h;rw[zaq.mp h1,zqi e h2];rfl
  | _=>cases h
def zCg (x:D):Res D:=match x with
 | .lst ds=>match zek ds with
  | some bs=>.ok (.bl (bs.all id))
  | none=>.stuck
 | _=>.stuck
theorem zz3:zl8 X E (zGa X.K) (m1 zCg):=zug fun x v H Ha Q hs r q=>by
 cases x with
 | lst ds =>
  unfold zCg at q;obtain⟨p,vs,rfl,h1,h2⟩:=zao.mp r;cases e:zek ds with
  | none=>simp only[e] at q;exact q.elim
  | some bs =>
   simp only[e] at q;exact⟨p,bs,rfl,by rw[← zqi e h2];exact zaM.sqL hs h1,zbn hs q (rb _)⟩
 | _=>exact q.elim
end
theorem zr3 {K:saj}{H:Hp}{ks:List Str}{ds:List D}{v:V}:Rep K H (.dic ks ds) v↔∃ a kvs vs,v=.ref a/\Rd H a (.dK kvs)/\kvs=(ks.map sc6).zip vs/\ks.length=vs.length/\Reps K H ds vs:=by rw[Rep]
section
variable {X:Cx}{E:XK}{e:Expr}{f:Ev->Res D}{pos p1:Pos}
theorem zxs:DE X E (.Dict [] [] pos) (dC (.dic [] [])):=by
 refine⟨?_⟩;refine zaX zyL fun σ H Q ⟨Ha,ρ,hs,hr,q⟩ p hp=>?_;exact q _ _ _ (zaB hs hp) (zr3.mpr ⟨p,[],[],rfl,.inl zau,rfl,rfl,Reps.nil⟩)
def dOne (x:Str)(d:D):Res D:=.ok (.dic [x] [d])
end
def zmE (cells:List (Str×Addr)):List (Str×NameKind)->List (Str×Addr)->List (Str×Addr)
 | [],acc=>acc
 | (n,k)::r,acc=>if(k==sbM)=true then zmE cells r ((n,(cells.lookup n).getD 0)::acc) else zmE cells r acc
theorem zoZ {scope:Scope}{env:sbo}(h:∀ x∈scope.names,x.2=.free->∃ c,env.cells.lookup x.1=some c):closureFor scope env=pure (zmE env.cells scope.names []):=by
 simp only[closureFor];have key:∀ (names:List (Str×NameKind)) (acc:List (Str×Addr)),(∀ x∈names,x.2=.free->∃ c,env.cells.lookup x.1=some c) ->
   (forIn names acc fun(x:Str×NameKind) (z:List (Str×Addr)) =>
      if(x.snd==sbM)=true then do
       let y ← cellOf env x.fst
       pure (scl ((x.fst,y)::z))
      else(pure (scl z):Sem _))=pure (zmE env.cells names acc):=by
  intro names
  induction names with
  | nil=>intro acc _;rfl
  | cons x r ih =>
   intro acc hh;obtain⟨n,k⟩:=x;rw[List.forIn_cons]
   by_cases hk:(k==sbM)=true
   .obtain⟨c,hc⟩:=hh (n,k) saq (by simpa using hk)
    have hcell:cellOf env n=pure c:=by unfold cellOf;rw[show env.cells.lookup n=some c from hc]
    simp only[hk,if_true];rw[hcell];have:=ih ((n,c)::acc) (fun y hy=>hh y (sak _ hy));rw[show zmE env.cells ((n,k)::r) acc=zmE env.cells r ((n,c)::acc) by
     show(if(k==sbM)=true then _ else _)=_;rw[if_pos hk,show env.cells.lookup n=some c from hc];rfl]
    rw[← this];rfl
   .have:=ih acc (fun y hy=>hh y (sak _ hy))
    rw[if_neg hk];rw[show zmE env.cells ((n,k)::r) acc=zmE env.cells r acc by
     show(if(k==sbM)=true then _ else _)=_;rw[if_neg hk]]
    rw[← this];rfl
 rw[key _ _ h];rfl
theorem zo0 {cells:List (Str×Addr)}:∀ {names:List (Str×NameKind)}{acc:List (Str×Addr)}{x:Str}{c:Addr},(∀ y∈names,y.2=.free->∃ c,cells.lookup y.1=some c) ->
  (zmE cells names acc).lookup x=some c->acc.lookup x=some c∨cells.lookup x=some c
 | [],acc,x,c,_,h=>.inl h
 | (n,k)::r,acc,x,c,hh,h=>by
  unfold zmE at h
  by_cases hk:(k==sbM)=true
  .rw[if_pos hk] at h
   obtain⟨d,hd⟩:=hh (n,k) saq (by simpa using hk);rcases zo0 (fun y hy=>hh y (sak _ hy)) h with h | h
   .rw[sbn] at h
    cases e:x==n with
    | true =>
     rw[e] at h;rw[show cells.lookup n=some d from hd] at h;cases h;rw[eq_of_beq e];exact .inr hd
    | false=>rw[e] at h;exact .inl h
   .exact .inr h
  .rw[if_neg hk] at h
   exact zo0 (fun y hy=>hh y (sak _ hy)) h
theorem zk9 {α:Type}{x:Str}:∀ {l:List (Str×α)},(∃ v,(x,v)∈l)->∃ v,l.lookup x=some v
 | [],⟨v,h⟩=>by cases h
 | (n,w)::r,⟨v,h⟩=>by
  rw[sbn];cases e:x==n with
  | true=>exact⟨w,rfl⟩
  | false =>
   rcases sas.mp h with h | h
   .cases h;simp at e
   .exact zk9 ⟨v,h⟩
theorem zo2 {cells:List (Str×Addr)}{x:Str}{c:Addr}:∀ {names:List (Str×NameKind)}{acc:List (Str×Addr)},(x,c)∈acc->(x,c)∈zmE cells names acc
 | [],acc,h=>h
 | (n,k)::r,acc,h=>by
  unfold zmE
  by_cases hk:(k==sbM)=true
  .rw[if_pos hk];exact zo2 (sak _ h)
  .rw[if_neg hk];exact zo2 h
theorem zo1 {cells:List (Str×Addr)}{x:Str}:∀ {names:List (Str×NameKind)}{acc:List (Str×Addr)},(x,sbM)∈names->∃ c,(zmE cells names acc).lookup x=some c:=by
 intro names
 induction names with
 | nil=>intro acc h;cases h
 | cons y r ih =>
  intro acc h;obtain⟨n,k⟩:=y;unfold zmE;rcases sas.mp h with h | h
  .cases h
   rw[if_pos (by rfl)];exact zk9 ⟨_,zo2 saq⟩
  .by_cases hk:(k==sbM)=true
   .rw[if_pos hk];exact ih h
   .rw[if_neg hk];exact ih h
noncomputable def zfp (X:Cx) (N:List Str) (scope:Scope) (s:Shared) (H:Hp) (C:Addr) (fp:List Addr) (pn:List (Addr×Obj)):Cx :=
 { X with N:=N,sk:=s,Ha:=H,env:=compEnvC scope (zmE X.env.cells scope.names []) C X.env,outer:=X.stack,stack:=X.stack,ex:=fp,fn:=fun _=>false,pn:=pn,xe:=fun _ _=>False }
def zo9 (n:Nat)(fr:List Nat)(σ:L2.St):L2.St:=sat n none++fr.map fun(i:Nat)=>(σ[i]?).getD none
noncomputable def zEG (X:Cx) (N:List Str) (n:Nat) (fr:List Nat) (scope:Scope):Prop :=
 N.length=n+fr.length/\((N.drop n).zip fr).all (fun p=>X.N[p.2]?==some p.1&&X.env.scope.names.lookup p.1==some .cell&&scope.names.lookup p.1==some .free&&(relabel scope X.env).names.lookup p.1==some .cell)=true
theorem zEG.at {X:Cx}{N:List Str}{n:Nat}{fr:List Nat}{scope:Scope}(h:zEG X N n fr scope){k:Nat}{x:Str}{v:V}{σ:L2.St}(hx:N[k]?=some x)(hv:(zo9 n fr σ)[k]?=some (some v)) :
  ∃ i:Nat,X.N[i]?=some x/\σ[i]?=some (some v)/\X.env.scope.names.lookup x=some .cell/\scope.names.lookup x=some .free/\(relabel scope X.env).names.lookup x=some .cell:=by
 unfold zo9 at hv
 by_cases hk:k < n
 .rw[saC (by simpa using hk),saP,if_pos hk] at hv
  cases hv
 .rw[saI (by simpa using hk),sbw,sai] at hv
  cases hi:fr[k-n]? with
  | none=>rw[hi] at hv;cases hv
  | some i =>
   rw[hi] at hv;have hz:((N.drop n).zip fr)[k-n]?=some (x,i):=by
    rw[List.getElem?_zip_eq_some];exact⟨by rw[sbl,show n+(k-n)=k by omega];exact hx,hi⟩
   have:=saE.mp h.2 _ (say hz);simp only[saF,beq_iff_eq] at this;refine⟨i,this.1.1.1,?_,this.1.1.2,this.1.2,this.2⟩;simp only[scA,sb5] at hv;cases hs:σ[i]? with
   | none=>rw[hs] at hv;cases hv
   | some u=>rw[hs] at hv;exact congrArg some hv
noncomputable def PIf (X:Cx) (ifs:List Expr) (t:TT):Prop :=
 ∀ (pins:List (Addr×Obj)) (s:Shared) (σ:L2.St) (H:Hp) (Q:Bool->Hp->Prop),Inv X pins σ H s->t σ H Q ->
  wpAny (model X.prog X.w) X.A (forIn ifs true fun c r=>if r=true then do let ok ← isTrue c X.env (eval c X.env);pure (scl ok) else pure (scl r)) (TP X pins σ Q) X.xe s
def zGp:TT:=fun _ H Q=>Q true H
theorem zAK {X:Cx}:PIf X [] zGp:=fun _ _ _ H _ I h=>wpAny_tests_nil ⟨H,I,h⟩
theorem zAJ {X:Cx}{c:Expr}{t:TT}(h:PT X c t):PIf X [c] t:=fun pins s σ H Q I q=>wpAny_tests_one (h pins s σ H Q I q)
theorem zmC {prog:Program}{w:World}{A:Around}{R:Result->Shared->Prop}{s:Shared}{elt target iter:Expr}{ifs:List Expr}{scope:Scope}{pos:Pos}{it acc:Value}{env:sbo}(I:Nat->Shared->Prop)
  (turn:∀ n s,I n s->wpAny (model prog w) A (pyNext it) (fun r si=>match r with
   | none=>R (.ok .next) si
   | some v=>wpAny (model prog w) A (letOwnedTupleGo target it v) (fun _ si'=>wpAny (model prog w) A (assign target env v) (fun _ sf =>
     wpAny (model prog w) A (forIn ifs true fun c r=>if r=true then do let ok ← isTrue c env (eval c env);pure (scl ok) else pure (scl r)) (fun ok sj =>
      if ok=true then wpAny (model prog w) A (eval elt env) (fun x sr =>
       wpAny (model prog w) A (call (.builtin "list.append") [acc,x]) (fun _ sq=>∃ m,m < n/\I m sq) (fun _ _=>False) sr) (fun _ _=>False) sj
      else ∃ m,m < n/\I m sj) (fun _ _=>False) sf) (fun _ _=>False) si') (fun _ _=>False) si) (fun _ _=>False) s)
  (n:Nat) (h:I n s) :
  codeAny (model prog w) A (.compLoop (.ListComp elt [⟨target,iter,ifs,0⟩] scope pos) 0 it acc env) R s:=by
 refine codeAny_loop rfl I (fun n s hI=>?_) n h;show wpAny _ A ((compTurn (.ListComp elt [⟨target,iter,ifs,0⟩] scope pos) 0 it acc env).onRaise (fun x=>do noteFrame x env;theTreesLotGoes x)) _ _ s;refine wpAny_noted ?_;rw[compTurn_list];refine sae (wpAny_standAt (sae (sbe (turn n s hI) (fun r si h₁=>?_) fun _ _ h'=>h'.elim)));cases r with
 | none=>exact sau h₁
 | some v =>
  refine sae (sbe h₁ (fun _ si' h₁'=>?_) fun _ _ h'=>h'.elim);refine sae (sbe h₁' (fun _ sf h₂=>sae (sbe h₂ (fun ok sj h₃=>?_) fun _ _ h'=>h'.elim)) fun _ _ h'=>h'.elim);cases ok with
  | false=>exact sau ⟨rfl,h₃⟩
  | true =>
   exact sae (sae (sbe h₃ (fun x sr h₄=>sae (sbe h₄ (fun _ sq hZ=>sau (sau ⟨rfl,hZ⟩)) fun _ _ h'=>h'.elim)) fun _ _ h'=>h'.elim))
noncomputable def zuP (n:Nat) (fr:List Nat) (g:TG) (tt:TT) (te:TE) (J:It) (σ:L2.St) (H1:Hp) (Q:VK):Prop:=∀ D,H1 D=none->∃ W:Nat->Nat->List V->L2.St->Hp->Prop,(∃ m,W 0 m [] (zo9 n fr σ) (upd H1 D (.lst []))) /\
 ∀ i m ys σ' H',W i m ys σ' H'->H' D=some (.lst ys)/\((J.stop i H'/\Q (.ref D) H')∨(J.go i H'/\ys.length < sizeLine/\∀ x H2,J.yld i H' x H2->g x σ' H2 fun σ3 H3=>tt σ3 H3 fun b H4 =>
  if b=true then te σ3 H4 fun y H5=>H5 D=some (.lst ys)/\∃ m',m' < m/\W (i+1) m' (ys++[y]) σ3 (upd H5 D (.lst (ys++[y])))
  else ∃ m',m' < m/\W (i+1) m' ys σ3 H4))
theorem zxB {X:Cx}{tg iter elt:Expr}{ifs:List Expr}{scope:Scope}{pos:Pos}{N:List Str}{n:Nat}{fr:List Nat}{g:TG}{tt:TT}{te:TE}(hc:X.calm=true)(hfr:zEG X N n fr scope)
  (hcell:∀ x∈scope.names,x.2≠.cell)(hfree:∀ x∈scope.names,x.2=.free->X.env.scope.names.lookup x.1=some .cell)(hkind:scope.kind=.function)
  (blk:∀ s H C fp pn,PG (zfp X N scope s H C fp pn) tg g/\PIf (zfp X N scope s H C fp pn) ifs tt/\PE (zfp X N scope s H C fp pn) elt te)
  {pins:List (Addr×Obj)}{σ:L2.St}{s2:Shared}{Q:VK}{itv:Value}{RR:Value->Addr->Result->Shared->Prop}
  (h2:PIE X pins σ tg (fun J H1=>zuP n fr g tt te J σ H1 Q) itv s2)
  (fin:∀ (Da C:Addr) (s6:Shared) (H5:Hp) (m:Str->Option Value),Inv X pins σ H5 s6->s6.heap.Ns C m->zuq X pins H5 C->Q (.ref Da) H5->RR (.ref Da) C (.ok .next) s6) :
  wpAny (model X.prog X.w) X.A (newList []) (fun acc sj=>wpAny (model X.prog X.w) X.A (newFunctionEnv scope X.env.globals (zmE X.env.cells scope.names []) [] X.env.qual none .none (some X.env)) (fun cenv sr =>
   codeAny (model X.prog X.w) X.A (.compStart (.ListComp elt [⟨tg,iter,ifs,0⟩] scope pos) 0 itv acc { cenv with scope:=relabel scope X.env }) (RR acc cenv.locals) sr) X.xe sj) X.xe s2:=by
 obtain⟨it,fp,tn,J,H2,e,I2,T,st2,f2,q⟩:=h2;subst e;have hD:H2 s2.heap.objs.size=none:=I2.fresh;refine wpAny_newObj_type ?_;have I3:Inv X pins σ (upd H2 s2.heap.objs.size (.lst [])) { s2 with heap:=s2.heap.push { cls:=.type "list",data:=.seq ([]:List Value).toArray } }:=I2.lnew (t':=s2.toks) (its:=[]) .nil (scp _);obtain⟨W,⟨m0,w0⟩,turn⟩:=q s2.heap.objs.size hD;generalize hs3:({ s2 with heap:=s2.heap.push { cls:=.type "list",data:=.seq ([]:List Value).toArray } }:Shared)=s3 at I3 ⊢;have hs3h:s3.heap=s2.heap.push { cls:=.type "list",data:=.seq ([]:List Value).toArray }:=by rw[← hs3]
 have hDs:s2.heap.objs.size < s3.heap.objs.size:=by rw[hs3h,Heap.size_push];exact scb _
 have fpl:∀ b∈fp,b < s2.heap.objs.size:=fun b hb=>by
  obtain⟨o,ho,_⟩:=T.obj _ _ st2 b hb;exact sam ho
 have kept3:∀ b o,s2.heap.get? b=some o->s3.heap.get? b=some o:=fun b o e=>by rw[hs3h];exact sah _ e
 have st3:tn 0 s3.heap:=T.keep _ _ _ st2 fun b _ o e=>kept3 b o e;generalize hDa:s2.heap.objs.size=Da at *;generalize hH3:upd H2 Da (.lst [])=H3 at *;have fr3:∀ b∈fp,H3 b=none:=fun b hb=>by rw[← hH3,zav (saB (fpl b hb))];exact(f2 b hb).1
 have cls:∀ x c,(zmE X.env.cells scope.names []).lookup x=some c->X.env.cells.lookup x=some c:=fun x c e=>by
  rcases zo0 (fun y hy hf=>I3.ok.has y.1 (.inl (hfree y hy hf))) e with e | e
  .cases e
  .exact e
 refine wpAny_newFunctionEnv hcell (by intro y hy;simp at hy) (fun h4 ns4 sb4=>?_) hkind;have k4:∀ b o,s3.heap.get? b=some o->h4.get? b=some o:=fun b o e=>(sb4.2 b (saB (sam e))).trans (sah _ e);generalize hC:s3.heap.objs.size=C at *;have hCn:H3 C=none:=I3.hok.fresh (by rw[hC];exact saA _);have ltC:∀ b o,s3.heap.get? b=some o->b≠C:=fun b o e=>by rw[← hC];exact saB (sam e)
 have cellC:∀ x c,X.env.cells.lookup x=some c->c≠C:=fun x c e=>by
  obtain⟨v,o,ho,_⟩:=I3.cell x c e;exact ltC c o ho
 have fpC:∀ b∈fp,b≠C:=fun b hb=>by
  have:=fpl b hb;exact saB (Nat.lt_trans this hDs)
 show codeAny (model X.prog X.w) X.A (.compStart (.ListComp elt [⟨tg,iter,ifs,0⟩] scope pos) 0 (.ref it) (.ref Da) (compEnvC scope (zmE X.env.cells scope.names []) C X.env)) _ _;generalize hs4:({ s3 with heap:=h4,toks:=s3.toks+([]:List (Str×Value)).length }:Shared)=s4;have hs4h:s4.heap=h4:=by rw[← hs4]
 have ok:(zfp X N scope s3 H3 C fp (X.pn++pins)).Ok:=by
  refine⟨I3.ok.mod,hkind,I3.ok.glob,I3.ok.blt,sdB hC,fun x y c e1 e2=>I3.ok.inj x y c (cls x c e1) (cls y c e2),fun x e=>?_,fun x c e=>?_,fun _=>I3.ok.hd hc,I3.ok.frames,.inl rfl,fun b hb=>⟨fpC b hb,fun x c e=>(f2 b hb).2.2.2.2.1 x c (cls x c e)⟩,I3.bs,sal I3.ok.bsz I3.sz,fun b o e hb=>?_,fun b hb z=>?_,I3.stack,I3.stkFree⟩
  .have mm:∀ k:NameKind,(relabel scope X.env).names.lookup x=some k->(k=.cell∨k=.free)->(x,sbM)∈scope.names:=fun k hk hk2=>by
    have hm:=sbC hk;obtain⟨⟨n',k'⟩,hm1,hm2⟩:=saG.mp hm;dsimp only at hm2;split at hm2
    .rename_i hcnd
     cases hm2;simp only[saF,beq_iff_eq] at hcnd;rw[hcnd.1.1] at hm1;exact hm1
    .cases hm2
     rcases hk2 with rfl | rfl
     .exact absurd rfl (hcell _ hm1)
     .exact hm1
   rcases e with e | e
   .exact zo1 (mm _ e (.inl rfl))
   .exact zo1 (mm _ e (.inr rfl))
  .cases e
  .rcases(f2 b hb).2.2.2.1 with z | z
   .exact I3.ok.noex b o e z
   .exact absurd (saf (sam e) (sal I3.ok.bsz z)) (scg _)
  .rcases sas.mp (I3.stkSub b z) with z | z
   .exact(f2 b hb).2.1 z
   .exact(f2 b hb).2.2.1 z
 have I4:Inv (zfp X N scope s3 H3 C fp (X.pn++pins)) [] (zo9 n fr σ) H3 s4:=by
  refine⟨ok,by rw[← hs4];rfl,by rw[← hs4];exact I3.bare,by rw[hs4h];exact Un.kept k4,⟨_,by rw[hs4h];exact ns4,fun i x v h1 h2 h3=>?_⟩,fun x c e=>?_,hCn,fun x c e=>I3.freeC x c (cls x c e),fun p hp=>?_,by rw[hs4h];exact I3.hok.kept k4,?_⟩
  .obtain⟨j,j1,j2,j3,j4,j5⟩:=hfr.at h1 h2
   obtain⟨m,hn,hl⟩:=I3.loc;obtain⟨u,ru,l⟩:=hl j x v j1 j2 (.inr (.inl j3));refine⟨u,ru,.inr ⟨.inl j5,?_⟩⟩;rcases l with⟨z,_⟩ | ⟨_,c,z1,z2⟩
   .rw[show X.env.kindOf x=X.env.scope.names.lookup x from rfl,j3] at z;cases z
   .obtain⟨c',hc'⟩:=zo1 (cells:=X.env.cells) (names:=scope.names) (acc:=[]) (sbC j4)
    have:=cls x c' hc';rw[z1] at this;cases this;obtain⟨oc,q1,q2⟩:=z2;exact⟨c,hc',oc,by rw[hs4h];exact k4 _ _ q1,q2⟩
  .obtain⟨v,oc,q1,q2⟩:=I3.cell x c (cls x c e)
   exact⟨v,oc,by rw[hs4h];exact k4 _ _ q1,q2⟩
  .rw[sbR] at hp
   obtain⟨p1,p2,p3,p4,p5⟩:=I3.pin p hp;refine⟨by rw[hs4h];exact k4 _ _ p1,p2,ltC _ _ p1,fun z=>?_,p5⟩;rcases sas.mp (I3.stkSub _ z) with z | z
   .exact p3 z
   .exact p4 z
  .show(zo9 n fr σ).length=N.length
   unfold zo9;rw[sba,sbw,sab,hfr.1]
 have st4:tn 0 s4.heap:=by rw[hs4h];exact T.keep _ _ _ st3 fun b _ o e=>k4 b o e
 have stat:∀ {H':Hp},(∀ b∈fp,H' b=none)->∀ b∈fp,zuq (zfp X N scope s3 H3 C fp (X.pn++pins)) [] H' b:=fun hn b hb=>by
  refine⟨hn b hb,fpC b hb,fun z=>?_,.inl hb,fun x c e=>(f2 b hb).2.2.2.2.1 x c (cls x c e),fun p hp=>?_⟩
  .rcases sas.mp (I3.stkSub b z) with z | z
   .exact(f2 b hb).2.1 z
   .exact(f2 b hb).2.2.1 z
  .rw[sbR] at hp
   exact(f2 b hb).2.2.2.2.2 p hp
 have loop:codeAny (model X.prog X.w) X.A (.compLoop (.ListComp elt [⟨tg,iter,ifs,0⟩] scope pos) 0 (.ref it) (.ref Da) (compEnvC scope (zmE X.env.cells scope.names []) C X.env)) (RR (.ref Da) C) s4:=by
  refine zmC (fun n s'=>∃ i ys σ' H',Inv (zfp X N scope s3 H3 C fp (X.pn++pins)) [] σ' H' s'/\tn i s'.heap/\(∀ b∈fp,H' b=none)/\W i n ys σ' H') ?_ m0 ⟨0,[],_,H3,I4,st4,fr3,w0⟩;rintro k s5 ⟨i,ys,σ5,H5,I5,st5,fr5,w5⟩;obtain⟨hDl,ways⟩:=turn i k ys σ5 H5 w5;rcases ways with⟨stop,fin'⟩ | ⟨go,hz,step⟩
  .refine thn (T.done (zfp X N scope s3 H3 C fp (X.pn++pins)) rfl rfl rfl hc i [] s5 σ5 H5 (fun _ _=>False) I5 (stat fr5) st5 stop) fun r s6 ⟨hr,I6⟩=>?_
   subst hr;obtain⟨mm,nsm,_⟩:=I6.loc;have free6:H5 C=none:=I6.free;have hok:HOk X.prog X.w H5 s6.heap:=I6.hok;have un:Un (frs X.stack) fp H3 H5 s3.heap s6.heap:=I6.base;have IX:Inv X pins σ H5 s6:=I3.call' (s':=s6) (ch:=fp) I6.os un hok I6.bare (fun b hb=>⟨(f2 b hb).2.2.2.1,(f2 b hb).2.1,(f2 b hb).2.2.2.2.1,(f2 b hb).2.2.2.2.2⟩);have fC:zuq X pins H5 C:=I3.fpOk (b:=C) (H':=H5) (by rw[hC];exact saA _) free6;exact fin Da C s6 H5 mm IX nsm fC fin'
  .refine thn (T.item (zfp X N scope s3 H3 C fp (X.pn++pins)) rfl rfl rfl hc i [] s5 σ5 H5 (fun _ _=>False) I5 (stat fr5) st5 go) fun r s6 ⟨u,hr,h6⟩=>?_
   subst hr;refine thn h6 fun _ s7 ⟨x,H7,I7,r7,y7,st7,fr7⟩=>?_;have I7':=I7.pinned (stat fr7) (T.obj _ _ st7);refine thn ((blk s3 H3 C fp (X.pn++pins)).1 _ s7 σ5 H7 x u _ I7' r7 (step x H7 y7)) fun _ s8 ⟨σ8,H8,I8,q8⟩=>?_;refine thn ((blk s3 H3 C fp (X.pn++pins)).2.1 _ s8 σ8 H8 _ I8 q8) fun b s8b ⟨H8b,I8b,q8b⟩=>?_;have back:∀ {σ':L2.St}{H':Hp}{s':Shared},L2.Inv (zfp X N scope s3 H3 C fp (X.pn++pins)) (([]:List (Addr×Obj))++zpF fp s7.heap) σ' H' s'->tn (i+1) s'.heap/\∀ b∈fp,H' b=none:=fun {σ' H' s'} I'=>by
    refine⟨T.keep _ _ _ st7 fun b hb o e=>(I'.pin (b,o) (sa1 _ (sa1 _ (zhf hb e)))).1,fun b hb=>?_⟩;obtain⟨o,e,d⟩:=T.obj _ _ st7 b hb;exact(I'.pin (b,o) (sa1 _ (sa1 _ (zhf hb e)))).2.1
   cases b with
   | false =>
    rw[if_neg saD] at q8b ⊢;obtain⟨m',hm,w9⟩:=q8b;exact⟨m',hm,i+1,ys,σ8,_,I8b.unpinned,(back I8b).1,(back I8b).2,w9⟩
   | true =>
    rw[if_pos rfl] at q8b ⊢;refine thn ((blk s3 H3 C fp (X.pn++pins)).2.2 _ s8b σ8 H8b _ I8b q8b) fun y s9 ⟨yv,H9,I9,r9,hD9,m',hm,w9⟩=>?_;refine thn (zpP (X:=zfp X N scope s3 H3 C fp (X.pn++pins)) _ s9 σ8 H9 (.ref Da) [yv] (.ref Da) [y] (fun v H'=>H'=upd H9 Da (.lst (ys++[yv]))) I9 rfl (.cons r9 .nil) ⟨Da,ys,yv,rfl,rfl,hD9,hz,rfl⟩) fun _ s10 ⟨v10,H10,I10,_,e10⟩=>?_;subst e10;exact⟨m',hm,i+1,ys++[yv],σ8,_,I10.unpinned,(back I10).1,(back I10).2,w9⟩
 exact codeAny_compStart_list loop (T.self _ 0 _ _ _ st4 loop)
structure ItD (K:saj) (ds:List D) (J:It) (Ha:Hp):Prop where
 go:∀ (i:Nat) (H' Ha':Hp),zaM Ha Ha'->zaM Ha' H'->i < ds.length->J.go i H'
 yld:∀ (i:Nat) (H' Ha':Hp) (x:V) (H2:Hp) (d:D),zaM Ha Ha'->zaM Ha' H'->ds[i]?=some d->J.yld i H' x H2->∃ H₀2,zcv H' Ha' H2 H₀2/\Rep K H₀2 d x
 stop:∀ (i:Nat) (H' Ha':Hp),zaM Ha Ha'->zaM Ha' H'->ds.length<=i->J.stop i H'
noncomputable def tDI (K:saj) (E:XK) (src:Ev->Res (List D)):TI:=fun σ H R=>∃ Ha ρ,zaM Ha H/\zhb K Ha σ ρ/\match src ρ with
 | .ok ds=>∀ J H' Ha',zcv H Ha H' Ha'->ItD K ds J Ha'->R J H'
 | .exn x=>∀ C ox H' Ha',zcv H Ha H' Ha'->ExR K Ha' x C ox->E C ox H'
 | .stuck=>False
structure DI (X:Cx) (E:XK) (tg iter:Expr) (src:Ev->Res (List D)):Prop where
 o:PI X tg iter (tDI X.K E src)
theorem zkZ {X:Cx}{tg iter:Expr}{t t':TI}(h:PI X tg iter t)(w:∀ σ H R,t' σ H R->t σ H R):PI X tg iter t':=fun pins s σ H R I q=>h pins s σ H R I (w σ H R q)
def zyq (f:Ev->Res D):Ev->Res (List D):=fun ρ=>(f ρ).bind fun d=>match d with
 | .lst ds=>.ok ds
 | _=>.stuck
def zGD (f:Ev->Res D):Ev->Res (List D):=fun ρ=>(f ρ).bind fun d=>match d with
 | .tup ds=>.ok ds
 | _=>.stuck
def zEI (f:Ev->Res D):Ev->Res (List D):=fun ρ=>(f ρ).bind fun d=>match d with
 | .str z=>.ok (zjJ z)
 | _=>.stuck
def zuW (f:Ev->Res D):Ev->Res (List D):=fun ρ=>(f ρ).bind fun d=>match d with
 | .int j=>if -4611686018427387904<=j/\j < 4611686018427387904 then .ok (intsFrom 0 j.toNat) else .stuck
 | _=>.stuck
section
variable {X:Cx}{E:XK}{tg e a b:Expr}{f g:Ev->Res D}
theorem zjA (h:DE X E e f):DI X E tg e (zyq f):=by
 refine⟨zkZ (zvk h.o) fun σ H R ⟨Ha,ρ,hs,hr,q⟩=>⟨Ha,ρ,hs,hr,?_⟩⟩;unfold zyq at q;cases e1:f ρ with
 | stuck=>rw[e1] at q;exact q
 | exn x=>rw[e1] at q;exact q
 | ok d =>
  rw[e1] at q;intro v H1 H01 g1 r1;cases d with
  | lst ds =>
   obtain⟨p,vs,rfl,hv,hrv⟩:=zao.mp r1;refine⟨p,rfl,⟨vs,zaM.sqL g1.sub hv⟩,q _ H1 H01 g1 ⟨fun i H' Ha' s1 s2 hi=>?_,fun i H' Ha' x H2 d s1 s2 hd hy=>?_,fun i H' Ha' s1 s2 hi=>?_⟩⟩
   .exact⟨vs,vs[i]'(by rw[← hrv.length];exact hi),zaM.sqL (s1.trans s2) hv,by simp⟩
   .obtain⟨rfl,hy⟩:=hy
    obtain⟨u,k1,k2⟩:=hrv.get hd;have:=hy vs (zaM.sqL (s1.trans s2) hv);rw[k1] at this;cases this;exact⟨Ha',zcv.refl s2,k2.mono s1⟩
   .exact⟨vs,zaM.sqL (s1.trans s2) hv,by rw[← hrv.length];exact hi⟩
  | _=>exact q.elim
theorem zEm (h:DE X E e f):DI X E tg e (zEI f):=by
 refine⟨zkZ (zC8 h.o) fun σ H R ⟨Ha,ρ,hs,hr,q⟩=>⟨Ha,ρ,hs,hr,?_⟩⟩;unfold zEI at q;cases e1:f ρ with
 | stuck=>rw[e1] at q;exact q
 | exn x=>rw[e1] at q;exact q
 | ok d =>
  rw[e1] at q;intro v H1 H01 g1 r1;cases d with
  | str z =>
   refine⟨z,Rep.str_iff.mp r1,q _ H1 H01 g1 ⟨fun i H' Ha' s1 s2 hi=>?_,fun i H' Ha' x H2 d s1 s2 hd hy=>?_,fun i H' Ha' s1 s2 hi=>?_⟩⟩
   .rw[zi7] at hi;exact hi
   .obtain⟨rfl,c,hc,rfl⟩:=hy
    have:d=.str ⟨#[c]⟩:=by
     unfold zjJ at hd;rw[sai] at hd;have h2:z.cps.toList[i]?=some c:=by simpa using hc
     rw[h2] at hd;cases hd;rfl
    subst this;exact⟨Ha',zcv.refl s2,Rep.str_iff.mpr rfl⟩
   .rw[zi7] at hi;exact hi
  | _=>exact q.elim
theorem zvX {K:saj}{lo:Int}{n:Nat}{H:Hp}:ItD K (intsFrom lo n) (Itr lo n) H:=by
 have hl:(intsFrom lo n).length=n:=by unfold intsFrom;simp
 refine⟨fun i H' Ha' _ _ hi=>?_,fun i H' Ha' x H2 d s1 s2 hd hy=>?_,fun i H' Ha' _ _ hi=>?_⟩
 .rw[hl] at hi;exact hi
 .obtain⟨rfl,rfl⟩:=hy
  have:d=.int (lo+i):=by
   unfold intsFrom at hd;rw[sai] at hd;cases e:(saS n)[i]? with
   | none=>rw[e] at hd;cases hd
   | some k =>
    rw[e] at hd;have hk:k=i:=by
     obtain⟨h1,h2⟩:=sad.mp e;simpa using h2.symm
    subst hk;cases hd;rfl
  subst this;exact⟨Ha',zcv.refl s2,zan.mpr rfl⟩
 .rw[hl] at hi;exact hi
theorem zxo {p pos:Pos}(hg:Gl X "range")(hm:X.mg "range"=none)(h:DE X E a f)(hn:nst a=true:=by exact rfl):DI X E tg (.Call (.Name "range" p) [a] [] pos) (zuW f):=by
 refine⟨zkZ (zpG hg hm (zdE h.o ziw (zc0 hn)) (zc0 hn)) fun σ H R ⟨Ha,ρ,hs,hr,q⟩=>⟨Ha,ρ,hs,hr,?_⟩⟩;unfold zuW at q;cases e1:f ρ with
 | stuck=>rw[e1] at q;exact q
 | exn x=>rw[e1] at q;exact q
 | ok d =>
  rw[e1] at q;intro v H1 H01 g1 r1;cases d with
  | int j =>
   replace q:match (if -4611686018427387904<=j/\j < 4611686018427387904 then Res.ok (intsFrom 0 j.toNat) else .stuck) with
    | .ok ds=>∀ J H' Ha',zcv H Ha H' Ha'->ItD X.K ds J Ha'->R J H'
    | .exn x=>∀ C ox H' Ha',zcv H Ha H' Ha'->ExR X.K Ha' x C ox->E C ox H'
    | .stuck=>False:=q
   by_cases hj:-4611686018427387904<=j/\j < 4611686018427387904
   .rw[if_pos hj] at q
    rw[zan.mp r1];exact⟨j,rfl,hj.1,hj.2,q _ H1 H01 g1 zvX⟩
   .rw[if_neg hj] at q;exact q.elim
  | _=>exact q.elim
end
def zhq (src:Ev->Res (List D))(tg:Ev->D->Res Ev)(s:Ev->Res Fl):Ev->Res Fl:=fun ρ=>(src ρ).bind fun ds=>zdH tg s ds ρ
section
variable {X:Cx}{E:XK}{He H0e:Hp}{st:Stmt}{s:Ev->Res Fl}{pos:Pos}
theorem zr9 {K:saj}{Hb Ha:Hp}{tg:Ev->D->Res Ev}{ds:List D}{D':zmH}{i:Nat}{σ:L2.St}{H:Hp}{d:D}{v:V}{ρ:Ev}(z:zaM Hb Ha)(h:SRx K He H0e Ha σ H ρ)(q:zcm K E He H0e Ha (zdH tg s (ds.drop i) ρ) D')(hd:ds[i]?=some d)(rv:Rep K Ha d v)
  (he:∀ ρ,tg ρ d=.stuck∨∃ ρ',tg ρ d=.ok ρ') :
  tG K He H0e tg v σ H fun σ2 H2=>tS K E He H0e s { D' with nx:=zi6 K E He H0e Hb tg s ds D' (i+1),ct:=zi6 K E He H0e Hb tg s ds D' (i+1),bk:=D'.nx } σ2 H2:=by
 have hi:i < ds.length:=(sad.mp hd).1;have hdr:ds.drop i=d::ds.drop (i+1):=by
  rw[sbc hi];rw[saa hi] at hd;cases hd;rfl
 rw[hdr] at q;refine⟨Ha,ρ,d,h,rv,?_⟩;unfold zdH at q;rcases he ρ with e1 | ⟨ρ1,e1⟩
 .rw[e1] at q;exact q.elim
 .rw[e1] at q ⊢
  intro σ' H' Ha' z' h';refine⟨Ha',ρ1,h',?_⟩;replace q:=zcm.grow (r:=(s ρ1).bind fun x=>match x with
   | .nx ρ2=>zdH tg s (ds.drop (i+1)) ρ2
   | .ct ρ2=>zdH tg s (ds.drop (i+1)) ρ2
   | .bk ρ2=>.ok (.nx ρ2)
   | .rt d=>.ok (.rt d)) q z'
  cases e2:s ρ1 with
  | stuck=>rw[e2] at q;exact q
  | exn x=>rw[e2] at q;exact q
  | ok r =>
   rw[e2] at q;cases r with
   | nx ρ2=>exact fun σ3 H3 H03 z3 h3=>⟨H03,ρ2,(z.trans z').trans z3,h3,zcm.grow (r:=zdH tg s (ds.drop (i+1)) ρ2) q z3⟩
   | ct ρ2=>exact fun σ3 H3 H03 z3 h3=>⟨H03,ρ2,(z.trans z').trans z3,h3,zcm.grow (r:=zdH tg s (ds.drop (i+1)) ρ2) q z3⟩
   | bk ρ2=>exact q
   | rt d=>exact q
theorem zf2 {tgt iter:Expr}{body:List Stmt}{tg:Ev->D->Res Ev}{src:Ev->Res (List D)}(hp:PassesOwn (model X.prog X.w) X.A X.env X.xe)(hc:X.calm=true)(hi:DI X E tgt iter src)(hg:DG X E He H0e tgt tg)(ht:zxT tg)(hb:DSs X E He H0e body s)
  (hs:∀ x,foldedSetIterable iter X.env x=pure x:=by intro _;rfl):DS X E He H0e (.For tgt iter body [] pos) (zhq src tg s):=by
 refine⟨zbT (zvg hp hc hi.o hg.o hb.o hs) fun D' σ H ⟨Ha,ρ,h,q⟩=>⟨Ha,ρ,h.g.sub,h.rd,?_⟩⟩;unfold zhq at q;cases e1:src ρ with
 | stuck=>rw[e1] at q;exact q
 | exn x=>rw[e1] at q;exact fun C ox H' Ha' g r=>q C ox H' Ha' (h.g.trans g) r
 | ok ds =>
  rw[e1] at q;intro J H1 H01 g it;have q1:zcm X.K E He H0e H01 (zdH tg s ds ρ) D':=zcm.grow (r:=zdH tg s ds ρ) q g.z;refine⟨fun i m σ' H'=>m+i=ds.length/\zi6 X.K E He H0e H01 tg s ds D' i σ' H',⟨ds.length,rfl,H01,ρ,zaM.refl _,h.grow g,q1⟩,?_⟩;rintro i m σ' H' ⟨hm,Ha',ρ',z,h',hq⟩
  by_cases hlt:i < ds.length
  .refine .inr ⟨it.go i H' Ha' z h'.g.sub hlt,fun σ2 H2=>zi6 X.K E He H0e H01 tg s ds D' (i+1) σ2 H2,fun σ2 H2 hl=>⟨m-1,by omega,by omega,hl⟩,fun x H2 hy=>?_⟩
   obtain⟨H₀2,g2,rp⟩:=it.yld i H' Ha' x H2 ds[i] z h'.g.sub (saa hlt) hy;exact zr9 (z.trans g2.z) (h'.grow g2) (zcm.grow (r:=zdH tg s (ds.drop i) ρ') hq g2.z) (saa hlt) rp fun ρ=>ht ρ _
  .have e:i=ds.length:=by omega
   refine .inl ⟨it.stop i H' Ha' z h'.g.sub (by omega),?_⟩;subst e;exact zi6.done ⟨Ha',ρ',z,h',hq⟩
end
def zkK (f:Ev->Res D):Prop:=∀ ρ d,f ρ=.ok d->∃ ds,d=.lst ds
theorem zsj {K:saj}{E:XK}{f:Ev->Res D}(hf:zkK f){σ:L2.St}{H:Hp}{Q:VK}(h:tD K E f σ H Q):tF K E f σ H Q:=by
 obtain⟨Ha,ρ,hs,hr,q⟩:=h;refine⟨Ha,ρ,hs,hr,?_⟩;cases e1:f ρ with
 | stuck=>rw[e1] at q;exact q
 | exn x=>rw[e1] at q;exact q
 | ok d =>
  obtain⟨ds,rfl⟩:=hf ρ d e1;rw[e1] at q;intro p vs H' Ha' g hp h0 hv rp;have n0:Ha p=none:=hs.free hp;refine q (.ref p) H' (upd Ha' p (.lst vs)) ⟨g.s,fun b o e=>?_,fun b o e=>?_,fun b k1 k2=>?_⟩ (zao.mpr ⟨p,vs,rfl,SqL.of zau,rp.mono fun b o e=>?_⟩)
  .rw[zav (by intro z;subst z;rw[n0] at e;cases e)];exact g.z _ _ e
  .by_cases hb:b=p
   .subst hb;rw[zau] at e;cases e;exact hv
   .rw[zav hb] at e;exact g.sub _ _ e
  .by_cases hb:b=p
   .subst hb;exact hp
   .rw[zav hb] at k1;exact g.nw b k1 k2
  .rw[zav (by intro z;subst z;rw[h0] at e;cases e)];exact e
theorem zzl {X:Cx}{E:XK}{e:Expr}{f:Ev->Res D}(hf:zkK f)(h:DF X E e f):DE X E e f:=⟨zaX h.o fun σ H Q q=>zsj hf q⟩
def zel (n:Nat)(fr:List Nat)(ρ:Ev):Ev:=sat n .no++fr.map fun(i:Nat)=>match ρ[i]? with
 | some (.sh d)=>.sh d
 | _=>.no
noncomputable def zcf (b:Ev) (tg:Ev->D->Res Ev) (tt fe:Ev->Res D):List D->Res (List D)
 | []=>.ok []
 | d::r=>(tg b d).bind fun ρ1=>(tt ρ1).bind fun t=>match t with
  | .bl true=>(fe ρ1).bind fun x=>(zcf b tg tt fe r).bind fun xs=>.ok (x::xs)
  | .bl false=>zcf b tg tt fe r
  | _=>.stuck
noncomputable def zes (n:Nat) (fr:List Nat) (src:Ev->Res (List D)) (tg:Ev->D->Res Ev) (tt fe:Ev->Res D):Ev->Res D:=fun ρ=>(src ρ).bind fun ds =>
 if ds.length<=line then match zcf (zel n fr ρ) tg tt fe ds with
  | .ok es=>.ok (.lst es)
  | _=>.stuck
 else .stuck
theorem zlK {n:Nat}{fr:List Nat}{src:Ev->Res (List D)}{tg:Ev->D->Res Ev}{tt fe:Ev->Res D}:zkK (zes n fr src tg tt fe):=fun ρ d h=>by
 unfold zes at h;cases e1:src ρ with
 | stuck=>rw[e1] at h;cases h
 | exn x=>rw[e1] at h;cases h
 | ok ds =>
  rw[e1] at h;replace h:(if ds.length<=line then match zcf (zel n fr ρ) tg tt fe ds with
   | .ok es=>Res.ok (D.lst es)
   | _=>.stuck else .stuck)=.ok d:=h
  split at h
  .split at h
   .cases h;exact⟨_,rfl⟩
   .cases h
  .cases h
theorem zhn {b:Ev}{tg:Ev->D->Res Ev}{tt fe:Ev->Res D}{d:D}{r es:List D}(h:zcf b tg tt fe (d::r)=.ok es) :
  ∃ ρ1 t,tg b d=.ok ρ1/\tt ρ1=.ok (.bl t)/\((t=true/\∃ x xs,fe ρ1=.ok x/\zcf b tg tt fe r=.ok xs/\es=x::xs)∨(t=false/\zcf b tg tt fe r=.ok es)):=by
 unfold zcf at h;cases e1:tg b d with
 | stuck=>rw[e1] at h;cases h
 | exn z=>rw[e1] at h;cases h
 | ok ρ1 =>
  rw[e1] at h;replace h:((tt ρ1).bind fun t=>match t with
   | .bl true=>(fe ρ1).bind fun x=>(zcf b tg tt fe r).bind fun xs=>Res.ok (x::xs)
   | .bl false=>zcf b tg tt fe r
   | _=>.stuck)=.ok es:=h
  cases e2:tt ρ1 with
  | stuck=>rw[e2] at h;cases h
  | exn z=>rw[e2] at h;cases h
  | ok t =>
   rw[e2] at h;cases t with
   | bl t =>
    cases t with
    | true =>
     replace h:((fe ρ1).bind fun x=>(zcf b tg tt fe r).bind fun xs=>Res.ok (x::xs))=.ok es:=h;cases e3:fe ρ1 with
     | stuck=>rw[e3] at h;cases h
     | exn z=>rw[e3] at h;cases h
     | ok x =>
      rw[e3] at h;replace h:((zcf b tg tt fe r).bind fun xs=>Res.ok (x::xs))=.ok es:=h;cases e4:zcf b tg tt fe r with
      | stuck=>rw[e4] at h;cases h
      | exn z=>rw[e4] at h;cases h
      | ok xs=>rw[e4] at h;cases h;exact⟨ρ1,true,rfl,e2,.inl ⟨rfl,x,xs,e3,rfl,rfl⟩⟩
    | false=>exact⟨ρ1,false,rfl,e2,.inr ⟨rfl,h⟩⟩
   | _=>cases h
theorem zgZ {b:Ev}{tg:Ev->D->Res Ev}{tt fe:Ev->Res D}{d x:D}{r:List D}{ρ1:Ev}(h1:tg b d=.ok ρ1)(h2:tt ρ1=.ok (.bl true))(h3:fe ρ1=.ok x):zcf b tg tt fe (d::r)=(zcf b tg tt fe r).bind fun xs=>.ok (x::xs):=by
 rw[zcf,h1];simp only[Res.bind,h2,h3]
theorem zoW {b:Ev}{tg:Ev->D->Res Ev}{tt fe:Ev->Res D}{d:D}{r:List D}{ρ1:Ev}(h1:tg b d=.ok ρ1)(h2:tt ρ1=.ok (.bl false)):zcf b tg tt fe (d::r)=zcf b tg tt fe r:=by
 rw[zcf,h1];simp only[Res.bind,h2]
theorem zlO {b:Ev}{tg:Ev->D->Res Ev}{tt fe:Ev->Res D}:∀ {r q es:List D},zcf b tg tt fe (r++q)=.ok es->∃ e1 e2,zcf b tg tt fe r=.ok e1/\zcf b tg tt fe q=.ok e2/\es=e1++e2
 | [],q,es,h=>⟨[],es,rfl,h,rfl⟩
 | d::r,q,es,h=>by
  obtain⟨ρ1,t,h1,h2,h3⟩:=zhn h;rcases h3 with⟨rfl,x,xs,h3,h4,rfl⟩ | ⟨rfl,h4⟩
  .obtain⟨e1,e2,k1,k2,rfl⟩:=zlO h4
   refine⟨x::e1,e2,?_,k2,rfl⟩;rw[zgZ h1 h2 h3,k1];rfl
  .obtain⟨e1,e2,k1,k2,rfl⟩:=zlO h4
   refine⟨e1,e2,?_,k2,rfl⟩;rw[zoW h1 h2];exact k1
theorem zhm {b:Ev}{tg:Ev->D->Res Ev}{tt fe:Ev->Res D}:∀ {r q e1 e2:List D},zcf b tg tt fe r=.ok e1->zcf b tg tt fe q=.ok e2->zcf b tg tt fe (r++q)=.ok (e1++e2)
 | [],q,e1,e2,h,h'=>by cases h;exact h'
 | d::r,q,e1,e2,h,h'=>by
  obtain⟨ρ1,t,h1,h2,h3⟩:=zhn h;show zcf b tg tt fe (d::(r++q))=_;rcases h3 with⟨rfl,x,xs,h3,h4,rfl⟩ | ⟨rfl,h4⟩
  .rw[zgZ h1 h2 h3,zhm h4 h'];rfl
  .rw[zoW h1 h2];exact zhm h4 h'
theorem zoX {b:Ev}{tg:Ev->D->Res Ev}{tt fe:Ev->Res D}:∀ {r es:List D},zcf b tg tt fe r=.ok es->es.length<=r.length
 | [],es,h=>by cases h;exact saA _
 | d::r,es,h=>by
  obtain⟨ρ1,t,h1,h2,h3⟩:=zhn h;rcases h3 with⟨rfl,x,xs,h3,h4,rfl⟩ | ⟨rfl,h4⟩
  .exact Nat.succ_le_succ (zoX h4)
  .exact Nat.le_succ_of_le (zoX h4)
def zEB (n:Nat)(tg:Ev->D->Res Ev):Prop:=∀ ρ d ρ',tg ρ d=.ok ρ'->ρ'.length=ρ.length/\∀ (k:Nat),n<=k->ρ'[k]?=ρ[k]?
theorem zeu {i n:Nat}(h:i < n):zEB n (zea i):=fun ρ d ρ' e=>by
 cases e;exact⟨by simp,fun k hk=>by rw[sao (by omega)]⟩
theorem zjK {n:Nat}:∀ {is:List Nat}{ds:List D}{ρ:Ev},(is.all fun i=>decide (i < n))=true->(zcC ρ is ds).length=ρ.length/\∀ (k:Nat),n<=k->(zcC ρ is ds)[k]?=ρ[k]?
 | [],ds,ρ,_=>by unfold zcC;exact⟨rfl,fun _ _=>rfl⟩
 | i::is,[],ρ,_=>by unfold zcC;exact⟨rfl,fun _ _=>rfl⟩
 | i::is,d::ds,ρ,h=>by
  rw[sb7,saF,decide_eq_true_eq] at h;unfold zcC;obtain⟨h1,h2⟩:=zjK (ds:=ds) (ρ:=ρ.set i (.sh d)) h.2;exact⟨by rw[h1];simp,fun k hk=>by rw[h2 k hk,sao (by omega)]⟩
theorem zsg {n:Nat}{is:List Nat}(h:(is.all fun i=>decide (i < n))=true):zEB n (zff is):=fun ρ d ρ' e=>by
 unfold zff at e;cases hp:zc5 is.length d with
 | none=>rw[hp] at e;cases e
 | some ds=>rw[hp] at e;cases e;exact zjK h
theorem zui {K:saj}{Ha:Hp}{σ:L2.St}{ρ:Ev}{n:Nat}{fr:List Nat}(h:zhb K Ha σ ρ):zhb K Ha (zo9 n fr σ) (zel n fr ρ):=fun i d e=>by
 unfold zel at e;unfold zo9
 by_cases hi:i < n
 .rw[saC (by simpa using hi),saP,if_pos hi] at e
  cases e
 .rw[saI (by simpa using hi),sbw,sai] at e ⊢
  cases hf:fr[i-n]? with
  | none=>rw[hf] at e;cases e
  | some j =>
   rw[hf] at e;simp only[scA,sb5] at e ⊢;cases hj:ρ[j]? with
   | none=>rw[hj] at e;cases e
   | some s =>
    rw[hj] at e;cases s with
    | sh d' =>
     cases e;obtain⟨v,h1,h2⟩:=h j d hj;exact⟨v,by rw[h1];rfl,h2⟩
    | _=>cases e
theorem zB0 {n:Nat}{fr:List Nat}{ρ:Ev}{k:Nat}(h:k < n):(zel n fr ρ)[k]?=some .no:=by
 unfold zel;rw[saC (by simpa using h),saP,if_pos h]
theorem zzq {n:Nat}{fr:List Nat}{ρ:Ev}(i j:Nat)(es:List D):(zel n fr ρ)[i]?≠some (.ox j es):=fun e=>by
 unfold zel at e
 by_cases hj:i < n
 .rw[saC (by simpa using hj),saP,if_pos hj] at e;cases e
 .rw[saI (by simpa using hj),sai] at e
  cases hf:fr[i-(sat n Sl.no).length]? with
  | none=>rw[hf] at e;cases e
  | some z =>
   rw[hf] at e;simp only[scA,sb5] at e;split at e<;>cases e
theorem zs9 {n:Nat}{fr:List Nat}{ρ:Ev}:(zel n fr ρ).length=n+fr.length:=by unfold zel;simp
theorem zue {K:saj}{E:XK}{n:Nat}{fr:List Nat}{tg:Ev->D->Res Ev}{tt fe:Ev->Res D}{σ:L2.St}{ρ:Ev}{H Ha H1 H01:Hp}{ds es:List D}{J:It}{Q:VK}(hsame:zaM Ha H)(g1:zcv H Ha H1 H01)(it:ItD K ds J H01)(hl:ds.length<=line)
  (e2:zcf (zel n fr ρ) tg tt fe ds=.ok es)(hr:zhb K H01 σ ρ)(hok:zEB n tg)
  (q:∀ p vs H' Ha',zcv H Ha H' Ha'->H p=none->Ha' p=none->H' p=some (.lst vs)->Reps K Ha' es vs->Q (.ref p) H') :
  zuP n fr (zFD K tg) (tDT K E tt) (tD K E fe) J σ H1 Q:=by
 intro Da hDa;have h0D:H01 Da=none:=g1.sub.free hDa;refine⟨fun i m ys σ' H'=>m=ds.length-i/\i<=ds.length/\σ'.length=n+fr.length/\∃ Ha',zcv H1 H01 H' Ha'/\Ha' Da=none/\H' Da=some (.lst ys)/\zhb K Ha' σ' (zel n fr ρ)/\∃ es1,zcf (zel n fr ρ) tg tt fe (ds.take i)=.ok es1/\Reps K Ha' es1 ys,
  ⟨ds.length,by simp,scp _,by unfold zo9;simp,H01,?_,h0D,zau,zui hr,[],rfl,Reps.nil⟩,?_⟩
 .refine⟨fun b o e=>by rw[zav (zaJ e hDa)];exact e,zaM.refl _,fun b o e=>?_,fun b k1 k2=>absurd k2 k1⟩
  rw[zav (by intro z;subst z;rw[h0D] at e;cases e)];exact g1.sub _ _ e
 .rintro i m ys σ' H' ⟨rfl,hile,hsl,Ha',gg,hD0,hDl,hrd,es1,hes1,hys⟩
  refine⟨hDl,?_⟩
  by_cases hlt:i < ds.length
  .refine .inr ⟨it.go i H' Ha' gg.z gg.sub hlt,?_,?_⟩
   .rw[← hys.length]
    have:=zoX hes1;rw[sa4] at this;have h2:line < sizeLine:=by decide
    omega
   .intro x H2 hy
    obtain⟨H₀2,g2,rp⟩:=it.yld i H' Ha' x H2 ds[i] gg.z gg.sub (saa hlt) hy;have hsplit:ds=ds.take i++(ds[i]::ds.drop (i+1)):=by rw[← sbc hlt,List.take_append_drop]
    rw[hsplit] at e2;obtain⟨a1,a2,k1,k2,k3⟩:=zlO e2;rw[hes1] at k1;cases k1;obtain⟨ρ1,t,t1,t2,t3⟩:=zhn k2;have hn2:H₀2 Da=none:=by
     cases qq:H₀2 Da with
     | none=>rfl
     | some o=>have:=g2.nw Da (by rw[qq];simp) hD0;rw[hDl] at this;cases this
    have hD2:H2 Da=some (.lst ys):=g2.s _ _ hDl;refine⟨H2,H₀2,H₀2,zel n fr ρ,ds[i],⟨zcv.refl g2.sub,hrd.mono g2.z,fun j d' e=>?_,fun j k d1 d2 _ e=>?_,by rw[zs9,hsl],OX.none zzq⟩,rp,?_⟩
    .unfold zel at e
     by_cases hj:j < n
     .rw[saC (by simpa using hj),saP,if_pos hj] at e;cases e
     .rw[saI (by simpa using hj),sai] at e
      cases hf:fr[j-(sat n Sl.no).length]? with
      | none=>rw[hf] at e;cases e
      | some z =>
       rw[hf] at e;simp only[scA,sb5] at e;split at e<;>cases e
    .unfold zel at e
     by_cases hj:j < n
     .rw[saC (by simpa using hj),saP,if_pos hj] at e;cases e
     .rw[saI (by simpa using hj),sai] at e
      cases hf:fr[j-(sat n Sl.no).length]? with
      | none=>rw[hf] at e;cases e
      | some z =>
       rw[hf] at e;simp only[scA,sb5] at e;split at e<;>cases e
    .rw[t1]
     intro σ3 H3 H03 z3 s3;have hrl:=hok _ _ _ t1;have hσ3:σ3.length=n+fr.length:=by rw[← s3.ln,hrl.1,zs9]
     have back:∀ {Hx:Hp},zaM H03 Hx->zhb K Hx σ3 (zel n fr ρ):=fun {Hx} sx k d e=>by
      by_cases hk:k < n
      .rw[zB0 hk] at e;cases e
      .rw[← hrl.2 k (by omega)] at e
       obtain⟨v,h1,h2⟩:=s3.rd k d e;exact⟨v,h1,h2.mono sx⟩
     have n3:H03 Da=none:=by
      cases qq:H03 Da with
      | none=>rfl
      | some o=>have:=s3.g.nw Da (by rw[qq];simp) hn2;rw[hD2] at this;cases this
     have hD3:H3 Da=some (.lst ys):=s3.g.s _ _ hD2;refine⟨H03,ρ1,s3.g.sub,s3.rd,?_⟩;rw[t2];intro H4 H04 g4;have hD4:H4 Da=some (.lst ys):=g4.s _ _ hD3;have n4:H04 Da=none:=by
      cases qq:H04 Da with
      | none=>rfl
      | some o=>have:=g4.nw Da (by rw[qq];simp) n3;rw[hD3] at this;cases this
     have htake:ds.take (i+1)=ds.take i++[ds[i]]:=by rw[List.take_add_one,saa hlt];rfl
     have g04:=(gg.trans g2).trans (s3.g.trans g4);rcases t3 with⟨rfl,y,xs,t3,t4,_⟩ | ⟨rfl,t4⟩
     .rw[if_pos rfl]
      refine⟨H04,ρ1,g4.sub,s3.rd.mono g4.z,?_⟩;rw[t3];intro yv H5 H05 g5 ry;have hD5:H5 Da=some (.lst ys):=g5.s _ _ hD4;have n5:H05 Da=none:=by
       cases qq:H05 Da with
       | none=>rfl
       | some o=>have:=g5.nw Da (by rw[qq];simp) n4;rw[hD4] at this;cases this
      have gall:=g04.trans g5;refine⟨hD5,ds.length-(i+1),by omega,rfl,hlt,hσ3,H05,⟨fun b o e=>?_,gall.z,fun b o e=>?_,gall.nw⟩,n5,zau,back (g4.z.trans g5.z),es1++[y],?_,?_⟩
      .rw[zav (zaJ e hDa)];exact gall.s _ _ e
      .rw[zav (by intro z;subst z;rw[n5] at e;cases e)];exact gall.sub _ _ e
      .rw[htake]
       refine zhm hes1 ?_;rw[zgZ t1 t2 t3];rfl
      .exact(hys.mono ((g2.z.trans s3.g.z).trans (g4.z.trans g5.z))).app (Reps.cons ry Reps.nil)
     .rw[if_neg saD]
      refine⟨ds.length-(i+1),by omega,rfl,hlt,hσ3,H04,g04,n4,hD4,back g4.z,es1,?_,hys.mono ((g2.z.trans s3.g.z).trans g4.z)⟩;rw[htake];rw[show es1=es1++[] by simp];refine zhm hes1 ?_;rw[zoW t1 t2];rfl
  .have hi2:i=ds.length:=by omega
   refine .inl ⟨it.stop i H' Ha' gg.z gg.sub (by omega),?_⟩;rw[hi2,sbX] at hes1;rw[e2] at hes1;cases hes1;exact q Da ys H' Ha' (g1.trans gg) (g1.s.free hDa) hD0 hDl hys
structure DIf (X:Cx) (E:XK) (ifs:List Expr) (f:Ev->Res D):Prop where
 o:PIf X ifs (tDT X.K E f)
def mYes:Ev->Res D:=fun _=>.ok (.bl true)
theorem zgS {X:Cx}{E:XK}:DIf X E [] mYes:=⟨fun pins s σ H Q I ⟨Ha,ρ,hs,hr,q⟩=>zAK pins s σ H Q I (q H Ha (zcv.refl hs))⟩
theorem zxn {X:Cx}{E:XK}{c:Expr}{f:Ev->Res D}(h:DT X E c f):DIf X E [c] f:=⟨zAJ h.o⟩
structure DCo (X:Cx) (E:XK) (e:Expr) (f:Ev->Res D):Prop where
 ev:PE X e (tF X.K E f)
 st:∀ {i:Nat}{x:Str}{pos' spos:Pos},X.N.Nodup->X.N[i]?=some x->X.env.scope.names.lookup x=some .local -> swapsWith e (some (.Name x pos')) spos.line X.env=pure true->PS X (.Assign [.Name x pos'] e spos) (zE8 (tF X.K E f) (zBb i))
theorem dco {X:Cx}{E:XK}{tgt iter elt:Expr}{ifs:List Expr}{scope:Scope}{pos:Pos}(N:List Str)(n:Nat)(fr:List Nat){src:Ev->Res (List D)}{tg:Ev->D->Res Ev}{tt fe:Ev->Res D}(hc:X.calm=true)(hi:DI X E tgt iter src)(hok:zEB n tg)
  (blk:∀ s H C fp pn,(∀ He H0e,DG (zfp X N scope s H C fp pn) E He H0e tgt tg)/\DIf (zfp X N scope s H C fp pn) E ifs tt/\DE (zfp X N scope s H C fp pn) E elt fe)
  (hfr:zEG X N n fr scope)(hcell:∀ x∈scope.names,x.2≠.cell)(hfree:∀ x∈scope.names,x.2=.free->X.env.scope.names.lookup x.1=some .cell)(hkind:scope.kind=.function)(hnames:∀ x∈scope.names,x.2=.local -> scope.names.lookup x.1=some .local)
  (hs:∀ x,foldedSetIterable iter X.env x=pure x:=by intro _;rfl):DCo X E (.ListComp elt [⟨tgt,iter,ifs,0⟩] scope pos) (zes n fr src tg tt fe):=by
 have blk':∀ s H C fp pn,PG (zfp X N scope s H C fp pn) tgt (zFD X.K tg)/\PIf (zfp X N scope s H C fp pn) ifs (tDT X.K E tt)/\PE (zfp X N scope s H C fp pn) elt (tD X.K E fe):=fun s H C fp pn =>
  ⟨fun pins s' σ' H' v u Q' I r ⟨He,H0e,q'⟩=>((blk s H C fp pn).1 He H0e).o pins s' σ' H' v u Q' I r q',(blk s H C fp pn).2.1.o,(blk s H C fp pn).2.2.o⟩
 have first:∀ {pins:List (Addr×Obj)}{s:Shared}{σ:L2.St}{H:Hp}{Q:VK}{RR:Value->Addr->Result->Shared->Prop},L2.Inv X pins σ H s->tF X.K E (zes n fr src tg tt fe) σ H Q ->
   (∀ (Da C:Addr) (s6:Shared) (H5:Hp) (m:Str->Option Value),L2.Inv X pins σ H5 s6->s6.heap.Ns C m->zuq X pins H5 C->Q (.ref Da) H5->RR (.ref Da) C (.ok .next) s6) ->
   wpAny (model X.prog X.w) X.A (eval iter X.env) (fun x si=>wpAny (model X.prog X.w) X.A (pyIter x) (fun it sf=>wpAny (model X.prog X.w) X.A (newList []) (fun acc sj =>
    wpAny (model X.prog X.w) X.A (newFunctionEnv scope X.env.globals (zmE X.env.cells scope.names []) [] X.env.qual none .none (some X.env)) (fun cenv sr =>
     codeAny (model X.prog X.w) X.A (.compStart (.ListComp elt [⟨tgt,iter,ifs,0⟩] scope pos) 0 it acc { cenv with scope:=relabel scope X.env }) (RR acc cenv.locals) sr) X.xe sj) X.xe sf) X.xe si) X.xe s:=by
  intro pins s σ H Q RR I ⟨Ha,ρ,hsame,hr,q⟩ fin;refine thn (hi.o pins s σ H (fun J H1=>zuP n fr (zFD X.K tg) (tDT X.K E tt) (tD X.K E fe) J σ H1 Q) I ⟨Ha,ρ,hsame,hr,?_⟩) fun v s1 h1=>thn h1 fun itv s2 h2=>zxB (N:=N) hc hfr hcell hfree hkind blk' h2 fin;unfold zes at q;cases e1:src ρ with
  | stuck=>rw[e1] at q;exact q
  | exn x=>rw[e1] at q;exact q
  | ok ds =>
   rw[e1] at q;intro J H1 H01 g1 it;replace q:match (if ds.length<=line then match zcf (zel n fr ρ) tg tt fe ds with
     | .ok es=>Res.ok (D.lst es)
     | _=>.stuck else .stuck) with
    | .ok (.lst ds)=>∀ p vs H' Ha',zcv H Ha H' Ha'->H p=none->Ha' p=none->H' p=some (.lst vs)->Reps X.K Ha' ds vs->Q (.ref p) H'
    | .ok _=>False
    | .exn x=>∀ C ox H' Ha',zcv H Ha H' Ha'->ExR X.K Ha' x C ox->E C ox H'
    | .stuck=>False:=q
   by_cases hl:ds.length<=line
   .rw[if_pos hl] at q
    cases e2:zcf (zel n fr ρ) tg tt fe ds with
    | stuck=>rw[e2] at q;exact q.elim
    | exn x=>rw[e2] at q;exact q.elim
    | ok es =>
     rw[e2] at q;exact zue hsame g1 it hl e2 (hr.mono g1.z) hok q
   .rw[if_neg hl] at q;exact q.elim
 have hcl:∀ {pins:List (Addr×Obj)}{s:Shared}{σ:L2.St}{H:Hp},L2.Inv X pins σ H s->closureFor scope X.env=pure (zmE X.env.cells scope.names []):=fun {pins s σ H} I=>zoZ fun y hy hf=>I.ok.has y.1 (.inl (hfree y hy hf));refine⟨fun pins s σ H Q I h=>?_,fun {i x pos' spos} hN hi' hx hsw pins s σ H D' I h=>?_⟩
 .rw[eval_ListComp]
  refine wpAny_comprehension_free (use:=none) rfl hs (hcl I) hkind hnames (first (RR:=fun acc C=>compPost (model X.prog X.w) X.A X.xe none (EP X pins σ Q) acc C) I h fun Da C s6 H5 m I6 ns fC q=>?_);refine⟨m,ns,fun h' sb=>⟨.ref Da,H5,?_,rfl,q⟩⟩;exact I6.turned (t':=s6.toks) (it:=C) (fun b o hb e=>(sb.2 b hb).trans e) fC.1 fC.2.1 fC.2.2.2.1 fC.2.2.2.2.1 fC.2.2.2.2.2
 .rw[exec_Assign_Name_used _ _ _ _ hsw]
  refine sae (wpAny_standAt (sae ?_));show wpAny _ X.A (do let _ ← comprehension (.ListComp elt [⟨tgt,iter,ifs,0⟩] scope pos) scope X.env _ (newList []) false (eval iter X.env) (some (assign (.Name x pos') X.env))) _ _ s;refine sae (sbe (wpAny_comprehension_free (use:=some (assign (.Name x pos') X.env)) (Q:=fun _ s'=>SP X pins D' .next s') rfl hs (hcl I) hkind hnames
   (first (RR:=fun acc C=>compPost (model X.prog X.w) X.A X.xe (some (assign (.Name x pos') X.env)) (fun _ s'=>SP X pins D' .next s') acc C) I h fun Da C s6 H5 m I6 ns fC q=>?_)) (fun _ s' hq=>sau (sau hq)) fun _ _ e=>e)
  show wpAny _ X.A (assign (.Name x pos') X.env (.ref Da)) _ _ _;refine wpAny_assign_Name (zpv (v:=.ref Da) I6 hN hi' (.inl hx) rfl (fun s' I' ⟨a,sb,ha⟩=>?_) (.inr hx));have hCa:C≠a:=by
   rcases ha with rfl | ha
   .exact fC.2.1
   .exact fun z=>fC.2.2.2.2.1 x a ha z.symm
  refine⟨m,ns.sameBut sb hCa,fun h' sb'=>⟨_,H5,?_,q⟩⟩;exact I'.turned (t':=s'.toks) (it:=C) (fun b o hb e=>(sb'.2 b hb).trans e) fC.1 fC.2.1 fC.2.2.2.1 fC.2.2.2.2.1 fC.2.2.2.2.2
theorem zFK {X:Cx}{E:XK}{e:Expr}{f:Ev->Res D}(h:DCo X E e f):DF X E e f:=⟨h.ev⟩
theorem zub {X:Cx}{E:XK}{e:Expr}{n:Nat}{fr:List Nat}{src:Ev->Res (List D)}{tg:Ev->D->Res Ev}{tt fe:Ev->Res D}(h:DCo X E e (zes n fr src tg tt fe)):DE X E e (zes n fr src tg tt fe):=zzl zlK (zFK h)
section
variable {X:Cx}{E:XK}{He H0e:Hp}{e:Expr}{f:Ev->Res D}{s:Ev->Res Fl}{pos:Pos}{st:Stmt}
theorem zxl {i:Nat}{x:Str}{pos':Pos}(hN:X.N.Nodup)(hi:X.N[i]?=some x)(hx:X.env.scope.names.lookup x=some .local)(he:DCo X E e f)(hs:swapsWith e (some (.Name x pos')) pos.line X.env=pure true:=by rfl):DS X E He H0e (.Assign [.Name x pos'] e pos) (zqH i f):=by
 refine⟨zbT (he.st hN hi hx hs) fun D σ H ⟨Ha,ρ,h,q⟩=>⟨Ha,ρ,h.g.sub,h.rd,?_⟩⟩;unfold zqH at q;cases e1:f ρ with
 | stuck=>rw[e1] at q;exact q
 | exn x=>rw[e1] at q;exact fun C ox H' Ha' g ex=>q C ox H' Ha' (h.g.trans g) ex
 | ok d =>
  rw[e1] at q;cases d with
  | lst ds =>
   intro p vs H' Ha' g hp h0 hv rp;refine q _ H' Ha' g.z ((h.grow g).putOwn (fun j a ej ea d ed=>?_) (h.g.s.free hp) h0 hv rp (h.fresh_x g.s hp));subst ea;obtain⟨a',k1,_,_,k4⟩:=h.ow j d ed;rw[ej] at k1;cases k1;cases d with
   | lst ds'=>obtain⟨vs',h5,_⟩:=k4;rw[hp] at h5;cases h5
   | _=>exact k4.elim
  | _=>exact q.elim
def unown (i:Nat)(ρ:Ev):Ev:=match ρ[i]? with
 | some (.ow d)=>ρ.set i (.sh d)
 | _=>ρ
def zzH (i:Nat)(s:Ev->Res Fl):Ev->Res Fl:=fun ρ=>s (unown i ρ)
theorem SRx.unown {K:saj}{Ha H:Hp}{σ:L2.St}{ρ:Ev}(h:SRx K He H0e Ha σ H ρ)(i:Nat):∃ Ha',zaM Ha Ha'/\SRx K He H0e Ha' σ H (DL.unown i ρ):=by
 unfold DL.unown;cases e:ρ[i]? with
 | none=>exact⟨Ha,zaM.refl _,h⟩
 | some s =>
  cases s with
  | no=>exact⟨Ha,zaM.refl _,h⟩
  | sh d=>exact⟨Ha,zaM.refl _,h⟩
  | ox j ds=>exact⟨Ha,zaM.refl _,h⟩
  | ow d =>
   obtain⟨a,k1,k2,k3,k4⟩:=h.ow i d e;cases d with
   | lst ds =>
    obtain⟨vs,h5,h6⟩:=k4;have z:zaM Ha (upd Ha a (.lst vs)):=fun b o q=>by rw[zav (by intro z;subst z;rw[k3] at q;cases q)];exact q
    have h':SRx K He H0e (upd Ha a (.lst vs)) σ H (ρ.set i .no):=by
     have nset:∀ (j:Nat) (s:Sl),(ρ.set i .no)[j]?=some s->s≠.no->j≠i/\ρ[j]?=some s:=fun j s q hs=>by
      by_cases hj:i=j
      .subst hj
       rw[sck] at q;rw[e] at q;cases q;exact absurd rfl hs
      .rw[sao hj] at q;exact⟨fun z=>hj z.symm,q⟩
     refine⟨⟨h.g.s,h.g.z.trans z,fun b o q=>?_,fun b q1 q2=>?_⟩,fun j d' q=>?_,fun j d' q=>?_,fun j k d1 d2 hn q1 q2=>?_,by simp [h.ln],h.ex.upd (fun j s q=>?_) z (fun b us _ eb=>eb) fun q us _ q0 hq hd=>?_⟩
     rotate_left 5
     .by_cases hs:s=.no
      .exact .inr (.inr (.inl hs))
      .exact .inl ⟨(nset j s q hs).2,rfl⟩
     .have hq':q≠a:=by
       intro zz;subst zz;exact hd i _ e k1
      exact⟨hq,by rw[zav hq'];exact q0⟩
     .by_cases hb:b=a
      .subst hb;rw[zau] at q;cases q;exact h5
      .rw[zav hb] at q;exact h.g.sub _ _ q
     .by_cases hb:b=a
      .subst hb;exact k2
      .rw[zav hb] at q1;exact h.g.nw b q1 q2
     .obtain⟨hj,q⟩:=nset j _ q (fun z=>nomatch z)
      obtain⟨v,q1,q2⟩:=h.rd j d' q;exact⟨v,q1,q2.mono z⟩
     .obtain⟨hj,q⟩:=nset j _ q (fun z=>nomatch z)
      obtain⟨b,q1,q2,q3,q4⟩:=h.ow j d' q;have hb:b≠a:=by
       intro zz;subst zz;exact h.ap j i d' (.lst ds) hj q e (by rw[q1,k1])
      refine⟨b,q1,q2,by rw[zav hb];exact q3,?_⟩;cases d' with
      | lst ds'=>obtain⟨vs',h7,h8⟩:=q4;exact⟨vs',h7,h8.mono z⟩
      | _=>exact q4.elim
     .obtain⟨_,q1⟩:=nset j _ q1 (fun z=>nomatch z)
      obtain⟨_,q2⟩:=nset k _ q2 (fun z=>nomatch z);exact h.ap j k d1 d2 hn q1 q2
    refine⟨_,z,?_⟩;have hp:=h'.put (i:=i) (d:=.lst ds) (v:=.ref a) (zao.mpr ⟨a,vs,rfl,SqL.of zau,h6.mono z⟩);rw[List.set_set] at hp;have hσ:σ.set i (some (V.ref a))=σ:=by
     apply sb6;intro k
     by_cases hk:i=k
     .subst hk
      obtain⟨hil,_⟩:=sad.mp k1;rw[saO hil,k1]
     .rw[sao hk]
    rw[hσ] at hp;exact hp
   | _=>exact k4.elim
theorem znd (i:Nat)(h:DS X E He H0e st s):DS X E He H0e st (zzH i s):=⟨zbT h.o fun D' σ H ⟨Ha,ρ,hr,q⟩=>by
 obtain⟨Ha',z,hr'⟩:=hr.unown i;exact⟨Ha',DL.unown i ρ,hr',zcm.grow (r:=s (DL.unown i ρ)) q z⟩⟩
end
theorem zx0 {X:Cx}{E:XK}{tgt iter elt:Expr}{ifs:List Expr}{scope:Scope}{pos:Pos}(N:List Str)(n:Nat)(fr:List Nat){src:Ev->Res (List D)}{tg:Ev->D->Res Ev}{tt fe:Ev->Res D}(hc:X.calm=true)(hi:DI X E tgt iter src)(hok:zEB n tg)
  (blk:∀ s H C fp pn,(∀ He H0e,DG (zfp X N scope s H C fp pn) E He H0e tgt tg)/\DIf (zfp X N scope s H C fp pn) E ifs tt/\DE (zfp X N scope s H C fp pn) E elt fe)
  (hfr:zEG X N n fr scope)(hcell:(scope.names.all fun x=>!(x.2==.cell))=true)(hfree:(scope.names.all fun x=>!(x.2==.free)||(X.env.scope.names.lookup x.1==some .cell))=true)(hkind:scope.kind=.function)
  (hnames:(scope.names.all fun x=>!(x.2==.local)||(scope.names.lookup x.1==some .local))=true)
  (hs:∀ x,foldedSetIterable iter X.env x=pure x:=by intro _;rfl):DCo X E (.ListComp elt [⟨tgt,iter,ifs,0⟩] scope pos) (zes n fr src tg tt fe):=by
 refine dco N n fr hc hi hok blk hfr (fun x hx z=>?_) (fun x hx z=>?_) hkind (fun x hx z=>?_) hs
 .have:=saE.mp hcell x hx
  rw[z] at this;simp at this
 .have:=saE.mp hfree x hx
  rw[z] at this;simpa using this
 .have:=saE.mp hnames x hx
  rw[z] at this;simpa using this
theorem zxj {X:Cx}{E:XK}{He H0e:Hp}{e:Expr}{f:Ev->Res D}{pos:Pos}{i:Nat}{x:Str}{pos':Pos}(hN:X.N.Nodup)(hi:X.N[i]?=some x)(hx:X.env.scope.names.lookup x=some .local)(hl:zkK f)(he:DCo X E e f)(hs:swapsWith e (some (.Name x pos')) pos.line X.env=pure true:=by rfl):DS X E He H0e (.Assign [.Name x pos'] e pos) (za4 i f):=by
 refine⟨zbT (he.st hN hi hx hs) fun D σ H ⟨Ha,ρ,h,q⟩=>?_⟩;refine zsj hl ⟨Ha,ρ,h.g.sub,h.rd,?_⟩;refine plain h q fun d v H' Ha' _ g rp q'=>?_;exact q' _ H' Ha' (zaM.refl _) ((h.grow g).put rp)
theorem zcg.there {P:Program}{w:World}{H:Hp}{h:Heap}{a:Addr}{o:HO}(x:zcg P w H h a o):∃ u,h.get? a=some u:=by
 cases o with
 | lst xs=>obtain⟨_,_,_,_,e⟩:=x;exact⟨_,e⟩
 | tup xs=>obtain⟨_,_,_,ob,e,_⟩:=x;exact⟨_,e⟩
 | dK kvs=>obtain⟨_,_,_,_,o,_,_,e,_⟩:=x;exact⟨_,e⟩
 | dT kvs=>obtain⟨_,_,_,_,o,_,_,e,_⟩:=x;exact⟨_,e⟩
 | set S n=>obtain⟨o,_,_,_,e,_⟩:=x;exact⟨_,e⟩
 | ins C dx fs=>obtain⟨_,_,_,e,_⟩:=x;exact⟨_,e⟩
 | own y=>obtain⟨_,e⟩:=x;exact⟨_,e⟩
 | xd fs=>obtain⟨_,⟨_,_,_,e,_⟩,_⟩:=x;exact⟨_,e⟩
 | rng lo hi=>obtain⟨_,_,_,e⟩:=x;exact⟨_,e⟩
 | frz ob u=>obtain⟨e,_⟩:=x;exact⟨_,e⟩
 | tbl ps=>exact⟨_,show h.get? a=some _ from x⟩
 | met f y=>exact⟨_,show h.get? a=some _ from x⟩
 | ext φ=>obtain⟨_,⟨_,e⟩,_⟩:=x;exact⟨_,e⟩
noncomputable def CXE (P:Program) (w:World):CXT:=fun outer H s E e s'=>∃ (ea C:Addr) (a0:Value) (B:Heap) (H':Hp),e=.ref ea/\s'.os=s.os/\AllBare s'.gens/\Un (frs outer) [] H H' s.heap s'.heap/\HOk P w H' s'.heap/\H' ea=none /\
 sb3 B outer ea (.ref C) a0 s'.heap/\(∀ b,b∉frs outer->(H' b≠none∨∃ o,s.heap.get? b=some o)->∃ o,B.get? b=some o)/\∃ ox,zGk s'.heap ea ox/\E (.ref C) ox H'
theorem zBc {l:List sbo}:∀ env∈l,∀ a,env.frame=some a->a∈frs l:=fun env he a hf=>sdk.mpr ⟨env,he,hf⟩
section
variable {P:Program}{w:World}{K:saj}{mg:Str->Option Value}{base:Heap}{N:List Str}{qual:Str}{scope:Scope}{f:Addr}{cd:Value}{A:Around}{outer:List sbo}{s0:Shared}{H0:Hp}{E:XK}
 {pins:List (Addr×Obj)}{σ:L2.St}{H:Hp}{s:Shared}
theorem ze7 {B h h':Heap}(k:B.StaysIn h)(k':B.StaysIn h'){b:Addr}{o:Obj}(hb:∃ u,B.get? b=some u)(e:h.get? b=some o):h'.get? b=some o:=by
 obtain⟨u,q⟩:=hb;have:=k b u q;rw[e] at this;cases this;exact k' b o q
theorem zD1 {X:Cx}(hX:X=zma (CXE P w) P w K mg base N qual scope f cd A outer s0 H0 E)(I:Inv X pins σ H s){s1:Shared}{H1:Hp}{ea C:Addr}{a0:Value}{B h':Heap}(os:s1.os=s.os)(bare:AllBare s1.gens)
  (un:Un (frs X.stack) [] H H1 s.heap s1.heap)(hok:HOk P w H1 s1.heap)(hne:H1 ea=none)(hst:B.StaysIn s1.heap)(hfr:s1.heap.FunFrames B X.stack)
  (hB:∀ b,b∉frs X.stack->(H1 b≠none∨∃ o,s.heap.get? b=some o)->∃ o,B.get? b=some o)(fl:sb3 B outer ea (.ref C) a0 h')(up:s1.heap.UpToSlots h')(hE:∃ ox,zGk h' ea ox/\E (.ref C) ox H1) :
  CXE P w outer H0 s0 E (.ref ea) { s1 with heap:=h' }:=by
 subst hX;have hL:(envOfC qual scope s0.heap.objs.size f cd).frame=some (envOfC qual scope s0.heap.objs.size f cd).locals:=rfl;have hstk:∀ b,b∈frs (envOfC qual scope s0.heap.objs.size f cd::outer)->b=(envOfC qual scope s0.heap.objs.size f cd).locals∨b∈frs outer:=fun b hb=>by
  unfold frs at hb;rw[sbs,hL] at hb;exact sas.mp hb
 have hsub:∀ b,b∈frs outer->b∈frs (envOfC qual scope s0.heap.objs.size f cd::outer):=fun b hb=>by
  unfold frs;rw[sbs,hL];exact sak _ hb
 have old:∀ b o,s0.heap.get? b=some o->b≠(envOfC qual scope s0.heap.objs.size f cd).locals:=fun b o e=>saB (saf (sam e) I.ok.above);have nofr:∀ b o,s0.heap.get? b=some o->b∉frs outer->b∉frs (envOfC qual scope s0.heap.objs.size f cd::outer):=fun b o e hb hm=>(hstk b hm).elim (old b o e) hb;have thr:∀ b o,s0.heap.get? b=some o->∃ o',s.heap.get? b=some o':=fun b o e=>I.base.there b o e (by intro z;exact nomatch z);have fst:∀ b,b∈frs outer->∀ o,s1.heap.get? b=some o->∃ sl,h'.get? b=some { o with slots:=sl }:=fun b hb o e=>by
  obtain⟨_,o',ho',hd⟩:=hfr.mem (hsub b hb);rw[e] at ho';cases ho';exact up b o e hd
 have free1:∀ b∈frs (envOfC qual scope s0.heap.objs.size f cd::outer),H1 b=none:=fun b hb=>by
  obtain⟨_,o,ho,_⟩:=I.stack.mem hb;exact un.free b o ho (I.stkFree b hb) (by simp)
 have B0:∀ b o,s0.heap.get? b=some o->b∉frs outer->∃ u,B.get? b=some u:=fun b o e hb=>hB b (nofr b o e hb) (.inr (thr b o e));refine⟨ea,C,a0,B,H1,rfl,os.trans I.os,bare,⟨fun b o e n hb hx=>?_,fun b o e n hb hx=>?_,fun b o e n hx=>?_,fun b o e hx=>?_,fun b xs e=>un.tups b xs (I.base.tups b xs e),fun b o u e=>un.frzs b o u (I.base.frzs b o u e),fun b ps e=>?_⟩,fun a o e=>?_,hne,fl,fun b hb h=>?_,hE⟩
 .have e1:=I.base.keep b o e n hb (by intro z;exact nomatch z)
  have n1:=I.base.free b o e n (by intro z;exact nomatch z);have e2:=un.keep b o e1 n1 (nofr b o e hb) (by simp);exact ze7 hst fl.1 (B0 b o e hb) e2
 .obtain⟨sl,e1⟩:=I.base.slot b o e n hb (by intro z;exact nomatch z)
  have n1:=I.base.free b o e n (by intro z;exact nomatch z);obtain⟨sl2,e2⟩:=un.any e1 n1 (by simp);obtain⟨sl3,e3⟩:=fst b hb _ e2;exact⟨sl3,e3⟩
 .obtain⟨o',e1⟩:=thr b o e
  exact un.free b o' e1 (I.base.free b o e n (by intro z;exact nomatch z)) (by simp)
 .obtain⟨o',e1⟩:=thr b o e
  obtain⟨o2,e2⟩:=un.there b o' e1 (by simp)
  by_cases hb:b∈frs outer
  .obtain⟨sl,e3⟩:=fst b hb _ e2
   exact⟨_,e3⟩
  .exact⟨_,ze7 hst fl.1 (B0 b o e hb) e2⟩
 .obtain⟨m1,e1⟩:=I.base.tbls b ps e
  obtain⟨m2,e2⟩:=un.tbls b _ e1;exact⟨m1++m2,by rw[e2,sdp]⟩
 .refine(hok a o e).stay (fun b u hb q=>?_) (fun _ q=>q) fun _ _ q=>q
  have hn:H1 b≠none:=by
   rcases hb with rfl | hb
   .rw[e];simp
   .rw[hb];simp
  exact ze7 hst fl.1 (hB b (fun hm=>hn (free1 b hm)) (.inl hn)) q
 .by_cases hm:b∈frs (envOfC qual scope s0.heap.objs.size f cd::outer)
  .rcases hstk b hm with z | z
   .rcases h with h | ⟨o,h⟩
    .exact absurd (free1 b hm) h
    .exact absurd z (old b o h)
   .exact absurd z hb
  .exact hB b hm (h.elim .inl fun⟨o,h⟩=>.inr (thr b o h))
theorem zvp:zl5 (CXE P w) (zma (CXE P w) P w K mg base N qual scope f cd A outer s0 H0 E) E:=by
 intro pins σ H s e s' I h;obtain⟨ea,C,a0,B,H',rfl,os,bare,un,hok,hne,fl,hB,ox,⟨dc,hdc,hox⟩,hE⟩:=h;refine zwg I.ok.frames rfl fl hdc fun h' fl' up hd'=>?_;exact zD1 rfl I os bare un hok hne fl.1 fl.2.2.1 hB fl' up ⟨ox,⟨dc,hd',hox⟩,hE⟩
end
theorem zpI {X:Cx}{E:XK}:zl5 CX0 X E:=fun _ _ _ _ _ _ _ h=>h.elim
theorem zjp {P:Program}{w:World}{K:saj}{mg:Str->Option Value}{base:Heap}{x qual:Str}{st:Stmt}{f:Addr}{fd:FuncData}{N ps:List Str}{k:Nat}{s:Ev->Res Fl}(F:Fun K x qual st f fd)(S:zay N ps (defScope st))
  (hbody:∀ (cdv:Value) (A:Around) (outer:List sbo) (s0:Shared) (H Ha:Hp) (E:XK),zhR k (A.deeper (envOfC qual (defScope st) s0.heap.objs.size f cdv)) ->
   DSs (zma (CXE P w) P w K mg base N qual (defScope st) f cdv A outer s0 H E) E H Ha (defBody st) s):zcB P w K mg base (CXE P w) (k+1) f fd ps (spD K ps.length (zcD N.length s)):=by
 have hpl:ps.length<=N.length:=by have:=congrArg List.length S.pre;rw[sa4] at this;omega
 obtain⟨oc,od,kV,doc,pm,an,cdv,ct,osl,rfl,lk,hcd⟩:=F.ex;refine zD0 lk hcd S (fun vs H Q E h=>h.1) fun A outer s0 H vs Q E hr h=>?_;obtain⟨hn,Ha,ds,hs,hv,q⟩:=h;refine⟨_,(hbody cdv A outer s0 H Ha E hr).o,Ha,ds.map Sl.sh++sat (N.length-ds.length) .no,?_,?_⟩
 .refine⟨zcv.refl hs,zkP hv,fun i d e=>?_,fun i j d d' hij e=>?_,?_,OX.none zpw⟩
  .by_cases hi:i < ds.length
   .rw[saC (by simpa using hi),sai] at e
    cases q:ds[i]? with
    | none=>rw[q] at e;cases e
    | some d'=>rw[q] at e;cases e
   .rw[saI (by simpa using hi),saP] at e
    split at e<;>cases e
  .by_cases hi:i < ds.length
   .rw[saC (by simpa using hi),sai] at e
    cases q:ds[i]? with
    | none=>rw[q] at e;cases e
    | some d'=>rw[q] at e;cases e
   .rw[saI (by simpa using hi),saP] at e
    split at e<;>cases e
  .unfold L2.start
   have:=hv.length;simp only[sba,sab,sbw];omega
 .unfold zcD at q
  cases e1:s (ds.map Sl.sh++sat (N.length-ds.length) .no) with
  | stuck=>rw[e1] at q;exact q
  | exn x=>rw[e1] at q;exact q
  | ok r =>
   rw[e1] at q;cases r with
   | nx ρ'=>exact fun σ' H' Ha' _ h'=>q .non H' Ha' h'.g (zaF.mpr rfl)
   | rt d=>exact fun v H' Ha' g rp=>q v H' Ha' g rp
   | bk ρ'=>exact q.elim
   | ct ρ'=>exact q.elim
def zzG (x:Str)(fa:Ev->Res (List D)):Ev->Res Fl:=fun ρ=>(fa (shr ρ)).bind fun ds=>if ds.length<=line then .exn ⟨x,[]⟩ else .stuck
section
variable {P:Program}{w:World}{K:saj}{mg:Str->Option Value}{base:Heap}{N:List Str}{qual:Str}{scope:Scope}{f:Addr}{cd:Value}{A:Around}{outer:List sbo}{s0:Shared}{H0:Hp}{E:XK}{He H0e:Hp}
end
section
variable {P:Program}{w:World}{st:List sbo}{H H':Hp}{h g g' B:Heap}
theorem Un.fly (un:Un (frs st) [] H H' h g)(k:B.StaysIn g)(hfr:g.FunFrames B st)(hB:∀ b,b∉frs st->(H' b≠none∨∃ o,h.get? b=some o)->∃ o,B.get? b=some o)(k':B.StaysIn g')(up:g.UpToSlots g'):Un (frs st) [] H H' h g':=by
 have fst:∀ b,b∈frs st->∀ o,g.get? b=some o->∃ sl,g'.get? b=some { o with slots:=sl }:=fun b hb o e=>by
  obtain⟨_,o',ho',hd⟩:=hfr.mem hb;rw[e] at ho';cases ho';exact up b o e hd
 refine⟨fun b o e n hb hx=>?_,fun b o e n hb hx=>?_,un.free,fun b o e hx=>?_,un.tups,un.frzs,un.tbls⟩
 .exact ze7 k k' (hB b hb (.inr ⟨o,e⟩)) (un.keep b o e n hb hx)
 .obtain⟨sl,e1⟩:=un.slot b o e n hb hx
  obtain⟨sl2,e2⟩:=fst b hb _ e1;exact⟨sl2,e2⟩
 .obtain⟨o',e1⟩:=un.there b o e hx
  by_cases hb:b∈frs st
  .obtain⟨sl,e2⟩:=fst b hb _ e1
   exact⟨_,e2⟩
  .exact⟨_,ze7 k k' (hB b hb (.inr ⟨o,e⟩)) e1⟩
theorem HOk.fly (ok:HOk P w H' g)(hf:∀ b∈frs st,H' b=none)(k:B.StaysIn g)(hB:∀ b,b∉frs st->(H' b≠none∨∃ o,h.get? b=some o)->∃ o,B.get? b=some o)(k':B.StaysIn g'):HOk P w H' g':=fun a o e=>by
 refine(ok a o e).stay (fun b u hb q=>?_) (fun _ q=>q) fun _ _ q=>q;have hn:H' b≠none:=by
  rcases hb with rfl | hb
  .rw[e];simp
  .rw[hb];simp
 exact ze7 k k' (hB b (fun hm=>hn (hf b hm)) (.inl hn)) q
theorem HOk.ext (ok:HOk P w H g){a:Addr}{φ:Heap->Prop}(hn:H a=none)(p:φ g)(ht:∃ o,g.get? a=some o)(hm:∀ h1 h2:Heap,φ h1->(∀ o,h1.get? a=some o->h2.get? a=some o)->φ h2):HOk P w (upd H a (.ext φ)) g:=fun b u e=>by
 by_cases hb:b=a
 .subst hb;rw[zau] at e;cases e;exact⟨p,ht,hm⟩
 .rw[zav hb] at e
  exact(ok b u e).stay (fun c v _ q=>q) (fun c q=>by rw[zav (zaJ q hn)];exact q) fun c xs q=>by rw[zav (zaJ q hn)];exact q
theorem Un.ext {fs:List Addr}(un:Un fs [] H H' h g){a:Addr}{o:HO}(hn:H' a=none)(ha:h.get? a=none):Un fs [] H (upd H' a o) h g :=
 ⟨un.keep,un.slot,fun b ob e n hx=>by rw[zav (fun z=>by subst z;rw[ha] at e;cases e)];exact un.free b ob e n hx,un.there,fun b xs q=>by rw[zav (zaJ (un.tups b xs q) hn)];exact un.tups b xs q,
  fun b ob u q=>by rw[zav (zaJ (un.frzs b ob u q) hn)];exact un.frzs b ob u q,fun b ps q=>by
   obtain⟨m,e⟩:=un.tbls b ps q;exact⟨m,by rw[zav (zaJ e hn)];exact e⟩⟩
theorem zwh {a C:Addr}{dc:Option Addr}:∀ h1 h2:Heap,ExD a C dc h1->(∀ o,h1.get? a=some o->h2.get? a=some o)->ExD a C dc h2:=fun h1 h2 ⟨o,vs,e,c,d⟩ k=>⟨o,vs,k o e,c,d⟩
end
def hand (X:Cx)(e:Addr):Cx:={ X with A:=X.A.mark (some (.ref e)),calm:=false,xe:=fun _ _=>False }
section
variable {X:Cx}{pins:List (Addr×Obj)}{σ:L2.St}{H:Hp}{s:Shared}{e:Addr}
theorem zBa (ok:X.Ok):(hand X e).Ok :=
 ⟨ok.mod,ok.kind,ok.glob,ok.blt,ok.above,ok.inj,ok.has,ok.cab,fun z=>Bool.noConfusion z,ok.frames,ok.stk,ok.exf,ok.bs,ok.bsz,ok.noex,ok.exfs,ok.funs,ok.frf⟩
theorem Inv.hand (I:Inv X pins σ H s):Inv (DL.hand X e) pins σ H s:=⟨zBa I.ok,I.os,I.bare,I.base,I.loc,I.cell,I.free,I.freeC,I.pin,I.hok,I.len⟩
theorem zup (ok:X.Ok)(I:Inv (DL.hand X e) pins σ H s):Inv X pins σ H s:=⟨ok,I.os,I.bare,I.base,I.loc,I.cell,I.free,I.freeC,I.pin,I.hok,I.len⟩
theorem zzu {i:Nat}{x:Str}{m:Str->Option Value}{v:Option Value}{h':Heap}{t':Nat}(I:Inv X pins σ H s)(hN:X.N.Nodup)(hi:X.N[i]?=some x)
  (hm:∀ (j:Nat) (y:Str) (v:V),X.N[j]?=some y->σ[j]?=some (some v)->Vis X.env.scope y->∃ u,zcj v u/\zGl X.env s.heap m y u)(hn:h'.Ns X.env.locals (fun y=>if y=x then v else m y))(hs:sbN X.env.locals s.heap h') :
  Inv X pins (σ.set i none) H { s with heap:=h',toks:=t' }:=by
 have cne:=I.cne;obtain⟨m0,⟨oL,_,_,hoL,_⟩,_⟩:=id I.loc;have tracked:HOk X.prog X.w H h':=fun b ob e=>by
  refine(I.hok b ob e).stay (fun c w' hc q=>(hs.2 c ?_).trans q) (fun _ q=>q) fun _ _ q=>q;rintro rfl;have hfree:=I.free;rcases hc with rfl | hc
  .rw[hfree] at e;cases e
  .rw[hfree] at hc;cases hc
 refine⟨I.ok,I.os,I.bare,⟨fun b o e n hb hx=>?_,fun b o e n hb hx=>?_,I.base.free,fun b o e hx=>?_,I.base.tups,I.base.frzs,I.base.tbls⟩,⟨_,hn,fun j y v' e1 e2 e3=>?_⟩,fun y c e=>?_,I.free,I.freeC,fun p hp=>?_,tracked,by simpa using I.len⟩
 .exact(hs.2 b (saB (saf (sam e) I.ok.above))).trans (I.base.keep b o e n hb hx)
 .obtain⟨sl,e1⟩:=I.base.slot b o e n hb hx
  exact⟨sl,(hs.2 b (saB (saf (sam e) I.ok.above))).trans e1⟩
 .obtain⟨o',e1⟩:=I.base.there b o e hx
  exact⟨o',(hs.2 b (saB (saf (sam e) I.ok.above))).trans e1⟩
 .by_cases hj:j=i
  .subst hj
   have hiσ:j < σ.length:=by rw[I.len];exact(sad.mp hi).1
   rw[saO hiσ] at e2;cases e2
  .rw[sao (saW hj)] at e2
   obtain⟨u',r',q⟩:=hm j y v' e1 e2 e3;refine⟨u',r',?_⟩;rcases q with⟨k,e⟩ | ⟨k,c,e,z⟩
   .refine .inl ⟨k,?_⟩
    have:y≠x:=fun e=>hj (zod hN e1 (e▸hi));simp [this,e]
   .exact .inr ⟨k,c,e,z.sameBut hs (cne y c e)⟩
 .obtain⟨w',z⟩:=I.cell y c e
  exact⟨w',z.sameBut hs (cne y c e)⟩
 .obtain⟨e,n,ne,nf,d⟩:=I.pin p hp
  exact⟨(hs.2 p.1 ne).trans e,n,ne,nf,d⟩
theorem zEw {H1:Hp}{s1 s':Shared}{Ex:XK}{ev:Value}{c n:Str}{np hpos:Pos}{ba:Stmt}{suite:List Stmt}{rest:List ExceptHandler}{cv:Value}{ni:Nat}{D:zmH}(hstk:X.stack=X.env::X.outer/\X.env.frame=some X.env.locals)(I:Inv X pins σ H1 s1)
  (h:CXE X.prog X.w X.stack H1 s1 Ex ev s')(hg:Gl X c)(hm:X.mg c=some cv)(hx:∀ C ox H',Ex (.ref C) ox H'->W.exmOne X.K (.ref C) cv=some true)
  (hN:X.N.Nodup)(hi:X.N[ni]?=some n)(hlo:X.env.scope.names.lookup n=some .local)
  (hs:∀ ea C dc ox H' s2,Ex (.ref C) ox H'->(ox=none∨ox=dc)->H' ea=none->Inv (DL.hand X ea) pins (σ.set ni (some (.ref ea))) (upd H' ea (.ext (ExD ea C dc))) s2 ->
   wpAny (model X.prog X.w) (X.A.mark (some (.ref ea))) (execs (ba::suite) X.env) (SP (DL.hand X ea) pins { nx:=fun σ' H=>D.nx (σ'.set ni none) H,rt:=D.rt,bk:=fun σ' H=>D.bk (σ'.set ni none) H,ct:=fun σ' H=>D.ct (σ'.set ni none) H }) (fun _ _=>False) s2)
  (hdb:(c==("__debug__" : Str))=false:=by decide) :
  wpAny (model X.prog X.w) X.A (noteFrame ev X.env) (fun _ sf=>wpAny (model X.prog X.w) X.A (setFlight ev none) (fun _ sj =>
   wpAny (model X.prog X.w) X.A (handleBy ev X.env (.ExceptHandler (some (.Name c np)) (some n) (ba::suite) hpos::rest)) (SP X pins D) X.xe sj) X.xe sf) X.xe s':=by
 obtain⟨ea,C,a0,B,H',rfl,os,bare,un,hok,hne,fl,hB,ox,⟨dc,hdc,hox⟩,hE⟩:=h;have hA:X.A.frames=some (X.env::X.outer):=by rw[← hstk.1];exact I.ok.frames
 have fl0:=fl;rw[hstk.1] at fl;have hf1:∀ b∈frs X.stack,H' b=none:=fun b hb=>by
  obtain⟨_,o,ho,_⟩:=I.stack.mem hb;exact un.free b o ho (I.stkFree b hb) (by simp)
 have hnew:s1.heap.get? ea=none:=by
  cases q:s1.heap.get? ea with
  | none=>rfl
  | some o =>
   by_cases hb:ea∈frs X.stack
   .obtain⟨_,o',ho',hd⟩:=fl0.2.2.1.mem hb
    obtain⟨oe,vs,he,_,hd',_⟩:=fl0.first
    rw[ho'] at he;cases he;exact absurd hd' (hd vs)
   .obtain⟨u,hu⟩:=hB ea hb (.inr ⟨o,q⟩)
    rw[fl.2.1] at hu;cases hu
 have inv:∀ g,B.StaysIn g->s'.heap.UpToSlots g->Inv X pins σ H' { s' with heap:=g }:=fun g k up =>
  I.call' (ch:=[]) os (Un.fly un fl0.1 fl0.2.2.1 hB k up) (HOk.fly hok hf1 fl0.1 hB k) bare (fun _ z=>nomatch z)
 have invx:∀ g,B.StaysIn g->s'.heap.UpToSlots g->ExD ea C dc g->Inv X pins σ (upd H' ea (.ext (ExD ea C dc))) { s' with heap:=g }:=fun g k up p =>
  I.call' (ch:=[]) os (Un.ext (Un.fly un fl0.1 fl0.2.2.1 hB k up) hne hnew) (HOk.ext (HOk.fly hok hf1 fl0.1 hB k) hne p (let ⟨o,_,e,_⟩:=p;⟨o,e⟩) zwh) bare (fun _ z=>nomatch z)
 refine zzc hA hstk.2 fl hdc fun h4 held4 up4 dc4=>?_;refine zzd held4 dc4 fun h5 fl5 up5 dc5=>?_;have I5:Inv (DL.hand X ea) pins σ H' { s' with heap:=h5 }:=Inv.hand (inv h5 fl5.1 (up4.trans up5));refine wpAny_handleBy_cons (codeAny_handlers_test ?_) (by intro q;cases q);refine zjl I5 hg hm ?_ hdb;obtain⟨ob,hob,hoc⟩:=fl5.there;have LT:W.Looks (model X.prog X.w) h5 (typeOf (.ref ea)) (.ref C):=hoc▸(W.Looks.ld hob).andThen .now;refine(W.exm_one I5.kIn LT (hx C ox H' hE)).here ?_;refine codeAny_handlers_suite_as ?_;refine zze fl5 dc5 fun h6 fl6 up6 dc6=>?_;obtain⟨oe,vs,he,hc,hd,_⟩:=fl6.first
 have I6:Inv (DL.hand X ea) pins σ (upd H' ea (.ext (ExD ea C dc))) { s' with heap:=h6 }:=Inv.hand (invx h6 fl6.1 ((up4.trans up5).trans up6) ⟨oe,vs,he,hc,hd,(by obtain⟨o6,e6,d6⟩:=dc6;rw[he] at e6;cases e6;exact d6)⟩);refine zhc (X:=DL.hand X ea) (v:=.ref ea) I6 hN hi (.inl hlo) rfl (fun s7 I7=>?_) (.inr hlo);refine sbe (hs ea C dc ox H' s7 hE hox hne I7) (fun f s8 h8=>?_) fun _ _ z=>z.elim;have hcls:(X.env.scope.kind==.class||(X.env.scope.kind==.module&&X.env.locals != X.env.globals))=false:=by rw[I.ok.kind];rfl
 have fin:∀ {σ':L2.St}{H2:Hp}{Q:Unit->Shared->Prop},Inv (DL.hand X ea) pins σ' H2 s8->(∀ s9,Inv X pins (σ'.set ni none) H2 s9->Q () s9) ->
   wpAny (model X.prog X.w) X.A (do bindName X.env n .none;unbindBehindTheSuite X.env n hpos) Q X.xe s8:=fun {σ' H2 Q} J q=>by
  have J':=zup I.ok J;obtain⟨m,hn,hl⟩:=id J'.loc;exact wpAny_nameGoes_keeps hlo hn hcls fun h' v hn' hs'=>q _ (zzu J' hN hi hl hn' hs')
 cases f with
 | next=>obtain⟨σ',H2,J,q⟩:=h8;exact fin J fun s9 J9=>⟨_,H2,J9,q⟩
 | brk=>obtain⟨σ',H2,J,q⟩:=h8;exact fin J fun s9 J9=>⟨_,H2,J9,q⟩
 | cont=>obtain⟨σ',H2,J,q⟩:=h8;exact fin J fun s9 J9=>⟨_,H2,J9,q⟩
 | ret u=>obtain⟨v,σ',H2,J,r,q⟩:=h8;exact fin J fun s9 J9=>⟨v,_,H2,J9,r,q⟩
end
theorem PA.nox {X:Cx}{es:List Expr}{t:TA}(h:PA X.nox es t):PA X es t:=fun pos pins s σ H Q I hw =>
 sbe (h pos pins s σ H Q (I.wish _) hw) (fun _ _ ⟨v,H',I',r,q⟩=>⟨v,H',I'.unwish,r,q⟩) fun _ _ z=>sbg z
section
variable {X:Cx}{pins:List (Addr×Obj)}{σ:L2.St}{H:Hp}{s:Shared}{CX:CXT}{k:Nat}{f:Addr}{fd:FuncData}{ps:List Str}{sp:Sp}{Ex:XK}{x:Str}{p pos:Pos}{e:Expr}{es:List Expr}{t:TA}
theorem zBZ {Q:VK}{XE:Value->Shared->Prop}(F:zcB X.prog X.w X.K X.mg X.base CX k f fd ps sp)(hr:zhR k X.A)(hg:Gl X x)(hm:X.mg x=some (.ref f))(hk:scU X.K (.ref f)=true)(hb:zkz X.K fd ps [])(ha:PA X.nox (e::es) t)
  (I:Inv X pins σ H s)(h:t σ H fun vs H1=>sp vs H1 Q Ex)(hx:∀ H1 s1 e s',Inv X pins σ H1 s1->CX X.stack H1 s1 Ex e s'->XE e s')
  (hdb:(x==("__debug__" : Str))=false:=by decide)(he:starEach (e::es) X.env=(false,eval e X.env)::starEach es X.env:=by exact zaN rfl)(hpl:(backTo pos (starEach es X.env)).any (·.1)=false:=by exact zbR rfl) :
  wpAny (model X.prog X.w) X.A (eval (.Call (.Name x p) (e::es) [] pos) X.env) (EP X pins σ Q) XE s:=by
 refine wpAny_Call_Name_kw (zjl I hg hm ?_ hdb);have ha':PA (X.wish XE) (e::es) t:=PA.nox (X:=X.wish XE) ha;refine W.callWith_K (h₀:=X.base) I.ok.mod.kin hk (thn (ha' pos pins s σ H _ (I.wish XE) h) fun us s1 ⟨vs,H1,I1,r,q⟩=>⟨I1.unwish.kIn,?_⟩) he hpl;have I1:=I1.unwish;have hl:us.length=ps.length:=by rw[← r.length];exact F.len _ _ _ _ q
 have hb1:=hb s1 us I1.kIn (by simpa using hl);rw[sbR] at hb1;refine wpAny_call (codeAny_mono (F.run X.A X.stack s1 H1 ⟨us,[]⟩ us vs Q Ex hr I1.env0 hb1 r q) fun r s' hq=>?_);cases r with
 | error e=>exact hx H1 s1 e s' I1 hq
 | ok fl =>
  cases fl with
  | ret u=>exact I1.after hq
  | next=>exact sbg hq
  | brk=>exact sbg hq
  | cont=>exact sbg hq
end
def zzD (K:saj)(He H0e Ha:Hp)(r:Res Fl)(D:zmH):Prop:=match r with
 | .exn _=>True
 | r=>zcm K E0 He H0e Ha r D
def zGo (K:saj)(He H0e Ha:Hp)(σ:L2.St)(ρ:Ev)(r:Res Fl):XK:=fun C ox H'=>∃ x Ha',r=.exn x/\zaM Ha Ha'/\SRx K He H0e Ha' σ H' ρ/\ExR K Ha' x C ox
structure TB (X:Cx) (st:Stmt) (g:Ev->Res Fl):Prop where
 o:∀ (pins:List (Addr×Obj)) (s:Shared) (σ:L2.St) (H He H0e Ha:Hp) (ρ:Ev) (D:zmH) (XE:Value->Shared->Prop),Inv X pins σ H s->SRx X.K He H0e Ha σ H ρ->zzD X.K He H0e Ha (g ρ) D ->
  (∀ H1 s1 e s',Inv X pins σ H1 s1->CXE X.prog X.w X.stack H1 s1 (zGo X.K He H0e Ha σ ρ (g ρ)) e s'->XE e s')->wpAny (model X.prog X.w) X.A (exec st X.env) (SP X pins D) XE s
def zu3 (i:Nat)(fa:Ev->Res (List D))(m:List D->Res D):Ev->Res Fl:=fun ρ=>match fa ρ with
 | .ok ds=>(m ds).bind fun d=>.ok (.nx (ρ.set i (.sh d)))
 | _=>.stuck
section
variable {X:Cx}{E:XK}{e:Expr}{es:List Expr}{fa:Ev->Res (List D)}{pos:Pos}
theorem zCx {i:Nat}{y:Str}{pos':Pos}{k n:Nat}{fn:Addr}{fd:FuncData}{ps:List Str}{m:List D->Res D}{x:Str}{p cpos:Pos}(hN:X.N.Nodup)(hi:X.N[i]?=some y)(hy:Loc X.env.scope y)
  (F:zcB X.prog X.w X.K X.mg X.base (CXE X.prog X.w) k fn fd ps (spD X.K n m))(hr:zhR k X.A)(hg:Gl X x)(hm:X.mg x=some (.ref fn))
  (hk:scU X.K (.ref fn)=true)(hb:zkz X.K fd ps [])(ha:DA X.nox E0 (e::es) fa)(hn:(e::es).length=n:=by rfl)(hl:∀ ρ ds,fa ρ=.ok ds->ds.length=(e::es).length)
  (hdb:(x==("__debug__" : Str))=false:=by decide)(he:starEach (e::es) X.env=(false,eval e X.env)::starEach es X.env:=by exact zaN rfl)(hpl:(backTo cpos (starEach es X.env)).any (·.1)=false:=by exact zbR rfl)
  (hs:swapsWith (.Call (.Name x p) (e::es) [] cpos) (some (.Name y pos')) pos.line X.env=pure false:=by rfl)
  (hf:X.fn y=true∨X.env.scope.names.lookup y=some .local := by first | exact .inl rfl | exact .inr rfl | assumption):TB X (.Assign [.Name y pos'] (.Call (.Name x p) (e::es) [] cpos) pos) (zu3 i fa m):=by
 refine⟨fun pins s σ H He H0e Ha ρ D XE I h q hx=>?_⟩;refine wpAny_Assign_Name (thn (zBZ (Q:=fun v H1=>D.nx (σ.set i (some v)) H1) F hr hg hm hk hb ha.o I ?_ hx hdb he hpl) fun v s1 ⟨y,H1,I1,r1,q1⟩=>?_) hs
 .refine⟨Ha,ρ,h.g.sub,h.rd,?_⟩
  unfold zu3 at q ⊢;cases e1:fa ρ with
  | stuck=>rw[e1] at q;exact q
  | exn x=>rw[e1] at q;exact q.elim
  | ok ds =>
   rw[e1] at q;intro vs H1 H01 g1 r1;refine⟨?_,H01,ds,g1.sub,r1,?_⟩
   .have:=r1.length
    have:=hl ρ ds e1;omega
   .show post _ _ _ _ (m ds) _
    cases e2:m ds with
    | stuck=>simp only[e2] at q;exact q
    | exn x=>exact fun C ox H' Ha' g ex=>⟨x,Ha',by simp only[e2];rfl,g1.z.trans g.z,h.grow (g1.trans g),ex⟩
    | ok d =>
     simp only[e2] at q;exact fun v H' Ha' g rp=>q _ H' Ha' (g1.z.trans g.z) ((h.grow (g1.trans g)).put rp)
 .exact zhc I1 hN hi hy r1 (fun s2 I2=>⟨_,H1,I2,q1⟩) hf
theorem SRx.drop {K:saj}{He H0e Ha H:Hp}{σ:L2.St}{ρ:Ev}(h:SRx K He H0e Ha σ H ρ){i:Nat}:SRx K He H0e Ha (σ.set i none) H (ρ.set i .no):=by
 have key:∀ (j:Nat) (s:Sl),(ρ.set i .no)[j]?=some s->s≠.no->j≠i/\ρ[j]?=some s:=fun j s e hs=>by
  by_cases hj:i=j
  .subst hj
   rw[sck] at e;cases q:ρ[i]? with
   | none=>rw[q] at e;cases e
   | some s'=>rw[q] at e;cases e;exact absurd rfl hs
  .rw[sao hj] at e
   exact⟨fun z=>hj z.symm,e⟩
 refine⟨h.g,fun j d' e=>?_,fun j d' e=>?_,fun j k d1 d2 hn e1 e2=>?_,by simp [h.ln],h.ex.upd (fun j s e=>?_) (zaM.refl _) (fun a vs _ e=>e) fun p us _ h0 hp _=>⟨hp,h0⟩⟩
 rotate_left 3
 .by_cases hs:s=.no
  .exact .inr (.inr (.inl hs))
  .obtain⟨hj,e'⟩:=key j s e hs
   exact .inl ⟨e',by rw[sao (saW hj)]⟩
 .obtain⟨hj,e'⟩:=key j _ e (by simp)
  obtain⟨v',h1,h2⟩:=h.rd j d' e';exact⟨v',by rw[sao (saW hj)];exact h1,h2⟩
 .obtain⟨hj,e'⟩:=key j _ e (by simp)
  obtain⟨a,h1,h2⟩:=h.ow j d' e';exact⟨a,by rw[sao (saW hj)];exact h1,h2⟩
 .obtain⟨hj,e1'⟩:=key j _ e1 (by simp)
  obtain⟨hk,e2'⟩:=key k _ e2 (by simp);rw[sao (saW hj),sao (saW hk)];exact h.ap j k d1 d2 hn e1' e2'
def zCd (ni:Nat)(r:Fl):Res Fl:=match r with
 | .nx ρ=>.ok (.nx (ρ.set ni .no))
 | .rt d=>.ok (.rt d)
 | .bk ρ=>.ok (.bk (ρ.set ni .no))
 | .ct ρ=>.ok (.ct (ρ.set ni .no))
def zxZ (x:Exn):D:=match x.flds with
 | []=>.exc x.cls
 | f::fs=>if((f::fs).map (·.1)).Nodup then .ob (.exf x.cls ((f::fs).map (·.1))) ((f::fs).map (·.2)) else .exc x.cls
theorem zpQ {β:Type}:∀ {l:List (Str×β)}{f:Str}{d:β},(l.map (·.1)).Nodup->(f,d)∈l->l.lookup f=some d
 | (g,e)::l,f,d,nd,h=>by
  rw[saJ,sbD] at nd;rcases sas.mp h with h | h
  .cases h;rw[sbn,beq_self_eq_true]
  .have:f≠g:=fun z=>nd.1 (z▸saG.mpr ⟨(f,d),h,rfl⟩)
   rw[sbn,beq_eq_false_iff_ne.mpr this];exact zpQ nd.2 h
theorem zsN {K:saj}{H:Hp}{fs:List (Str×V)}:∀ (l:List (Str×D)),(∀ n d,(n,d)∈l->∃ v,fs.lookup n=some v/\Rep K H d v)->∃ vs,Reps K H (l.map (·.2)) vs/\l.length=vs.length/\∀ (i:Nat) (f:Str) (v:V),(l.map (·.1))[i]?=some f->vs[i]?=some v->fs.lookup f=some v
 | [],_=>⟨[],Reps.nil_iff.mpr rfl,rfl,fun i f v e=>by simp at e⟩
 | (n,d)::l,h=>by
  obtain⟨v,h1,h2⟩:=h n d saq;obtain⟨vs,h3,h4,h5⟩:=zsN l fun n d hm=>h n d (sak _ hm);refine⟨v::vs,zap.mpr ⟨v,vs,rfl,h2,h3⟩,by simp [h4],fun i f w e1 e2=>?_⟩;cases i with
  | zero=>simp at e1 e2;rw[← e1,← e2];exact h1
  | succ i=>exact h5 i f w (by simpa using e1) (by simpa using e2)
theorem zzf {K:saj}{H:Hp}{x:Exn}{C ea:Addr}{ox dc:Option Addr}(xc:XC K x.cls C)(ex:ExR K H x (.ref C) ox)(hox:ox=none∨ox=dc)(hne:H ea=none):Rep K (upd H ea (.ext (ExD ea C dc))) (zxZ x) (.ref ea):=by
 have plain:Rep K (upd H ea (.ext (ExD ea C dc))) (.exc x.cls) (.ref ea):=zeq.mpr ⟨ea,C,dc,rfl,xc,.inl zau⟩;have sm:zaM H (upd H ea (.ext (ExD ea C dc))):=fun b o q=>by rw[zav (zaJ q hne)];exact q
 obtain⟨cls,flds⟩:=x;unfold zxZ;cases flds with
 | nil=>exact plain
 | cons f fs =>
  show Rep _ _ (if((f::fs).map (·.1)).Nodup then D.ob (.exf cls ((f::fs).map (·.1))) ((f::fs).map (·.2)) else .exc cls) _
  by_cases nd:((f::fs).map (·.1)).Nodup
  .rw[if_pos nd]
   obtain⟨_,hm⟩:=ex;cases ox with
   | none=>cases hm
   | some a =>
    obtain⟨gs,h1,h2⟩:=hm;have hdc:dc=some a:=by
     rcases hox with z | z
     .cases z
     .exact z.symm
    obtain⟨vs,k1,k2,k3⟩:=zsN (K:=K) (H:=H) (fs:=gs) (f::fs) fun n d hmm=>h2 n d (zpQ nd hmm);exact zcX.mpr ⟨ea,vs,rfl,⟨C,a,gs,xc,hdc▸.inl zau,sm _ _ h1,by rw[sab];exact k2,k3⟩,k1.mono sm⟩
  .rw[if_neg nd];exact plain
def zCb (g:Ev->Res Fl)(hit:Str->Bool)(ni:Nat)(sh:Ev->Res Fl):Ev->Res Fl:=fun ρ=>match g ρ with
 | .exn x=>if hit x.cls=true then(sh (ρ.set ni (.sh (zxZ x)))).bind (zCd ni) else .stuck
 | r=>r
theorem zEi {He H0e:Hp}{st ba:Stmt}{suite:List Stmt}{g sh:Ev->Res Fl}{hit:Str->Bool}{ni:Nat}{c n:Str}{np hpos:Pos}{cv:Value}(hstk:X.stack=X.env::X.outer/\X.env.frame=some X.env.locals)(hb:TB X st g)
  (hg:Gl X c)(hm:X.mg c=some cv)(hhit:∀ x C,hit x=true->XC X.K x C->W.exmOne X.K (.ref C) cv=some true)(hN:X.N.Nodup)(hi:X.N[ni]?=some n)(hlo:X.env.scope.names.lookup n=some .local)
  (hh:∀ ea,DSs (DL.hand X ea) E He H0e (ba::suite) sh)(hdb:(c==("__debug__" : Str))=false:=by decide) :
  DS X E He H0e (.Try [st] [.ExceptHandler (some (.Name c np)) (some n) (ba::suite) hpos] [] [] pos) (zCb g hit ni sh):=by
 refine⟨?_⟩;intro pins s σ H D I ⟨Ha,ρ,h,q⟩;have hq:zzD X.K He H0e Ha (g ρ) D:=by
  unfold zCb at q;cases e1:g ρ with
  | exn x=>trivial
  | stuck=>rw[e1] at q;exact q
  | ok r=>rw[e1] at q;cases r<;>exact q
 refine wpAny_Try_except (wpAny_execs_cons (thn (hb.o pins s σ H He H0e Ha ρ D _ I h hq fun H1 s1 e s' I1 hc=>?_) fun f s1 hf=>?_))
 .have hit1:∀ x,g ρ=.exn x->hit x.cls=true:=fun x e1=>by
   unfold zCb at q;rw[e1] at q
   by_cases z:hit x.cls=true
   .exact z
   .simp only[if_neg z] at q;exact q.elim
  refine zEw hstk I1 hc hg hm (fun C ox H' ⟨x,Ha',e1,_,_,⟨⟨c',ec,xc⟩,_⟩⟩=>?_) hN hi hlo (fun ea C dc ox H' s2 ⟨x,Ha',e1,sm,srx,⟨⟨c',ec,xc⟩,hm2⟩⟩ hox hne I2=>?_) hdb
  .cases ec;exact hhit _ _ (hit1 x e1) xc
  .cases ec
   refine(hh ea).o pins s2 _ _ _ I2 ⟨upd Ha' ea (.ext (ExD ea C dc)),ρ.set ni (.sh (zxZ x)),(srx.grow (zaB srx.g.sub hne)).put (zzf xc ⟨⟨C,rfl,xc⟩,hm2⟩ hox (srx.g.sub.free hne)),?_⟩;have sm2:zaM Ha (upd Ha' ea (.ext (ExD ea C dc))):=sm.trans (zaB srx.g.sub hne).z;unfold zCb at q;rw[e1] at q;simp only[if_pos (hit1 x e1)] at q;cases e2:sh (ρ.set ni (.sh (zxZ x))) with
   | stuck=>rw[e2] at q;exact q
   | exn z=>rw[e2] at q;exact q
   | ok r =>
    rw[e2] at q;cases r with
    | nx ρ'=>exact fun σ' H2 H02 s2 h2=>q _ H2 H02 (sm2.trans s2) (SRx.drop h2)
    | rt d=>exact q
    | bk ρ'=>exact fun σ' H2 H02 s2 h2=>q _ H2 H02 (sm2.trans s2) (SRx.drop h2)
    | ct ρ'=>exact fun σ' H2 H02 s2 h2=>q _ H2 H02 (sm2.trans s2) (SRx.drop h2)
 .cases f with
  | next=>exact wpAny_execs_nil (wpAny_execs_nil hf)
  | brk=>exact hf
  | cont=>exact hf
  | ret u=>exact hf
end
structure zED (k:Nat) (A:Around):Prop where
 dp:A.depth+3*k+5 < recursionLimit
 un:A.units+16*k+200 < cLine
theorem zhR.h {k:Nat}{A:Around}(r:zhR k A):zED k A:=⟨r.dp,r.un⟩
structure FnH (P:Program) (w:World) (K:saj) (mg:Str->Option Value) (base:Heap) (k:Nat) (f:Addr) (fd:FuncData) (ps:List Str) (sp:Sp):Prop where
 len:∀ vs H Q E,sp vs H Q E->vs.length=ps.length
 run:∀ (A:Around) (outer:List sbo) (s:Shared) (H:Hp) (args:Args) (us:List Value) (vs:List V) (Q:VK) (E:XK),zED k A->zz6 P w K mg base A outer s H->BindsTo s fd args (ps.zip us)->zbM vs us->sp vs H Q E ->
  codeAny (model P w) A (.call (.ref f) args) (CR CX0 outer P w H s Q E) s
theorem FnH.ok {P:Program}{w:World}{K:saj}{mg:Str->Option Value}{base:Heap}{k:Nat}{f:Addr}{fd:FuncData}{ps:List Str}{sp:Sp}(F:FnH P w K mg base k f fd ps sp):zcB P w K mg base CX0 k f fd ps sp :=
 ⟨F.len,fun A outer s H args us vs Q E hr=>F.run A outer s H args us vs Q E (zhR.h hr)⟩
section
variable {X:Cx}{E:XK}{e a:Expr}{es:List Expr}{f:Ev->Res D}{fa:Ev->Res (List D)}{pos:Pos}
end
def zs5 (tab:Str->Option Bool)(x:D):Res D:=match x with
 | .exc c=>(match tab c with
  | some b=>.ok (.bl b)
  | none=>.stuck)
 | .ob (.exf c _) _=>(match tab c with
  | some b=>.ok (.bl b)
  | none=>.stuck)
 | _=>.stuck
def zr2 (K:saj)(tab:Str->Option Bool)(cv:Value):Prop:=∀ c C b,tab c=some b->XC K c C->sdg K (.ref C) cv=some b
section
variable {X:Cx}{E:XK}{e a:Expr}{es:List Expr}{f:Ev->Res D}{pos:Pos}{tab:Str->Option Bool}
theorem zA8 {cV:V}{cv:Value}(hrel:∀ u,zcj cV u->u=cv)(ht:zr2 X.K tab cv):zky X (.builtin "isinstance") (fun vs H Q=>∃ c v b,vs=[v,cV]/\Rep X.K H (.exc c) v/\tab c=some b/\Q (.bl b) H):=by
 intro pins s σ H xs us Q I r h;obtain⟨c,v,b,rfl,h1,h2,q⟩:=h;cases r with
 | cons r1 r2 =>
  cases r2 with
  | cons r3 r4 =>
   cases r4;rename_i u1 u2;obtain rfl:=hrel _ r3;obtain⟨ad,C,dc,rfl,hc,hr⟩:=zeq.mp h1;cases (show u1=saR ad from r1);obtain⟨p,_,_⟩:=hr.ok I.hok;exact sbv (zoi hc.ek hc.ek.isCls) I.kIn p (ht c C b h2 hc) (fun z=>nomatch z) fun tk=>⟨.bl b,H,I.tok _,rfl,q⟩
theorem zy0 {cV:V}{σ:L2.St}{H:Hp}{Q:VK}(h:tD X.K E (zaY f (zs5 tab)) σ H Q):tD X.K E f σ H fun v H1=>∃ c v' b,[v,cV]=[v',cV]/\Rep X.K H1 (.exc c) v'/\tab c=some b/\Q (.bl b) H1:=by
 obtain⟨Ha,ρ,hs,hr,q⟩:=h;refine⟨Ha,ρ,hs,hr,?_⟩;unfold zaY at q;cases e1:f ρ with
 | stuck=>rw[e1] at q;exact q
 | exn x=>rw[e1] at q;exact q
 | ok d =>
  rw[e1] at q;intro v H1 H01 g1 r1;have q:post X.K E H Ha (zs5 tab d) Q:=q;cases d with
  | exc c =>
   unfold zs5 at q;cases e2:tab c with
   | none=>simp only[e2] at q;exact q.elim
   | some b=>simp only[e2] at q;exact⟨c,v,b,rfl,r1.mono g1.sub,e2,q _ H1 H01 g1 (rb _)⟩
  | ob k ds =>
   cases k with
   | exf c ks =>
    replace r1:=r1.exf_exc;unfold zs5 at q;cases e2:tab c with
    | none=>simp only[e2] at q;exact q.elim
    | some b=>simp only[e2] at q;exact⟨c,v,b,rfl,r1.mono g1.sub,e2,q _ H1 H01 g1 (rb _)⟩
   | _=>exact q.elim
  | _=>exact q.elim
theorem zzZ {x:Str}{p1 p2:Pos}{cV:V}{cv:Value}(hrel:∀ u,zcj cV u->u=cv)(ht:zr2 X.K tab cv)(hc:PE X (.Name x p2) (tC cV))(hgi:Gl X "isinstance")(hmi:X.mg "isinstance"=none)(ha:DE X E a f)
  (he:starEach [a,.Name x p2] X.env=(false,eval a X.env)::starEach [.Name x p2] X.env:=by exact zaN rfl)(he2:starEach [.Name x p2] X.env=(false,eval (.Name x p2) X.env)::starEach [] X.env:=by exact zaN rfl)(hpl:(backTo pos (starEach [.Name x p2] X.env)).any (·.1)=false:=by exact zbR rfl) :
  DE X E (.Call (.Name "isinstance" p1) [a,.Name x p2] [] pos) (zaY f (zs5 tab)):=by
 refine⟨?_⟩;exact zaX (zn6 (zA8 hrel ht) hgi hmi PyProof.Rows.Boot.«isinstance» (zdE ha.o (zdE hc ziw he2) he) (by decide) (by decide) he hpl) fun σ H Q h=>zy0 h
theorem ziL {x:Str}{p1 p2:Pos}{C:Addr}(hg:Gl X x)(hm:X.mg x=some (.ref C))(ht:zr2 X.K tab (.ref C))(hgi:Gl X "isinstance")(hmi:X.mg "isinstance"=none)(ha:DE X E a f)(hdb:(x==("__debug__" : Str))=false:=by decide)
  (he:starEach [a,.Name x p2] X.env=(false,eval a X.env)::starEach [.Name x p2] X.env:=by exact zaN rfl):DE X E (.Call (.Name "isinstance" p1) [a,.Name x p2] [] pos) (zaY f (zs5 tab)) :=
 zzZ (cV:=.ref C) (fun u h=>h) ht (zvn hg hm rfl hdb) hgi hmi ha he
theorem zxr {x:Str}{p1 p2:Pos}{T:String}(hg:Gl X x)(hm:X.mg x=none)(hv:bootBuiltins x=some (.type T))(ht:zr2 X.K tab (.type T))(hgi:Gl X "isinstance")(hmi:X.mg "isinstance"=none)(ha:DE X E a f)(hn:x≠"__name__":=by decide)(hdb:(x==("__debug__" : Str))=false:=by decide)
  (he:starEach [a,.Name x p2] X.env=(false,eval a X.env)::starEach [.Name x p2] X.env:=by exact zaN rfl):DE X E (.Call (.Name "isinstance" p1) [a,.Name x p2] [] pos) (zaY f (zs5 tab)) :=
 zzZ (cV:=.ty T) (fun u h=>h) ht (zvo hg hm hv rfl hn hdb) hgi hmi ha he
end
end DL
namespace DL
open PySem PySem.Spec PyProof.Rows L2 PySem.W
structure zuu (K:Frag) (x:Str) (C:Addr):Prop where
 ns:nsIn K mainGlobals x=some (some (.ref C))
 ty:typeIn K (.ref C)=some (.type "type")
 ob:mroIn K C (.type "object")=some true
 be:subIn K (.ref C) (.type "BaseException")=some true
theorem zuu.isCls {K:Frag}{x:Str}{C:Addr}(Z:zuu K x C):(clsIn K C).isSome=true:=by
 obtain⟨cd,a,b⟩:=Option.bind_eq_some_iff.mp Z.ob;rw[a];rfl
theorem zuu.kitCls {K:Frag}{x:Str}{C:Addr}(Z:zuu K x C){t:Value}:W.kitCls K t (.ref C)=subIn K t (.ref C):=by
 show(if((clsIn K C).isSome&&typeIn K (.ref C)==some (.type "type"))=true then subIn K t (.ref C) else none)=_;rw[Z.isCls,Z.ty];rfl
theorem zuu.exm {K:Frag}{x:Str}{C:Addr}(Z:zuu K x C){t:Value}{b:Bool}(h:subIn K t (.ref C)=some b):exmOne K t (.ref C)=some b:=by
 unfold exmOne;rw[Z.be,if_pos (by decide),Z.kitCls,h]
theorem zuu.kit {K:Frag}{x:Str}{C R:Addr}(Z:zuu K x C){b:Bool}(hR:subIn K (.ref R) (.ref R)=some true)(h:subIn K (.ref R) (.ref C)=some b):kitOne K (.ref R) (.ref C)=some b:=by
 unfold kitOne
 by_cases e:(saR R==saR C)=true
 .rw[if_pos e]
  cases (saR.inj (beq_iff_eq.mp e));rw[← hR,h]
 .rw[if_neg e,Z.kitCls,h]
theorem zvM {K:Frag}{C:Addr}{T:String}{b:Bool}(hm:kitMeta T=true)(h:subIn K (.ref C) (.type T)=some b):kitOne K (.ref C) (.type T)=some b:=by
 unfold kitOne;rw[if_neg (by intro z;cases beq_iff_eq.mp z)];show(if kitMeta T=true then subIn K (.ref C) (.type T) else none)=_;rw[if_pos hm,h]
theorem zqX:∀ T∈zg0,kitMeta T=true:=by decide +kernel
theorem zm1:kitMeta "ValueError"=true:=by decide +kernel
theorem XC.inj {K:Frag}{x:Str}{C C':Addr}(a:XC K x C)(b:XC K x C'):C=C':=by
 have:=a.ns.symm.trans b.ns;simpa using this
def znO:List (Str×Bool)->Str->Option Bool
 | [],_=>none
 | (x,b)::r,c=>if x=c then some b else znO r c
theorem zdX {K:Frag}{p:Str->Addr->Bool->Prop}:∀ {l:List (Str×Bool)},(∀ q∈l,∃ C,XC K q.1 C/\p q.1 C q.2)->∀ c C b,znO l c=some b->XC K c C->p c C b
 | [],_,c,C,b,h,_=>by cases h
 | (x,v)::r,H,c,C,b,h,xc=>by
  unfold znO at h
  by_cases e:x=c
  .subst e
   rw[if_pos rfl] at h;cases h;obtain⟨C',xc',q⟩:=H _ saq;obtain rfl:=XC.inj xc xc';exact q
  .rw[if_neg e] at h
   exact zdX (fun q hq=>H q (sak _ hq)) c C b h xc
def zpX (l:List (Str×Bool))(c:Str):Bool:=znO l c==some true
theorem zy3 {K:Frag}{l:List (Str×Bool)}{cv:Value}(H:∀ q∈l,∃ C,XC K q.1 C/\exmOne K (.ref C) cv=some q.2):∀ x C,zpX l x=true->XC K x C->exmOne K (.ref C) cv=some true:=fun x C h xc =>
 zdX (p:=fun _ C b=>exmOne K (.ref C) cv=some b) H x C true (by unfold zpX at h;exact beq_iff_eq.mp h) xc
end DL
namespace DL
open PySem PySem.Spec PyProof.Rows L2
section
variable {X:Cx}{E:XK}{tg a b c:Expr}{f g:Ev->Res D}
end
section
variable {X:Cx}{pins:List (Addr×Obj)}{σ:L2.St}{H:Hp}{s:Shared}{h':Heap}
theorem zpt {t':Nat}{fp:List Addr}{T:Addr}{xs:List V}(I:Inv X pins σ H s)(k:∀ b o,b∉fp->s.heap.get? b=some o->h'.get? b=some o)(hf:∀ b∈fp,zuq X pins H b)(hT:s.heap.objs.size<=T)
  (new:zcg X.prog X.w (upd H T (.tup xs)) h' T (.tup xs)):Inv X pins σ (upd H T (.tup xs)) { s with heap:=h',toks:=t' }:=by
 have hn:H T=none:=I.hok.fresh hT;have nit:∀ b u,H b=some u->b∉fp:=fun b u e z=>by rw[(hf b z).1] at e;cases e
 refine I.step (g':=s.gens) (d':=s.drawn) (ch:=fp) (fun b hb=>?_) (fun b o _ _ hc e _=>k b o hc e) (fun b o _ _ hc e _=>⟨o.slots,k b o hc e⟩) (fun b o _ e n=>?_)
  (fun b o hc e=>⟨o,k b o hc e⟩) (fun b xs e=>by rw[zav (zaJ e hn)];exact e) (fun b o u e=>by rw[zav (zaJ e hn)];exact e) (fun b ps e=>⟨#[],by rw[zav (zaJ e hn),e];simp⟩) (fun m hm=>?_) (fun b u e=>?_) I.bare
 .obtain⟨_,f1,_,f3,f4,f5⟩:=hf b hb
  exact⟨f3,f1,f4,f5⟩
 .rw[zav (saB (saf (sam e) hT))];exact n
 .obtain⟨o,es,ep,ho,r⟩:=hm
  exact⟨o,es,ep,k _ o (fun z=>(hf _ z).2.1 rfl) ho,r⟩
 .by_cases hb:b=T
  .subst hb;rw[zau] at e;cases e;exact new
  .rw[zav hb] at e
   refine(I.hok b u e).stay (fun c v hc q=>k c v ?_ q) (fun c q=>by rw[zav (zaJ q hn)];exact q) fun c xs q=>by rw[zav (zaJ q hn)];exact q
   rcases hc with z | z
   .rw[z];exact nit b u e
   .exact nit c _ z
theorem zuE {t':Nat}{fp:List Addr}(I:Inv X pins σ H s)(k:∀ b o,b∉fp->s.heap.get? b=some o->h'.get? b=some o)(hf:∀ b∈fp,zuq X pins H b):Inv X pins σ H { s with heap:=h',toks:=t' }:=by
 have nit:∀ b u,H b=some u->b∉fp:=fun b u e z=>by rw[(hf b z).1] at e;cases e
 refine I.step (g':=s.gens) (d':=s.drawn) (ch:=fp) (fun b hb=>?_) (fun b o _ _ hc e _=>k b o hc e) (fun b o _ _ hc e _=>⟨o.slots,k b o hc e⟩) (fun b o _ e n=>n)
  (fun b o hc e=>⟨o,k b o hc e⟩) (fun b xs e=>e) (fun b o u e=>e) (fun b ps e=>⟨#[],by rw[e];simp⟩) (fun m hm=>?_) (fun b u e=>?_) I.bare
 .obtain⟨_,f1,_,f3,f4,f5⟩:=hf b hb
  exact⟨f3,f1,f4,f5⟩
 .obtain⟨o,es,ep,ho,r⟩:=hm
  exact⟨o,es,ep,k _ o (fun z=>(hf _ z).2.1 rfl) ho,r⟩
 .refine(I.hok b u e).stay (fun c v hc q=>k c v ?_ q) (fun _ q=>q) fun _ _ q=>q
  rcases hc with z | z
  .rw[z];exact nit b u e
  .exact nit c _ z
end
noncomputable def Ite (K:saj) (a:Addr):It :=
 ⟨fun i H=>∃ xs x,SqL K H a xs/\xs[i]?=some x,fun i H x H'=>∃ p y,H p=none/\x=.ref p/\(∀ xs,SqL K H a xs->xs[i]?=some y)/\H'=upd H p (.tup [.int i,y]),fun i H=>∃ xs,SqL K H a xs/\xs.length<=i⟩
theorem zuH {P:Program}{w:World}{K:saj}{elts:List Expr}{k:Nat}{pos:Pos}(a it e:Addr)(hne:e≠it)(hae:a≠e)(hai:a≠it) :
  zB5 P w K (.Tuple elts k pos) (Ite K a) [e,it] e (fun i h=>(∃ old,IsEnum h e it i old)/\h.IsListIter it a i) where
 mem:=by simp
 obj:=fun i h st b hb=>by
  obtain⟨⟨old,he⟩,o,h1,h2,h3⟩:=st;rcases sas.mp hb with rfl | hb
  .exact⟨_,he,fun v z=>by cases z⟩
  .rcases sas.mp hb with rfl | hb
   .exact⟨o,h1,fun v z=>by rw[h3] at z;cases z⟩
   .cases hb
 keep:=fun i h h' st k=>by
  obtain⟨⟨old,he⟩,hi⟩:=st;exact⟨⟨old,k e (by simp) _ he⟩,hi.at fun o y=>k it (by simp) o y⟩
 item:=by
  intro X hP hw hK hc i pins s σ H E I hf st hg;subst hP hw hK;obtain⟨xs,x,hq,hx⟩:=hg;obtain⟨its,rv,p,hz⟩:=I.list hq;obtain⟨u,hu,ru⟩:=rv.get hx;have W:=WalksT.enumerate (prog:=X.prog) (w:=X.w) (I.ok.hd hc) e it a hne hae hai its.toArray;have hil:i < its.toArray.size:=by simpa using (sad.mp hu).1
  refine W.item i s _ _ hil ⟨st.1,st.2,p.isList⟩ fun T vals h' tk hPt hT hTup hMid hk=>?_;refine⟨_,rfl,W.go elts k pos i T _ _ _ hMid fun h'' st'' hk''=>?_⟩;obtain⟨t,y,hy,rfl⟩:=hPt;have hyu:y=u:=by
   have:its[i]?=some y:=by simpa using hy
   rw[hu] at this;cases this;rfl
  subst hyu;obtain⟨o,ho,hr⟩:=hTup;have ho':=hk'' T o (W.apart i T _ hMid) ho;refine⟨.ref T,upd H T (.tup [.int i,x]),zpt (s:=s) (h':=h'') (t':=tk) I (fun b o hb e=>hk'' b o hb (hk b o hb e)) hf hT ⟨by show 2<=sizeLine;decide,[.int i t,y],.cons ⟨t,rfl⟩ (.cons ru .nil),o,ho',hr⟩,rfl,⟨T,x,I.hok.fresh hT,rfl,fun ys hy=>by rw[I.list_inj hy hq];exact hx,rfl⟩,⟨st''.1,st''.2.1⟩,fun b hb=>?_⟩;have hb0:=(hf b hb).1;obtain⟨ob,hob,_⟩:∃ o,s.heap.get? b=some o/\∀ v,o.data≠.cell v:=by
   obtain⟨⟨old,he⟩,o,h1,h2,h3⟩:=st;rcases sas.mp hb with rfl | hb
   .exact⟨_,he,fun v z=>by cases z⟩
   .rcases sas.mp hb with rfl | hb
    .exact⟨o,h1,fun v z=>by rw[h3] at z;cases z⟩
    .cases hb
  rw[zav (saB (saf (sam hob) hT))];exact hb0
 done:=by
  intro X hP hw hK hc i pins s σ H E I hf st hg;subst hP hw hK;obtain⟨xs,hq,hx⟩:=hg;obtain⟨its,rv,p,hz⟩:=I.list hq;have hl:=rv.length;obtain⟨⟨old,he⟩,hi⟩:=st;exact wpAny_pyNext_enum_end (I.ok.hd hc) he hi p.isList (by simp;omega) fun h' hx=>⟨rfl,zuE (t':=s.toks) I (fun b o hb e=>hx b o (fun z=>hb (by simp [z])) e) hf⟩
 self:=fun _ _ _ _ _ st h=>by
  obtain⟨⟨old,he⟩,_⟩:=st;exact wpAny_pyIter_enum he h
section
variable {X:Cx}{E:XK}{elts:List Expr}{k:Nat}{tp:Pos}{e a b:Expr}{f g:Ev->Res D}
def zFB (K:saj)(ta:TA):TI:=fun σ H R=>ta σ H fun vs H1=>∃ a,vs=[.ref a]/\(∃ xs,SqL K H1 a xs)/\R (Ite K a) H1
theorem zAL {ta:TA}{p pos:Pos}(hg:Gl X "enumerate")(hm:X.mg "enumerate"=none)(ha:PA X [a] ta)(hs:starEach [a] X.env=[(false,eval a X.env)]:=by rfl):PI X (.Tuple elts k tp) (.Call (.Name "enumerate" p) [a] [] pos) (zFB X.K ta):=by
 intro pins s σ H R I h;refine Call_ (zjV I hg hm PyProof.Rows.Boot.«enumerate» (sbj (thn (ha pos pins s σ H _ I h) fun us s1 ⟨vs,H1,I1,r1,q1⟩=>?_) hs rfl));obtain⟨l,e,⟨xs,hq⟩,q⟩:=q1;subst e;cases r1 with
 | cons r rr =>
  cases rr;cases r;obtain⟨its,rv,p,hz⟩:=I1.list hq;have hlt:l < s1.heap.objs.size:=by obtain⟨o,n,e,_⟩:=p;exact sam e
  refine call_enumerate_list p.isList fun h' he hi hsz hk=>?_;refine wpAny_pyIter_enum he ?_;refine⟨s1.heap.objs.size+1,[s1.heap.objs.size+1,s1.heap.objs.size],_,_,H1,rfl,I1.kept (t':=s1.toks) hk,zuH l s1.heap.objs.size (s1.heap.objs.size+1) (Nat.succ_ne_self _) (saB (sds hlt)) (saB hlt),⟨⟨_,he⟩,hi⟩,fun b hb=>?_,q⟩;have hb':s1.heap.objs.size<=b:=by
   rcases sas.mp hb with rfl | hb
   .omega
   .rcases sas.mp hb with rfl | hb
    .exact saA _
    .cases hb
  exact I1.fpOk hb' (I1.hok.fresh hb')
def zaW (n:Nat):List D->List D
 | []=>[]
 | d::ds=>.tup [.int n,d]::zaW (n+1) ds
theorem zbG:∀ (ds:List D) (n:Nat),(zaW n ds).length=ds.length
 | [],_=>rfl
 | d::ds,n=>by simp [zaW,zbG ds]
theorem zbH:∀ (ds:List D) (n i:Nat),(zaW n ds)[i]?=(ds[i]?).map fun d=>D.tup [.int (n+i:Nat),d]
 | [],_,_=>by simp [zaW]
 | d::ds,n,0=>by simp [zaW]
 | d::ds,n,i+1=>by simp only[zaW,sa9];rw[zbH ds (n+1) i,show n+1+i=n+(i+1) by omega]
def zty (f:Ev->Res D):Ev->Res (List D):=fun ρ=>(f ρ).bind fun d=>match d with
 | .lst ds=>.ok (zaW 0 ds)
 | _=>.stuck
theorem zuI {K:saj}{H Ha:Hp}{p:Addr}{vs:List V}{ds:List D}(hs:zaM Ha H)(hp:H p=none)(r:Reps K Ha ds vs):∃ H₀2,zcv H Ha (upd H p (.tup vs)) H₀2/\Rep K H₀2 (.tup ds) (.ref p) :=
 ⟨upd Ha p (.tup vs),zaB hs hp,zaz.mpr ⟨p,vs,rfl,SqT.of zau,r.mono (zaB (o:=.tup vs) hs hp).z⟩⟩
theorem zf3 {p pos:Pos}(hg:Gl X "enumerate")(hm:X.mg "enumerate"=none)(h:DE X E a f)(hn:nst a=true:=by exact rfl):DI X E (.Tuple elts k tp) (.Call (.Name "enumerate" p) [a] [] pos) (zty f):=by
 refine⟨zkZ (zAL hg hm (zdE h.o ziw (zc0 hn)) (zc0 hn)) fun σ H R ⟨Ha,ρ,hs,hr,q⟩=>⟨Ha,ρ,hs,hr,?_⟩⟩;unfold zty at q;cases e1:f ρ with
 | stuck=>rw[e1] at q;exact q
 | exn x=>rw[e1] at q;exact q
 | ok d =>
  rw[e1] at q;intro v H1 H01 g1 r1;cases d with
  | lst ds =>
   obtain⟨l,vs,rfl,hv,hrv⟩:=zao.mp r1;refine⟨l,rfl,⟨vs,zaM.sqL g1.sub hv⟩,q _ H1 H01 g1 ⟨fun i H' Ha' s1 s2 hi=>?_,fun i H' Ha' x H2 d s1 s2 hd hy=>?_,fun i H' Ha' s1 s2 hi=>?_⟩⟩
   .rw[zbG] at hi
    exact⟨vs,vs[i]'(by rw[← hrv.length];exact hi),zaM.sqL (s1.trans s2) hv,by simp⟩
   .obtain⟨p,y,hp,rfl,hy,rfl⟩:=hy
    rw[zbH] at hd;cases ei:ds[i]? with
    | none=>rw[ei] at hd;cases hd
    | some d' =>
     rw[ei] at hd;cases hd;obtain⟨u,k1,k2⟩:=hrv.get ei;have:=hy vs (zaM.sqL (s1.trans s2) hv);rw[k1] at this;cases this;exact zuI s2 hp (Reps.cons (zan.mpr (by simp)) (Reps.cons (k2.mono s1) Reps.nil))
   .rw[zbG] at hi
    exact⟨vs,zaM.sqL (s1.trans s2) hv,by rw[← hrv.length];exact hi⟩
  | _=>exact q.elim
end
noncomputable def Itz (K:saj) (a b:Addr):It :=
 ⟨fun i H=>∃ xs ys x y,SqL K H a xs/\SqL K H b ys/\xs[i]?=some x/\ys[i]?=some y,fun i H x H'=>∃ p y z,H p=none/\x=.ref p/\(∀ xs,SqL K H a xs->xs[i]?=some y)/\(∀ xs,SqL K H b xs->xs[i]?=some z)/\H'=upd H p (.tup [y,z]),
  fun i H=>∃ xs ys,SqL K H a xs/\SqL K H b ys/\min xs.length ys.length<=i⟩
theorem zyh {P:Program}{w:World}{K:saj}{elts:List Expr}{k:Nat}{pos:Pos}(z TI TO i1 i2 a b:Addr)(D:ZipApart z TI TO i1 i2 a b) :
  zB5 P w K (.Tuple elts k pos) (Itz K a b) [z,TI,TO,i1,i2] z (fun i h=>IsZip h z TI TO .none/\IsPair h TI (.ref i1) (.ref i2)/\(∃ a b,IsPair h TO a b)/\h.IsListIter i1 a i/\h.IsListIter i2 b i) where
 mem:=by simp
 obj:=fun i h st b hb=>by
  obtain⟨hz,hTI,⟨a',b',hTO⟩,⟨o1,e1,c1,d1⟩,⟨o2,e2,c2,d2⟩⟩:=st;simp only[sas,sa3,or_false] at hb;rcases hb with rfl | rfl | rfl | rfl | rfl
  .exact⟨_,hz,fun v z=>by cases z⟩
  .exact⟨_,hTI,fun v z=>by cases z⟩
  .exact⟨_,hTO,fun v z=>by cases z⟩
  .exact⟨_,e1,fun v z=>by rw[d1] at z;cases z⟩
  .exact⟨_,e2,fun v z=>by rw[d2] at z;cases z⟩
 keep:=fun i h h' st k=>by
  obtain⟨hz,hTI,⟨a',b',hTO⟩,h1,h2⟩:=st;exact⟨k z (by simp) _ hz,k TI (by simp) _ hTI,⟨a',b',k TO (by simp) _ hTO⟩,h1.at fun o y=>k i1 (by simp) o y,h2.at fun o y=>k i2 (by simp) o y⟩
 item:=by
  intro X hP hw hK hc i pins s σ H E I hf st hg;subst hP hw hK;obtain⟨xs,ys,x,y,hqx,hqy,hx,hy⟩:=hg;obtain⟨its,rv,p,hz⟩:=I.list hqx;obtain⟨jts,rw_,p',hz'⟩:=I.list hqy;obtain⟨u,hu,ru⟩:=rv.get hx;obtain⟨u',hu',ru'⟩:=rw_.get hy;have W:=WalksT.zip2 (prog:=X.prog) (w:=X.w) (I.ok.hd hc) z TI TO i1 i2 a b D its.toArray jts.toArray;have hil:i < min its.toArray.size jts.toArray.size:=by
   have h1:=(sad.mp hu).1;have h2:=(sad.mp hu').1;simp only[san];omega
  have sub:∀ b,b∉[z,TI,TO,i1,i2]->b∉[z,TO,i1,i2]:=fun b hb hc=>hb (by simp only[sas,sa3,or_false] at hc ⊢;rcases hc with h | h | h | h<;>simp [h]);refine W.item i s _ _ hil ⟨st.1,st.2.1,st.2.2.1,st.2.2.2.1,st.2.2.2.2,p.isList,p'.isList⟩ fun T vals h' tk hPt hT hTup hMid hk=>?_;refine⟨_,rfl,W.go elts k pos i T _ _ _ hMid fun h'' st'' hk''=>?_⟩;obtain⟨v,v',hv,hv',rfl⟩:=hPt;have hyu:v=u:=by
   have:its[i]?=some v:=by simpa using hv
   rw[hu] at this;cases this;rfl
  have hyu':v'=u':=by
   have:jts[i]?=some v':=by simpa using hv'
   rw[hu'] at this;cases this;rfl
  subst hyu hyu';obtain⟨o,ho,hr⟩:=hTup;have ho':=hk'' T o (W.apart i T _ hMid) ho;refine⟨.ref T,upd H T (.tup [x,y]),zpt (s:=s) (h':=h'') (t':=tk) I (fun b o hb e=>hk'' b o (sub b hb) (hk b o (sub b hb) e)) hf hT ⟨by show 2<=sizeLine;decide,[v,v'],.cons ru (.cons ru' .nil),o,ho',hr⟩,rfl,⟨T,x,y,I.hok.fresh hT,rfl,fun ys hy'=>by rw[I.list_inj hy' hqx];exact hx,fun ys hy'=>by rw[I.list_inj hy' hqy];exact hy,rfl⟩,
   ⟨st''.1,st''.2.1,st''.2.2.1,st''.2.2.2.1,st''.2.2.2.2.1⟩,fun b hb=>?_⟩
  have hb0:=(hf b hb).1;obtain⟨ob,hob⟩:∃ o,s.heap.get? b=some o:=by
   obtain⟨hz,hTI,⟨a',b',hTO⟩,⟨o1,e1,c1,d1⟩,⟨o2,e2,c2,d2⟩⟩:=st;simp only[sas,sa3,or_false] at hb;rcases hb with rfl | rfl | rfl | rfl | rfl
   .exact⟨_,hz⟩
   .exact⟨_,hTI⟩
   .exact⟨_,hTO⟩
   .exact⟨_,e1⟩
   .exact⟨_,e2⟩
  rw[zav (saB (saf (sam hob) hT))];exact hb0
 done:=by
  intro X hP hw hK hc i pins s σ H E I hf st hg;subst hP hw hK;obtain⟨xs,ys,hqx,hqy,hx⟩:=hg;obtain⟨its,rv,p,hz⟩:=I.list hqx;obtain⟨jts,rw_,p',hz'⟩:=I.list hqy;have hl:=rv.length;have hl':=rw_.length;obtain⟨hz,hTI,⟨a',b',hTO⟩,h1,h2⟩:=st;refine wpAny_pyNext_zip_end (I.ok.hd hc) D hz hTI hTO h1 h2 p.isList p'.isList ?_ fun h' hk=>⟨rfl,zuE (t':=s.toks) I (fun c o hb e=>hk c o (fun x=>hb (by simp [x])) (fun x=>hb (by simp [x])) (fun x=>hb (by simp [x])) (fun x=>hb (by simp [x])) e) hf⟩
  by_cases hle:xs.length<=ys.length
  .left;simp;omega
  .right;simp;omega
 self:=fun _ _ _ _ _ st h=>by
  obtain⟨hz,_⟩:=st;exact wpAny_pyIter_zip hz h
section
variable {X:Cx}{E:XK}{elts:List Expr}{k:Nat}{tp:Pos}{e a b:Expr}{f g:Ev->Res D}
def zGN (K:saj)(ta:TA):TI:=fun σ H R=>ta σ H fun vs H1=>∃ a b,vs=[.ref a,.ref b]/\(∃ xs,SqL K H1 a xs)/\(∃ xs,SqL K H1 b xs)/\R (Itz K a b) H1
theorem zC7 {ta:TA}{p pos:Pos}(hg:Gl X "zip")(hm:X.mg "zip"=none)(ha:PA X [a,b] ta)(hs:starEach [a,b] X.env=[(false,eval a X.env),(false,eval b X.env)]:=by rfl)(hs2:starEach [b] X.env=[(false,eval b X.env)]:=by rfl) :
  PI X (.Tuple elts k tp) (.Call (.Name "zip" p) [a,b] [] pos) (zGN X.K ta):=by
 intro pins s σ H R I h;refine Call_ (zjV I hg hm PyProof.Rows.Boot.«zip» (sbj (thn (ha pos pins s σ H _ I h) fun us s1 ⟨vs,H1,I1,r1,q1⟩=>?_) (by rw[hs,hs2]) (by rw[hs2];rfl)));obtain⟨l,l',e,⟨xs,hq⟩,⟨ys,hq'⟩,q⟩:=q1;subst e;cases r1 with
 | cons r rr =>
  cases rr with
  | cons r' rr =>
   cases rr;cases r;cases r';obtain⟨its,rv,p,hz⟩:=I1.list hq;obtain⟨jts,rv',p',hz'⟩:=I1.list hq';have hlt:l < s1.heap.objs.size:=by obtain⟨o,n,e,_⟩:=p;exact sam e
   have hlt':l' < s1.heap.objs.size:=by obtain⟨o,n,e,_⟩:=p';exact sam e
   refine call_zip_2 p.isList p'.isList fun h' hz hTI hTO hi1 hi2 hsz hk=>?_;refine wpAny_pyIter_zip hz ?_;refine⟨s1.heap.objs.size+4,[s1.heap.objs.size+4,s1.heap.objs.size+2,s1.heap.objs.size+3,s1.heap.objs.size,s1.heap.objs.size+1],_,_,H1,rfl,I1.kept (t':=s1.toks) hk,zyh _ _ _ _ _ l l' (zipApart_new hlt hlt'),⟨hz,hTI,⟨_,_,hTO⟩,hi1,hi2⟩,fun b hb=>?_,q⟩;have hb':s1.heap.objs.size<=b:=by
    simp only[sas,sa3,or_false] at hb;rcases hb with rfl | rfl | rfl | rfl | rfl<;>omega
   exact I1.fpOk hb' (I1.hok.fresh hb')
def zbx:List D->List D->List D
 | d::ds,e::es=>.tup [d,e]::zbx ds es
 | _,_=>[]
theorem zfa:∀ (ds es:List D),(zbx ds es).length=min ds.length es.length
 | [],_=>by simp [zbx]
 | _::_,[]=>by simp [zbx]
 | d::ds,e::es=>by simp [zbx,zfa ds es]
theorem zhd:∀ (ds es:List D) (i:Nat) (d:D),(zbx ds es)[i]?=some d->∃ x y,ds[i]?=some x/\es[i]?=some y/\d=.tup [x,y]
 | [],_,_,_,h=>by simp [zbx] at h
 | _::_,[],_,_,h=>by simp [zbx] at h
 | d::ds,e::es,0,_,h=>by simp [zbx] at h;exact⟨d,e,rfl,rfl,h.symm⟩
 | d::ds,e::es,i+1,_,h=>by
  simp only[zbx,sa9] at h;obtain⟨x,y,h1,h2,h3⟩:=zhd ds es i _ h;exact⟨x,y,by simpa using h1,by simpa using h2,h3⟩
def zCa (f g:Ev->Res D):Ev->Res (List D):=fun ρ=>(f ρ).bind fun d=>(g ρ).bind fun e=>match d,e with
 | .lst ds,.lst es=>.ok (zbx ds es)
 | _,_=>.stuck
theorem zzY {p pos:Pos}(hg:Gl X "zip")(hm:X.mg "zip"=none)(h:DE X E a f)(h':DE X E b g)(hn:nst a=true:=by exact rfl)(hn':nst b=true:=by exact rfl):DI X E (.Tuple elts k tp) (.Call (.Name "zip" p) [a,b] [] pos) (zCa f g):=by
 refine⟨zkZ (zC7 hg hm (zdE h.o (zdE h'.o ziw (zc0 hn')) (zaN hn)) (by rw[zaN hn,zc0 hn']) (zc0 hn')) fun σ H R ⟨Ha,ρ,hs,hr,q⟩=>⟨Ha,ρ,hs,hr,?_⟩⟩;unfold zCa at q;cases e1:f ρ with
 | stuck=>rw[e1] at q;exact q
 | exn x=>rw[e1] at q;exact q
 | ok d =>
  rw[e1] at q;intro v H1 H01 g1 r1;refine⟨H01,ρ,g1.sub,hr.mono g1.z,?_⟩;replace q:match ((g ρ).bind fun e=>match d,e with
   | .lst ds,.lst es=>Res.ok (zbx ds es)
   | _,_=>.stuck) with
    | .ok ds=>∀ J H' Ha',zcv H Ha H' Ha'->ItD X.K ds J Ha'->R J H'
    | .exn x=>∀ C ox H' Ha',zcv H Ha H' Ha'->ExR X.K Ha' x C ox->E C ox H'
    | .stuck=>False:=q
  cases e2:g ρ with
  | stuck=>rw[e2] at q;exact q
  | exn x=>rw[e2] at q;exact fun C ox H' Ha' g2=>q C ox H' Ha' (g1.trans g2)
  | ok d2 =>
   rw[e2] at q;intro v2 H2 H02 g2 r2;cases d with
   | lst ds =>
    cases d2 with
    | lst es =>
     obtain⟨l,vs,rfl,hv,hrv⟩:=zao.mp (r1.mono g2.z);obtain⟨l',vs',rfl,hv',hrv'⟩:=zao.mp r2;refine⟨l,l',rfl,⟨vs,zaM.sqL g2.sub hv⟩,⟨vs',zaM.sqL g2.sub hv'⟩,q _ H2 H02 (g1.trans g2) ⟨fun i H' Ha' s1 s2 hi=>?_,fun i H' Ha' x H2 d s1 s2 hd hy=>?_,fun i H' Ha' s1 s2 hi=>?_⟩⟩
     .rw[zfa] at hi
      have h1:=hrv.length;have h2:=hrv'.length;exact⟨vs,vs',vs[i]'(by omega),vs'[i]'(by omega),zaM.sqL (s1.trans s2) hv,zaM.sqL (s1.trans s2) hv',by simp,by simp⟩
     .obtain⟨p,y,z,hp,rfl,hy,hz,rfl⟩:=hy
      obtain⟨d1,d2,k1,k2,rfl⟩:=zhd _ _ _ _ hd;obtain⟨u,m1,m2⟩:=hrv.get k1;obtain⟨u',m1',m2'⟩:=hrv'.get k2;have:=hy vs (zaM.sqL (s1.trans s2) hv);rw[m1] at this;cases this;have:=hz vs' (zaM.sqL (s1.trans s2) hv');rw[m1'] at this;cases this;exact zuI s2 hp (Reps.cons (m2.mono s1) (Reps.cons (m2'.mono s1) Reps.nil))
     .rw[zfa] at hi
      have h1:=hrv.length;have h2:=hrv'.length;exact⟨vs,vs',zaM.sqL (s1.trans s2) hv,zaM.sqL (s1.trans s2) hv',by omega⟩
    | _=>exact q.elim
   | _=>exact q.elim
end
def zqx (f:Str):List Str->List D->Option D
 | k::ks,d::ds=>if f=k then some d else zqx f ks ds
 | _,_=>none
theorem zwd {K:saj}{H:Hp}{f:Str}:∀ {ks:List Str}{ds:List D}{vs:List V}{d:D},ks.length=vs.length->Reps K H ds vs->zqx f ks ds=some d->∃ v,(ks.zip vs).lookup f=some v/\Rep K H d v/\f∈ks
 | [],ds,vs,d,_,_,h=>by unfold zqx at h;cases h
 | k::ks,[],vs,d,_,_,h=>by unfold zqx at h;cases h
 | k::ks,x::ds,vs,d,hl,r,h=>by
  obtain⟨v,r',rfl,r1,r2⟩:=zap.mp r;unfold zqx at h
  by_cases c:f=k
  .rw[if_pos c] at h
   cases h;exact⟨v,by rw[sbk,sbn,beq_iff_eq.mpr c],r1,by rw[c];exact saq⟩
  .rw[if_neg c] at h
   obtain⟨u,h1,h2,h3⟩:=zwd (by simpa using hl) r2 h;exact⟨u,by rw[sbk,sbn,beq_eq_false_iff_ne.mpr c];exact h1,h2,sak _ h3⟩
def zGT (f:Str)(x:D):Res D:=match x with
 | .ob (.ins c ks) ds=>match zqx f ks ds with
  | some d=>.ok d
  | none=>.stuck
 | _=>.stuck
section
variable {X:Cx}{E:XK}{e a b o:Expr}{es:List Expr}{fe fo:Ev->Res D}{fa:Ev->Res (List D)}{pos:Pos}
def putAll:List Str->List V->List (Str×V)->List (Str×V)
 | f::fs,v::vs,l=>putAll fs vs (ztD f v l)
 | _,_,l=>l
theorem zsv {f:Str}{v:V}:∀ {l:List (Str×V)},f∉l.map (·.1)->ztD f v l=l++[(f,v)]
 | [],_=>rfl
 | (k,x)::l,h=>by
  simp only[saJ,sas,not_or] at h;unfold ztD;rw[if_neg (fun z=>h.1 z.symm),zsv h.2];rfl
theorem zmR:∀ {fs:List Str}{vs:List V}{l:List (Str×V)},fs.Nodup->(∀ f∈fs,f∉l.map (·.1))->fs.length=vs.length->putAll fs vs l=l++fs.zip vs
 | [],[],l,_,_,_=>by simp [putAll]
 | [],v::vs,l,_,_,h=>by simp at h
 | f::fs,[],l,_,_,h=>by simp at h
 | f::fs,v::vs,l,nd,hn,h=>by
  rw[sbD] at nd;unfold putAll;rw[zsv (hn f saq),zmR nd.2 (fun g hg=>?_) (by simpa using h),sbk,scR]
  .rfl
  .simp only[saU,saJ,sbA,saQ,List.mem_singleton,not_or]
   exact⟨hn g (sak _ hg),fun z=>nd.1 (z▸hg)⟩
theorem zsf {H:Hp}{a:Addr}{o:HO}(h:H a=some o):upd H a o=H:=by
 funext b
 by_cases hb:b=a
 .subst hb;rw[zau,h]
 .rw[zav hb]
theorem zps {H:Hp}{a:Addr}{o u:HO}:upd (upd H a o) a u=upd H a u:=by
 funext b
 by_cases hb:b=a
 .subst hb;rw[zau,zau]
 .rw[zav hb,zav hb,zav hb]
def zGJ (c:Str)(ks:List Str)(ds:List D):Res D:=if ds.length=ks.length then .ok (.ob (.ins c ks) ds) else .stuck
def zGM (x:D)(ds:List D):Option Nat:=ds.findIdx? fun d=>eqD d x
def zxx (x y:D):Res D:=match x with
 | .lst ds=>if zbb 40 y=true/\ds.all (zbb 40)=true then match zGM y ds with
   | some j=>.ok (.int j)
   | none=>.stuck
  else .stuck
 | _=>.stuck
def zBS (fo:Ev->Res D)(fe:Ev->Res D):Ev->Res D:=fun ρ=>(fo ρ).bind fun x=>match x with
 | .lst ds=>(fe ρ).bind fun y=>zxx (.lst ds) y
 | _=>.stuck
end
theorem zvB {K:saj}{C:Addr}:∀ f∈([]:List Str),zhS K C f:=fun _ h=>nomatch h
theorem zsE {K:saj}{C:Addr}{f:Str}{ks:List Str}(h:sbF K (.ref C) f=some none)(r:∀ f∈ks,zhS K C f):∀ g∈f::ks,zhS K C g:=fun g hg=>by
 rcases sas.mp hg with rfl | hg
 .exact h
 .exact r g hg
section
variable {X:Cx}{E:XK}{He H0e:Hp}{e:Expr}{es:List Expr}{f:Ev->Res D}{fa:Ev->Res (List D)}{pos:Pos}
def aFr (f:Ev->Res D)(fa:Ev->Res (List D)):Ev->Res (List D):=fun ρ=>(f ρ).bind fun x=>match x with
 | .lst ds=>(fa ρ).bind fun xs=>.ok (.lst ds::xs)
 | _=>.stuck
def zGL:Sl->Bool
 | .ox _ _=>true
 | _=>false
def zGI (i:Nat)(ρ:Ev):Bool:=(ρ.set i .no).all fun s=>!(zGL s)
def zGd (i j:Nat)(ρ:Ev)(ds:List D):Res Fl:=match ds[j]? with
 | some (.lst _)=>if ds.length<=line/\zGI i ρ=true then .ok (.nx (ρ.set i (.ox j ds))) else .stuck
 | _=>.stuck
def zFe (i j:Nat)(fa:Ev->Res (List D)):Ev->Res Fl:=fun ρ=>(fa ρ).bind (zGd i j ρ)
def zBX (i j:Nat)(ρ:Ev)(s:Option Sl):Res Fl:=match s with
 | some (.ox j' ds)=>if j'=j then .ok (.nx (ρ.set i (.ox j (ds.set j (.lst []))))) else .stuck
 | _=>.stuck
def zCU (i j:Nat):Ev->Res Fl:=fun ρ=>zBX i j ρ ρ[i]?
end
section
variable {X:Cx}{E:XK}{He H0e:Hp}{st:Stmt}{rest:List Stmt}{e:Expr}{es:List Expr}{f:Ev->Res D}{fa:Ev->Res (List D)}{s t:Ev->Res Fl}{pos:Pos}
end
section
variable {X:Cx}{E:XK}{He H0e:Hp}{e:Expr}{es:List Expr}{f:Ev->Res D}{fa:Ev->Res (List D)}{pos:Pos}
end
section
variable {X:Cx}{E:XK}{He H0e:Hp}{e a b:Expr}{es:List Expr}{f g:Ev->Res D}{fa:Ev->Res (List D)}{pos:Pos}
def zFP (x y:D):Res D:=match x,y with
 | .int i,.int j=>.ok (.int (if j < i then j else i))
 | _,_=>.stuck
theorem zEv:zl8 X E (fun xs H Q=>∃ i j,xs=[.int i,.int j]/\Q (.int (if j < i then j else i)) H) (m2 zFP):=zFS fun x y v u H Ha Q hs r r' q=>by
 cases x with
 | int i =>
  cases y with
  | int j=>exact⟨i,j,by rw[zan.mp r,zan.mp r'],zbn hs q (ri _)⟩
  | _=>exact q.elim
 | _=>exact q.elim
def zFN:D->D->Res D:=iop (fun _ j=>decide (0<=j)) fun i j=>.int (i / 2 ^ j.toNat)
theorem zEo (ha:DE X E a f)(hb:DE X E b g):DE X E (.BinOp a .RShift b pos) (zac f g zFN):=zp9 zDl (zsz (fun _ _ h=>of_decide_eq_true h) fun _ _ _ _=>ri _) ha hb
def zx1 (x y:D):Res D:=match x,y with
 | .lst ds,.lst es=>if ds.length+es.length<=line then .ok (.lst (ds++es)) else .stuck
 | _,_=>.stuck
theorem zxp (ha:DE X E a f)(hb:DE X E b g):DF X E (.BinOp a .Add b pos) (zac f g zx1):=by
 refine⟨?_⟩;refine zaX (zAO zvw ha.o hb.o) fun σ H Q ⟨Ha,ρ,hs,hr,q⟩=>⟨Ha,ρ,hs,hr,?_⟩
 unfold zac at q;cases e1:f ρ with
 | stuck=>rw[e1] at q;exact q
 | exn x=>rw[e1] at q;exact q
 | ok x =>
  rw[e1] at q;intro v H1 H01 g1 r1;refine⟨H01,ρ,g1.sub,hr.mono g1.z,?_⟩;cases e2:g ρ with
  | stuck=>simp only[Res.bind,e2] at q
  | exn y=>simp only[Res.bind,e2] at q;exact fun C ox H' Ha' g' ex=>q C ox H' Ha' (g1.trans g') ex
  | ok y =>
   simp only[Res.bind,e2] at q;intro u H2 H02 g2 r2;cases x with
   | lst ds =>
    cases y with
    | lst es =>
     by_cases h:ds.length+es.length<=line
     .simp only[zx1,if_pos h] at q
      obtain⟨l,vs,rfl,h1,h2⟩:=zao.mp (r1.mono g2.z);obtain⟨m,us,rfl,k1,k2⟩:=zao.mp r2;refine⟨l,m,vs,us,rfl,rfl,zaM.sqL g2.sub h1,zaM.sqL g2.sub k1,by rw[← h2.length,← k2.length];exact zdF h,fun p hp=>?_⟩;have sm:zaM H2 (upd H2 p (.lst (vs++us))):=fun b o eb=>by rw[zav (by intro z;subst z;rw[hp] at eb;cases eb)];exact eb
      refine q p (vs++us) _ H02 ⟨(g1.s.trans g2.s).trans sm,g1.z.trans g2.z,g2.sub.trans sm,(g1.trans g2).nw⟩ ((g1.s.trans g2.s).free hp) ?_ zau (h2.app k2);cases qq:H02 p with
      | none=>rfl
      | some o=>have:=g2.sub _ _ qq;rw[hp] at this;cases this
     .simp only[zx1,if_neg h] at q
    | _=>simp only[zx1] at q
   | _=>simp only[zx1] at q
end
section
variable {X:Cx}{c e:Expr}{es:List Expr}{fc:Ev->Res D}{fa:Ev->Res (List D)}{ga gb:Ev->Res Fl}{sa sb:Stmt}{pos:Pos}
end
section
variable {X:Cx}{E:XK}{e a b o:Expr}{es:List Expr}{fe fo:Ev->Res D}{fa:Ev->Res (List D)}{pos:Pos}
end
section
variable {prog:Program}{w:World}{A:Around}{E:Value->Shared->Prop}{h:Heap}{g:Array GenState}{d:Drawn}{t:Nat}{os:OsState}
variable {nm q:Str}{C N:Addr}{bs bm bmB:List Value}{hdct:Bool}{sn:List Str}{sub:List Value}{ab:Bool}{col:Option Bool}{dd:Option Addr}{k0 k1 k2 k3 k5:Option Value}{B newId initId:String}{mN:Str->Option Value}{rest:List Value}{fI:Addr}{oI:Obj}
theorem zAb {Q:Fin->Shared->Prop}(F:ExcBaseFacts B newId initId bmB)(T:OwnTail h bmB bm)(hC:h.get? C=some (excClassObj nm q C N bs bm hdct sn sub ab col dd k0 k1 k2 k3 k5 newId))(hn:h.Ns N mN)(hi:mN "__init__"=some (.ref fI))(hfI:h.get? fI=some oI)(hfc:oI.cls=.type "function")(hrest:rest.length<=sizeLine)
  (hq:∀ h' e,Heap.MadeExcOf h h' e (.ref C) rest->wpAny (model prog w) A (call (.ref fI) (.ref e::rest)) (fun r s'=>r=.none/\Q (.done (.ret (.ref e))) s') E ⟨h',g,d,t,os⟩):wpAny (model prog w) A (Builtin.«type.__call__» ⟨.ref C::rest,[]⟩) Q E ⟨h,g,d,t,os⟩:=by
 repeat (first | with_reducible refine sbq hC ?_ | with_reducible refine wpAny_madeBy_exc hC ?_ | wp_step)
 refine codeAny_call_builtin_code (scm _ F.quiet) (wpAny_check_new_subT F T hC (codeAny_exc_new_subT F T hC ?_ hrest));generalize hT0:({ cls:=.type "tuple",data:=.seq rest.toArray }:Obj)=o0;generalize hX0:({ cls:=.ref C,data:=.fields #[.ref h.objs.size,.none,.none,.none,.bool false,.none] }:Obj)=o1;have kp:∀ b o,h.get? b=some o->((h.push o0).push o1).get? b=some o:=fun b o hb=>sah o1 (sah o0 hb);have hget:((h.push o0).push o1).get? (h.objs.size+1)=some o1:=by subst hX0 hT0;heap_get
 have hc1:o1.cls=.ref C:=by subst hX0;rfl
 have hcC:(saR C::bm).contains (.ref C)=true:=by simp
 show wpAny _ _ _ _ _ _;unfold isInstance
 repeat (first | (with_reducible refine sbq hget ?_;try rw[hc1]) | (with_reducible refine wpAny_isSubtype_exc (kp _ _ hC) ?_;rw[hcC]) | wp_step)
 show wpAny _ _ (typeLookup (.ref C) _) _ _ _;refine wpAny_typeLookup_tail (kp _ _ hC) (hn.keeps kp) (T.keeps kp) F.mroIs F.init.lookup ?_;rw[hi];refine sbd (sae (show wpAny _ _ (bindSpecial _ _) _ _ _ from ?_));unfold bindSpecial;refine sae (wpAny_typeOf (T:="function") ⟨_,kp _ _ hfI,hfc⟩ ?_);rw[if_pos (by decide)];refine sau (sae (sbe (hq _ (h.objs.size+1) ⟨kp,scy (Nat.le_succ _),h.objs.size,by rw[hX0];exact hget,scy (saA _),?_⟩) (fun r s' hr=>?_) fun _ _ x=>x))
 .subst hT0;exact sah _ (Heap.get?_push_at rfl rfl)
 .obtain⟨rfl,hQ⟩:=hr
  wp_walk
  exact hQ
theorem zAe {Q:Value->Shared->Prop}(F:ExcBaseFacts B newId initId bmB)(T:OwnTail h bmB bm)(hC:h.get? C=some (excClassObj nm q C N bs bm hdct sn sub ab col dd k0 k1 k2 k3 k5 newId))(hn:h.Ns N mN)(hi:mN "__init__"=some (.ref fI))(hfI:h.get? fI=some oI)(hfc:oI.cls=.type "function")(hrest:rest.length<=sizeLine)
  (hq:∀ h' e,Heap.MadeExcOf h h' e (.ref C) rest->wpAny (model prog w) (A.under (.builtin "type.__call__" ⟨.ref C::rest,[]⟩)) (call (.ref fI) (.ref e::rest)) (fun r s'=>r=.none/\Q (.ref e) s') E ⟨h',g,d,t,os⟩):wpAny (model prog w) A (call (.ref C) rest) Q E ⟨h,g,d,t,os⟩:=by
 have f1:=tc_lookup;have f2:=tc_bind (.ref C);have hT:(⟨h,g,d,t,os⟩:Shared).TypeIs (.ref C) "type":=⟨_,hC,rfl⟩
 refine wpAny_call (codeAny_of_tree (show wpAny _ _ (callAny (.ref C) _) _ _ _ from ?_))
 repeat (any_goals (first | assumption | with_reducible refine sbq hC ?_ | wp_step))
 exact⟨rfl,codeAny_call_builtin_at (scm _ (by decide +kernel)) entry_typeCall (wpAny_check_type_call_sub hC (zAb F T hC hn hi hfI hfc hrest fun h' e hm=>hq h' e hm))⟩
end
section
variable {M:Model}{A:Around}{E:Value->Shared->Prop}{env:sbo}
variable {nm q:Str}{C N:Addr}{bs bm:List Value}{hdct:Bool}{sn:List Str}{sub:List Value}{ab:Bool}{col:Option Bool}{dd:Option Addr}{k0 k1 k2 k3 k5:Option Value}{newId:String}
theorem zx5 {s:Shared}{x:Sem Value}{Q:Flow->Shared->Prop}(hbase:bm.contains (.type "BaseException")=true)(hh:A.handled=none)
  (h:wpAny M A x (fun v si=>∃ e dc t,v=.ref e/\si.heap.get? C=some (excClassObj nm q C N bs bm hdct sn sub ab col dd k0 k1 k2 k3 k5 newId)/\si.heap.get? e=some ⟨.ref C,dc,.fields #[.ref t,.none,.none,.none,.bool false,.none],#[]⟩/\E (.ref e) si) E s):wpAny M A (raiseStmt env (some x) none) Q E s:=by
 have hcB:(saR C::bm).contains (.type "BaseException")=true:=by rw[List.contains_cons,hbase,Bool.or_true]
 unfold raiseStmt;refine sae (sbe h (fun v si ⟨e,dc,t,hv,hC,he,hE⟩=>?_) fun _ _ x=>x);subst hv;obtain⟨hp,g,d,tk,os⟩:=si
 repeat (first | with_reducible refine sbq he ?_ | with_reducible refine sbq hC ?_ | (with_reducible refine wpAny_isSubtype_exc hC ?_;rw[hcB]) | wp_step)
 exact wpAny_raiseNew_none hh hE
end
def zjH:List Value->Bool
 | .ref _::r=>zjH r
 | l=>l==[.type "ValueError",.type "Exception",.type "BaseException",.type "object"]
theorem zpB (self:Value):∀ {l:List Value},zjH l=true->refuseLoop self "__setattr__" l=pure ()
 | [],e=>by cases e
 | x::r,e=>by
  cases x with
  | ref c=>rw[refuseLoop_ref];exact zpB self (l:=r) (by unfold zjH at e;exact e)
  | _=>unfold zjH at e;rw[beq_iff_eq.mp e];exact PySem.F.store_ValueError.passes self
theorem zzz:∀ {l:List Value},zjH l=true->l.contains (.type "object")=true
 | [],e=>by cases e
 | x::r,e=>by
  cases x with
  | ref c=>rw[List.contains_cons,zzz (l:=r) (by unfold zjH at e;exact e),Bool.or_true]
  | _=>unfold zjH at e;rw[beq_iff_eq.mp e];decide
structure XSt (K:saj) (C:Addr) (ks:List Str):Prop where
 sa:sbF K (.ref C) "__setattr__"=some (some (.builtin "object.__setattr__"))
 hd:scc K C=true
 mr:(W.clsIn K C).any (fun cd=>zjH cd.mro)=true
 no:∀ f∈ks,zhS K C f
section
variable {prog:Program}{w:World}{A:Around}{K:saj}{C x:Addr}{s:Shared}{R:Result->Shared->Prop}
theorem zAd {ox:Obj}{od:Option Obj}{name:Str}{tk:Tok}{v:Value}{ks:List Str}(X:K.In s.heap)(I:W.InstAt s.heap x ox C od)(c:XSt K C ks)(hf:name∈ks)
  (h:∀ b,wpAny (model prog w) A.in1 (Builtin.ObjectAttr.storeInOwnDict (.ref x) (.ref C) (.str name tk) name v b) (fun fin s'=>match fin with | .done f=>R (.ok f) s' | .again c'=>c'.quiet=true/\codeAny (model prog w) A c' R s') (fun e s'=>R (.error e) s') s) :
  codeAny (model prog w) A (.call (.builtin "object.__setattr__") ⟨[.ref x,.str name tk,v],[]⟩) R s:=by
 have SF:=PySem.F.store_object;obtain⟨cd,hc,ho⟩:=W.any_some c.mr;have ne:cd.mro.isEmpty=false:=by cases q:cd.mro with | nil=>rw[q] at ho;cases ho | cons _ _=>rfl
 have sub:W.Looks (model prog w) s.heap (isInstance (.ref x) (.type "object")) true:=I.type.andThen (W.looks_mroIn X (by unfold W.mroIn;rw[hc,Option.bind_some,if_neg (by rw[ne];decide),zzz ho]));refine codeAny_call_builtin SF.slot.plain SF.entry (@W.check_slot (model prog w) _ _ s "object.__setattr__" "object" "__setattr__" (.ref x) [.str name tk,v] [] _ SF.kind SF.split sub (SF.args (.ref x) (.str name tk) v) ?_);have hm:W.Looks (model prog w) s.heap (mroOf (.ref C)) cd.mro:=(W.looks_clsIn X hc).andThen .now;rw[W.osa_eq,refuse_eq];refine sae (sae (I.type.here (sae (hm.here ?_))));rw[zpB _ ho];refine sau ?_;have L3:W.Looks (model prog w) s.heap (Builtin.ObjectAttr.storeTaker? none) none:=.now;have L2:W.Looks (model prog w) s.heap (typeLookup (.ref C) name) none:=W.looks_findIn X (c.no name hf);refine sae (I.type.here (sae (L2.here (sae (L3.here ?_)))));exact h _
theorem zAc {E:Value->Shared->Prop}{Q:Unit->Shared->Prop}{name:Str}{v:Value}{ks:List Str}{fs:Array Value}(X:K.In s.heap)(hx:s.heap.get? x=some ⟨.ref C,none,.fields fs,#[]⟩)(c:XSt K C ks)(hf:name∈ks)
  (h:∀ h',h'.get? x=some ⟨.ref C,some s.heap.objs.size,.fields fs,#[]⟩->h'.Ns1 s.heap.objs.size (fun y=>if y=name then some v else none)->(∀ b o,b≠x->s.heap.get? b=some o->h'.get? b=some o)->Q () { s with heap:=h',toks:=s.toks+2 }) :
  wpAny (model prog w) A (setAttr (.ref x) name v) Q E s:=by
 have J:W.InstAt s.heap x ⟨.ref C,none,.fields fs,#[]⟩ C none:=⟨hx,rfl,rfl,trivial⟩
 refine W.set_plain X J c.sa (zAd (s:={ s with toks:=s.toks+1 }) X J c hf fun b=>?_);obtain⟨cd,hc,hd'⟩:=W.any_some c.hd;refine sae (sau (sae (sae (wpAny_loadPart hx (sae (W.Looks.here (s:={ s with toks:=s.toks+1 }) (W.looks_clsIn X hc) ?_))))));rw[hd'];have hx₁:(s.heap.push sdd).get? x=some ⟨.ref C,none,.fields fs,#[]⟩:=sah _ hx;have hxs:x≠s.heap.objs.size:=saB (sam hx);have hgd:((s.heap.push sdd).update x fun o=>{ o with dict:=some s.heap.objs.size }).get? s.heap.objs.size=some sdd:=(Heap.get?_update_ne _ _ _ _ hxs.symm).trans (Heap.get?_push_at rfl rfl);have hnd:((s.heap.push sdd).update x fun o=>{ o with dict:=some s.heap.objs.size }).Ns s.heap.objs.size (fun _=>none):=⟨_,#[],_,hgd,rfl,fun e he=>absurd he (by simp),fun _=>rfl⟩
 have hx2:((s.heap.push sdd).update x fun o=>{ o with dict:=some s.heap.objs.size }).get? x=some ⟨.ref C,some s.heap.objs.size,.fields fs,#[]⟩:=sby _ hx₁ rfl;refine sae (wpAny_alloc' (sae (wpAny_update' hx₁ (sau ?_))));refine sae (sau (sae (wpAny_nsSet1 (Heap.Ns1.of_empty hnd) fun h' hn' hs=>?_)));obtain⟨oD,esD,epD,hoD,hdD,hcD⟩:=hn'.count (scK.cons name v scK.nil);refine sae (wpAny_lookBehind hoD (by rw[hdD];exact pastItsLine_dict (sal hcD (by rw[sar,sci,sizeLine_eq];omega))) (sau (h h' ?_ hn' fun b o hb e=>?_)))
 .exact(hs.2 x hxs).trans hx2
 .exact(hs.2 b (saB (sam e))).trans ((Heap.get?_update_ne _ _ _ _ hb).trans (sah _ e))
end
def ExN (a C:Addr)(dc:Option Addr)(h:Heap):Prop:=∃ t,h.get? a=some ⟨.ref C,dc,.fields #[.ref t,.none,.none,.none,.bool false,.none],#[]⟩
def XDs (a:Addr)(fs:List (Str×V))(h:Heap):Prop:=∃ mA,h.Ns1 a mA/\(∀ f,zCh (fs.lookup f) (mA f))/\scK mA (fs.map (·.1))
theorem zou {a C:Addr}{dc:Option Addr}:∀ h1 h2:Heap,ExN a C dc h1->(∀ o,h1.get? a=some o->h2.get? a=some o)->ExN a C dc h2:=fun _ _ ⟨t,e⟩ k=>⟨t,k _ e⟩
theorem zx8 {a:Addr}{fs:List (Str×V)}:∀ h1 h2:Heap,XDs a fs h1->(∀ o,h1.get? a=some o->h2.get? a=some o)->XDs a fs h2:=fun _ _ ⟨m,n,r⟩ k=>⟨m,n.at k,r⟩
theorem zux {a:Addr}{fs:List (Str×V)}{h:Heap}(x:XDs a fs h):∃ o,h.get? a=some o:=let ⟨_,⟨o,_,_,e,_⟩,_⟩:=x;⟨o,e⟩
theorem zAg {a:Addr}{fs:List (Str×V)}{h:Heap}{mA:Str->Option Value}{f:Str}{y:V}{u:Value}(ry:zcj y u)(r:∀ f,zCh (fs.lookup f) (mA f))(wi:scK mA (fs.map (·.1)))(n:h.Ns1 a (fun z=>if z=f then some u else mA z)):XDs a (ztD f y fs) h:=by
 refine⟨_,n,fun g=>?_,fun g hg=>?_⟩
 .rw[zk8]
  by_cases q:g=f
  .rw[if_pos q];simp only[if_pos q];exact ry
  .rw[if_neg q];simp only[if_neg q];exact r g
 .by_cases q:g=f
  .rw[q];exact(zld f y fs).1
  .exact(zld f y fs).2 g (wi g fun z=>hg (by simp only[if_neg q];exact z))
section
variable {X:Cx}{o value:Expr}{f:Str}{pos pos':Pos}{ta tv:TE}
noncomputable def sX1 (K:saj) (ta tv:TE) (f:Str):TS:=fun D σ H=>tv σ H fun y H1=>ta σ H1 fun x H2=>∃ a C ks,x=.ref a/\H2 a=some (.ext (ExN a C none))/\XSt K C ks/\f∈ks/\∀ dx,H2 dx=none->D.nx σ (upd (upd H2 a (.ext (ExN a C (some dx)))) dx (.ext (XDs dx [(f,y)])))
theorem zFl (ha:PE X o ta)(hv:PE X value tv)(hs:swapsWith value (some (.Attribute o f pos')) pos.line X.env=pure false):PS X (.Assign [.Attribute o f pos'] value pos) (sX1 X.K ta tv f):=by
 intro pins s σ H D I h;refine plainObj_wpAny_Assign_Attribute (thn (hv pins s σ H _ I h) fun u s1 ⟨y,H1,I1,ry,q⟩=>thn (ha pins s1 σ H1 _ I1 q) fun ov s2 ⟨x,H2,I2,rx,a,C,ks,ex,ea,c,hf,q2⟩=>?_) hs;subst ex;obtain rfl:ov=saR a:=rx;obtain⟨⟨t,hx⟩,_,_⟩:=(show zcg X.prog X.w H2 s2.heap a (.ext _) from I2.hok a _ ea)
 have fr:H2 s2.heap.objs.size=none:=I2.hok.fresh (saA _);have hne:s2.heap.objs.size≠a:=fun z=>scg _ (z▸sam hx);refine zAc I2.kIn hx c hf fun h' e' n' k'=>⟨σ,_,?_,q2 s2.heap.objs.size fr⟩
 have p:XDs s2.heap.objs.size [(f,y)] h':=zAg (fs:=[]) (mA:=fun _=>none) ry (fun _=>scz) (fun _ z=>absurd rfl z) n';have mu:Mut (H2 a):=by rw[ea];exact scz
 have fr':(upd H2 a (.ext (ExN a C (some s2.heap.objs.size)))) s2.heap.objs.size=none:=by rw[zav hne];exact fr
 exact I2.un (Un.ext (Un.write mu (.inl rfl) (fun b q hb z=>k' b q hb z) ⟨_,e'⟩) fr' (scy (saA _))) (HOk.ext (I2.hok.write (o':=.ext (ExN a C (some s2.heap.objs.size))) mu (.inl rfl) (fun b q hb z=>k' b q hb z) ⟨_,e'⟩ ⟨⟨t,e'⟩,⟨_,e'⟩,zou⟩) fr' p (zux p) zx8)
end
def zEZ (is:List Nat):TA:=fun σ H Q=>∃ vs,is.map (fun i=>σ[i]?)=vs.map (fun v=>some (some v))/\Q vs H
structure PV (X:Cx) (es:List Expr) (is:List Nat):Prop where
 o:PA X es (zEZ is)
section
variable {X:Cx}
theorem zzJ:PV X [] []:=⟨fun pos pins s σ H Q I ⟨vs,e,h⟩=>by
 cases vs with
 | nil=>exact ziw pos pins s σ H Q I h
 | cons v vs=>simp at e⟩
theorem zqI {es:List Expr}{is:List Nat}{i:Nat}{y:Str}{p:Pos}(hN:X.N[i]?=some y)(hv:Vis X.env.scope y)(h:PV X es is)(hd:(y==("__debug__" : Str))=false:=by decide)(hcd:(y==("__classdict__" : Str))=false:=by decide):PV X (.Name y p::es) (i::is) :=
 ⟨fun pos pins s σ H Q I ⟨vs,e,q⟩=>by
  cases vs with
  | nil=>simp at e
  | cons v vs =>
   simp only[saJ,List.cons.injEq] at e;exact zdE (zk0 hN hv hd hcd) h.o (zaN rfl) pos pins s σ H Q I ⟨v,e.1,vs,e.2,q⟩⟩
structure zB4 (K:saj) (CE:Addr):Prop where
 rd:W.readsIn K CE (.type "type")=true
 fc:W.findCls K (.ref CE) (.type "type") "__init__"=some (.val (.builtin "ValueError.__init__"))
 sp:W.specialIn K (.ref CE) "__getattribute__"=some (some (.builtin "type.__getattribute__"))
structure XIn (K:saj) (C fn:Addr):Prop where
 ex:∃ CE nm q N bs hdct sn sub ab col dd k0 k1 k2 k3 k5,K.lookup C=some (excClassObj nm q C N bs [.ref CE,.type "ValueError",.type "Exception",.type "BaseException",.type "object"] hdct sn sub ab col dd k0 k1 k2 k3 k5 "ValueError.__new__")/\W.nsOkIn K N=true/\sbh K N "__init__"=some (some (.ref fn)) /\
  W.excIn K CE [.type "ValueError",.type "Exception",.type "BaseException",.type "object"] "ValueError.__new__"=true
theorem zAY {K:saj}{h:Heap}{N:Addr}{mg:Str->Option Value}{n:Str}{v:Value}(X:K.In h)(G:h.Ns N mg)(e:sbh K N n=some (some v)):mg n=some v:=by
 obtain⟨o,es,ep,ho,hd,_,hf⟩:=G;unfold sbh at e;split at e
 .rename_i c d es' n' sl q
  have:=X _ _ q;rw[ho] at this;cases this;cases hd;split at e
  .rename_i en he
   rw[← hf];unfold nsFind findBy;rw[← Array.find?_toList,he];simpa using e
  .split at e<;>cases e
 .cases e
structure zGV (h:Heap) (C fn:Addr):Prop where
 ex:∃ bm N nm q bs hdct sn sub ab col dd k0 k1 k2 k3 k5 mN,h.get? C=some (excClassObj nm q C N bs bm hdct sn sub ab col dd k0 k1 k2 k3 k5 "ValueError.__new__")/\h.Ns N mN/\mN "__init__"=some (.ref fn)/\OwnTail h [.type "ValueError",.type "Exception",.type "BaseException",.type "object"] bm
theorem zyk {K:saj}{CE:Addr}{h:Heap}(X:K.In h)(q:W.excIn K CE [.type "ValueError",.type "Exception",.type "BaseException",.type "object"] "ValueError.__new__"=true):OwnTail h [.type "ValueError",.type "Exception",.type "BaseException",.type "object"] [.ref CE,.type "ValueError",.type "Exception",.type "BaseException",.type "object"]:=by
 unfold W.excIn at q;split at q
 .rename_i dd cd sl ho
  split at q
  .simp only[saF,beq_iff_eq,Bool.not_eq_true'] at q
   obtain⟨⟨⟨⟨_,_⟩,_⟩,hok⟩,hni⟩:=q;exact .own (X _ _ ho) (.of_isNs (W.isNs_of_in X hok)) (W.nsMap_none_of_in X hok hni) .base
  .cases q
 .cases q
theorem zuw {K:saj}{C fn:Addr}{h:Heap}(X:K.In h)(q:XIn K C fn):zGV h C fn:=by
 obtain⟨CE,nm,qn,N,bs,hdct,sn,sub,ab,col,dd,k0,k1,k2,k3,k5,ho,hok,hi,he⟩:=q.ex;exact⟨_,N,nm,qn,bs,hdct,sn,sub,ab,col,dd,k0,k1,k2,k3,k5,_,X _ _ ho,.of_isNs (W.isNs_of_in X hok),zAY X (.of_isNs (W.isNs_of_in X hok)) hi,zyk X he⟩
def sXI (K:saj)(t:TA):TE:=fun σ H Q=>t σ H fun vs H1=>∃ a C rest fn,vs=.ref a::rest/\rest.length<=line/\H1 a=some (.ext (ExN a C none))/\XIn K C fn/\Q .non (upd H1 a (.ext (ExN a C none)))
theorem zFo {ce:Str}{CE:Addr}{np apos cpos:Pos}{e:Expr}{es:List Expr}{t:TA}{pl:Sem Bool}(b:zB4 X.K CE)(hg:Gl X ce)(hm:X.mg ce=some (.ref CE))(ha:PA X (e::es) t)(hdb:(ce==("__debug__" : Str))=false:=by decide)
  (he:starEach (e::es) X.env=(false,eval e X.env)::starEach es X.env:=by exact zaN rfl)(hpl:(backTo cpos (starEach es X.env)).any (·.1)=false:=by exact zbR rfl)
  (ht:eval (.Call (.Attribute (.Name ce np) "__init__" apos) (e::es) [] cpos) X.env=(do
   let ov ← eval (.Name ce np) X.env
   standAt apos.atName
   let (f,first) ← holding [ov] (getMethod ov "__init__" pl)
   callWith cpos f first (backTo cpos (starEach (e::es) X.env)) (backToKw cpos (keywordEach [] X.env))):=by rfl) :
  PE X (.Call (.Attribute (.Name ce np) "__init__" apos) (e::es) [] cpos) (sXI X.K t):=by
 intro pins s σ H Q I h;refine W.methodCall_KW (pl:=pl) (zjl I hg hm (W.method_cls I.kIn b.sp (W.cls_value I.kIn b.rd b.fc rfl ?_)) hdb) ht;have I0:=I.tok (s.toks+1);have hA:=ha cpos pins _ σ H _ I0 h;rw[he] at hA ⊢;refine Calls.callWith_builtin (by show(false||(backTo cpos (starEach es X.env)).any (·.1))=false;rw[hpl];rfl) (sdb (thn hA fun us s1 ⟨vs,H1,I1,r,a,C,rest,fn,ev,hl,ea,hx,q⟩=>?_));subst ev;obtain⟨_,us',rfl,ra,r'⟩:∃ u us',us=u::us'/\zcj (.ref a) u/\zbM rest us':=by cases r with | cons r1 r2=>exact⟨_,_,rfl,r1,r2⟩
 obtain rfl:_=saR a:=ra;obtain⟨bm,N,nm,qn,bs,hdct,sn,sub,ab,col,dd,k0,k1,k2,k3,k5,mN,hC,hn,hi,T⟩:=(zuw I1.kIn hx).ex;obtain⟨⟨t0,hae⟩,_,_⟩:=(show zcg X.prog X.w H1 s1.heap a (.ext _) from I1.hok a _ ea)
 have F:=scH;have hz:us'.length<=sizeLine:=by rw[← r'.length];exact zdF hl
 obtain⟨hp,g,d,tk,os⟩:=s1;refine wpAny_call (codeAny_call_builtin F.init.plain F.initEntry (wpAny_check_init_subT F T hC hae rfl ?_))
 wp_walk
 have mu:Mut (H1 a):=by rw[ea];exact scz
 have hne:a≠hp.objs.size:=saB (sam hae);refine⟨.non,upd H1 a (.ext (ExN a C none)),I1.write (o:=.ext (ExN a C none)) (x:=a) (e:=a) mu (.inl rfl) (fun b u hb e=>(sbp _ _ (saW hb)).trans (sah _ e)) ⟨_,sby _ (sah _ hae) rfl⟩ ⟨⟨hp.objs.size,?_⟩,⟨_,sby _ (sah _ hae) rfl⟩,zou⟩,rfl,q⟩;rw[sby _ (sah _ hae) rfl];rfl
end
section
variable {X:Cx}
noncomputable def tXR (K:saj) (fs:List Str) (is:List Nat):TS:=fun D σ H=>∃ a C dx l ks vs,σ[0]?=some (some (V.ref a))/\H a=some (.ext (ExN a C (some dx)))/\H dx=some (.ext (XDs dx l))/\dx≠a/\XSt K C ks/\(∀ f∈fs,f∈ks)/\l.length+fs.length < 1000/\fs.length=vs.length /\
 is.map (fun i=>σ[i]?)=vs.map (fun v=>some (some v))/\D.nx σ (upd H dx (.ext (XDs dx (putAll fs vs l))))
structure XR (X:Cx) (sts:List Stmt) (fs:List Str) (is:List Nat):Prop where
 o:PSs X sts (tXR X.K fs is)
theorem zzx:XR X [] [] []:=⟨zkC zve fun D σ H ⟨a,C,dx,l,ks,vs,h1,h2,h3,h4,h5,h6,h7,h8,h9,q⟩=>by
 cases vs with
 | nil=>unfold putAll at q;rw[zsf h3] at q;exact q
 | cons v vs=>simp at h8⟩
noncomputable def tXB (K:saj) (ks:List Str) (is:List Nat):TS:=fun D σ H=>∃ a C fn vs,σ[0]?=some (some (V.ref a))/\H a=some (.ext (ExN a C none))/\XSt K C ks/\XIn K C fn/\ks.length=vs.length/\ks.length<=60 /\
 is.map (fun i=>σ[i]?)=vs.map (fun v=>some (some v))/\∀ dx,H dx=none->D.nx σ (upd (upd H a (.ext (ExN a C (some dx)))) dx (.ext (XDs dx (putAll ks vs []))))
structure XB (X:Cx) (sts:List Stmt) (ks:List Str) (is:List Nat):Prop where
 o:PSs X sts (tXB X.K ks is)
theorem zCn {sts:List Stmt}{fs:List Str}{is:List Nat}{f:Str}{i:Nat}{x y ce:Str}{CE:Addr}{p1 p2 p3 pos np apos cpos spos sp0:Pos}{es:List Expr}{pl:Sem Bool}(b:zB4 X.K CE)(hg:Gl X ce)(hm:X.mg ce=some (.ref CE))(hpv:PV X es (i::is))(hN:X.N[i]?=some y)(hN0:X.N[0]?=some x)(hv:Vis X.env.scope y)(hv0:Vis X.env.scope x)(h:XR X sts fs is)
  (hd:(y==("__debug__" : Str))=false:=by decide)(hcd:(y==("__classdict__" : Str))=false:=by decide)(hd0:(x==("__debug__" : Str))=false:=by decide)(hcd0:(x==("__classdict__" : Str))=false:=by decide)(hdb:(ce==("__debug__" : Str))=false:=by decide)
  (hs:swapsWith (.Name y p3) (some (.Attribute (.Name x p1) f p2)) pos.line X.env=pure false:=by rfl)(hs0:swapsWith (.Call (.Attribute (.Name ce np) "__init__" apos) (.Name x sp0::es) [] cpos) none spos.line X.env=pure false:=by rfl)(hpl:(backTo cpos (starEach es X.env)).any (·.1)=false:=by exact zbR rfl)
  (ht:eval (.Call (.Attribute (.Name ce np) "__init__" apos) (.Name x sp0::es) [] cpos) X.env=(do
   let ov ← eval (.Name ce np) X.env
   standAt apos.atName
   let (f,first) ← holding [ov] (getMethod ov "__init__" pl)
   callWith cpos f first (backTo cpos (starEach (.Name x sp0::es) X.env)) (backToKw cpos (keywordEach [] X.env))):=by rfl) :
  XB X (.Expr (.Call (.Attribute (.Name ce np) "__init__" apos) (.Name x sp0::es) [] cpos) spos::.Assign [.Attribute (.Name x p1) f p2] (.Name y p3) pos::sts) (f::fs) (i::is):=by
 refine⟨zkC (zn5 (zqJ (zFo b hg hm (zqI (p:=sp0) hN0 hv0 hpv hd0 hcd0).o hdb (zaN rfl) hpl ht) hs0) (zn5 (zFl (zk0 hN0 hv0 hd0 hcd0) (zk0 hN hv hd hcd) hs) h.o)) fun D σ H ⟨a,C,fn,vs,h1,h2,h3,h4,h5,h6,h7,q⟩=>?_⟩;refine⟨.ref a::vs,(show σ[0]?::(i::is).map (fun i=>σ[i]?)=some (some (V.ref a))::vs.map (fun v=>some (some v)) by rw[h1,h7]),a,C,vs,fn,rfl,?_,h2,h4,?_⟩
 .have:vs.length<=60:=by omega
  exact sal this (by decide)
 .cases vs with
  | nil=>simp at h5
  | cons v vs =>
   simp only[saJ,List.cons.injEq] at h7;simp only[sar] at h5 h6;rw[zsf h2];refine⟨v,h7.1,.ref a,h1,a,C,f::fs,rfl,h2,h3,saq,fun dx hdx=>?_⟩;have hne:dx≠a:=fun z=>by subst z;rw[h2] at hdx;cases hdx
   refine⟨a,C,dx,[(f,v)],f::fs,vs,h1,?_,zau,hne,h3,fun g hg=>sak _ hg,?_,by omega,h7.2,?_⟩
   .rw[zav hne.symm,zau]
   .simp only[sar,sci];omega
   .rw[zps]
    have:=q dx hdx;unfold putAll at this;exact this
end
noncomputable def zCN (K:saj) (ks:List Str):Sp:=fun vs H Q _=>∃ a C fn args,vs=.ref a::args/\args.length=ks.length/\H a=some (.ext (ExN a C none))/\XSt K C ks/\XIn K C fn/\∀ dx,H dx=none->Q .non (upd (upd H a (.ext (ExN a C (some dx)))) dx (.ext (XDs dx (putAll ks args []))))
theorem zDZ {P:Program}{w:World}{K:saj}{mg:Str->Option Value}{base:Heap}{x qual:Str}{st:Stmt}{f:Addr}{fd:FuncData}{ps:List Str}{ks:List Str}(F:Fun K x qual st f fd)(S:zay ps ps (defScope st))(hps:ps.length=ks.length+1)(hf:ks.length<=60)
  (hbody:∀ (cdv:Value) (A:Around) (outer:List sbo) (s0:Shared) (H:Hp) (E:XK),XB (zma CX0 P w K mg base ps qual (defScope st) f cdv A outer s0 H E).nox (defBody st) ks ((saS ks.length).map (· + 1))):zcB P w K mg base CX0 1 f fd ps (zCN K ks):=by
 refine F.ok S (fun vs H Q E h=>?_) fun cdv A outer s0 H vs Q E hr h=>?_
 .obtain⟨a,C,fn,args,rfl,hl,_⟩:=h
  simp [hl,hps]
 .obtain⟨a,C,fn,args,rfl,hl,hH,hC,hn,q⟩:=h
  refine⟨_,(hbody cdv A outer s0 H E).o,a,C,fn,args,?_,hH,hC,hn,hl.symm,hf,?_,q⟩
  .unfold L2.start;simp
  .unfold L2.start
   apply sb6;intro i;simp only[sai,sa2]
   by_cases hi:i < ks.length
   .have hia:i < args.length:=by omega
    simp [hi,hia,saC,sa9]
   .have hia:¬ i < args.length:=by omega
    simp [hi,hia]
section
variable {prog:Program}{w:World}{A:Around}{E:Value->Shared->Prop}{s:Shared}{env:sbo}
variable {nm q:Str}{C N:Addr}{bs bm bmB:List Value}{hdct:Bool}{sn:List Str}{sub:List Value}{ab:Bool}{col:Option Bool}{dd:Option Addr}{k0 k1 k2 k3 k5:Option Value}{B newId initId:String}{mN:Str->Option Value}{fI:Addr}{oI:Obj}
theorem zx6 (F:ExcBaseFacts B newId initId bmB){x:Str}{np cpos pos:Pos}{args:List Expr}{Q:Flow->Shared->Prop}(hbase:bm.contains (.type "BaseException")=true)(hh:A.handled=none)(hplain:(backTo cpos (starEach args env)).any (·.1)=false)(hi:mN "__init__"=some (.ref fI))
  (h:wpAny (model prog w) A (eval (.Name x np) env) (fun f si=>f=.ref C/\wpAny (model prog w) A (evalArgs (.ref C) true (backTo cpos (starEach args env)) []) (fun a sf=>a.kw=[]/\a.pos.length<=sizeLine/\sf.heap.get? C=some (excClassObj nm q C N bs bm hdct sn sub ab col dd k0 k1 k2 k3 k5 newId)/\sf.heap.Ns N mN/\OwnTail sf.heap bmB bm/\sf.heap.get? fI=some oI/\oI.cls=.type "function" /\
    ∀ h' e,Heap.MadeExcOf sf.heap h' e (.ref C) a.pos->wpAny (model prog w) (A.under (.builtin "type.__call__" ⟨.ref C::a.pos,[]⟩)) (call (.ref fI) (.ref e::a.pos)) (fun r s'=>r=.none/\s'.heap.get? C=some (excClassObj nm q C N bs bm hdct sn sub ab col dd k0 k1 k2 k3 k5 newId)/\(∃ dc t,s'.heap.get? e=some ⟨.ref C,dc,.fields #[.ref t,.none,.none,.none,.bool false,.none],#[]⟩)/\E (.ref e) s') E { sf with heap:=h' }) E si) E s) :
  wpAny (model prog w) A (exec (.Raise (some (.Call (.Name x np) args [] cpos)) none pos) env) Q E s:=by
 rw[arm_exec_Raise];refine sae (wpAny_standAt (zx5 (C:=C) (nm:=nm) (q:=q) (N:=N) (bs:=bs) (bm:=bm) (hdct:=hdct) (sn:=sn) (sub:=sub) (ab:=ab) (col:=col) (dd:=dd) (k0:=k0) (k1:=k1) (k2:=k2) (k3:=k3) (k5:=k5) (newId:=newId) hbase hh (sae (sbe (wpAny_Call_ofName (sbe h (fun f si h₁=>?_) fun _ _ x=>x)) (fun v sj h₃=>sae (wpAny_standAt (sau h₃))) fun _ _ x=>x))));obtain⟨rfl,h₁⟩:=h₁;unfold callWith;refine sae (sbd (sbe h₁ (fun⟨apos,akw⟩ sf ⟨hkw,hlen,hC,hn,T,hf,hfc,h₂⟩=>sae (wpAny_standAt ?_)) fun _ _ x=>x));obtain rfl:akw=[]:=hkw;obtain⟨hp,g,d,tk,os⟩:=sf;simp only[hplain];refine sae (wpAny_keeperOf_exc hC (sae (zAe F T hC hn hi hf hfc hlen fun h' e hm=>sbe (h₂ h' e hm) (fun r s' hr=>?_) fun _ _ z=>z)));obtain⟨rfl,hC',⟨dc,t,he⟩,hE⟩:=hr;exact⟨rfl,sae (sbd (wpAny_point (sau ⟨e,dc,t,rfl,hC',he,hE⟩)))⟩
end
structure zzt (K:saj) (x:Str) (C:Addr):Prop where
 i:zuu K x C
 cls:sbF K (.ref C) "__class__"=some (some (.builtin "object.__class__"))
 ga:sbF K (.ref C) "__getattribute__"=some (some (.builtin "BaseException.__getattribute__"))
 gt:sbF K (.ref C) "__getattr__"=some none
 t1:sa0 K (.ref C) (.type "NoneType")=some false
 t2:sa0 K (.ref C) (.type "bool")=some false
 t3:sa0 K (.ref C) (.type "int")=some false
 t4:sa0 K (.ref C) (.type "str")=some false
 t5:sa0 K (.ref C) (.type "tuple")=some false
 t6:sa0 K (.ref C) (.type "list")=some false
 t7:sa0 K (.ref C) (.type "dict")=some false
 ve:sa0 K (.ref C) (.type "ValueError")=some true
 self:sa0 K (.ref C) (.ref C)=some true
theorem zzt.xc {K:saj}{x:Str}{C:Addr}(Z:zzt K x C):XC K x C :=
 ⟨Z.i.ns,⟨Z.cls,Z.ga,Z.gt,Z.i.ob,Z.i.be⟩,fun T hT=>by
  refine zvM (zqX T hT) ?_;simp only[zg0,sas,sa3,or_false] at hT;rcases hT with rfl | rfl | rfl | rfl | rfl | rfl | rfl
  all_goals first | exact Z.t1 | exact Z.t2 | exact Z.t3 | exact Z.t4 | exact Z.t5 | exact Z.t6 | exact Z.t7⟩
theorem zzw {K:saj}{C fn:Addr}{ks:List Str}(z:XIn K C fn)(sa:sbF K (.ref C) "__setattr__"=some (some (.builtin "object.__setattr__")))(hd:scc K C=true)(no:∀ f∈ks,zhS K C f):XSt K C ks:=by
 obtain⟨CE,nm,qn,N,bs,hdct,sn,sub,ab,col,dd,k0,k1,k2,k3,k5,ho,_⟩:=z.ex;refine⟨sa,hd,?_,no⟩;unfold W.clsIn;rw[ho];rfl
section
variable {P:Program}{w:World}{K:saj}{mg:Str->Option Value}{base:Heap}{N:List Str}{qual:Str}{scope:Scope}{f:Addr}{cd:Value}{A:Around}{outer:List sbo}{s0:Shared}{H0:Hp}{E:XK}{He H0e:Hp}
theorem zy2 {H:Hp}{h:Heap}{e dx:Addr}{o1 o2:HO}(ok:HOk P w (upd (upd H e o1) dx o2) h)(he:H e=none)(hd:H dx=none)(n1:∀ b,o1≠.own b)(n2:∀ b,o2≠.own b)(m1:∀ b,o1≠.tup b)(m2:∀ b,o2≠.tup b):HOk P w H h:=fun a o q=>by
 have a1:a≠e:=fun z=>by subst z;rw[he] at q;cases q
 have a2:a≠dx:=fun z=>by subst z;rw[hd] at q;cases q
 refine(ok a o (by rw[zav a2,zav a1];exact q)).stay (fun b u _ z=>z) (fun b z=>?_) fun b xs z=>?_
 .by_cases b2:b=dx
  .subst b2;rw[zau] at z;exact absurd (saN z) (n2 _)
  .rw[zav b2] at z
   by_cases b1:b=e
   .subst b1;rw[zau] at z;exact absurd (saN z) (n1 _)
   .rw[zav b1] at z;exact z
 .by_cases b2:b=dx
  .subst b2;rw[zau] at z;exact absurd (saN z) (m2 _)
  .rw[zav b2] at z
   by_cases b1:b=e
   .subst b1;rw[zau] at z;exact absurd (saN z) (m1 _)
   .rw[zav b1] at z;exact z
theorem zxS {fs:List Addr}{H H2:Hp}{h h2:Heap}(u:Un fs [] H H2 h h2):Un fs [] H H h h2:=⟨u.keep,u.slot,fun _ _ _ n _=>n,u.there,fun _ _ q=>q,fun _ _ _ q=>q,fun _ ps q=>⟨#[],by rw[q];simp⟩⟩
end
def zAZ (e:DictEntry):Bool:=match e.key with
 | .str _ _=>true
 | _=>false
theorem zsc {K:saj}{C CE fn N:Addr}{nm q:Str}{bs sub:List Value}{hdct ab:Bool}{sn:List Str}{col:Option Bool}{dd dn:Option Addr}{k0 k1 k2 k3 k5:Option Value}{cn:Value}{es:Array DictEntry}{ep:Nat}{st:Array (Option Value)}
  (xl:K.lookup C=some (excClassObj nm q C N bs [.ref CE,.type "ValueError",.type "Exception",.type "BaseException",.type "object"] hdct sn sub ab col dd k0 k1 k2 k3 k5 "ValueError.__new__"))(xn:K.lookup N=some ⟨cn,dn,.dict es ep,st⟩)(xk:es.toList.all zAZ=true)(xv:sbh K N "__init__"=some (some (.ref fn)))
  (xb:W.excIn K CE [.type "ValueError",.type "Exception",.type "BaseException",.type "object"] "ValueError.__new__"=true):XIn K C fn:=by
 refine⟨CE,nm,q,N,bs,hdct,sn,sub,ab,col,dd,k0,k1,k2,k3,k5,xl,?_,xv,xb⟩;unfold W.nsOkIn;rw[xn];rw[Array.all_toList] at xk;exact xk
theorem zsM {α β:Type}{f g:α->Option β}:∀ {l:List α},(∀ x∈l,f x=g x)->l.filterMap f=l.filterMap g
 | [],_=>rfl
 | a::l,h=>by
  rw[sbs,sbs,h a saq,zsM fun x hx=>h x (sak _ hx)]
theorem zyG (its:List Value):slicePick its.toArray none none (some (-1))=its.reverse.toArray:=by
 have h1:(sliceBounds none none (some (-1)) its.toArray.size)=((its.length:Int)-1,-1,-1):=by
  unfold sliceBounds;simp
 unfold slicePick;rw[h1]
 congr 1
 unfold sliceRange;simp only[show ¬ ((-1:Int) > 0) by decide,if_false];have hc:((if(its.length:Int)-1 > -1 then((its.length:Int)-1 - -1 - -1-1) / (- -1) else 0)).toNat=its.length:=by
  rw[show(- -1:Int)=1 from rfl,Int.ediv_one];split<;>omega
 rw[hc];rw[scL];have hall:∀ k∈saS its.length,((fun x=>its.toArray[x]?)∘fun(k:Nat)=>((its.length:Int)-1 + -1*(k:Int)).toNat) k=its.reverse[k]?:=fun k hk=>by
  have hk:=sbu.mp hk;show its.toArray[((its.length:Int)-1 + -1*(k:Int)).toNat]?=_;rw[List.getElem?_reverse hk,show((its.length:Int)-1 + -1*(k:Int)).toNat=its.length-1-k by omega];simp
 rw[zsM hall];have hr:(saS its.length).filterMap (fun k=>its.reverse[k]?)=its.reverse:=by
  have hh:=scD (as:=its);generalize its.reverse=r at hh ⊢;rw[← hh];clear hh hall hc h1
  induction r with
  | nil=>rfl
  | cons a r ih =>
   rw[sar,sc5,sbs];simp only[sbU,scL]
   congr 1
 exact hr
def zFO (x:D):Res D:=match x with
 | .lst ds=>.ok (.lst ds.reverse)
 | _=>.stuck
theorem Reps.rev {K:saj}{H:Hp}:∀ {ds:List D}{vs:List V},Reps K H ds vs->Reps K H ds.reverse vs.reverse
 | [],vs,h=>by rw[Reps.nil_iff.mp h];exact Reps.nil
 | d::ds,vs,h=>by
  obtain⟨v,r,rfl,h1,h2⟩:=zap.mp h;rw[scP,scP];exact(Reps.rev h2).app (Reps.cons h1 Reps.nil)
theorem zbM.rev:∀ {vs:List V}{us:List Value},zbM vs us->zbM vs.reverse us.reverse
 | _,_,.nil=>.nil
 | _,_,.cons h t=>by rw[scP,scP];exact(zbM.rev t).append (.cons h .nil)
section
variable {X:Cx}{E:XK}{e a st:Expr}{f:Ev->Res D}{te:TE}{pos p2:Pos}
def zGt (K:saj)(te:TE):TE:=fun σ H Q=>te σ H fun x H1=>∃ a xs,x=.ref a/\SqL K H1 a xs/\∀ p,H1 p=none->Q (.ref p) (upd H1 p (.lst xs.reverse))
theorem zDd (he:PE X e te)(hst:∀ (pins:List (Addr×Obj)) (s:Shared) (σ:L2.St) (H:Hp) (Q:VK),Inv X pins σ H s->Q (.int (-1)) H->wpAny (model X.prog X.w) X.A (eval st X.env) (EP X pins σ Q) X.xe s):PE X (.Subscript e (.Slice none none (some st) p2) pos) (zGt X.K te):=by
 intro pins s σ H Q I h;refine Subscript_ (thn (he pins s σ H _ I h) fun v s1 ⟨x,H1,I1,r1,a,xs,ex,hx,q⟩=>?_);subst ex;cases r1;refine wpAny_Slice (wpAny_evalPart_none (wpAny_evalPart_none ?_));show wpAny _ _ (eval st X.env) _ _ _;refine thn (hst pins s1 σ H1 (fun v H2=>v=.int (-1)/\H2=H1) I1 ⟨rfl,rfl⟩) fun vs s3 ⟨u,H3,I3,pu,eu,eh⟩=>?_;subst eu eh;obtain⟨t,rfl⟩:=pu;have I4:Inv X pins σ H3 { s3 with heap:=s3.heap.push { cls:=.type "slice",data:=.fields #[.none,.none,.int (-1) t] } }:=I3.kept (t':=s3.toks) fun b ob q=>sah _ q;obtain⟨its,r,ht,hz⟩:=I4.list hx;have hg:wpAny (model X.prog X.w) X.A (getItem (.ref a) (.ref s3.heap.objs.size)) (EP X pins σ Q) X.xe { s3 with heap:=s3.heap.push { cls:=.type "slice",data:=.fields #[.none,.none,.int (-1) t] } }:=by
  refine wpAny_getItem_list_slice ht.isList (Heap.IsSliceOf.new ..) .none .none (.int (-1) t) (by simp) ?_ (by rw[san,← r.length];exact hz);rw[zyG];refine⟨.ref _,_,I4.laid (t':=s3.toks) (o:=.lst xs.reverse) (fun b ob q=>sah _ q) (saA _) ?_,rfl,q _ (I4.hok.fresh (saA _))⟩;exact⟨by rw[scD];exact hz,_,0,zbM.rev r,saV _ rfl⟩
 exact tail_any (ops:=[.ref a,.ref s3.heap.objs.size]) ht.isList.typeIs slot_list_getitem.lookup hg (by with_unfolding_all rfl)
theorem zEp {p3 p4:Pos}{k:Nat}(ha:DE X E a f):DE X E (.Subscript a (.Slice none none (some (.UnaryOp .USub (.Constant (.int 1) k p3) p4)) p2) pos) (zaY f zFO):=by
 refine⟨zaX (zDd ha.o fun pins s σ H Q I q=>zDa (pos:=p4) zzA (zzM (i:=1) (j:=k) (pos:=p3)) pins s σ H Q I ⟨1,rfl,q⟩) fun σ H Q ⟨Ha,ρ,hs,hr,q⟩=>⟨Ha,ρ,hs,hr,?_⟩⟩;unfold zaY at q;cases e1:f ρ with
 | stuck=>rw[e1] at q;exact q
 | exn x=>rw[e1] at q;exact q
 | ok d =>
  rw[e1] at q;intro v H1 H01 g1 r1;cases d with
  | lst ds =>
   obtain⟨p,vs,rfl,h1,h2⟩:=zao.mp r1;exact⟨p,vs,rfl,zaM.sqL g1.sub h1,fun n hn=>q _ _ _ (g1.trans (zaB g1.sub hn)) (zao.mpr ⟨n,_,rfl,SqL.of zau,(Reps.rev h2).mono (zaB g1.sub hn).z⟩)⟩
  | _=>exact q.elim
end
section
variable {X:Cx}{E:XK}{a:Expr}{f:Ev->Res D}{pos p2:Pos}
end
def zEO (x y:D):Res D:=match x,y with
 | .dic [] [],.dic [] []=>.ok (.bl false)
 | x,y=>dNe x y
def zEL (K:saj):R2:=fun v u H Q=>zFg K v u H Q∨∃ a b,v=.ref a/\u=.ref b/\Rd H a (.dK [])/\Rd H b (.dK [])/\Q (.bl false) H
theorem zDp {X:Cx}(hu:X.A.units+64 < cLine):OpR X (compareOp .NotEq) (zEL X.K):=OpR.or (zdw hu) (by
 intro pins s σ H x y v u Q I rx ry h;obtain⟨a,b,rfl,rfl,ha,hb,q⟩:=h;cases rx;cases ry;obtain⟨_,n1,vs,k1,d1⟩:=(show zcg X.prog X.w H s.heap a (.dK []) from ha.ok I.hok)
 obtain⟨_,n2,us,k2,d2⟩:=(show zcg X.prog X.w H s.heap b (.dK []) from hb.ok I.hok)
 obtain rfl:vs=[]:=by cases k1;rfl
 obtain rfl:us=[]:=by cases k2;rfl
 exact W.keq_ne n1 n2 d1 d2 (by omega) (fun _=>.nil) ⟨.bl false,H,I,rfl,q⟩)
theorem zDz {X:Cx}{E:XK}:OpD X.K E (zEL X.K) zEO:=by
 intro x y v u H Ha Q hs r1 r2 q;have old:post X.K E H Ha (dNe x y) Q->zEL X.K v u H Q:=fun q=>.inl (zgs x y v u H Ha Q hs r1 r2 q);unfold zEO at q;split at q
 .have e1:∃ a,v=.ref a/\Rd Ha a (.dK []):=by
   rw[Rep] at r1;obtain⟨a,kvs,vs,h1,h2,h3,h4,h5⟩:=r1;have:kvs=[]:=by rw[h3];rfl
   subst this;exact⟨a,h1,h2⟩
  have e2:∃ a,u=.ref a/\Rd Ha a (.dK []):=by
   rw[Rep] at r2;obtain⟨a,kvs,vs,h1,h2,h3,h4,h5⟩:=r2;have:kvs=[]:=by rw[h3];rfl
   subst this;exact⟨a,h1,h2⟩
  obtain⟨a,ea,ha⟩:=e1;obtain⟨b,eb,hb⟩:=e2;exact .inr ⟨a,b,ea,eb,zaM.rd hs ha,zaM.rd hs hb,zbn hs q (zaq.mpr rfl)⟩
 .exact old q
section
variable {X:Cx}{E:XK}{a b o:Expr}{f g fo:Ev->Res D}{pos:Pos}
def zBU:D->D->Res D:=iop (fun _ _=>true) fun i j=>.int (sdc i j)
theorem zBQ (ha:DE X E a f)(hb:DE X E b g):DE X E (.BinOp a .BitAnd b pos) (zac f g zBU):=zp9 zDt (zco fun _ _ _ _=>ri _) ha hb
end
def zji (x:Str)(ks:List Str)(fa:Ev->Res (List D)):Ev->Res Fl:=fun ρ=>(fa (shr ρ)).bind fun ds=>if ds.length=ks.length then .exn ⟨x,ks.zip ds⟩ else .stuck
theorem zsb {K:saj}{H:Hp}:∀ {ks:List Str}{ds:List D}{vs:List V}{n:Str}{d:D},Reps K H ds vs->(ks.zip ds).lookup n=some d->∃ v,(ks.zip vs).lookup n=some v/\Rep K H d v
 | [],ds,vs,n,d,r,h=>by rw[List.zip_nil_left] at h;cases h
 | k::ks,[],vs,n,d,r,h=>by rw[List.zip_nil_right] at h;cases h
 | k::ks,e::ds,vs,n,d,r,h=>by
  obtain⟨v,vs',rfl,r1,r2⟩:=zap.mp r;rw[sbk,sbn] at h;rw[sbk];cases q:n==k with
  | true=>rw[q] at h;cases h;exact⟨v,by rw[sbn,q],r1⟩
  | false =>
   rw[q] at h;obtain⟨u,h1,h2⟩:=zsb r2 h;exact⟨u,by rw[sbn,q];exact h1,h2⟩
theorem HOk.xd {P:Program}{w:World}{H:Hp}{g:Heap}(ok:HOk P w H g){a:Addr}{fs:List (Str×V)}(hn:H a=none)(p:XDs a fs g):HOk P w (upd H a (.xd fs)) g:=fun b u e=>by
 by_cases hb:b=a
 .subst hb;rw[zau] at e;cases e;obtain⟨m,n,r,_⟩:=p;exact⟨m,n,r⟩
 .rw[zav hb] at e
  exact(ok b u e).stay (fun c v _ q=>q) (fun c q=>by rw[zav (zaJ q hn)];exact q) fun c xs q=>by rw[zav (zaJ q hn)];exact q
section
variable {P:Program}{w:World}{K:saj}{mg:Str->Option Value}{base:Heap}{N:List Str}{qual:Str}{scope:Scope}{f:Addr}{cd:Value}{A:Around}{outer:List sbo}{s0:Shared}{H0:Hp}{E:XK}{He H0e:Hp}
theorem zly {x:Str}{C fn:Addr}{np cpos pos:Pos}{e:Expr}{es:List Expr}{fa:Ev->Res (List D)}{k:Nat}{fd:FuncData}{ps ks:List Str}(xc:XC K x C)(z:XIn K C fn)(st:XSt K C ks)(hfn:W.isFn K (.ref fn)=true)(F:zcB P w K mg base CX0 k fn fd ps (zCN K ks))(hb:zkz K fd ps [])(hks:ks.length<=60)(hnd:ks.Nodup)(hr:zhR (k+1) (zma (CXE P w) P w K mg base N qual scope f cd A outer s0 H0 E).A)(hm:mg x=some (.ref C))(hh:A.handled=none)
  (hg:Gl (zma (CXE P w) P w K mg base N qual scope f cd A outer s0 H0 E) x)(ha:DA (zma (CXE P w) P w K mg base N qual scope f cd A outer s0 H0 E) E (e::es) fa)
  (hdb:(x==("__debug__" : Str))=false:=by decide)(he:starEach (e::es) (zma (CXE P w) P w K mg base N qual scope f cd A outer s0 H0 E).env=(false,eval e (zma (CXE P w) P w K mg base N qual scope f cd A outer s0 H0 E).env)::starEach es (zma (CXE P w) P w K mg base N qual scope f cd A outer s0 H0 E).env:=by exact zaN rfl)
  (hpl:(backTo cpos (starEach es (zma (CXE P w) P w K mg base N qual scope f cd A outer s0 H0 E).env)).any (·.1)=false:=by exact zbR rfl) :
  DS (zma (CXE P w) P w K mg base N qual scope f cd A outer s0 H0 E) E He H0e (.Raise (some (.Call (.Name x np) (e::es) [] cpos)) none pos) (zji x ks fa):=by
 refine⟨?_⟩;intro pins s σ H D I ⟨Ha,ρ,hr',q⟩;obtain⟨bm,Nn,nm,qn,bs,hdct,sn,sub,ab,col,dd,k0,k1,k2,k3,k5,mN,hC,hN,hi,T⟩:=(zuw I.ok.mod.kin z).ex;obtain⟨oI,hoI,hoc⟩:∃ oI,base.get? fn=some oI/\oI.cls=.type "function":=by
  have:=beq_iff_eq.mp hfn;obtain⟨o,ho,hc⟩:=Option.map_eq_some_iff.mp this;exact⟨o,I.ok.mod.kin _ _ ho,hc⟩
 refine zx6 (C:=C) (nm:=nm) (q:=qn) (N:=Nn) (bs:=bs) (bm:=bm) (hdct:=hdct) (sn:=sn) (sub:=sub) (ab:=ab) (col:=col) (dd:=dd) (k0:=k0) (k1:=k1) (k2:=k2) (k3:=k3) (k5:=k5)
  scH (mN:=mN) (oI:=oI) (T.hasType scH.hasBase) hh (by rw[he];show(false||(backTo cpos (starEach es (zma (CXE P w) P w K mg base N qual scope f cd A outer s0 H0 E).env)).any (·.1))=false;rw[hpl];rfl) hi (zjl I hg hm ⟨rfl,?_⟩ hdb)
 have hq:ztF K E H (frz He Ha H) (fa (shr ρ)) (fun vs H1=>vs.length=ks.length/\∀ dx,H1 dx=none->E (.ref C) (some dx) (upd H1 dx (.xd (ks.zip vs)))):=by
  unfold zji at q;cases e1:fa (shr ρ) with
  | stuck=>rw[e1] at q;exact q
  | exn z=>rw[e1] at q;exact fun C ox H' Ha' g ex=>q C ox H' Ha' (hr'.frz_grow.trans g) ex
  | ok ds =>
   rw[e1] at q;intro vs H1 H01 g rp;have q:zcm K E He H0e Ha (if ds.length=ks.length then Res.exn ⟨x,ks.zip ds⟩ else .stuck) D:=q
   by_cases hl:ds.length=ks.length
   .rw[if_pos hl] at q
    refine⟨by rw[← rp.length];exact hl,fun dx hdx=>?_⟩;have ga:=zaB (o:=.xd (ks.zip vs)) g.sub hdx;refine q (.ref C) (some dx) _ _ (hr'.frz_grow.trans (g.trans ga)) ⟨⟨C,rfl,xc⟩,ks.zip vs,zau,fun n d hn=>?_⟩;obtain⟨v,k1,k2⟩:=zsb rp hn;exact⟨v,k1,k2.mono ga.z⟩
   .rw[if_neg hl] at q;exact q.elim
 have h1:=ha.o cpos pins s σ H _ I ⟨frz He Ha H,shr ρ,hr'.frz_le,hr'.looks,hq⟩;rw[he] at h1 ⊢;refine sdb (sbe h1 (fun us s2 h2=>?_) fun _ _ y=>y);obtain⟨vs,H1,I1,rv,hl,hE⟩:=h2;have hz:us.length<=sizeLine:=by rw[← rv.length,hl,sizeLine_eq];omega
 refine⟨rfl,hz,I1.bk _ _ hC,hN.keeps I1.bk,T.keeps I1.bk,I1.bk _ _ hoI,hoc,fun h' ee hx=>?_⟩;have hn:H1 ee=none:=by
  cases q:H1 ee with
  | none=>rfl
  | some o=>obtain⟨u,hu⟩:=zcg.there (I1.hok ee o q);rw[hx.new] at hu;cases hu
 obtain⟨t,ht,_,_⟩:=hx.there;have hxn:ExN ee C none h':=⟨t,ht⟩
 have un1:Un (frs (zma (CXE P w) P w K mg base N qual scope f cd A outer s0 H0 E).stack) [] H1 (upd H1 ee (.ext (ExN ee C none))) s2.heap h':=Un.ext (Un.kept hx.keeps) hn hx.new;have I2:Inv (zma (CXE P w) P w K mg base N qual scope f cd A outer s0 H0 E) pins σ (upd H1 ee (.ext (ExN ee C none))) { s2 with heap:=h' } :=
  I1.call' (ch:=[]) rfl un1 (HOk.ext (I1.hok.kept hx.keeps) hn hxn ⟨_,ht⟩ zou) I1.bare (fun _ z=>nomatch z)
 have rv2:zbM (V.ref ee::vs) (saR ee::us):=.cons rfl rv;have hsp:zCN K ks (V.ref ee::vs) (upd H1 ee (.ext (ExN ee C none))) (fun v H2=>v=.non/\∃ dx,H1 dx=none/\dx≠ee/\H2=upd (upd (upd H1 ee (.ext (ExN ee C none))) ee (.ext (ExN ee C (some dx)))) dx (.ext (XDs dx (putAll ks vs [])))) E :=
  ⟨ee,C,fn,vs,rfl,hl,zau,st,z,fun dx hdx=>by
   have c:dx≠ee:=fun c=>by rw[c,zau] at hdx;cases hdx
   rw[zav c] at hdx;exact⟨rfl,dx,hdx,c,rfl⟩⟩
 have hl2:(saR ee::us).length=ps.length:=by rw[← rv2.length];exact F.len _ _ _ _ hsp
 have hbb:=hb { s2 with heap:=h' } (saR ee::us) I2.kIn (by simpa using hl2);rw[sbR] at hbb;refine wpAny_call (codeAny_mono (F.run _ _ { s2 with heap:=h' } _ ⟨saR ee::us,[]⟩ (saR ee::us) _ _ E (hr.make C us []) (I2.env0.make C us []) hbb rv2 hsp) fun r s3 hq3=>?_);cases r with
 | error e=>exact sbg hq3
 | ok fl =>
  cases fl with
  | next=>exact sbg hq3
  | brk=>exact sbg hq3
  | cont=>exact sbg hq3
  | ret u =>
   obtain⟨v,H2,os3,bare3,un3,hok3,rel3,rfl,dx,hdx,hdne,rfl⟩:=hq3;obtain rfl:u=sbr:=rel3;rw[zps] at hok3 un3;have un4:=zxS (un1.trans un3);have hok4:HOk P w H1 s3.heap:=zy2 hok3 hn hdx (fun _ z=>by cases z) (fun _ z=>by cases z) (fun _ z=>by cases z) (fun _ z=>by cases z);obtain⟨⟨t3,ht3⟩,_,_⟩:=(show zcg P w _ s3.heap ee (.ext (ExN ee C (some dx))) from hok3 ee _ (by rw[zav hdne.symm,zau]))
   have I3:=I1.call' (ch:=[]) os3 un4 hok4 bare3 (fun _ z=>nomatch z);refine⟨rfl,I3.bk _ _ hC,⟨_,t3,ht3⟩,?_⟩;have hin:=zBc (l:=envOfC qual scope s0.heap.objs.size f cd::outer);have hfr:s3.heap.FunFrames (W.hideAll s3.heap (ee::frs (envOfC qual scope s0.heap.objs.size f cd::outer))) (envOfC qual scope s0.heap.objs.size f cd::outer):=W.funFrames_hide I3.stack fun env he a hf=>sak _ (hin env he a hf);have hst:(W.hideAll s3.heap (ee::frs (envOfC qual scope s0.heap.objs.size f cd::outer))).StaysIn s3.heap:=fun b o q=>W.of_hideAll _ q;have hen:(W.hideAll s3.heap (ee::frs (envOfC qual scope s0.heap.objs.size f cd::outer))).get? ee=none:=W.hideAll_none _ (.head _);obtain⟨pX,_,_⟩:=(show zcg P w _ s3.heap dx (.ext (XDs dx (putAll ks vs []))) from hok3 dx _ zau)
   rw[zmR hnd (fun _ _ z=>by simp at z) hl.symm,sch] at pX;have hok5:=HOk.xd hok4 hdx pX;have dfresh:s2.heap.get? dx=none:=by
    cases qd:s2.heap.get? dx with
    | none=>rfl
    | some o =>
     have:=un3.free dx o (hx.keeps dx o qd) (by rw[zav hdne];exact hdx) (by simp);rw[zau] at this;cases this
   have un5:=Un.ext (o:=.xd (ks.zip vs)) un4 hdx dfresh;refine zt8 (a0:=.ref t3) I3.ok.frames hfr rfl ht3 hst hen rfl rfl rfl fun h4 fl4 up4 dc4=>?_;refine zD1 rfl I1 (s1:=s3) (H1:=upd H1 dx (.xd (ks.zip vs))) os3 bare3 un5 hok5 (by rw[zav hdne.symm];exact hn) hst hfr (fun b hb hy=>?_) fl4 up4 ⟨some dx,⟨some dx,dc4,.inr rfl⟩,hE dx hdx⟩;have hbe:b≠ee:=fun c=>by
    subst c;rcases hy with hy | ⟨o,hy⟩
    .exact hy (by rw[zav hdne.symm];exact hn)
    .rw[hx.new] at hy;cases hy
   have hth:∃ o,s3.heap.get? b=some o:=by
    rcases hy with hy | ⟨o,hy⟩
    .cases q:(upd H1 dx (.xd (ks.zip vs))) b with
     | none=>exact absurd q hy
     | some o=>exact zcg.there (hok5 b o q)
    .exact un4.there b o hy (by simp)
   obtain⟨o,q⟩:=hth;exact⟨o,W.hideAll_get _ q (List.not_mem_cons_of_ne_of_not_mem hbe hb)⟩
end
end DL
namespace DL
open PySem PySem.Spec PySem.Calls PySem.W PyProof.Rows Builtin Builtin.ObjectAttr Builtin.Getset_descriptor
section
variable {prog:Program}{w:World}{A:Around}{E:Value->Shared->Prop}{h:Heap}{g:Array GenState}{d:Drawn}{t:Nat}{os:OsState}{a C:Addr}{o:Obj}{od:Option Obj}{K:Frag}{name:Str}{v:Value}
theorem zx7 {tk:Tok}{Q:Fin->Shared->Prop}(X:K.In h)(J:InstAt h a o C od)(hf:findObj K C od name=some (.value v))(hq:Q (.done (.ret v)) ⟨h,g,d,t,os⟩) :
  wpAny (model prog w) A (Builtin.«object.__getattribute__» ⟨[.ref a,.str name tk],[]⟩) Q E ⟨h,g,d,t,os⟩:=by
 have L0:=J.type (M:=model prog w);have L1:=looks_find (M:=model prog w) X J hf;unfold Builtin.«object.__getattribute__»
 repeat (any_goals (first | assumption | (with_reducible refine L0.at ?_) | (with_reducible refine L1.at ?_) | wp_step))
theorem zAf {tk:Tok}{R:Result->Shared->Prop}(X:K.In h)(Z:zte K C)(J:InstAt h a o C od)(hx:h.get? a=some o)(hc:o.cls=.ref C)(hf:findObj K C od name=some (.value v))(hq:R (.ok (.ret v)) ⟨h,g,d,t,os⟩) :
  codeAny (model prog w) A (.call (.builtin "BaseException.__getattribute__") ⟨[.ref a,.str name tk],[]⟩) R ⟨h,g,d,t,os⟩ :=
 codeAny_call_builtin scS.ga.plain F.entry_bexc_ga (zsd X Z hx hc (zx7 X J hf hq))
theorem zET {tk:Tok}{b ex:Bool}{Q:Value->Shared->Prop}(X:K.In h)(Z:zte K C)(J:InstAt h a o C od)(hx:h.get? a=some o)(hc:o.cls=.ref C)(hf:findObj K C od name=some (.value v))(hh:handedIn v=true)(hq:Q v ⟨h,g,d,t,os⟩) :
  wpAny (model prog w) A (getAttrBy (.ref a) (.str name tk) b ex) Q E ⟨h,g,d,t,os⟩:=by
 have f3:=scS.ga.bind (.ref a);have hx2:(sbT "BaseException.__getattribute__"==sbT "object.__getattribute__")=false:=by decide +kernel
 have hx1:(onTheHeap (saR C)&&sbT "BaseException.__getattribute__"==sbT "object.__getattribute__")=false:=by rw[hx2];rfl
 have L1:Looks (model prog w) h (typeLookup (.ref C) "__getattribute__") (some (.builtin "BaseException.__getattribute__")):=looks_findIn X Z.ga;have L2:Looks (model prog w) h (typeLookup (.ref C) "__getattr__") none:=looks_findIn X Z.gt;have hho:=handedOut_of hh
 repeat (any_goals (first | assumption | (with_reducible refine sbq hx ?_;rw[hc]) | (with_reducible refine L1.at ?_) | (with_reducible refine L2.at ?_) | wp_step))
 rw[if_neg (by cases ex<;>decide)]
 repeat (any_goals (first | assumption | wp_step))
 refine zAf X Z J hx hc hf ?_
 repeat (any_goals (first | assumption | wp_step))
theorem zCl {ex:Bool}{Q:Value->Shared->Prop}(X:K.In h)(Z:zte K C)(J:InstAt h a o C od)(hx:h.get? a=some o)(hc:o.cls=.ref C)(hf:findObj K C od name=some (.value v))(hh:handedIn v=true)(hq:Q v ⟨h,g,d,t+1,os⟩) :
  wpAny (model prog w) A (getAttr (.ref a) name ex) Q E ⟨h,g,d,t,os⟩:=by
 unfold getAttr
 repeat (any_goals (first | assumption | with_reducible apply zET X Z J hx hc hf hh | wp_step))
end
end DL
namespace DL
open PySem PySem.Spec PyProof.Rows L2
def zB8 (K:saj)(tab:Str->Option Bool)(f:Str):Prop:=∀ c C b,tab c=some b->XC K c C->scc K C=true/\zhS K C f
def zlI (tab:Str->Option Bool)(f:Str)(x:D):Res D:=match x with
 | .ob (.exf c ks) ds=>(match tab c,zqx f ks ds with
  | some _,some d=>.ok d
  | _,_=>.stuck)
 | _=>.stuck
theorem zzv:∀ {ks:List Str}{vs:List V}{f:Str}{u:V},(ks.zip vs).lookup f=some u->∃ i:Nat,ks[i]?=some f/\vs[i]?=some u
 | [],vs,f,u,h=>by rw[List.zip_nil_left] at h;cases h
 | k::ks,[],f,u,h=>by rw[List.zip_nil_right] at h;cases h
 | k::ks,v::vs,f,u,h=>by
  rw[sbk,sbn] at h;cases q:f==k with
  | true=>rw[q] at h;cases h;exact⟨0,by rw[beq_iff_eq.mp q];rfl,rfl⟩
  | false =>
   rw[q] at h;obtain⟨i,h1,h2⟩:=zzv h;exact⟨i+1,h1,h2⟩
section
variable {X:Cx}{E:XK}{e:Expr}{fe:Ev->Res D}{pos:Pos}{f:Str}{ta:TE}{tab:Str->Option Bool}
noncomputable def zE3 (K:saj) (ta:TE) (f:Str):TE:=fun σ H Q=>ta σ H fun x H1=>∃ a C dx fs v,x=.ref a/\Rd H1 a (.ext (ExD a C (some dx)))/\H1 dx=some (.xd fs)/\zte K C/\scc K C=true/\zhS K C f/\fs.lookup f=some v/\Q v H1
theorem zAP (he:PE X e ta)(hb:attributeBase e f X.env (eval e X.env)=eval e X.env):PE X (.Attribute e f pos) (zE3 X.K ta f):=by
 intro pins s σ H Q I h;refine zB1 hb (thn (he pins s σ H _ I h) fun u s1 ⟨x,H1,I1,rx,a,C,dx,fs,v,ex,ea,ed,Z,hd,n,l,q⟩=>?_);subst ex;obtain rfl:u=saR a:=rx;obtain⟨⟨o,vs,ho,hcl,hda,hdi⟩,_,_⟩:=ea.ok I1.hok;obtain⟨mA,hn,r⟩:=(show zcg X.prog X.w H1 s1.heap dx (.xd fs) from I1.hok dx _ ed)
 obtain⟨u',hu,ru⟩:=zqv (v:=v) (o:=mA f) (by rw[← l];exact r f);obtain⟨od,hod,hl⟩:=zpR hn;have J:W.InstAt s1.heap a o C (some od):=⟨ho,hcl,by unfold W.notCls;rw[hda],by rw[hdi];exact hod⟩
 have I2:=I1.tok (s1.toks+1);have K1:=I1.kIn;obtain⟨hh,g,d,t,os⟩:=s1;exact zCl K1 Z J ho hcl (W.findObj_own hd n rfl (by show W.lookIn f od=_;rw[hl,hu])) (zv7 ru) ⟨v,H1,I2,ru,q⟩
theorem zoS (ht:zB8 X.K tab f)(he:DE X E e fe)(hb:attributeBase e f X.env (eval e X.env)=eval e X.env:=by rfl):DE X E (.Attribute e f pos) (zaY fe (zlI tab f)):=by
 refine⟨zaX (zAP he.o hb) fun σ H Q ⟨Ha,ρ,hs,hr,q⟩=>⟨Ha,ρ,hs,hr,?_⟩⟩;unfold zaY at q;cases e1:fe ρ with
 | stuck=>rw[e1] at q;exact q
 | exn x=>rw[e1] at q;exact q
 | ok d =>
  rw[e1] at q;intro v H1 H01 g1 r1;replace q:post X.K E H Ha (zlI tab f d) Q:=q;unfold zlI at q;cases d with
  | ob k ds =>
   cases k with
   | exf c ks =>
    replace q:post X.K E H Ha (match tab c,zqx f ks ds with | some _,some d=>Res.ok d | _,_=>.stuck) Q:=q;cases e2:tab c with
    | none=>rw[e2] at q;exact q.elim
    | some b =>
     cases e3:zqx f ks ds with
     | none=>rw[e2,e3] at q;exact q.elim
     | some d =>
      rw[e2,e3] at q;obtain⟨p,vs,rfl,⟨C,dx,fs,h1,h2,h3,h4,h5⟩,h6⟩:=zcX.mp r1;obtain⟨u,k1,k2,k3⟩:=zwd h4 h6 e3;obtain⟨i,i1,i2⟩:=zzv k1;obtain⟨m1,m2⟩:=ht c C b e2 h1;exact⟨p,C,dx,fs,u,rfl,zaM.rd g1.sub h2,g1.sub _ _ h3,h1.ek,m1,m2,h5 i f u i1 i2,q u H1 H01 g1 k2⟩
   | _=>exact q.elim
  | _=>exact q.elim
end
theorem ln1 {α:Type}{us:List α}(h:us.length=1):∃ a,us=[a]:=List.length_eq_one_iff.mp h
theorem ln2 {α:Type}{us:List α}(h:us.length=2):∃ a b,us=[a,b]:=by
 cases us with
 | nil=>cases h
 | cons a us=>obtain⟨b,rfl⟩:=ln1 (sdz h);exact⟨a,b,rfl⟩
theorem ln3 {α:Type}{us:List α}(h:us.length=3):∃ a b c,us=[a,b,c]:=by
 cases us with
 | nil=>cases h
 | cons a us=>obtain⟨b,c,rfl⟩:=ln2 (sdz h);exact⟨a,b,c,rfl⟩
theorem ln4 {α:Type}{us:List α}(h:us.length=4):∃ a b c d,us=[a,b,c,d]:=by
 cases us with
 | nil=>cases h
 | cons a us=>obtain⟨b,c,d,rfl⟩:=ln3 (sdz h);exact⟨a,b,c,d,rfl⟩
theorem ln5 {α:Type}{us:List α}(h:us.length=5):∃ a b c d e,us=[a,b,c,d,e]:=by
 cases us with
 | nil=>cases h
 | cons a us=>obtain⟨b,c,d,e,rfl⟩:=ln4 (sdz h);exact⟨a,b,c,d,e,rfl⟩
section
variable {X:Cx}{E:XK}{e o:Expr}{fe fo:Ev->Res D}{pos:Pos}
def zs3 (x:D):Res D:=match x with
 | .int i=>if i.natAbs.log2 < 1920 then .ok (.str (toString i)) else .stuck
 | _=>.stuck
theorem zEu:zl8 X E (fun xs H Q=>∃ i,xs=[.int i]/\i.natAbs.log2 < 1920/\Q (.str (toString i)) H) (m1 zs3):=zug fun x v H Ha Q hs r q=>by
 unfold zs3 at q;cases x with
 | int i =>
  by_cases c:i.natAbs.log2 < 1920
  .simp only[if_pos c] at q
   exact⟨i,by rw[zan.mp r],c,zbn hs q (Rep.str_iff.mpr rfl)⟩
  .simp only[if_neg c] at q;exact q.elim
 | _=>exact q.elim
end
end DL
namespace DL
open PySem PySem.Spec PyProof.Rows L2 PySem.Builtin PySem.Builtin.Str
section
variable {prog:Program}{w:World}{A:Around}{E:Value->Shared->Prop}{s:Shared}{x y:Str}{t u:Tok}{Q:Value->Shared->Prop}
end
section
variable {X:Cx}{E:XK}{e o:Expr}{fe fo:Ev->Res D}{pos:Pos}
end
end DL
namespace DL
open PySem PySem.Spec PyProof.Rows L2
section
variable {X:Cx}{E:XK}{a b:Expr}{f g:Ev->Res D}{pos:Pos}
end
end DL
namespace DL
open PySem PySem.Spec PyProof.Rows
theorem zrU:entryFor table "enumerate.__getattribute__"=some Builtin.«object.__getattribute__» :=
 entryFor_alias (id':="object.__getattribute__") (by kernel_rfl) (by decide +kernel) (by decide +kernel) (by kernel_rfl)
theorem zlv:typeLookup (.type "enumerate") "__getattr__"=pure none:=by rw[typeLookup_type,builtinLookup_eq_fast];kernel_rfl
theorem zp5:typeLookup (.type "enumerate") "keys"=pure none:=by rw[typeLookup_type,builtinLookup_eq_fast];kernel_rfl
theorem ziJ:entryFor table "dict.update.loop"=some Builtin.«dict.update.loop»:=entryFor_of_tree (by kernel_rfl)
theorem zoP (a:Addr)(vs:Array Value)(sl:Array (Option Value))(u:Tok) :
  Meets (Builtin.«object.__getattribute__» ⟨[.ref a,.str "keys" u],[]⟩) (fun A R s=>s.heap.get? a=some { cls:=.type "enumerate",dict:=none,data:=.fields vs,slots:=sl }/\raisesAttr (.ref a) "keys" A R s) :=
 Meets.of_wp fun prog w A R s hs=>by
  obtain⟨hp,g,d,tk,os⟩:=s;obtain⟨hx,hs⟩:=hs;have hT:(⟨hp,g,d,tk,os⟩:Shared).TypeIs (.ref a) "enumerate":=⟨_,hx,rfl⟩
  have f1:=zp5;unfold Builtin.«object.__getattribute__»
  repeat (any_goals (first | assumption | wp_step))
  exact wpAny_raiseAttrError hs.1 hs.2 (attrMsg_fits (by decide +kernel) (by size_fits))
section
variable {prog:Program}{w:World}{A:Around}{E:Value->Shared->Prop}{s:Shared}
theorem zBF {a:Addr}{vs:Array Value}{sl:Array (Option Value)}{Q:Option Value->Shared->Prop}
  (hx:s.heap.get? a=some { cls:=.type "enumerate",dict:=none,data:=.fields vs,slots:=sl })(hA:A.handled=none)
  (h:∀ h' tk,(∀ b ob,s.heap.get? b=some ob->h'.get? b=some ob)->Q none { s with heap:=h',toks:=tk }) :
  wpAny (model prog w) A (getAttr? (.ref a) "keys") Q E s:=by
 obtain⟨hp,g,d,tk,os⟩:=s;have hT:∀ tk',(⟨hp,g,d,tk',os⟩:Shared).TypeIs (.ref a) "enumerate":=fun _=>⟨_,hx,rfl⟩
 have f1:=sub_AttributeError;have f3:=scv.lookup;have f4:=scv.bind (.ref a);have f5:=zlv;unfold getAttr? getAttrBy? getAttrBy
 repeat (any_goals (first | assumption | exact hT _ | ((with_reducible show wpAny _ _ (call (sbT "enumerate.__getattribute__") _ _) _ _ _);refine call_meets scv (hT _) zrU (F.args_enumerate_getattribute_2 _ _) (zoP a vs sl _) ⟨hx,hA,fun h' tk' e hx'=>?_⟩) | wp_step))
 obtain⟨t',u',he⟩:=hx'.there;show wpAny _ _ (getattributeRaised _ _ _ _ _ _ _) _ _ _;unfold getattributeRaised
 repeat (any_goals (first | assumption | wp_step))
 exact h _ _ hx'.keeps
end
abbrev zdK (h:Heap)(e it:Addr)(i:Int)(a:Addr)(f:Bool)(old:Value):Prop :=
 h.get? e=some { cls:=.type "enumerate",dict:=none,data:=.fields #[rawInt a,.bool f,.ref it,rawInt i,.none,old],slots:=#[] }
section
variable {prog:Program}{w:World}{A:Around}{E:Value->Shared->Prop}{s:Shared}
theorem zzh {e it l a:Addr}{f:Bool}{oa:Obj}{i:Nat}{items:Array Value}{x old:Value}{Q:Option Value->Shared->Prop}
  (he:zdK s.heap e it i a f old)(ha:s.heap.get? a=some oa)(hae:a≠e)(hai:a≠it)(hit:s.heap.IsListIter it l i)(hl:s.heap.IsList l items)(hx:items[i]?=some x)(hne:e≠it)
  (hQ:∀ h',zdK h' e it ((i:Int)+1) a true old->h'.IsListIter it l (i+1) ->
   h'.get? s.heap.objs.size=some { cls:=.type "tuple",data:=.seq #[.int i s.toks,x] }->h'.objs.size=s.heap.objs.size+1 ->
   (∀ b o,b≠e->b≠it->s.heap.get? b=some o->h'.get? b=some o)->Q (some (.ref s.heap.objs.size)) { s with heap:=h',toks:=s.toks+1 }) :
  wpAny (model prog w) A (pyNext (.ref e)) Q E s:=by
 have hT:s.TypeIs (.ref e) "enumerate":=⟨_,he,rfl⟩
 unfold pyNext;refine sae (wpAny_attempt (wpAny_callSpecial?_slot (name:=Str.ofString "__next__") hT scr
  (wpAny_call_entry scr hT F.entry_enumerate_next ?_ (F.args_enumerate_next_1 _))))
 obtain⟨hp,g,d,tk,os⟩:=s;show wpAny _ _ (field (.ref e) 2 >>= _) _ _ _;refine sae (wpAny_field he rfl (x:=.ref it) rfl ?_);refine sae (wpAny_nextOf_list_item hit hl hx fun h₁ hit₁ hs₁=>?_);replace hs₁:sbN it hp h₁:=hs₁;have he₁:zdK h₁ e it i a f old:=(hs₁.2 e hne).trans he;show wpAny _ _ (field (.ref e) 3 >>= _) _ _ ⟨h₁,g,d,tk,os⟩;refine sae (wpAny_field he₁ rfl (x:=rawInt i) rfl ?_);show wpAny _ _ (field (.ref e) 4 >>= _) _ _ ⟨h₁,g,d,tk,os⟩;refine sae (wpAny_field he₁ rfl (x:=.none) rfl ?_);show wpAny _ _ (mkInt i >>= _) _ _ ⟨h₁,g,d,tk,os⟩;refine sae (wpAny_mkInt ?_);show wpAny _ _ (setField (.ref e) 3 (rawInt ((i:Int)+1)) >>= _) _ _ ⟨h₁,g,d,tk+1,os⟩;refine sae (wpAny_setField_rec he₁ (by simp) fun h₂ he₂ hs₂=>?_);replace hs₂:sbN e h₁ h₂:=hs₂;replace he₂:zdK h₂ e it ((i:Int)+1) a f old:=he₂;show wpAny _ _ (setField (.ref e) 4 .none >>= _) _ _ ⟨h₂,g,d,tk+1,os⟩;refine sae (wpAny_setField_rec he₂ (by simp) fun h₃ he₃ hs₃=>?_);replace hs₃:sbN e h₂ h₃:=hs₃;replace he₃:zdK h₃ e it ((i:Int)+1) a f old:=he₃;show wpAny _ _ (newTuple [.int i tk,x] >>= _) _ _ ⟨h₃,g,d,tk+1,os⟩;refine sae (wpAny_newTuple ?_);have he₄:zdK (h₃.push { cls:=.type "tuple",data:=.seq #[.int i tk,x] }) e it ((i:Int)+1) a f old:=sah _ he₃;generalize hh₄:h₃.push { cls:=.type "tuple",data:=.seq #[.int i tk,x] }=h₄ at he₄;have hsz:h₃.objs.size=hp.objs.size:=by rw[hs₃.1,hs₂.1,hs₁.1]
 have hel:e < hp.objs.size:=sam he;have ht₄:h₄.get? hp.objs.size=some { cls:=.type "tuple",data:=.seq #[.int i tk,x] }:=by rw[← hh₄,← hsz];exact saV _ rfl
 have hz₄:h₄.objs.size=hp.objs.size+1:=by rw[← hh₄,Heap.size_push,hsz]
 have hk₄:∀ b o,b≠e->b≠it->hp.get? b=some o->h₄.get? b=some o:=fun b o hbe hbi hb=>by
  rw[← hh₄];exact sah _ (hs₃.extBut b o hbe (hs₂.extBut b o hbe (hs₁.extBut b o hbi hb)))
 have hit₄:h₄.IsListIter it l (i+1):=by
  rw[← hh₄];obtain⟨o,ho,r⟩:=(hit₁.extBut hs₂.extBut (saW hne)).extBut hs₃.extBut (saW hne);exact⟨o,sah _ ho,r⟩
 have ha₄:h₄.get? a=some oa:=hk₄ a oa hae hai ha;show wpAny _ _ (sdf (.ref e) >>= _) _ _ ⟨h₄,g,d,tk+1,os⟩;rw[hsz];clear hh₄ he₃ hs₃ he₂ hs₂ he₁ hs₁ hit₁ hsz h₃ h₂ h₁;refine sae ?_;unfold sdf;refine sae (wpAny_field he₄ rfl (x:=rawInt a) rfl ?_);show wpAny _ _ (loadIfAlive ((a:Int).toNat) >>= _) _ _ _;rw[sbt];refine sae (W.kdx_alive ha₄ ?_);simp only[Option.isNone_some,sbb,if_false];refine sae (wpAny_field he₄ rfl (x:=.bool f) rfl ?_);have fin:∀ hZ:Heap,zdK hZ e it ((i:Int)+1) a true old->sbN e h₄ hZ->Q (some (.ref hp.objs.size)) ⟨hZ,g,d,tk+1,os⟩:=fun hZ he₅ hs₅ =>
  hQ hZ he₅ (hit₄.extBut hs₅.extBut (saW hne)) (hs₅.extBut _ _ (scd hel) ht₄) (by show hZ.objs.size=hp.objs.size+1;rw[hs₅.1,hz₄]) fun b o hbe hbi hb=>hs₅.extBut b o hbe (hk₄ b o hbe hbi hb)
 cases f with
 | true =>
  rw[if_neg (show ¬ ((sa8 true != sa8 true)=true) from saD)];refine sau ?_;simp only[sbb,if_false];exact sau ⟨_,rfl,sau (fin h₄ he₄ (sbN.refl _ _))⟩
 | false =>
  rw[if_pos (show(sa8 false != sa8 true)=true from rfl)];refine sae (wpAny_setField_rec he₄ (by simp) fun hZ he₅ hs₅=>?_);replace hs₅:sbN e h₄ hZ:=hs₅;replace he₅:zdK hZ e it ((i:Int)+1) a true old:=he₅;refine sau ?_;simp only[sbb,if_false];exact sau ⟨_,rfl,sau (fin hZ he₅ hs₅)⟩
theorem zBH {e it l a:Addr}{f:Bool}{i:Nat}{items:Array Value}{old:Value}{Q:Option Value->Shared->Prop}(hh:A.handled=none)
  (he:zdK s.heap e it i a f old)(hit:s.heap.IsListIter it l i)(hl:s.heap.IsList l items)(hx:items[i]?=none)
  (hQ:∀ h',Heap.ExtBut it s.heap h'->Q none { s with heap:=h' }):wpAny (model prog w) A (pyNext (.ref e)) Q E s:=by
 have hT:s.TypeIs (.ref e) "enumerate":=⟨_,he,rfl⟩
 unfold pyNext;refine sae (wpAny_attempt (wpAny_callSpecial?_slot (name:=Str.ofString "__next__") hT scr
  (wpAny_call_entry scr hT F.entry_enumerate_next ?_ (F.args_enumerate_next_1 _))))
 show wpAny _ _ (field (.ref e) 2 >>= _) _ _ _;refine sae (wpAny_field he rfl (x:=.ref it) rfl ?_);refine sae (wpAny_nextOf_list_end hh hit hl hx fun h' x he' hx'=>?_);obtain⟨o,ho,hc⟩:=hx';refine sae (wpAny_isInstance (T:="StopIteration") (b:=true) ⟨o,ho,hc⟩ isSubtype_stop ?_);exact sau (hQ _ he')
def zER (h:Heap)(e it d:Addr)(i:Nat):Prop :=
 (∃ old,IsEnum h e it i old)∨∃ a f old oa,zdK h e it i a f old/\h.get? a=some oa/\a≠e/\a≠it/\a≠d
theorem zBE {e it l d:Addr}{i:Nat}{items:Array Value}{x:Value}{Q:Option Value->Shared->Prop}
  (he:zER s.heap e it d i)(hd:d < s.heap.objs.size)(hit:s.heap.IsListIter it l i)(hl:s.heap.IsList l items)(hx:items[i]?=some x)(hne:e≠it)
  (hQ:∀ h',zER h' e it d (i+1)->h'.IsListIter it l (i+1) ->
   h'.get? s.heap.objs.size=some { cls:=.type "tuple",data:=.seq #[.int i s.toks,x] } ->
   (∀ b o,b≠e->b≠it->s.heap.get? b=some o->h'.get? b=some o)->Q (some (.ref s.heap.objs.size)) { s with heap:=h',toks:=s.toks+1 }) :
  wpAny (model prog w) A (pyNext (.ref e)) Q E s:=by
 have hi:((i+1:Nat):Int)=(i:Int)+1:=by omega
 have hil:it < s.heap.objs.size:=by obtain⟨_,y,_⟩:=hit;exact sam y
 rcases he with⟨old,he⟩ | ⟨a,f,old,oa,he,ha,hae,hai,had⟩
 .have hel:e < s.heap.objs.size:=sam he
  exact wpAny_pyNext_enum_item he hit hl hx hne fun h' h1 h2 h3 h4 h5=>hQ h' (.inr ⟨s.heap.objs.size,false,x,_,by rw[zdK,hi];exact h1,h3,scd hel,scd hil,scd hd⟩) h2 h3 h5
 .exact zzh he ha hae hai hit hl hx hne fun h' h1 h2 h3 h4 h5=>hQ h' (.inr ⟨a,true,old,oa,by rw[zdK,hi];exact h1,h5 a oa hae hai ha,hae,hai,had⟩) h2 h3 h5
theorem zEe {e it l d:Addr}{i:Nat}{items:Array Value}{Q:Option Value->Shared->Prop}(hh:A.handled=none)
  (he:zER s.heap e it d i)(hit:s.heap.IsListIter it l i)(hl:s.heap.IsList l items)(hx:items[i]?=none)
  (hQ:∀ h',Heap.ExtBut it s.heap h'->Q none { s with heap:=h' }):wpAny (model prog w) A (pyNext (.ref e)) Q E s:=by
 rcases he with⟨old,he⟩ | ⟨a,f,old,oa,he,ha,hae,hai,had⟩
 .exact wpAny_pyNext_enum_end hh he hit hl hx hQ
 .exact zBH hh he hit hl hx hQ
def zdD (items:Array Value)(n:Nat):List (L2.Key×Value):=(items.toList.take n).zipIdx.map fun p=>(sbB (p.2:Int),p.1)
theorem zpJ {items:Array Value}{i:Nat}{x:Value}(hx:items[i]?=some x):stored (zdD items i) (sbB (i:Int)) x=zdD items (i+1):=by
 have hl:items.toList[i]?=some x:=by simpa using hx
 have hlen:i < items.toList.length:=(sad.mp hl).1;unfold stored zdD;rw[if_neg]
 .rw[List.take_add_one,hl,List.zipIdx_append,saU]
  simp [sa4];rw[scG] at hlen;omega
 .intro h
  obtain⟨kv,h1,h2⟩:=List.any_eq_true.mp h;obtain⟨p,h3,rfl⟩:=saG.mp h1;have h4:=of_decide_eq_true h2;simp only[sbB.injEq] at h4;have h5:p.2=i:=by omega
  have h6:=List.snd_lt_of_mem_zipIdx h3;rw[sa4] at h6;omega
theorem zqP (items:Array Value)(n:Nat):(zdD items n).length<=items.size:=by
 unfold zdD;rw[sab,List.length_zipIdx,sa4];simp;omega
end
section
variable {prog:Program}{w:World}{A:Around}{s:Shared}
theorem zBG {R:Result->Shared->Prop}{d e it l:Addr}{items:Array Value}(hh:A.handled=none)(hsz:items.size<=sizeLine)(hne:e≠it)(hde:d≠e)(hdi:d≠it)(hld:l≠d)(hle:l≠e)(hli:l≠it) :
  ∀ (n i:Nat) (s:Shared),n+i=items.size->s.heap.DictOf (L2.mixKind prog w) d (zdD items i)->zER s.heap e it d i->s.heap.IsListIter it l i->s.heap.IsList l items ->
  (∀ h' tk,h'.DictOf (L2.mixKind prog w) d (zdD items items.size)->(∀ b o,b≠d->b≠e->b≠it->s.heap.get? b=some o->h'.get? b=some o)->R (.ok (.ret .none)) { s with heap:=h',toks:=tk }) ->
  codeAny (model prog w) A (.builtin "dict.update.loop" ⟨[.ref d,.ref e,rawInt i,.none],[]⟩) R s:=by
 intro n
 induction n with
 | zero =>
  intro i s hi hd he hit hl hR;have hx:items[i]?=none:=Array.getElem?_eq_none (by omega);refine codeAny_builtin ziJ ?_;unfold Builtin.«dict.update.loop»;show wpAny _ _ (pyNext (.ref e) >>= _) _ _ s;refine sae (zEe (by first | exact hh | (show A.handled=none;exact hh)) he hit hl hx fun h' hk=>?_);show wpAny _ _ (Builtin.Dict.addKeywords d [] >>= _) _ _ _;refine sae (sau (sau (hR h' s.toks ?_ fun b o _ _ hb q=>hk b o hb q)));have:i=items.size:=by omega
  rw[← this];exact hd.extBut hk hdi
 | succ n ih =>
  intro i s hi hd he hit hl hR;have hlt:i < items.size:=by omega
  have hx:items[i]?=some items[i]:=Array.getElem?_eq_getElem hlt;have hdl:d < s.heap.objs.size:=by obtain⟨o,_,_,q,_⟩:=hd;exact sam q
  refine codeAny_builtin ziJ ?_;unfold Builtin.«dict.update.loop»;show wpAny _ _ (pyNext (.ref e) >>= _) _ _ s;refine sae (zBE he hdl hit hl hx hne fun h' h1 h2 h3 h5=>?_);show wpAny _ _ (holding [.ref s.heap.objs.size] _ >>= _) _ _ _;refine sae (sbd (sae (wpAny_tryCatch ?_)));unfold Builtin.Dict.pairItems;have hT:({ s with heap:=h',toks:=s.toks+1 }:Shared).TypeIs (.ref s.heap.objs.size) "tuple":=⟨_,h3,rfl⟩
  refine sae (wpAny_typeOf hT ?_);rw[if_pos (by decide)];refine sae (wpAny_seqItems h3 rfl (sau ?_));show wpAny _ _ (holding [.int i s.toks,items[i]] (dictSet d (.int i s.toks) items[i])) _ _ _;have hd':h'.DictOf (L2.mixKind prog w) d (zdD items i):=by
   obtain⟨o,es,ep,q,r⟩:=hd;exact⟨o,es,ep,h5 d o hde hdi q,r⟩
  refine sbd (wpAny_dictSet_pairs (hsz:=by have:=zqP items i;omega) (k:=sbB (i:Int)) (L2.mixKind_int ..) hd' fun h'' hd'' hs''=>?_);rw[zpJ hx] at hd'';refine sau ⟨scm _ (by decide +kernel),?_⟩;refine ih (i+1) _ (by omega) hd'' ?_ (h2.at fun o q=>(hs''.2 it (saW hdi)).trans q) (hl.at fun o q=>(hs''.2 l hld).trans (h5 l o hle hli q)) fun h3 tk q1 q2=>hR h3 tk q1 fun b o n1 n2 n3 q=>q2 b o n1 n2 n3 ((hs''.2 b n1).trans (h5 b o n2 n3 q));rcases h1 with⟨old,h1⟩ | ⟨a,f,old,oa,h1,ha,hae,hai,had⟩
  .exact .inl ⟨old,(hs''.2 e (saW hde)).trans h1⟩
  .exact .inr ⟨a,f,old,oa,(hs''.2 e (saW hde)).trans h1,(hs''.2 a had).trans ha,hae,hai,had⟩
theorem zmF {E:Value->Shared->Prop}{e it l:Addr}{items:Array Value}{Q:Value->Shared->Prop}(hh:A.handled=none)(hsz:items.size<=sizeLine)(hne:e≠it)(hle:l≠e)(hli:l≠it)
  (he:IsEnum s.heap e it 0 .none)(hit:s.heap.IsListIter it l 0)(hl:s.heap.IsList l items)
  (h:∀ h' tk,h'.DictOf (L2.mixKind prog w) s.heap.objs.size (zdD items items.size)->(∀ b o,b≠e->b≠it->s.heap.get? b=some o->h'.get? b=some o)->Q (.ref s.heap.objs.size) { s with heap:=h',toks:=tk }) :
  wpAny (model prog w) A (call (.type "dict") [.ref e]) Q E s:=by
 refine callType_codes (Q₁:=fun obj si=>obj=.ref s.heap.objs.size/\si={ s with heap:=s.heap.push { cls:=.type "dict",data:=.dict #[] } }) PySem.F.kt_called_dict (PySem.F.kt_typeCall_dict_1 _) PySem.F.entry_dict_init (kt_code_dict_new _ ⟨rfl,rfl⟩) ?_;rintro obj si ⟨rfl,rfl⟩;have hnew:(s.heap.push { cls:=.type "dict",data:=.dict #[] }).DictOf (L2.mixKind prog w) s.heap.objs.size []:=Heap.DictOf.new s.heap;have hel:e < s.heap.objs.size:=sam he;have hil:it < s.heap.objs.size:=by obtain⟨_,y,_⟩:=hit;exact sam y
 have hll:l < s.heap.objs.size:=by obtain⟨_,y,_⟩:=hl;exact sam y
 have he':IsEnum (s.heap.push { cls:=.type "dict",data:=.dict #[] }) e it 0 .none:=sah _ he;refine⟨hnew.typeIs,PySem.F.args_dict_init_2 _ _,?_⟩;unfold Builtin.«dict.__init__»;refine sae ?_;unfold Builtin.Dict.selfAndRest;refine sae (wpAny_notOrdered_dict hnew.typeIs ?_);show wpAny _ _ (pure (s.heap.objs.size,[saR e])) _ _ _;refine sau ?_;show wpAny _ _ (Builtin.Dict.updateFrom "dict.__init__" s.heap.objs.size (.ref e) [] .none) _ _ _;unfold Builtin.Dict.updateFrom;refine sae (wpAny_typeOf (T:="enumerate") ⟨_,he',rfl⟩ ?_);rw[if_pos (by decide)];refine sae (zBF he' (by first | exact hh | (show A.handled=none;exact hh)) fun h1 tk1 hk1=>?_);rw[if_pos (by rfl)];refine sae (wpAny_rule ?_);refine sae (wpAny_pyIter_enum (hk1 _ _ he') ?_);refine sau ⟨scm _ (by decide +kernel),?_⟩;have hd1:h1.DictOf (L2.mixKind prog w) s.heap.objs.size (zdD items 0):=by
  obtain⟨o,es,ep,q,r⟩:=hnew;exact⟨o,es,ep,hk1 _ o q,r⟩
 have hk2:∀ b o,s.heap.get? b=some o->h1.get? b=some o:=fun b o q=>hk1 b o (sah _ q);refine zBG (l:=l) (it:=it) (items:=items) (by first | exact hh | (show A.handled=none;exact hh)) hsz hne (scd hel) (scd hil) (saB hll) hle hli items.size 0 _ (by omega) hd1 (.inl ⟨.none,hk1 _ _ he'⟩) (hit.at fun o q=>hk2 it o q) (hl.at fun o q=>hk2 l o q) fun h' tk q1 q2=>⟨rfl,h h' tk q1 fun b o n1 n2 q=>q2 b o (saB (sam q)) n1 n2 (hk2 b o q)⟩
end
end DL
namespace DL
open PySem PySem.Spec PyProof.Rows L2
def zfk (n:Nat):List Int:=(saS n).map fun(i:Nat)=>(i:Int)
def zBT (x:D):Res D:=match x with
 | .lst ds=>.ok (.ob (.dint (zfk ds.length)) ds)
 | _=>.stuck
theorem zsH:∀ {xs:List V}{its:List Value}(k:Nat),zbM xs its->KV (((scW k xs.length).map fun(i:Nat)=>(sbB (i:Int):Key)).zip xs) ((its.zipIdx k).map fun p=>((sbB (p.2:Int):Key),p.1))
 | _,_,k,.nil=>.nil
 | _,_,k,.cons h t=>by
  rw[sar,sc2,saJ,sbk,List.zipIdx_cons,saJ];exact .cons ⟨rfl,h⟩ (zsH (k+1) t)
theorem zDL {xs:List V}{its:List Value}(h:zbM xs its):KV (((zfk xs.length).map sbB).zip xs) (zdD its.toArray its.toArray.size):=by
 have:=zsH 0 h;unfold zdD zfk;simp only[san,sbX];rw[sa2,scw];exact this
section
variable {X:Cx}{E:XK}{a:Expr}{f:Ev->Res D}{te:TE}{p p2 p3 pos:Pos}
def zE5 (K:saj)(te:TE):TE:=fun σ H Q=>te σ H fun x H1=>∃ l xs,x=.ref l/\SqL K H1 l xs/\∀ p,H1 p=none->Q (.ref p) (upd H1 p (.dK (((zfk xs.length).map sbB).zip xs)))
theorem zqO (hc:X.calm=true)(hg:Gl X "dict")(hm:X.mg "dict"=none)(hg2:Gl X "enumerate")(hm2:X.mg "enumerate"=none)(ha:PE X a te)(hn:nst a=true) :
  PE X (.Call (.Name "dict" p) [.Call (.Name "enumerate" p2) [a] [] p3] [] pos) (zE5 X.K te):=by
 intro pins s σ H Q I h;refine Call_ (zjV I hg hm PyProof.Rows.Boot.«dict» (sbj ?_ rfl rfl));show wpAny _ _ (spliced ((false,eval (.Call (.Name "enumerate" p2) [a] [] p3) X.env)::[])) _ _ s;refine sdn ?_;refine Call_ (zjV I hg2 hm2 PyProof.Rows.Boot.«enumerate» (sbj ?_ (zc0 hn) rfl));rw[zc0 hn];show wpAny _ _ (spliced ((false,eval a X.env)::[])) _ _ s;refine sdn (thn (ha pins s σ H _ I h) fun u s1 ⟨x,H1,I1,r1,l,xs,ex,hq,q⟩=>sdw ?_);subst ex;cases r1;obtain⟨its,rv,pl,hz⟩:=I1.list hq;have hlt:l < s1.heap.objs.size:=by obtain⟨o,n,e,_⟩:=pl;exact sam e
 refine call_enumerate_list pl.isList fun h' he hi hsz hk=>?_;refine sdw ?_;have hlen:xs.length=its.length:=rv.length;have hz2:its.toArray.size<=sizeLine:=by rw[san,← hlen];exact hz
 refine zmF (l:=l) (it:=s1.heap.objs.size) (items:=its.toArray) (I1.ok.hd hc) hz2 (Nat.succ_ne_self _) (saB (sds hlt)) (saB hlt) he hi (pl.isList.at fun o e=>hk l o e) fun h2 tk hd hk2=>?_;have hsz2:s1.heap.objs.size<=h'.objs.size:=by omega
 have I2:Inv X pins σ (upd H1 h'.objs.size (.dK (((zfk xs.length).map sbB).zip xs))) { s1 with heap:=h2,toks:=tk }:=by
  refine I1.laid (t':=tk) (fun b o e=>hk2 b o ?_ ?_ (hk b o e)) hsz2 (zEk ?_ ?_ (zDL rv) hd)
  .exact saB (sds (sam e))
  .exact saB (sam e)
  .rw[List.length_zip,sab,zfk,sab,scQ,Nat.min_self];exact hz
  .exact beq_eq_false_iff_ne.mpr (saW (saB (saf I1.big hsz2)))
 exact⟨.ref _,_,I2,rfl,q _ (I1.hok.fresh hsz2)⟩
theorem zrW (hc:X.calm=true)(hg:Gl X "dict")(hm:X.mg "dict"=none)(hg2:Gl X "enumerate")(hm2:X.mg "enumerate"=none)(ha:DE X E a f)(hn:nst a=true:=by exact rfl) :
  DE X E (.Call (.Name "dict" p) [.Call (.Name "enumerate" p2) [a] [] p3] [] pos) (zaY f zBT):=by
 refine⟨zaX (zqO hc hg hm hg2 hm2 ha.o hn) fun σ H Q ⟨Ha,ρ,hs,hr,q⟩=>⟨Ha,ρ,hs,hr,?_⟩⟩;unfold zaY at q;cases e1:f ρ with
 | stuck=>rw[e1] at q;exact q
 | exn x=>rw[e1] at q;exact q
 | ok d =>
  rw[e1] at q;intro v H1 H01 g1 r1;cases d with
  | lst ds =>
   obtain⟨b,vs,rfl,h1,h2⟩:=zao.mp r1;have hl:=h2.length;refine⟨b,vs,rfl,zaM.sqL g1.sub h1,fun n hn=>q _ _ _ (g1.trans (zaB g1.sub hn)) (zcX.mpr ⟨n,vs,rfl,⟨_,.inl zau,by rw[hl],?_⟩,h2.mono (zaB g1.sub hn).z⟩)⟩;rw[zfk,sab,scQ];exact hl
  | _=>exact q.elim
end
def isE (d:D):Bool:=match d with
 | .dic [] []=>true
 | _=>false
def okE (x y:D):Bool:=(isE x&&isE y)||(zbb 39 x&&zbb 39 y)
def eqE (x y:D):Bool:=isE x||eqD x y
noncomputable def zBR (x y:D):Res D:=match x,y with
 | .ob (.dint ks) xs,.ob (.dint ks') ys=>if ks=zfk xs.length/\ks'=zfk ys.length/\xs.length=ys.length/\xs.all (zbb 39)=true/\ys.all (zbb 39)=true then .ok (.bl (!((saS xs.length).all fun j=>eqD (xs.getD j .non) (ys.getD j .non)))) else .stuck
 | .lst xs,.lst ys=>if zbb 40 (.lst xs)=true/\zbb 40 (.lst ys)=true then dNe (.lst xs) (.lst ys) else if xs.length=ys.length/\((saS xs.length).all fun j=>okE (xs.getD j .non) (ys.getD j .non))=true then .ok (.bl (!((saS xs.length).all fun j=>eqE (xs.getD j .non) (ys.getD j .non)))) else .stuck
 | x,y=>zEO x y
section
variable {X:Cx}{E:XK}{pins:List (Addr×Obj)}{σ:L2.St}{H:Hp}{s:Shared}
theorem zp6 {P P':Program}{w w':World}{h:Heap}{a:Addr}(d:h.DictOf (mixKind P w) a []):h.DictOf (mixKind P' w') a []:=by
 obtain⟨o,es,ep,h1,h2,h3,h4,h5,h6⟩:=d;have hl:=h5.length;have e:es=#[]:=by
  rw[sci] at hl;have:es.toList=[]:=scj.mp hl;exact Array.toList_eq_nil_iff.mp this
 subst e;exact⟨o,#[],ep,h1,h2,h3,fun e he=>by simp at he,.nil,List.nodup_nil⟩
theorem zpA (I:Inv X pins σ H s){d:D}{v:V}{u:Value}(h:isE d=true)(r:Rep X.K H d v)(q:zcj v u):∃ a,u=.ref a/\(a==sysModules)=false/\s.heap.DictOf (mixKind X.prog X.w) a []:=by
 unfold isE at h;split at h
 .rw[Rep] at r
  obtain⟨a,kvs,vs,h1,h2,h3,h4,h5⟩:=r;have:kvs=[]:=by rw[h3];rfl
  subst this h1;obtain rfl:u=saR a:=q;obtain⟨_,n1,vs',k1,d1⟩:=(show zcg X.prog X.w H s.heap a (.dK []) from h2.ok I.hok)
  obtain rfl:vs'=[]:=by cases k1;rfl
  exact⟨a,rfl,n1,d1⟩
 .cases h
theorem zoN {A:Around}{a b:Addr}(hu:A.units < cLine)(na:(a==sysModules)=false)(nb:(b==sysModules)=false)(da:s.heap.DictOf (mixKind X.prog X.w) a [])(db:s.heap.DictOf (mixKind X.prog X.w) b []):saw A s (.ref a) (.ref b) true:=by
 by_cases e:a=b
 .subst e;exact sc7 _
 .refine scJ e ?_
  intro prog w E Q q;exact W.keq_eq (knd:=mixKind prog w) na nb (zp6 da) (zp6 db) hu (fun _=>.nil) q
theorem zvW (I:Inv X pins σ H s){A:Around}(hu:A.units+64 < cLine){xs ys:List D}{vs us:List V}{is js:List Value}(hl:xs.length=ys.length)
  (sx:((saS xs.length).all fun j=>okE (xs.getD j .non) (ys.getD j .non))=true)(rx:Reps X.K H xs vs)(ry:Reps X.K H ys us)(qx:zbM vs is)(qy:zbM us js) :
  ∀ j (h1:j < is.toArray.size) (h2:j < js.toArray.size),saw A.in1 s is.toArray[j] js.toArray[j] (eqE (xs.getD j .non) (ys.getD j .non)):=by
 intro j h1 h2;have lx:=rx.length;have ly:=ry.length;have kx:=qx.length;have ky:=qy.length;have h1':j < is.length:=by simpa using h1
 have h2':j < js.length:=by simpa using h2
 have hx:j < xs.length:=by omega
 have hy:j < ys.length:=by omega
 obtain⟨v,e1,r1⟩:=rx.get (saa hx);obtain⟨u,e2,r2⟩:=ry.get (saa hy);obtain⟨a,e3,r3⟩:=qx.get e1;obtain⟨b,e4,r4⟩:=qy.get e2;have ea:is.toArray[j]=a:=by
  rw[saa h1'] at e3;simpa using saN e3
 have eb:js.toArray[j]=b:=by
  rw[saa h2'] at e4;simpa using saN e4
 have gx:xs.getD j .non=xs[j]:=by simp [scE,saa hx]
 have gy:ys.getD j .non=ys[j]:=by simp [scE,saa hy]
 have ok:=saE.mp sx j (sbu.mpr hx);rw[ea,eb,gx,gy];rw[gx,gy] at ok;unfold okE at ok;unfold eqE;cases ex:isE xs[j] with
 | true =>
  have ey:isE ys[j]=true:=by
   rw[ex] at ok;cases ey:isE ys[j] with
   | true=>rfl
   | false =>
    rw[ey] at ok;unfold isE at ex;split at ex
    .rename_i e0
     rw[e0] at ok;simp [zbb] at ok
    .cases ex
  obtain⟨a',rfl,na,da⟩:=zpA I ex r1 r3;obtain⟨b',rfl,nb,db⟩:=zpA I ey r2 r4;exact zoN (X:=X) (by show A.units+1 < cLine;omega) na nb da db
 | false =>
  rw[ex] at ok;simp only[sa5,sbW,saF] at ok;rw[sbW];exact(zCX I 39 A.in1 (by show A.units+1+39 < cLine;omega) _ _ v u a b ok.1 ok.2 r1 r2 r3 r4).2.1
noncomputable def zF4 (K:saj):R2:=fun v u H Q=>∃ xs ys,Rep K H (.lst xs) v/\Rep K H (.lst ys) u/\xs.length=ys.length/\((saS xs.length).all fun j=>okE (xs.getD j .non) (ys.getD j .non))=true/\Q (.bl (!((saS xs.length).all fun j=>eqE (xs.getD j .non) (ys.getD j .non)))) H
theorem zDq (hu:X.A.units+64 < cLine):OpR X (compareOp .NotEq) (zF4 X.K):=by
 intro pins s σ H x y v u Q I rx ry h;obtain⟨xs,ys,h1,h2,hl,ok,q⟩:=h;obtain⟨l,vs,is,rfl,rfl,k1,k2,k3,k4,k5⟩:=zaL I h1 rx;obtain⟨m,us,js,rfl,rfl,j1,j2,j3,j4,j5⟩:=zaL I h2 ry;have each:=zvW I hu hl ok k2 j2 k3 j3;have hsz:is.toArray.size=js.toArray.size:=by simp only[san];omega
 have e:is.toArray.size=xs.length:=by simp only[san];omega
 have r:=sax.lists k4 j4 hsz (by omega) each;rw[e] at r;exact r _ _ _ _ ⟨.bl _,H,I,rfl,q⟩
noncomputable def zF5 (K:saj):R2:=fun v u H Q=>∃ xs ys,Rep K H (.ob (.dint (zfk xs.length)) xs) v/\Rep K H (.ob (.dint (zfk ys.length)) ys) u/\xs.length=ys.length/\xs.all (zbb 39)=true/\ys.all (zbb 39)=true/\Q (.bl (!((saS xs.length).all fun j=>eqD (xs.getD j .non) (ys.getD j .non)))) H
theorem zjI:∀ {us:List V}{zs:List (Key×Value)}(k:Nat),KV (((scW k us.length).map fun(i:Nat)=>(sbB (i:Int):Key)).zip us) zs->∀ j v,us[j]?=some v->∃ z,valueAt zs (sbB ((k+j:Nat):Int))=some z/\zcj v z
 | [],zs,k,h,j,v,e=>by simp at e
 | w::us,zs,k,h,j,v,e=>by
  rw[sar,sc2,saJ,sbk] at h;cases h with
  | @cons _ q _ r h1 h2 =>
   obtain⟨qk,qv⟩:=q;obtain⟨h1a,h1b⟩:=h1;simp only at h1a h1b;subst h1a;cases j with
   | zero =>
    simp only[sbU,sb5] at e;subst e;exact⟨qv,by simp [valueAt],h1b⟩
   | succ j =>
    rw[sa9] at e;obtain⟨z,hz,rz⟩:=zjI (k+1) h2 j v e;refine⟨z,?_,rz⟩;unfold valueAt at hz ⊢;rw[List.find?_cons_of_neg,show k+(j+1)=k+1+j by omega]
    .exact hz
    .simp only[decide_eq_true_eq,sbB.injEq];omega
theorem zpW {A:Around}{kb:List (Key×Value)}(eq:Nat->Bool):∀ {us:List V}{zs:List (Key×Value)}(k:Nat),KV (((scW k us.length).map fun(i:Nat)=>(sbB (i:Int):Key)).zip us) zs ->
  (∀ j v z,us[j]?=some v->zcj v z->∃ y,valueAt kb (sbB ((k+j:Nat):Int))=some y/\saw A s z y (eq (k+j)))->W.KeqHits A s kb zs ((scW k us.length).all eq)
 | [],zs,k,h,g=>by
  cases h;exact .nil
 | w::us,zs,k,h,g=>by
  rw[sar,sc2,saJ,sbk] at h;cases h with
  | @cons _ q _ r h1 h2 =>
   obtain⟨qk,qv⟩:=q;obtain⟨h1a,h1b⟩:=h1;simp only at h1a h1b;subst h1a;obtain⟨y,e1,e2⟩:=g 0 w qv rfl h1b;rw[sar,sc2,sb7];refine .hit e1 e2 (zpW eq (k+1) h2 fun j v z e r=>?_);have:=g (j+1) v z (by rw[sa9];exact e) r;rw[show k+1+j=k+(j+1) by omega];exact this
theorem zDr (hu:X.A.units+64 < cLine):OpR X (compareOp .NotEq) (zF5 X.K):=by
 intro pins s σ H x y v u Q I rx ry h;obtain⟨xs,ys,h1,h2,hl,sx,sy,q⟩:=h;obtain⟨a,vs,rfl,⟨kvs,k1,rfl,k3⟩,k4⟩:=zcX.mp h1;obtain⟨b,us,rfl,⟨kus,j1,rfl,j3⟩,j4⟩:=zcX.mp h2;cases rx;cases ry;have lx:=k4.length;have ly:=j4.length;obtain⟨_,n1,zs,c1,d1⟩:=(show zcg X.prog X.w H s.heap a (.dK _) from k1.ok I.hok)
 obtain⟨_,n2,ws,c2,d2⟩:=(show zcg X.prog X.w H s.heap b (.dK _) from j1.ok I.hok)
 have c1':KV (((scW 0 vs.length).map fun(i:Nat)=>(sbB (i:Int):Key)).zip vs) zs:=by
  rw[zfk,sa2,scw,lx] at c1;exact c1
 have c2':KV (((scW 0 us.length).map fun(i:Nat)=>(sbB (i:Int):Key)).zip us) ws:=by
  rw[zfk,sa2,scw,ly] at c2;exact c2
 have z1:zs.length=xs.length:=by
  have:=c1.length;rw[List.length_zip,sab,zfk,sab,scQ] at this;omega
 have z2:ws.length=ys.length:=by
  have:=c2.length;rw[List.length_zip,sab,zfk,sab,scQ] at this;omega
 refine W.keq_ne n1 n2 d1 d2 (r:=(saS xs.length).all fun j=>eqD (xs.getD j .non) (ys.getD j .non)) (by omega) (fun _=>?_) ⟨.bl _,H,I,?_,q⟩
 .have:=zpW (s:=s) (A:=X.A.in1) (kb:=ws) (fun j=>eqD (xs.getD j .non) (ys.getD j .non)) 0 c1' fun j v z e r=>?_
  .rw[scw,lx];exact this
  .have hj:j < xs.length:=by have:=(sad.mp e).1;omega
   obtain⟨v',e1,r1⟩:=k4.get (saa hj);rw[e] at e1;cases e1;obtain⟨u',e2,r2⟩:=j4.get (saa (show j < ys.length by omega));obtain⟨y,e3,r3⟩:=zjI 0 c2' j u' e2;refine⟨y,e3,?_⟩;rw[sbS];have gx:xs.getD j .non=xs[j]:=by simp [scE,saa hj]
   have gy:ys.getD j .non=ys[j]'(by omega):=by simp [scE,saa (show j < ys.length by omega)]
   rw[gx,gy];exact(zCX I 39 X.A.in1 (by show X.A.units+1+39 < cLine;omega) _ _ _ _ _ _ (saE.mp sx _ (saL _)) (saE.mp sy _ (saL _)) r1 r2 r r3).2.1
 .rw[z1,z2,hl,beq_self_eq_true,sbz];rfl
def zFf (K:saj):R2:=fun v u H Q=>(zEL K v u H Q∨zF4 K v u H Q)∨zF5 K v u H Q
theorem zDo (hu:X.A.units+64 < cLine):OpR X (compareOp .NotEq) (zFf X.K):=OpR.or (OpR.or (zDp hu) (zDq hu)) (zDr hu)
theorem zDy:OpD X.K E (zFf X.K) zBR:=by
 intro x y v u H Ha Q hs r1 r2 q;have old:post X.K E H Ha (zEO x y) Q->zFf X.K v u H Q:=fun q=>.inl (.inl (zDz x y v u H Ha Q hs r1 r2 q));unfold zBR at q;split at q
 .split at q
  .rename_i c
   obtain⟨c1,c2,c3,c4,c5⟩:=c;subst c1 c2;exact .inr ⟨_,_,r1.mono hs,r2.mono hs,c3,c4,c5,zbn hs q (zaq.mpr rfl)⟩
  .exact q.elim
 .split at q
  .exact .inl (.inl (.inl (zgs _ _ v u H Ha Q hs r1 r2 q)))
  .split at q
   .rename_i c
    exact .inl (.inr ⟨_,_,r1.mono hs,r2.mono hs,c.1,c.2,zbn hs q (zaq.mpr rfl)⟩)
   .exact q.elim
 .exact old q
end
section
variable {X:Cx}{E:XK}{He H0e:Hp}{e:Expr}{f:Ev->Res D}{is:List Nat}{es:List Expr}{pos:Pos}
def zuC (is:List Nat)(ρ:Ev)(d:D):Res Fl:=if zln d=true then(match zc5 is.length d with
 | some ds=>.ok (.nx (zcC ρ is ds))
 | none=>.stuck) else .stuck
def zAA (is:List Nat)(f:Ev->Res D):Ev->Res Fl:=fun ρ=>(f (shr ρ)).bind (zuC is ρ)
theorem zBJ {k:Nat}{tp:Pos}(hc:X.calm=true)(he:DE X E e f)(h:PGs X es (tVs is))(hs:swapsWithSole [.Tuple es k tp] e pos.line X.env=pure false:=by rfl)(hw:swappedStores [.Tuple es k tp] e X.env=pure none:=by rfl)
  (h1:(assignEach [.Tuple es k tp] X.env).map (·.2)=[assign (.Tuple es k tp) X.env]:=by rfl)(hn:(assignEach es X.env).length=is.length:=by rfl)(hst:(assignEach es X.env).findIdx? (·.1)=none:=by rfl) :
  DS X E He H0e (.Assign [.Tuple es k tp] e pos) (zAA is f):=by
 refine⟨?_⟩;refine zbT (zsx he.o (zvl hc h hn hst) hs hw h1) fun D σ H ⟨Ha,ρ,h,q⟩=>⟨frz He Ha H,shr ρ,h.frz_le,h.looks,?_⟩
 refine look (k:=zuC is ρ) h q fun d v H' J _ g rp q'=>?_;unfold zuC at q'
 by_cases fl:zln d=true
 .rw[if_pos fl] at q'
  have hJ:zaM Ha J:=h.frz_sub.trans g.z;have rp':=rp.flat_to (zr1 hJ) fl;cases e1:zc5 is.length d with
  | none=>rw[e1] at q';exact q'.elim
  | some ds =>
   rw[e1] at q';obtain⟨a,vs,rfl,k1,k2,k3⟩:=zh1 e1 rp';exact⟨a,vs,rfl,znX (h.behind g).g.sub k1,k2,q' _ H' (zpf Ha J) (fun b o e=>by unfold zpf;rw[e]) ((h.behind g).putAll k3)⟩
 .rw[if_neg fl] at q';exact q'.elim
end
structure FT (K:saj) (mg:Str->Option Value) (x:Str) (st:Stmt) (ps:List Str) (a:Addr) (d:FuncData):Prop where
 F:Fun K x x st a d
 b:zkz K d ps []
 g:mg x=some (.ref a)
noncomputable def QA (K:saj) (x:Str) (st:Stmt) (a:Addr):Prop:=sbh K mainGlobals x=some (some (.ref a))/\scU K (.ref a)=true/\∃ oc kV dc pm cd ct od an sl,K.lookup a=some ⟨oc,od,.func (sb9 x x (defArgs st) (defBody st) (defScope st) .none kV dc pm an cd ct),sl⟩/\sdF K cd x=true
theorem zv8 {K:saj}{h:Heap}{mg:Str->Option Value}{x:Str}{st:Stmt}{ps:List Str}{a:Addr}(X:K.In h)(G:h.Ns mainGlobals mg)(q:QA K x st a)
  (hb:∀ (kV doc pm:Value) (an:Option Addr) (cdv ct:Value) (us:List Value),us.length=ps.length->bindArgs (sb9 x x (defArgs st) (defBody st) (defScope st) .none kV doc pm an cdv ct) ⟨us,[]⟩=pure (ps.zip us)) :
  ∃ d,FT K mg x st ps a d/\∃ kV doc pm an cdv ct,d=sb9 x x (defArgs st) (defBody st) (defScope st) .none kV doc pm an cdv ct:=by
 obtain⟨e1,e4,oc,kV,dc,pm,cd,ct,od,an,sl,e2,e3⟩:=q;exact⟨_,⟨zm5 e2 e3 e4,(zm5 (st:=st) e2 e3 e4).binds hb,sb1 X G e1⟩,_,_,_,_,_,_,rfl⟩
section
variable {K:saj}{h:Heap}{mg:Str->Option Value}{x:Str}{st:Stmt}{N ps:List Str}{a:Addr}(X:K.In h) (G:h.Ns mainGlobals mg) (q:QA K x st a) (S:zay N ps (defScope st))
include X G q S in
theorem ft1 (hn:ps.length=1:=by rfl)(hb:∀ (kV doc pm:Value) (an:Option Addr) (cdv ct b:Value),bindArgs (sb9 x x (defArgs st) (defBody st) (defScope st) .none kV doc pm an cdv ct) ⟨[b],[]⟩=pure (ps.zip [b]):=by intros;rfl):∃ d,FT K mg x st ps a d/\∃ kV doc pm an cdv ct,d=sb9 x x (defArgs st) (defBody st) (defScope st) .none kV doc pm an cdv ct :=
 zv8 X G q fun _ _ _ _ _ _ us hl=>by
  obtain⟨b,rfl⟩:=ln1 (hl.trans hn);exact hb ..
include X G q S in
theorem ft2 (hn:ps.length=2:=by rfl)(hb:∀ (kV doc pm:Value) (an:Option Addr) (cdv ct b c:Value),bindArgs (sb9 x x (defArgs st) (defBody st) (defScope st) .none kV doc pm an cdv ct) ⟨[b,c],[]⟩=pure (ps.zip [b,c]):=by intros;rfl):∃ d,FT K mg x st ps a d/\∃ kV doc pm an cdv ct,d=sb9 x x (defArgs st) (defBody st) (defScope st) .none kV doc pm an cdv ct :=
 zv8 X G q fun _ _ _ _ _ _ us hl=>by
  obtain⟨b,c,rfl⟩:=ln2 (hl.trans hn);exact hb ..
include X G q S in
theorem ft3 (hn:ps.length=3:=by rfl)(hb:∀ (kV doc pm:Value) (an:Option Addr) (cdv ct b c d:Value),bindArgs (sb9 x x (defArgs st) (defBody st) (defScope st) .none kV doc pm an cdv ct) ⟨[b,c,d],[]⟩=pure (ps.zip [b,c,d]):=by intros;rfl):∃ d,FT K mg x st ps a d/\∃ kV doc pm an cdv ct,d=sb9 x x (defArgs st) (defBody st) (defScope st) .none kV doc pm an cdv ct :=
 zv8 X G q fun _ _ _ _ _ _ us hl=>by
  obtain⟨b,c,d,rfl⟩:=ln3 (hl.trans hn);exact hb ..
include X G q S in
theorem ft4 (hn:ps.length=4:=by rfl)(hb:∀ (kV doc pm:Value) (an:Option Addr) (cdv ct b c d e:Value),bindArgs (sb9 x x (defArgs st) (defBody st) (defScope st) .none kV doc pm an cdv ct) ⟨[b,c,d,e],[]⟩=pure (ps.zip [b,c,d,e]):=by intros;rfl):∃ d,FT K mg x st ps a d/\∃ kV doc pm an cdv ct,d=sb9 x x (defArgs st) (defBody st) (defScope st) .none kV doc pm an cdv ct :=
 zv8 X G q fun _ _ _ _ _ _ us hl=>by
  obtain⟨b,c,d,e,rfl⟩:=ln4 (hl.trans hn);exact hb ..
include X G q S in
theorem ft5 (hn:ps.length=5:=by rfl)(hb:∀ (kV doc pm:Value) (an:Option Addr) (cdv ct b c d e f:Value),bindArgs (sb9 x x (defArgs st) (defBody st) (defScope st) .none kV doc pm an cdv ct) ⟨[b,c,d,e,f],[]⟩=pure (ps.zip [b,c,d,e,f]):=by intros;rfl):∃ d,FT K mg x st ps a d/\∃ kV doc pm an cdv ct,d=sb9 x x (defArgs st) (defBody st) (defScope st) .none kV doc pm an cdv ct :=
 zv8 X G q fun _ _ _ _ _ _ us hl=>by
  obtain⟨b,c,d,e,f,rfl⟩:=ln5 (hl.trans hn);exact hb ..
include X G q S in
end
section
variable {X:Cx}{E:XK}{e:Expr}{es:List Expr}{fa:Ev->Res (List D)}{f g h i j:Ev->Res D}{pos:Pos}{CX:CXT}{k n:Nat}{fn:Addr}{fd:FuncData}{ps:List Str}{m:List D->Res D}{x:Str}{p:Pos}{st:Stmt}
theorem al1 (ρ:Ev)(ds:List D)(h:zad f zar ρ=.ok ds):ds.length=1:=zg9 (fun _ h=>zzs h) h
theorem al2 (ρ:Ev)(ds:List D)(q:zad f (zad g zar) ρ=.ok ds):ds.length=2:=zg9 (al1 ρ) q
theorem al3 (ρ:Ev)(ds:List D)(q:zad f (zad g (zad h zar)) ρ=.ok ds):ds.length=3:=zg9 (al2 ρ) q
theorem al4 (ρ:Ev)(ds:List D)(q:zad f (zad g (zad h (zad i zar))) ρ=.ok ds):ds.length=4:=zg9 (al3 ρ) q
theorem al5 (ρ:Ev)(ds:List D)(q:zad f (zad g (zad h (zad i (zad j zar)))) ρ=.ok ds):ds.length=5:=zg9 (al4 ρ) q
theorem qc (F:zcB X.prog X.w X.K X.mg X.base CX k fn fd ps (spD X.K n m))(hr:zhR k X.A)(t:FT X.K X.mg x st ps fn fd)(hx:zl5 CX X E)(ha:DA X E (e::es) fa)(hl:∀ ρ ds,fa ρ=.ok ds->ds.length=(e::es).length)(hn:(e::es).length=n:=by rfl)
  (hg:Gl X x:=by exact rfl)(hdb:(x==("__debug__" : Str))=false:=by decide)(he:starEach (e::es) X.env=(false,eval e X.env)::starEach es X.env:=by exact zaN rfl)(hpl:(backTo pos (starEach es X.env)).any (·.1)=false:=by exact zbR rfl) :
  DE X E (.Call (.Name x p) (e::es) [] pos) (zak fa m):=zBP F hr hg t.g t.F.kp t.b hx ha hn hl hdb he hpl
theorem qt {y:Str}{pos' cpos:Pos}(hN:X.N.Nodup){i:Nat}(hi:X.N[i]?=some y)(hy:Loc X.env.scope y)(F:zcB X.prog X.w X.K X.mg X.base (CXE X.prog X.w) k fn fd ps (spD X.K n m))(hr:zhR k X.A)(t:FT X.K X.mg x st ps fn fd)(ha:DA X.nox E0 (e::es) fa)(hl:∀ ρ ds,fa ρ=.ok ds->ds.length=(e::es).length)(hn:(e::es).length=n:=by rfl)
  (hg:Gl X x:=by exact rfl)(hdb:(x==("__debug__" : Str))=false:=by decide)(he:starEach (e::es) X.env=(false,eval e X.env)::starEach es X.env:=by exact zaN rfl)(hpl:(backTo cpos (starEach es X.env)).any (·.1)=false:=by exact zbR rfl)
  (hs:swapsWith (.Call (.Name x p) (e::es) [] cpos) (some (.Name y pos')) pos.line X.env=pure false:=by rfl)
  (hf:X.fn y=true∨X.env.scope.names.lookup y=some .local := by first | exact .inl rfl | exact .inr rfl | assumption):TB X (.Assign [.Name y pos'] (.Call (.Name x p) (e::es) [] cpos) pos) (zu3 i fa m):=zCx hN hi hy F hr hg t.g t.F.kp t.b ha hn hl hdb he hpl hs hf
end
end DL
namespace Com
open PySem L2 DL
def zdu:Ev->Res Fl :=
 (zam (zge (zjo 1) (zac (zag 1) (dC (.int 0)) dNe)
 (zam (zxY 0 1 (zad (zag 1) (zad (zac (zag 0) (zag 1) zdW) zar)))
 zaj))
 (zam (zbQ (zak (zad (zag 0) zar) (m1 zxy)))
 zaj))
def zhz:List D->Res D:=zcD 2 zdu
def zdU:Ev->Res Fl :=
 (zam (za4 2 (zak (zad (zag 0) (zad (zag 1) zar)) zhz))
 (zam (zbQ (zak (zad (zac (zag 0) (zag 2) zqz) (zad (zac (zag 1) (zag 2) zqz) zar)) zcZ))
 zaj))
def zoh:List D->Res D:=zcD 3 zdU
def zqp:Ev->Res Fl :=
 (zam (zbQ (zgY (zaY (zag 0) (zcY "int")) (zdJ (zaY (zag 0) (zcY "bool")))))
 zaj)
def zbI:List D->Res D:=zcD 1 zqp
def zuj:Ev->Res Fl :=
 (zam (zbQ (zgY (zaY (zag 0) (zcY "int")) (zdJ (zaY (zag 0) (zcY "bool")))))
 zaj)
def zbV:List D->Res D:=zcD 1 zuj
noncomputable def zcK:Ev->Res Fl :=
 (zam (za4 2 (zak (zad (zag 0) zar) (m1 zxy)))
 (zam (za4 3 (zak (zad (zag 1) zar) (m1 zxy)))
 (zam (zge (zjo 3) (zac (zag 3) (dC (.int 0)) dNe)
 (zam (za4 4 (zac (zag 2) (zag 3) zdW))
 (zam (za4 2 (zag 3))
 (zam (za4 3 (zag 4))
 zaj))))
 (zam (zbQ (zag 2))
 zaj))))
def za3:List D->Res D:=zcD 5 zcK
noncomputable def zjF:Ev->Res Fl :=
 (zam (sIf (dOr (zdJ (zak (zad (zag 0) zar) zbV)) (zdJ (zak (zad (zag 1) zar) zbV)))
 (zam zc3
 zaj)
 zaj)
 (zam (sIf (zac (zag 1) (dC (.int 0)) dEq)
 (zam zc3
 zaj)
 zaj)
 (zam (za4 2 (zak (zad (zag 0) (zad (zag 1) zar)) za3))
 (zam (sIf (zac (zag 1) (dC (.int 0)) dLt)
 (zam (za4 2 (zaY (zag 2) znq))
 zaj)
 zaj)
 (zam (zbQ (zak (zad (zac (zag 0) (zag 2) zqz) (zad (zac (zag 1) (zag 2) zqz) zar)) zcZ))
 zaj)))))
def m_ratio:List D->Res D:=zcD 3 zjF
noncomputable def zqn:Ev->Res Fl :=
 (zam (zbQ (zak (zad (zac (zac (zac (zag 0) (dC (.int 0)) dIx) (zac (zag 1) (dC (.int 1)) dIx) zbv) (zac (zac (zag 1) (dC (.int 0)) dIx) (zac (zag 0) (dC (.int 1)) dIx) zbv) zca) (zad (zac (zac (zag 0) (dC (.int 1)) dIx) (zac (zag 1) (dC (.int 1)) dIx) zbv) zar)) m_ratio))
 zaj)
def m_plus:List D->Res D:=zcD 2 zqn
def zqo:Ev->Res Fl :=
 (zam (zbQ (zac (zac (zac (zag 0) (dC (.int 0)) dIx) (zac (zag 1) (dC (.int 1)) dIx) zbv) (zac (zac (zag 1) (dC (.int 0)) dIx) (zac (zag 0) (dC (.int 1)) dIx) zbv) dLt))
 zaj)
def zdx:List D->Res D:=zcD 2 zqo
def ziV:Ev->Res Fl :=
 (zam (za4 1 (dC (.tup [(.int 0),(.int 1)])))
 (zam (zsq (zag 0) (zea 2)
 (zam (za4 1 (zak (zad (zag 1) (zad (zag 2) zar)) m_plus))
 zaj))
 (zam (zbQ (zag 1))
 zaj)))
def m_sum_of:List D->Res D:=zcD 3 ziV
theorem bok {α β:Type}{a:α}{f:α->Res β}:(Res.ok a).bind f=f a:=rfl
theorem zgb {s t:Ev->Res Fl}{ρ ρ':Ev}(h:s ρ=.ok (.nx ρ')):zam s t ρ=t ρ':=by unfold zam;rw[h];rfl
theorem zmL {s t:Ev->Res Fl}{ρ:Ev}{d:D}(h:s ρ=.ok (.rt d)):zam s t ρ=.ok (.rt d):=by unfold zam;rw[h];rfl
theorem zsp {s:Ev->Res Fl}{ρ ρ':Ev}(h:s ρ=.ok (.nx ρ')):zam s zaj ρ=.ok (.nx ρ'):=by unfold zam;rw[h];rfl
theorem zsn {i:Nat}{f:Ev->Res D}{ρ:Ev}{d:D}(h:f ρ=.ok d):za4 i f ρ=.ok (.nx (ρ.set i (.sh d))):=by unfold za4;rw[h];rfl
theorem zmO {f:Ev->Res D}{ρ:Ev}{d:D}(h:f (shr ρ)=.ok d):zbQ f ρ=.ok (.rt d):=by unfold zbQ;rw[h];rfl
theorem zFy {c:Ev->Res D}{s t:Ev->Res Fl}{ρ:Ev}(h:c (shr ρ)=.ok (.bl false)):sIf c s t ρ=t ρ:=by unfold sIf;rw[h];rfl
theorem zjU {i j:Int}:dNe (.int i) (.int j)=.ok (.bl (!(i==j))):=by unfold dNe;rw[if_pos ⟨rfl,rfl⟩,eqD]
theorem zsZ {i j:Int}:dEq (.int i) (.int j)=.ok (.bl (i==j)):=by unfold dEq;rw[if_pos ⟨rfl,rfl⟩,eqD]
theorem zzI {n:Nat}{s:Ev->Res Fl}{ds:List D}{d:D}(h:s (ds.map Sl.sh++sat (n-ds.length) .no)=.ok (.rt d)):zcD n s ds=.ok d:=by unfold zcD;rw[h];rfl
theorem zeD {f:Ev->Res D}{fa:Ev->Res (List D)}{ρ:Ev}{x:D}{xs:List D}(h:f ρ=.ok x)(h':fa ρ=.ok xs):zad f fa ρ=.ok (x::xs):=by unfold zad;rw[h,bok,h'];rfl
theorem zdT {f g:Ev->Res D}{op:D->D->Res D}{ρ:Ev}{x y:D}(h:f ρ=.ok x)(h':g ρ=.ok y):zac f g op ρ=op x y:=by unfold zac;rw[h,bok,h'];rfl
theorem zho {fa:Ev->Res (List D)}{m:List D->Res D}{ρ:Ev}{xs:List D}(h:fa ρ=.ok xs):zak fa m ρ=m xs:=by unfold zak;rw[h];rfl
theorem zhy {a b:Int}(h:b≠0):zdW (.int a) (.int b)=.ok (.int (a.fmod b)):=by
 show(if decide (b≠0)=true then Res.ok (D.int (a.fmod b)) else .stuck)=_;rw[if_pos (decide_eq_true h)]
theorem zs1 {a b:Int}(h:zgR a b=true):zqz (.int a) (.int b)=.ok (.int (a.fdiv b)):=by
 show(if zgR a b=true then Res.ok (D.int (a.fdiv b)) else .stuck)=_;rw[if_pos h]
theorem zvH {a b:Int}(h:zcA a b=true):zbv (.int a) (.int b)=.ok (.int (a*b)):=by
 show(if zcA a b=true then Res.ok (D.int (a*b)) else .stuck)=_;rw[if_pos h]
theorem zoq (a b:Int):saH b (a.fmod b)=saH a b:=by
 rw[Int.fmod_def,Int.gcd_sub_mul_left_right,Int.gcd_comm]
theorem zwc {a b:Int}(h:b≠0):(a.fmod b).natAbs < b.natAbs:=by
 rcases Int.lt_or_gt_of_ne h with hb | hb
 .have h1:=sdm (-a) (show 0 < -b by omega)
  have h2:=scn (-a) (show 0 < -b by omega);rw[Int.neg_fmod_neg] at h1 h2;omega
 .have h1:=sdm a hb
  have h2:=scn a hb;omega
theorem zj4:∀ (n:Nat) (a b:Int),b.natAbs < n->∃ g:Int,g.natAbs=saH a b /\
  zbO (zac (zag 1) (dC (.int 0)) dNe) (zam (zxY 0 1 (zad (zag 1) (zad (zac (zag 0) (zag 1) zdW) zar))) zaj) n [.sh (.int a),.sh (.int b)]=.ok (.nx [.sh (.int g),.sh (.int 0)])
 | 0,a,b,h=>absurd h (Nat.not_lt_zero _)
 | n+1,a,b,h=>by
  unfold zbO;have c:(zac (zag 1) (dC (.int 0)) dNe) (shr [.sh (.int a),.sh (.int b)])=.ok (.bl (!(b==0))):=zjU;rw[c]
  by_cases hb:b=0
  .subst hb
   exact⟨a,by simp,rfl⟩
  .have e:(!(b==0))=true:=by simp [hb]
   obtain⟨g,h1,h2⟩:=zj4 n b (a.fmod b) (by have:=zwc (a:=a) hb;omega);refine⟨g,by rw[h1,zoq],?_⟩;rw[← h2];rw[e];have st:(zam (zxY 0 1 (zad (zag 1) (zad (zac (zag 0) (zag 1) zdW) zar))) zaj) [.sh (.int a),.sh (.int b)]=.ok (.nx [.sh (.int b),.sh (.int (a.fmod b))]):=by
    refine zsp ?_;unfold zxY;have:(zad (zag 1) (zad (zac (zag 0) (zag 1) zdW) zar)) [.sh (.int a),.sh (.int b)]=.ok [.int b,.int (a.fmod b)]:=by
     exact zeD rfl (zeD (zhy hb) rfl)
    rw[this];rfl
   show(Res.bind _ _)=_;rw[st];rfl
theorem zua (a b:Int):zhz [.int a,.int b]=.ok (.int (saH a b)):=by
 obtain⟨g,h1,h2⟩:=zj4 (b.natAbs+1) a b (scb _);have w:zge (zjo 1) (zac (zag 1) (dC (.int 0)) dNe) (zam (zxY 0 1 (zad (zag 1) (zad (zac (zag 0) (zag 1) zdW) zar))) zaj) [.sh (.int a),.sh (.int b)]=.ok (.nx [.sh (.int g),.sh (.int 0)]):=h2;have r:zdu [.sh (.int a),.sh (.int b)]=.ok (.rt (.int (if g < 0 then -g else g))):=by
  unfold zdu;rw[zgb w];exact zmL (zmO rfl)
 show(zdu [.sh (.int a),.sh (.int b)]).bind _=_;rw[r];show Res.ok (D.int (if g < 0 then -g else g))=_
 congr 2
 rw[← h1];split<;>omega
theorem zlM:∀ (n:Nat) (x y:D) (a b:Int) (r:Sl),0<=a->0<=b->b.natAbs < n->∃ r',
  zbO (zac (zag 3) (dC (.int 0)) dNe) (zam (za4 4 (zac (zag 2) (zag 3) zdW)) (zam (za4 2 (zag 3)) (zam (za4 3 (zag 4)) zaj))) n [.sh x,.sh y,.sh (.int a),.sh (.int b),r]=.ok (.nx [.sh x,.sh y,.sh (.int (saH a b)),.sh (.int 0),r'])
 | 0,_,_,a,b,_,_,_,h=>absurd h (Nat.not_lt_zero _)
 | n+1,x,y,a,b,r,ha,hb0,h=>by
  unfold zbO;have c:∀ r,(zac (zag 3) (dC (.int 0)) dNe) (shr [.sh x,.sh y,.sh (.int a),.sh (.int b),r])=.ok (.bl (!(b==0))):=fun r=>zjU;rw[c]
  by_cases hb:b=0
  .subst hb
   refine⟨r,?_⟩;have e:((saH a 0:Nat):Int)=a:=by simp;omega
   rw[e];rfl
  .have e:(!(b==0))=true:=by simp [hb]
   have hp:0 < b:=by omega
   obtain⟨r',h2⟩:=zlM n x y b (a.fmod b) (.sh (.int (a.fmod b))) hb0 (scn a hp) (by have:=zwc (a:=a) hb;omega);refine⟨r',?_⟩;rw[zoq] at h2;rw[← h2,e];have st:(zam (za4 4 (zac (zag 2) (zag 3) zdW)) (zam (za4 2 (zag 3)) (zam (za4 3 (zag 4)) zaj))) [.sh x,.sh y,.sh (.int a),.sh (.int b),r]=.ok (.nx [.sh x,.sh y,.sh (.int b),.sh (.int (a.fmod b)),.sh (.int (a.fmod b))]):=by
    have m:(zac (zag 2) (zag 3) zdW) [.sh x,.sh y,.sh (.int a),.sh (.int b),r]=.ok (.int (a.fmod b)):=by
     exact zhy hb
    rw[zgb (zsn m)];rfl
   show(Res.bind _ _)=_;rw[st];rfl
theorem ziS (a b:Int):za3 [.int a,.int b]=.ok (.int (saH a b)):=by
 have e:∀ i:Int,(if i < 0 then -i else i)=(i.natAbs:Int):=fun i=>by split<;>omega
 obtain⟨r',h⟩:=zlM ((b.natAbs:Int).natAbs+1) (.int a) (.int b) a.natAbs b.natAbs .no (sdl _) (sdl _) (scb _);have hg:saH (a.natAbs:Int) (b.natAbs:Int)=saH a b:=by simp [saH]
 rw[hg] at h;have r:zcK [.sh (.int a),.sh (.int b),.no,.no,.no]=.ok (.rt (.int (saH a b))):=by
  unfold zcK;rw[zgb (ρ':=[.sh (.int a),.sh (.int b),.sh (.int (a.natAbs:Int)),.no,.no]) (by rw[← e a];rfl)];rw[zgb (ρ':=[.sh (.int a),.sh (.int b),.sh (.int (a.natAbs:Int)),.sh (.int (b.natAbs:Int)),.no]) (by rw[← e b];rfl)];have w:zge (zjo 3) (zac (zag 3) (dC (.int 0)) dNe) (zam (za4 4 (zac (zag 2) (zag 3) zdW)) (zam (za4 2 (zag 3)) (zam (za4 3 (zag 4)) zaj))) [.sh (.int a),.sh (.int b),.sh (.int (a.natAbs:Int)),.sh (.int (b.natAbs:Int)),.no]=.ok (.nx [.sh (.int a),.sh (.int b),.sh (.int (saH a b)),.sh (.int 0),r']):=h;rw[zgb w];exact zmL (zmO rfl)
 show(zcK [.sh (.int a),.sh (.int b),.no,.no,.no]).bind _=_;rw[r];rfl
theorem ztE:(2:Nat) ^ 64<=B60:=by rw[ztf];exact sa6 (by decide) (by decide)
theorem zGg {i:Int}(h:i.natAbs < 18446744073709551616):i.natAbs < B60:=saf h ztE
theorem zev {i j:Int}(h:i.natAbs < 18446744073709551616)(h':j.natAbs < 18446744073709551616):zcA i j=true:=by
 unfold zcA;rw[saF];exact⟨decide_eq_true (zGg h),decide_eq_true (zGg h')⟩
theorem zcS {i j:Int}(h:i.natAbs < B60)(h':j.natAbs < B60):zcA i j=true:=by
 unfold zcA;rw[saF];exact⟨decide_eq_true h,decide_eq_true h'⟩
theorem zEl {i j:Int}(h0:j≠0)(h:j.natAbs < B9):zgR i j=true:=by
 unfold zgR;rw[saF,Bool.or_eq_true];exact⟨decide_eq_true h0,.inl (decide_eq_true h)⟩
theorem zlz {i j:Int}(h0:j≠0)(h:i.natAbs < B13):zgR i j=true:=by
 unfold zgR;rw[saF,Bool.or_eq_true];exact⟨decide_eq_true h0,.inr (decide_eq_true h)⟩
theorem zdf {ds:List D}{k:Nat}{d:D}(h:ds[k]?=some d):dIx (.lst ds) (.int (k:Int))=.ok d:=by
 unfold dIx;simp only[zbz h]
theorem zde {a b:Int}(hb:0 < b):0<=a.fmod b/\a.fmod b < b:=⟨scn a hb,sdm a hb⟩
theorem zv0 {n k:Nat}(h:k < n):(DL.intsFrom 0 n).drop k=.int (k:Int)::(DL.intsFrom 0 n).drop (k+1):=by
 have hl:(DL.intsFrom 0 n).length=n:=by unfold DL.intsFrom;simp
 rw[sbc (by rw[hl];exact h)]
 congr 1
 unfold DL.intsFrom;simp
theorem zy1 {n:Nat}:(DL.intsFrom 0 n).drop n=[]:=by
 have hl:(DL.intsFrom 0 n).length=n:=by unfold DL.intsFrom;simp
 exact List.drop_eq_nil_of_le (by omega)
theorem zlm {tg:Ev->D->Res Ev}{s:Ev->Res Fl}{d:D}{r:List D}{ρ ρ1 ρ2:Ev}(h1:tg ρ d=.ok ρ1)(h2:s ρ1=.ok (.nx ρ2)):zdH tg s (d::r) ρ=zdH tg s r ρ2:=by
 rw[zdH,h1,bok,h2,bok]
def isI:D->Bool
 | .int _=>true
 | _=>false
theorem zyc (d:D):zbI [d]=.ok (.bl (isI d)):=by cases d<;>first | rfl | (rename_i k _;cases k<;>rfl)
theorem zd9 (d:D):zbV [d]=.ok (.bl (isI d)):=by cases d<;>first | rfl | (rename_i k _;cases k<;>rfl)
theorem zex {a g:Int}(hg:0 < g):a.fdiv g=a / g:=Int.fdiv_eq_ediv_of_nonneg a (by omega)
theorem zlk {a b:Int}(h:b≠0):0 < (saH a b:Int):=by
 have:=Int.gcd_pos_of_ne_zero_right a h;omega
theorem zDF {a b:Int}(hb:0 < b)(h1:a.natAbs < B13)(h2:b.natAbs < B13):zoh [.int a,.int b]=.ok (.tup [.int (a / saH a b),.int (b / saH a b)]):=by
 have hg:=zlk (a:=a) (b:=b) (by omega);have r:zdU [.sh (.int a),.sh (.int b),.no]=.ok (.rt (.tup [.int (a / saH a b),.int (b / saH a b)])):=by
  unfold zdU;rw[zgb (ρ':=[.sh (.int a),.sh (.int b),.sh (.int (saH a b))]) (zsn ((zho (xs:=[.int a,.int b]) rfl).trans (zua a b)))];refine zmL (zmO ?_);refine(zho (xs:=[.int (a / saH a b),.int (b / saH a b)]) (zeD ?_ (zeD ?_ rfl))).trans rfl
  .rw[← zex hg]
   exact(zdT (x:=.int a) (y:=.int (saH a b)) rfl rfl).trans (zs1 (zlz (by omega) h1))
  .rw[← zex hg]
   exact(zdT (x:=.int b) (y:=.int (saH a b)) rfl rfl).trans (zs1 (zlz (by omega) h2))
 show(zdU [.sh (.int a),.sh (.int b),.no]).bind _=_;rw[r];rfl
theorem zyA {a b:Int}(hb:0 < b)(h1:a.natAbs < B13)(h2:b.natAbs < B13):m_ratio [.int a,.int b]=.ok (.tup [.int (a / saH a b),.int (b / saH a b)]):=by
 have hg:=zlk (a:=a) (b:=b) (by omega);have r:zjF [.sh (.int a),.sh (.int b),.no]=.ok (.rt (.tup [.int (a / saH a b),.int (b / saH a b)])):=by
  unfold zjF;rw[zgb (ρ':=[.sh (.int a),.sh (.int b),.no]) (zFy (t:=zaj) rfl)];rw[zgb (ρ':=[.sh (.int a),.sh (.int b),.no]) (zFy (t:=zaj) ((zdT (x:=.int b) (y:=.int 0) rfl rfl).trans (zsZ.trans (by rw[beq_eq_false_iff_ne.mpr (by omega)]))))];rw[zgb (ρ':=[.sh (.int a),.sh (.int b),.sh (.int (saH a b))]) (zsn ((zho (xs:=[.int a,.int b]) rfl).trans (ziS a b)))];rw[zgb (ρ':=[.sh (.int a),.sh (.int b),.sh (.int (saH a b))]) (zFy (t:=zaj) (by
   show Res.ok (D.bl (decide (b < 0)))=_;rw[decide_eq_false (by omega)]))]
  refine zmL (zmO ?_);refine(zho (xs:=[.int (a / saH a b),.int (b / saH a b)]) (zeD ?_ (zeD ?_ rfl))).trans rfl
  .rw[← zex hg]
   exact(zdT (x:=.int a) (y:=.int (saH a b)) rfl rfl).trans (zs1 (zlz (by omega) h1))
  .rw[← zex hg]
   exact(zdT (x:=.int b) (y:=.int (saH a b)) rfl rfl).trans (zs1 (zlz (by omega) h2))
 show(zjF [.sh (.int a),.sh (.int b),.no]).bind _=_;rw[r];rfl
def zFE (p q:Int):D:=.tup [.int p,.int q]
end Com
open Com
namespace Com
open PySem L2 DL
abbrev Fra:=Int×Int
def fr (x:Fra):D:=zFE x.1 x.2
def N60:Nat:=1000000000000000000000000000000000000000000000000000000000000
theorem zEE:N60<=B9:=by rw[zB9];exact sal (show N60<=2 ^ 200 by decide) (sa6 (by decide) (by decide))
theorem zr7:N60<=B13:=by rw[znI];exact sal (show N60<=2 ^ 200 by decide) (sa6 (by decide) (by decide))
theorem zbN:N60<=B60:=by rw[ztf];exact sal (show N60<=2 ^ 200 by decide) (sa6 (by decide) (by decide))
theorem zpe:B13<=B60:=by rw[znI,ztf];exact sa6 (by decide) (by decide)
structure Low (x:Fra):Prop where
 q1:1<=x.2
 g1:saH x.1 x.2=1
structure zbo (x:Fra):Prop extends Low x where
 pN:x.1.natAbs < N60
 qN:x.2.natAbs < N60
def low (a b:Int):Fra:=(a / saH a b,b / saH a b)
theorem zfF {a b:Int}(hb:0 < b):Low (low a b):=by
 have hg:=zlk (a:=a) (b:=b) (by omega);refine⟨?_,Int.gcd_ediv_gcd_ediv_gcd (by omega)⟩;have:=Int.ediv_gcd_ne_zero_if_ne_zero_right a (show b≠0 by omega);have h2:0<=b / (saH a b:Int):=Int.ediv_nonneg (by omega) (by omega);show 1<=b / (saH a b:Int);omega
theorem zh6 {a b:Int}:(low a b).1*b=a*(low a b).2:=by
 unfold low;obtain⟨x,hx⟩:=sdE a b;obtain⟨y,hy⟩:=sdv a b
 by_cases hg:(saH a b:Int)=0
 .simp only[hg,Int.ediv_zero,Int.zero_mul,Int.mul_zero]
 .generalize hG:(saH a b:Int)=G at *
  have e1:a / G=x:=by rw[hx];exact sce x hg
  have e2:b / G=y:=by rw[hy];exact sce y hg
  show a / G*b=a*(b / G);rw[e1,e2]
  calc x*b=x*(G*y):=by rw[← hy]
   _=G*x*y:=by grind
   _=a*y:=by rw[← hx]
theorem zk7 {a b:Int}:(low a b).1.natAbs<=a.natAbs:=sbP _ _
theorem zk6 {a b:Int}:(low a b).2.natAbs<=b.natAbs:=sbP _ _
theorem zyV {x y:Fra}(hx:Low x)(hy:Low y)(h:x.1*y.2=y.1*x.2):x=y:=by
 have d1:x.2∣y.2:=by
  have:x.2∣x.1*y.2:=⟨y.1,by rw[h];exact sdC _ _⟩
  rw[← Int.dvd_gcd_mul_iff_dvd_mul,Int.gcd_comm,hx.g1] at this;simpa using this
 have d2:y.2∣x.2:=by
  have:y.2∣y.1*x.2:=⟨x.1,by rw[← h];exact sdC _ _⟩
  rw[← Int.dvd_gcd_mul_iff_dvd_mul,Int.gcd_comm,hy.g1] at this;simpa using this
 have e:x.2=y.2:=Int.dvd_antisymm (by have:=hx.q1;omega) (by have:=hy.q1;omega) d1 d2;have e1:x.1=y.1:=by
  rw[e] at h;exact sbH (by have:=hy.q1;omega) h
 exact Prod.ext e1 e
theorem zyz {a b:Int}(hb:0 < b)(h1:a.natAbs < B13)(h2:b.natAbs < B13):m_ratio [.int a,.int b]=.ok (fr (low a b)):=zyA hb h1 h2
theorem zFw {a b:Int}(hb:0 < b)(h1:a.natAbs < N60)(h2:b.natAbs < N60):zbo (low a b):=⟨zfF hb,sav zk7 h1,sav zk6 h2⟩
theorem znW {n:Nat}(x:Fra):zbb (n+1) (fr x)=true:=by
 cases n<;>rfl
theorem zir {n:Nat}(fs:List Fra):(fs.map fr).all (zbb (n+1))=true:=by
 rw[sc8];exact saE.mpr fun x _=>znW x
theorem zys {n:Nat}(fs:List Fra):zbb (n+2) (.lst (fs.map fr))=true:=by
 unfold zbb;exact zir fs
theorem zFH {x y:Fra}:eqD (fr x) (fr y)=(x.1==y.1&&x.2==y.2):=by
 unfold fr zFE;simp [eqD,eqDs]
def flt (x y:Fra):Bool:=decide (x.1*y.2 < y.1*x.2)
def bnd (k:Nat):Nat:=2 ^ (201*k)
theorem zo8 {k:Nat}(h:k<=62):bnd k < B13:=by
 rw[znI];unfold bnd;exact sc9 (by decide) (by omega)
theorem zr8:N60<=2 ^ 200:=by decide
theorem zs8 (k:Nat):bnd (k+1)=bnd k*2 ^ 200+2 ^ 200*bnd k:=by
 unfold bnd;rw[show 201*(k+1)=201*k+201 by omega,scV];generalize 2 ^ (201*k)=z;omega
def un (s x:Fra):Fra:=(s.1*x.2+x.1*s.2,s.2*x.2)
structure Acc (k:Nat) (s:Fra):Prop where
 pos:0 < s.2
 b1:s.1.natAbs<=bnd k
 b2:s.2.natAbs<=bnd k
theorem Acc.step {k:Nat}{s x:Fra}(h:Acc k s)(hx:zbo x):Acc (k+1) (un s x):=by
 have h1:x.1.natAbs<=2 ^ 200:=sal (sbL hx.pN) zr8;have h2:x.2.natAbs<=2 ^ 200:=sal (sbL hx.qN) zr8;have m1:=sbi h.b1 h2;have m2:=sbi h1 h.b2;have m3:=sbi h.b2 h2;refine⟨sbV h.pos (by have:=hx.q1;omega),?_,?_⟩
 .show(s.1*x.2+x.1*s.2).natAbs<=_
  rw[zs8];refine sal (Int.natAbs_add_le _ _) ?_;rw[sbO,sbO];exact Nat.add_le_add m1 m2
 .show(s.2*x.2).natAbs<=_
  rw[zs8,sbO];exact sal m3 (Nat.le_add_right _ _)
theorem Acc.start:Acc 0 (0,1):=⟨by decide,by decide,by decide⟩
theorem zsF {s x:Fra}(hs:0 < s.2)(hx:1<=x.2):low ((low s.1 s.2).1*x.2+x.1*(low s.1 s.2).2) ((low s.1 s.2).2*x.2)=low (un s x).1 (un s x).2:=by
 have ht:=zfF (a:=s.1) hs;have hr:=zh6 (a:=s.1) (b:=s.2);generalize low s.1 s.2=t at *;have hq:0 < t.2*x.2:=sbV (by have:=ht.q1;omega) (by omega);have hq2:0 < (un s x).2:=sbV hs (by omega);have l1:=zfF (a:=t.1*x.2+x.1*t.2) hq;have r1:=zh6 (a:=t.1*x.2+x.1*t.2) (b:=t.2*x.2);have l2:=zfF (a:=(un s x).1) hq2;have r2:=zh6 (a:=(un s x).1) (b:=(un s x).2);generalize low (t.1*x.2+x.1*t.2) (t.2*x.2)=u at *;generalize low (un s x).1 (un s x).2=v at *;refine zyV l1 l2 ?_;have r2':v.1*(s.2*x.2)=(s.1*x.2+x.1*s.2)*v.2:=r2;have hk:0 < t.2*x.2*(s.2*x.2):=sbV hq hq2;have:u.1*v.2*(t.2*x.2*(s.2*x.2))=v.1*u.2*(t.2*x.2*(s.2*x.2)):=by
  have e1:u.1*v.2*(t.2*x.2*(s.2*x.2))=(u.1*(t.2*x.2))*v.2*(s.2*x.2):=by grind
  have e2:v.1*u.2*(t.2*x.2*(s.2*x.2))=(v.1*(s.2*x.2))*u.2*(t.2*x.2):=by grind
  rw[e1,e2,r1,r2']
  grind
 exact sbH (by omega) this
theorem zAI {k:Nat}{s x:Fra}(h:Acc k s)(hk:k<=61)(hx:zbo x):m_plus [fr (low s.1 s.2),fr x]=.ok (fr (low (un s x).1 (un s x).2)):=by
 have ht:=zfF (a:=s.1) h.pos;have a1:(low s.1 s.2).1.natAbs<=bnd k:=sal zk7 h.b1;have a2:(low s.1 s.2).2.natAbs<=bnd k:=sal zk6 h.b2;have hst:=zsF h.pos hx.q1;have hA:Acc k (low s.1 s.2):=⟨by have:=ht.q1;omega,a1,a2⟩
 have hB:=hA.step hx;rw[← hst];generalize low s.1 s.2=t at *;have b60:bnd k < B60:=saf (zo8 (by omega)) zpe;have bb:bnd (k+1) < B13:=zo8 (by omega);have x1:x.1.natAbs < B60:=saf hx.pN zbN;have x2:x.2.natAbs < B60:=saf hx.qN zbN;refine zzI (n:=2) (ds:=[fr t,fr x]) ?_;show zqn [.sh (fr t),.sh (fr x)]=_;unfold zqn;refine zmL (zmO ?_);refine(zho (xs:=[.int (t.1*x.2+x.1*t.2),.int (t.2*x.2)]) (zeD ?_ (zeD ?_ rfl))).trans ?_
 .refine(zdT (x:=.int (t.1*x.2)) (y:=.int (x.1*t.2)) ?_ ?_).trans rfl
  .exact(zdT (x:=.int t.1) (y:=.int x.2) rfl rfl).trans (zvH (zcS (sav a1 b60) x2))
  .exact(zdT (x:=.int x.1) (y:=.int t.2) rfl rfl).trans (zvH (zcS x1 (sav a2 b60)))
 .exact(zdT (x:=.int t.2) (y:=.int x.2) rfl rfl).trans (zvH (zcS (sav a2 b60) x2))
 .exact zyz hB.pos (sav hB.b1 bb) (sav hB.b2 bb)
theorem znQ {L:Sl}:∀ (xs:List Fra) (k:Nat) (s:Fra) (z:Sl),Acc k s->k+xs.length<=61->(∀ x∈xs,zbo x)->∃ z',zdH (zea 2) (zam (za4 1 (zak (zad (zag 1) (zad (zag 2) zar)) m_plus)) zaj) (xs.map fr) [L,.sh (fr (low s.1 s.2)),z] =
  .ok (.nx [L,.sh (fr (low (xs.foldl un s).1 (xs.foldl un s).2)),z'])/\Acc (k+xs.length) (xs.foldl un s)
 | [],k,s,z,h,_,_=>⟨z,rfl,h⟩
 | x::xs,k,s,z,h,hk,hx=>by
  have hx0:=hx x saq;simp only[sar] at hk;obtain⟨z',e,a⟩:=znQ xs (k+1) (un s x) (.sh (fr x)) (h.step hx0) (by omega) fun y hy=>hx y (sak _ hy);refine⟨z',?_,by rw[sar,show k+(xs.length+1)=k+1+xs.length by omega];exact a⟩;rw[saJ,zlm (ρ1:=[L,.sh (fr (low s.1 s.2)),.sh (fr x)]) (ρ2:=[L,.sh (fr (low (un s x).1 (un s x).2)),.sh (fr x)]) rfl]
  .exact e
  .exact zsp (zsn ((zho (xs:=[fr (low s.1 s.2),fr x]) rfl).trans (zAI h (by omega) hx0)))
theorem zDX {f:Ev->Res D}{tg:Ev->D->Res Ev}{s:Ev->Res Fl}{ρ:Ev}{ds:List D}(h:f ρ=.ok (.lst ds)):zsq f tg s ρ=zdH tg s ds ρ:=by unfold zsq;rw[h];rfl
def tot (xs:List Fra):Fra:=xs.foldl un (0,1)
theorem zCH {xs:List Fra}(hl:xs.length<=61)(hx:∀ x∈xs,zbo x):m_sum_of [.lst (xs.map fr)]=.ok (fr (low (tot xs).1 (tot xs).2)):=by
 obtain⟨z',e,a⟩:=znQ (L:=.sh (.lst (xs.map fr))) xs 0 (0,1) .no Acc.start (by omega) hx;refine zzI (n:=3) (ds:=[.lst (xs.map fr)]) ?_;show ziV [.sh (.lst (xs.map fr)),.no,.no]=_;unfold ziV;rw[zgb (ρ':=[.sh (.lst (xs.map fr)),.sh (fr (low 0 1)),.no]) rfl];refine(zgb ((zDX (ds:=xs.map fr) rfl).trans e)).trans ?_;exact zmL (zmO rfl)
theorem zqE {xs:List Fra}(hl:xs.length<=61)(hx:∀ x∈xs,zbo x):Acc xs.length (tot xs):=by
 obtain⟨z',e,a⟩:=znQ (L:=.no) xs 0 (0,1) .no Acc.start (by omega) hx;rw[sbS] at a;exact a
theorem zwb {tg:Ev->D->Res Ev}{body:Ev->Res Fl}(P:Ev->Prop):∀ {ds:List D},(∀ d∈ds,∀ ρ,P ρ->∃ ρ1 ρ2,tg ρ d=.ok ρ1/\body ρ1=.ok (.nx ρ2)/\P ρ2)->∀ ρ,P ρ->∃ ρ',zdH tg body ds ρ=.ok (.nx ρ')/\P ρ'
 | [],_,ρ,h=>⟨ρ,rfl,h⟩
 | d::r,hs,ρ,h=>by
  obtain⟨ρ1,ρ2,h1,h2,h3⟩:=hs d saq ρ h;obtain⟨ρ',h4,h5⟩:=zwb P (fun e he=>hs e (sak _ he)) ρ2 h3;exact⟨ρ',by rw[zlm h1 h2];exact h4,h5⟩
theorem zaD {α:Type}{a b:α}(h:a=b):a=b:=h
def zCS (t:Ev->Res Fl)(r:Fl):Res Fl:=match r with
 | .nx ρ'=>t ρ'
 | r=>.ok r
def zEK (i:Nat)(ρ:Ev)(d:D):Res Fl:=.ok (.nx (ρ.set i (.sh d)))
def zF2 (d:D):Res Fl:=.ok (.rt d)
def zBL (ρ:Ev)(_:D):Res Fl:=.ok (.nx ρ)
def ifK (s t:Ev->Res Fl)(ρ:Ev)(x:D):Res Fl:=match x with
 | .bl b=>if b=true then s ρ else t ρ
 | _=>.stuck
def zGe (i:Nat)(ρ:Ev)(d:D):Res Fl:=match d with
 | .lst ds=>.ok (.nx (ρ.set i (.ow (.lst ds))))
 | _=>.stuck
def zDj (s:Option Sl)(k:List D->Res Fl):Res Fl:=match s with
 | some (.ow (.lst ds))=>k ds
 | _=>.stuck
def zGi (i:Nat)(ρ:Ev)(ds:List D)(d:D):Res Fl:=if ds.length < line then .ok (.nx (ρ.set i (.ow (.lst (ds++[d]))))) else .stuck
def zEz (i:Nat)(ρ:Ev)(ds:List D)(d:D):Res Fl:=if zln d=true/\ds.length < line then .ok (.nx (ρ.set i (.ow (.lst (ds++[d]))))) else .stuck
def zFk (i:Nat)(ρ:Ev)(k:Ev->Res D)(ds:List D)(d:D):Res Fl:=(k ρ).bind (DL.putAt ρ i ds d)
def zvc (i:Nat)(ρ:Ev)(ds:List D)(d j:D):Res Fl:=if zln d=true then DL.putAt ρ i ds d j else .stuck
def zC2 (i:Nat)(ρ:Ev)(k:Ev->Res D)(ds:List D)(d:D):Res Fl:=(k (shr ρ)).bind (zvc i ρ ds d)
def zCr (is:List Nat)(ρ:Ev)(d:D):Res Fl:=match zc5 is.length d with
 | some ds=>.ok (.nx (zcC ρ is ds))
 | none=>.stuck
def zGc (i j:Nat)(ρ:Ev)(ds:List D):Res Fl:=match ds with
 | [x,y]=>.ok (.nx ((ρ.set i (.sh x)).set j (.sh y)))
 | _=>.stuck
def k2 (g:Ev->Res D)(op:D->D->Res D)(ρ:Ev)(x:D):Res D:=(g ρ).bind (op x)
def zxz (x:D)(xs:List D):Res (List D):=.ok (x::xs)
def zEt (fa:Ev->Res (List D))(ρ:Ev)(x:D):Res (List D):=(fa ρ).bind (zxz x)
def zFU (g:Ev->Res D)(ρ:Ev)(x:D):Res D:=match x with
 | .bl true=>g ρ
 | .bl false=>.ok (.bl false)
 | _=>.stuck
def orK (g:Ev->Res D)(ρ:Ev)(x:D):Res D:=match x with
 | .bl true=>.ok (.bl true)
 | .bl false=>g ρ
 | _=>.stuck
def zGf (x:D):Res D:=match x with
 | .bl b=>.ok (.bl (!b))
 | _=>.stuck
def zFx (f g:Ev->Res D)(ρ:Ev)(x:D):Res D:=match x with
 | .bl true=>f ρ
 | .bl false=>g ρ
 | _=>.stuck
def zFZ (s:Option Sl):Res D:=match s with
 | some (.sh d)=>.ok d
 | _=>.stuck
def zCQ (s:Sl):Sl:=match s with
 | .ow d=>.sh d
 | .ox _ ds=>.sh (.tup ds)
 | x=>x
def zCc (r:Fl):Res D:=match r with
 | .nx _=>.ok .non
 | .rt d=>.ok d
 | _=>.stuck
def osK (x:D):Res (Option Int):=match x with
 | .int i=>.ok (some i)
 | _=>.stuck
def zAv (x:D)(l:Option Int)(h:Option Int):Res D:=zpy x l h
def slK (hi:Ev->Res (Option Int))(ρ:Ev)(x:D)(l:Option Int):Res D:=(hi ρ).bind (zAv x l)
def zF1 (lo hi:Ev->Res (Option Int))(ρ:Ev)(x:D):Res D:=(lo ρ).bind (slK hi ρ x)
def zGh (tg:Ev->D->Res Ev)(s:Ev->Res Fl)(ρ:Ev)(d:D):Res Fl:=match d with
 | .lst ds=>zdH tg s ds ρ
 | _=>.stuck
def zEP (op':D->D->Res D)(h:Ev->Res D)(ρ:Ev)(y z:D):Res D:=match z with
 | .bl true=>(h ρ).bind (op' y)
 | .bl false=>.ok (.bl false)
 | _=>.stuck
def zFR (op op':D->D->Res D)(h:Ev->Res D)(ρ:Ev)(x y:D):Res D:=(op x y).bind (zEP op' h ρ y)
def chK (op op':D->D->Res D)(g h:Ev->Res D)(ρ:Ev)(x:D):Res D:=(g ρ).bind (zFR op op' h ρ x)
section
variable {s t:Ev->Res Fl}{f g h:Ev->Res D}{fa:Ev->Res (List D)}{ρ r:Ev}{i j:Nat}{d x y:D}{ds xs:List D}{op op':D->D->Res D}{a b:Int}
theorem zkw {α β:Type}{a:α}{k:α->Res β}:(Res.ok a).bind k=k a:=zaD rfl
theorem zgh:zam s t ρ=(s ρ).bind (zCS t):=zaD rfl
theorem zeM:zCS t (.nx ρ)=t ρ:=zaD rfl
theorem zri:zCS t (.rt d)=.ok (.rt d):=zaD rfl
theorem zrh:zCS t (.bk ρ)=.ok (.bk ρ):=zaD rfl
theorem zrg:zCS t (.ct ρ)=.ok (.ct ρ):=zaD rfl
theorem zls:zaj ρ=.ok (.nx ρ):=zaD rfl
theorem zp0:za4 i f ρ=(f ρ).bind (zEK i ρ):=zaD rfl
theorem zrf:zEK i ρ d=.ok (.nx (ρ.set i (.sh d))):=zaD rfl
theorem zwx:zbQ f ρ=(f (shr ρ)).bind zF2:=zaD rfl
theorem zrm:zF2 d=.ok (.rt d):=zaD rfl
theorem zrl:zFd ρ=.ok (.rt .non):=zaD rfl
theorem zrO:zks f ρ=(f (shr ρ)).bind (zBL ρ):=zaD rfl
theorem zoJ:zBL ρ d=.ok (.nx ρ):=zaD rfl
theorem zBp:sIf f s t ρ=(f (shr ρ)).bind (ifK s t ρ):=zaD rfl
theorem zwW:ifK s t ρ (.bl true)=s ρ:=zaD rfl
theorem zwV:ifK s t ρ (.bl false)=t ρ:=zaD rfl
theorem zwI:zqH i f ρ=(f ρ).bind (zGe i ρ):=zaD rfl
theorem zrs:zGe i ρ (.lst ds)=.ok (.nx (ρ.set i (.ow (.lst ds)))):=zaD rfl
theorem zxa:zc4 i f ρ=zDj ρ[i]? fun ds=>(f ρ).bind (zGi i ρ ds):=zaD rfl
theorem zrr {k:List D->Res Fl}:zDj (some (.ow (.lst ds))) k=k ds:=zaD rfl
theorem zc8 (h:decide (ds.length<=999)=true):zGi i ρ ds d=.ok (.nx (ρ.set i (.ow (.lst (ds++[d]))))):=if_pos (sav (of_decide_eq_true h) (by decide))
theorem zrQ:zyw i f ρ=zDj ρ[i]? fun ds=>(f (shr ρ)).bind (zEz i ρ ds):=zaD rfl
theorem zoM (hf:zln d=true)(h:decide (ds.length<=999)=true):zEz i ρ ds d=.ok (.nx (ρ.set i (.ow (.lst (ds++[d]))))):=if_pos ⟨hf,sav (of_decide_eq_true h) (by decide)⟩
theorem zwz:zu4 i f g ρ=zDj ρ[i]? fun ds=>(f ρ).bind (zFk i ρ g ds):=zaD rfl
theorem zrp:zFk i ρ g ds d=(g ρ).bind (DL.putAt ρ i ds d):=zaD rfl
theorem zro:zyv i f g ρ=zDj ρ[i]? fun ds=>(f (shr ρ)).bind (zC2 i ρ g ds):=zaD rfl
theorem zoz:zC2 i ρ g ds d=(g (shr ρ)).bind (zvc i ρ ds d):=zaD rfl
theorem zsW (hf:zln d=true):zvc i ρ ds d x=DL.putAt ρ i ds d x:=if_pos hf
theorem zwX:zzH i s ρ=s (unown i ρ):=zaD rfl
theorem zwj {is:List Nat}:zFc is f ρ=(f ρ).bind (zCr is ρ):=zaD rfl
theorem zwF:zxY i j fa ρ=(fa ρ).bind (zGc i j ρ):=zaD rfl
theorem zrq:zGc i j ρ [x,y]=.ok (.nx ((ρ.set i (.sh x)).set j (.sh y))):=zaD rfl
theorem zBB {o:D->Res D}:zaY f o ρ=(f ρ).bind o:=zaD rfl
theorem zw9:zac f g op ρ=(f ρ).bind (k2 g op ρ):=zaD rfl
theorem zw8:k2 g op ρ x=(g ρ).bind (op x):=zaD rfl
theorem zw7 {m:List D->Res D}:zak fa m ρ=(fa ρ).bind m:=zaD rfl
theorem zwO:zar ρ=.ok []:=zaD rfl
theorem zig:zad f fa ρ=(f ρ).bind (zEt fa ρ):=zaD rfl
theorem ziH:zEt fa ρ x=(fa ρ).bind (zxz x):=zaD rfl
theorem zoK:zxz x xs=.ok (x::xs):=zaD rfl
theorem zxb:zgY f g ρ=(f ρ).bind (zFU g ρ):=zaD rfl
theorem zrS:zFU g ρ (.bl true)=g ρ:=zaD rfl
theorem zrR:zFU g ρ (.bl false)=.ok (.bl false):=zaD rfl
theorem zBl:dOr f g ρ=(f ρ).bind (orK g ρ):=zaD rfl
theorem zwM:orK g ρ (.bl true)=.ok (.bl true):=zaD rfl
theorem zwL:orK g ρ (.bl false)=g ρ:=zaD rfl
theorem zwN:zdJ f ρ=(f ρ).bind zGf:=zaD rfl
theorem zrt {c:Bool}:zGf (.bl c)=.ok (.bl (!c)):=zaD rfl
theorem zwU:dIf h f g ρ=(h ρ).bind (zFx f g ρ):=zaD rfl
theorem zrM:zFx f g ρ (.bl true)=f ρ:=zaD rfl
theorem zrL:zFx f g ρ (.bl false)=g ρ:=zaD rfl
theorem zwi:zag i ρ=zFZ ρ[i]?:=zaD rfl
theorem zq8:zFZ (some (.sh d))=.ok d:=zaD rfl
theorem zFG:dC d ρ=.ok d:=zaD rfl
theorem zre:shr []=[]:=zaD rfl
theorem zwv {c:Sl}:shr (c::r)=zCQ c::shr r:=zaD rfl
theorem zrd:zCQ (.ow d)=.sh d:=zaD rfl
theorem zwu:zCQ (.ox j ds)=.sh (.tup ds):=zaD rfl
theorem zrc:zCQ (.sh d)=.sh d:=zaD rfl
theorem zrb:zCQ .no=.no:=zaD rfl
theorem znc {n:Nat}:zcD n s ds=(s (ds.map Sl.sh++sat (n-ds.length) .no)).bind zCc:=zaD rfl
theorem zrk:zCc (.rt d)=.ok d:=zaD rfl
theorem zrj:zCc (.nx ρ)=.ok .non:=zaD rfl
theorem zBk:zci f ρ=(f ρ).bind osK:=zaD rfl
theorem zwK:osK (.int a)=.ok (some a):=zaD rfl
theorem zBm:zfC ρ=.ok none:=zaD rfl
theorem zBh {lo hi:Ev->Res (Option Int)}:zjB f lo hi ρ=(f ρ).bind (zF1 lo hi ρ):=zaD rfl
theorem zwt {lo hi:Ev->Res (Option Int)}:zF1 lo hi ρ x=(lo ρ).bind (slK hi ρ x):=zaD rfl
theorem zws {hi:Ev->Res (Option Int)}{l:Option Int}:slK hi ρ x l=(hi ρ).bind (zAv x l):=zaD rfl
theorem zwr {l l':Option Int}:zAv (.lst ds) l l'=.ok (.lst (zmA ds l l')):=zaD rfl
theorem zwY {tg:Ev->D->Res Ev}:zsq f tg s ρ=(f ρ).bind (zGh tg s ρ):=zaD rfl
theorem zrN {tg:Ev->D->Res Ev}:zGh tg s ρ (.lst ds)=zdH tg s ds ρ:=zaD rfl
theorem zoL:zhK op op' f g h ρ=(f ρ).bind (chK op op' g h ρ):=zaD rfl
theorem zBq:chK op op' g h ρ x=(g ρ).bind (zFR op op' h ρ x):=zaD rfl
theorem zw4:zFR op op' h ρ x y=(op x y).bind (zEP op' h ρ y):=zaD rfl
theorem zw3:zEP op' h ρ y (.bl true)=(h ρ).bind (op' y):=zaD rfl
theorem zw2:zEP op' h ρ y (.bl false)=.ok (.bl false):=zaD rfl
theorem zwT {o:Int->Int->D}:iop (fun _ _=>true) o (.int a) (.int b)=.ok (o a b):=zaD rfl
theorem zxe:zca (.int a) (.int b)=.ok (.int (a+b)):=zaD rfl
theorem zf0 {es:List D}(h:decide (ds.length+es.length<=1000)=true):zca (.lst ds) (.lst es)=.ok (.lst (ds++es)):=if_pos (sal (of_decide_eq_true h) (by decide))
theorem zwP:znq (.int a)=.ok (.int (-a)):=zaD rfl
theorem zBo {m:D->Res D}:m1 m [x]=m x:=zaD rfl
theorem zBn {m:D->D->Res D}:m2 m [x,y]=m x y:=zaD rfl
theorem zrv:zgt (.lst ds)=.ok (.int ds.length):=zaD rfl
theorem zru:zgt (.tup ds)=.ok (.int ds.length):=zaD rfl
theorem zwn (h:decide (ds.length<=1000)=true):zcZ ds=.ok (.tup ds):=if_pos (sal (of_decide_eq_true h) (by decide))
theorem zwR (h:decide (ds.length<=1000)=true):zcP ds=.ok (.lst ds):=if_pos (sal (of_decide_eq_true h) (by decide))
theorem ze2:zcY "bool" (.non)=.ok (.bl false):=zaD rfl
theorem zfY {c:Bool}:zcY "bool" (.bl c)=.ok (.bl true):=zaD rfl
theorem ze4:zcY "bool" (.int a)=.ok (.bl false):=zaD rfl
theorem ze1 {z:Str}:zcY "bool" (.str z)=.ok (.bl false):=zaD rfl
theorem ze0:zcY "bool" (.tup ds)=.ok (.bl false):=zaD rfl
theorem ze3:zcY "bool" (.lst ds)=.ok (.bl false):=zaD rfl
theorem ze5 {ks:List Str}:zcY "bool" (.dic ks ds)=.ok (.bl false):=zaD rfl
theorem zfT:zcY "int" (.non)=.ok (.bl false):=zaD rfl
theorem zgN {c:Bool}:zcY "int" (.bl c)=.ok (.bl true):=zaD rfl
theorem zfV:zcY "int" (.int a)=.ok (.bl true):=zaD rfl
theorem zfS {z:Str}:zcY "int" (.str z)=.ok (.bl false):=zaD rfl
theorem zfR:zcY "int" (.tup ds)=.ok (.bl false):=zaD rfl
theorem zfU:zcY "int" (.lst ds)=.ok (.bl false):=zaD rfl
theorem zfW {ks:List Str}:zcY "int" (.dic ks ds)=.ok (.bl false):=zaD rfl
theorem zfM:zcY "str" (.non)=.ok (.bl false):=zaD rfl
theorem zgM {c:Bool}:zcY "str" (.bl c)=.ok (.bl false):=zaD rfl
theorem zfO:zcY "str" (.int a)=.ok (.bl false):=zaD rfl
theorem zfL {z:Str}:zcY "str" (.str z)=.ok (.bl true):=zaD rfl
theorem zfK:zcY "str" (.tup ds)=.ok (.bl false):=zaD rfl
theorem zfN:zcY "str" (.lst ds)=.ok (.bl false):=zaD rfl
theorem zfP {ks:List Str}:zcY "str" (.dic ks ds)=.ok (.bl false):=zaD rfl
theorem zed:zcY "tuple" (.non)=.ok (.bl false):=zaD rfl
theorem zeN {c:Bool}:zcY "tuple" (.bl c)=.ok (.bl false):=zaD rfl
theorem zef:zcY "tuple" (.int a)=.ok (.bl false):=zaD rfl
theorem zec {z:Str}:zcY "tuple" (.str z)=.ok (.bl false):=zaD rfl
theorem zeb:zcY "tuple" (.tup ds)=.ok (.bl true):=zaD rfl
theorem zee:zcY "tuple" (.lst ds)=.ok (.bl false):=zaD rfl
theorem zeg {ks:List Str}:zcY "tuple" (.dic ks ds)=.ok (.bl false):=zaD rfl
theorem zeQ:zcY "list" (.non)=.ok (.bl false):=zaD rfl
theorem zfQ {c:Bool}:zcY "list" (.bl c)=.ok (.bl false):=zaD rfl
theorem zeS:zcY "list" (.int a)=.ok (.bl false):=zaD rfl
theorem zeP {z:Str}:zcY "list" (.str z)=.ok (.bl false):=zaD rfl
theorem zeO:zcY "list" (.tup ds)=.ok (.bl false):=zaD rfl
theorem zeR:zcY "list" (.lst ds)=.ok (.bl true):=zaD rfl
theorem zeT {ks:List Str}:zcY "list" (.dic ks ds)=.ok (.bl false):=zaD rfl
theorem zeW:zcY "dict" (.non)=.ok (.bl false):=zaD rfl
theorem zfX {c:Bool}:zcY "dict" (.bl c)=.ok (.bl false):=zaD rfl
theorem zeY:zcY "dict" (.int a)=.ok (.bl false):=zaD rfl
theorem zeV {z:Str}:zcY "dict" (.str z)=.ok (.bl false):=zaD rfl
theorem zeU:zcY "dict" (.tup ds)=.ok (.bl false):=zaD rfl
theorem zeX:zcY "dict" (.lst ds)=.ok (.bl false):=zaD rfl
theorem zeZ {ks:List Str}:zcY "dict" (.dic ks ds)=.ok (.bl true):=zaD rfl
theorem zju:zoU (.non) .non=.ok (.bl true):=zaD rfl
theorem zic:zjC (.non) .non=.ok (.bl false):=zaD rfl
theorem zlu {c:Bool}:zoU (.bl c) .non=.ok (.bl false):=zaD rfl
theorem zjr {c:Bool}:zjC (.bl c) .non=.ok (.bl true):=zaD rfl
theorem zjw:zoU (.int a) .non=.ok (.bl false):=zaD rfl
theorem zie:zjC (.int a) .non=.ok (.bl true):=zaD rfl
theorem zjt {z:Str}:zoU (.str z) .non=.ok (.bl false):=zaD rfl
theorem zib {z:Str}:zjC (.str z) .non=.ok (.bl true):=zaD rfl
theorem zjs:zoU (.tup ds) .non=.ok (.bl false):=zaD rfl
theorem zia:zjC (.tup ds) .non=.ok (.bl true):=zaD rfl
theorem zjv:zoU (.lst ds) .non=.ok (.bl false):=zaD rfl
theorem zid:zjC (.lst ds) .non=.ok (.bl true):=zaD rfl
theorem zjx {ks:List Str}:zoU (.dic ks ds) .non=.ok (.bl false):=zaD rfl
theorem zif {ks:List Str}:zjC (.dic ks ds) .non=.ok (.bl true):=zaD rfl
theorem zbw (h:zcA a b=true):zbv (.int a) (.int b)=.ok (.int (a*b)):=if_pos h
theorem zwQ (h:(b==0)=false):zdW (.int a) (.int b)=.ok (.int (a.fmod b)):=zhy (fun z=>by rw[z] at h;cases h)
theorem zp1 (h:zgR a b=true):zqz (.int a) (.int b)=.ok (.int (a.fdiv b)):=if_pos h
theorem zra {is:List Nat}(h:(ds.length==is.length)=true):zCr is ρ (.lst ds)=.ok (.nx (zcC ρ is ds)):=by
 unfold zCr zc5;simp only[if_pos (eq_of_beq h)]
theorem zq9 {is:List Nat}(h:(ds.length==is.length)=true):zCr is ρ (.tup ds)=.ok (.nx (zcC ρ is ds)):=by
 unfold zCr zc5;simp only[if_pos (eq_of_beq h)]
theorem zBj {is:List Nat}:zcC ρ (i::is) (d::ds)=zcC (ρ.set i (.sh d)) is ds:=zaD rfl
theorem zww:zcC ρ [] ds=ρ:=zaD rfl
def unK (i:Nat)(ρ:Ev)(s:Option Sl):Ev:=match s with
 | some (.ow d)=>ρ.set i (.sh d)
 | _=>ρ
theorem zBf:unown i ρ=unK i ρ ρ[i]?:=zaD rfl
theorem zwm:unK i ρ (some (.ow d))=ρ.set i (.sh d):=zaD rfl
theorem zwl:unK i ρ (some (.sh d))=ρ:=zaD rfl
theorem zwk:unK i ρ (some .no)=ρ:=zaD rfl
theorem zfJ {n:Nat}{j:Int}(h:ixN ds.length j=some n):DL.putAt ρ i ds d (.int j)=.ok (.nx (ρ.set i (.ow (.lst (ds.set n d))))):=by
 unfold DL.putAt;simp only[h]
theorem zlt {x0:D}:dIx (.lst (x0::xs)) (.int 0)=.ok x0:=by
 unfold dIx;simp only[show atI (x0::xs) 0=some x0 from zbz (j:=0) rfl]
theorem zrC {x0:D}:dIx (.tup (x0::xs)) (.int 0)=.ok x0:=by
 unfold dIx;simp only[show atI (x0::xs) 0=some x0 from zbz (j:=0) rfl]
theorem zoF {x0 x1:D}:dIx (.lst (x0::x1::xs)) (.int 1)=.ok x1:=by
 unfold dIx;simp only[show atI (x0::x1::xs) 1=some x1 from zbz (j:=1) rfl]
theorem zrB {x0 x1:D}:dIx (.tup (x0::x1::xs)) (.int 1)=.ok x1:=by
 unfold dIx;simp only[show atI (x0::x1::xs) 1=some x1 from zbz (j:=1) rfl]
theorem zrK {x0 x1 x2:D}:dIx (.lst (x0::x1::x2::xs)) (.int 2)=.ok x2:=by
 unfold dIx;simp only[show atI (x0::x1::x2::xs) 2=some x2 from zbz (j:=2) rfl]
theorem zrA {x0 x1 x2:D}:dIx (.tup (x0::x1::x2::xs)) (.int 2)=.ok x2:=by
 unfold dIx;simp only[show atI (x0::x1::x2::xs) 2=some x2 from zbz (j:=2) rfl]
theorem zrJ {x0 x1 x2 x3:D}:dIx (.lst (x0::x1::x2::x3::xs)) (.int 3)=.ok x3:=by
 unfold dIx;simp only[show atI (x0::x1::x2::x3::xs) 3=some x3 from zbz (j:=3) rfl]
theorem zrz {x0 x1 x2 x3:D}:dIx (.tup (x0::x1::x2::x3::xs)) (.int 3)=.ok x3:=by
 unfold dIx;simp only[show atI (x0::x1::x2::x3::xs) 3=some x3 from zbz (j:=3) rfl]
theorem zrI {x0 x1 x2 x3 x4:D}:dIx (.lst (x0::x1::x2::x3::x4::xs)) (.int 4)=.ok x4:=by
 unfold dIx;simp only[show atI (x0::x1::x2::x3::x4::xs) 4=some x4 from zbz (j:=4) rfl]
theorem zry {x0 x1 x2 x3 x4:D}:dIx (.tup (x0::x1::x2::x3::x4::xs)) (.int 4)=.ok x4:=by
 unfold dIx;simp only[show atI (x0::x1::x2::x3::x4::xs) 4=some x4 from zbz (j:=4) rfl]
theorem zrH {x0 x1 x2 x3 x4 x5:D}:dIx (.lst (x0::x1::x2::x3::x4::x5::xs)) (.int 5)=.ok x5:=by
 unfold dIx;simp only[show atI (x0::x1::x2::x3::x4::x5::xs) 5=some x5 from zbz (j:=5) rfl]
theorem zrx {x0 x1 x2 x3 x4 x5:D}:dIx (.tup (x0::x1::x2::x3::x4::x5::xs)) (.int 5)=.ok x5:=by
 unfold dIx;simp only[show atI (x0::x1::x2::x3::x4::x5::xs) 5=some x5 from zbz (j:=5) rfl]
theorem zrG {x0 x1 x2 x3 x4 x5 x6:D}:dIx (.lst (x0::x1::x2::x3::x4::x5::x6::xs)) (.int 6)=.ok x6:=by
 unfold dIx;simp only[show atI (x0::x1::x2::x3::x4::x5::x6::xs) 6=some x6 from zbz (j:=6) rfl]
theorem zrF {x0 x1 x2 x3 x4 x5 x6 x7:D}:dIx (.lst (x0::x1::x2::x3::x4::x5::x6::x7::xs)) (.int 7)=.ok x7:=by
 unfold dIx;simp only[show atI (x0::x1::x2::x3::x4::x5::x6::x7::xs) 7=some x7 from zbz (j:=7) rfl]
theorem zrE {x0 x1 x2 x3 x4 x5 x6 x7 x8:D}:dIx (.lst (x0::x1::x2::x3::x4::x5::x6::x7::x8::xs)) (.int 8)=.ok x8:=by
 unfold dIx;simp only[show atI (x0::x1::x2::x3::x4::x5::x6::x7::x8::xs) 8=some x8 from zbz (j:=8) rfl]
theorem zrD {x0 x1 x2 x3 x4 x5 x6 x7 x8 x9:D}:dIx (.lst (x0::x1::x2::x3::x4::x5::x6::x7::x8::x9::xs)) (.int 9)=.ok x9:=by
 unfold dIx;simp only[show atI (x0::x1::x2::x3::x4::x5::x6::x7::x8::x9::xs) 9=some x9 from zbz (j:=9) rfl]
theorem zoE {x0 x1 x2 x3 x4 x5 x6 x7 x8 x9 x10:D}:dIx (.lst (x0::x1::x2::x3::x4::x5::x6::x7::x8::x9::x10::xs)) (.int 10)=.ok x10:=by
 unfold dIx;simp only[show atI (x0::x1::x2::x3::x4::x5::x6::x7::x8::x9::x10::xs) 10=some x10 from zbz (j:=10) rfl]
theorem zoD {x0 x1 x2 x3 x4 x5 x6 x7 x8 x9 x10 x11:D}:dIx (.lst (x0::x1::x2::x3::x4::x5::x6::x7::x8::x9::x10::x11::xs)) (.int 11)=.ok x11:=by
 unfold dIx;simp only[show atI (x0::x1::x2::x3::x4::x5::x6::x7::x8::x9::x10::x11::xs) 11=some x11 from zbz (j:=11) rfl]
theorem zoC {x0 x1 x2 x3 x4 x5 x6 x7 x8 x9 x10 x11 x12:D}:dIx (.lst (x0::x1::x2::x3::x4::x5::x6::x7::x8::x9::x10::x11::x12::xs)) (.int 12)=.ok x12:=by
 unfold dIx;simp only[show atI (x0::x1::x2::x3::x4::x5::x6::x7::x8::x9::x10::x11::x12::xs) 12=some x12 from zbz (j:=12) rfl]
theorem zoB {x0 x1 x2 x3 x4 x5 x6 x7 x8 x9 x10 x11 x12 x13:D}:dIx (.lst (x0::x1::x2::x3::x4::x5::x6::x7::x8::x9::x10::x11::x12::x13::xs)) (.int 13)=.ok x13:=by
 unfold dIx;simp only[show atI (x0::x1::x2::x3::x4::x5::x6::x7::x8::x9::x10::x11::x12::x13::xs) 13=some x13 from zbz (j:=13) rfl]
theorem zBA:((0:Nat):Int)=0:=zaD rfl
theorem zBz:((1:Nat):Int)=1:=zaD rfl
theorem zBy:((2:Nat):Int)=2:=zaD rfl
theorem zBx:((3:Nat):Int)=3:=zaD rfl
theorem zBw:((4:Nat):Int)=4:=zaD rfl
theorem zBv:((5:Nat):Int)=5:=zaD rfl
theorem zBu:((6:Nat):Int)=6:=zaD rfl
theorem zBt:((7:Nat):Int)=7:=zaD rfl
theorem zBs:((8:Nat):Int)=8:=zaD rfl
theorem zBr:((9:Nat):Int)=9:=zaD rfl
theorem zw6:((10:Nat):Int)=10:=zaD rfl
theorem zw5:((11:Nat):Int)=11:=zaD rfl
theorem zwE {x0:D}:DL.putAt ρ i (x0::xs) d (.int 0)=.ok (.nx (ρ.set i (.ow (.lst (d::xs))))):=by
 refine(zfJ (n:=0) ?_).trans rfl;unfold ixN;rw[if_pos (by decide),if_pos (by simp only[sar];omega)];rfl
theorem zwD {x0 x1:D}:DL.putAt ρ i (x0::x1::xs) d (.int 1)=.ok (.nx (ρ.set i (.ow (.lst (x0::d::xs))))):=by
 refine(zfJ (n:=1) ?_).trans rfl;unfold ixN;rw[if_pos (by decide),if_pos (by simp only[sar];omega)];rfl
theorem zwC {x0 x1 x2:D}:DL.putAt ρ i (x0::x1::x2::xs) d (.int 2)=.ok (.nx (ρ.set i (.ow (.lst (x0::x1::d::xs))))):=by
 refine(zfJ (n:=2) ?_).trans rfl;unfold ixN;rw[if_pos (by decide),if_pos (by simp only[sar];omega)];rfl
theorem zwB {x0 x1 x2 x3:D}:DL.putAt ρ i (x0::x1::x2::x3::xs) d (.int 3)=.ok (.nx (ρ.set i (.ow (.lst (x0::x1::x2::d::xs))))):=by
 refine(zfJ (n:=3) ?_).trans rfl;unfold ixN;rw[if_pos (by decide),if_pos (by simp only[sar];omega)];rfl
theorem zwA {x0 x1 x2 x3 x4:D}:DL.putAt ρ i (x0::x1::x2::x3::x4::xs) d (.int 4)=.ok (.nx (ρ.set i (.ow (.lst (x0::x1::x2::x3::d::xs))))):=by
 refine(zfJ (n:=4) ?_).trans rfl;unfold ixN;rw[if_pos (by decide),if_pos (by simp only[sar];omega)];rfl
theorem zwG:zs4 (.int 10) (.int 60)=.ok (.int (N60:Int)):=by
 have e:(10:Int) ^ (60:Int).toNat=(N60:Int):=by decide
 rw[← e];rfl
end
def zDQ (fa:Ev->Res (List D))(ρ:Ev)(x:D):Res D:=match x with
 | .str z=>(fa ρ).bind (zqY z)
 | _=>.stuck
theorem zrw {f:Ev->Res D}{fa:Ev->Res (List D)}{ρ:Ev}:zxw f fa ρ=(f ρ).bind (zDQ fa ρ):=zaD rfl
theorem zoA {fa:Ev->Res (List D)}{ρ:Ev}{z:Str}:zDQ fa ρ (.str z)=(fa ρ).bind (zqY z):=zaD rfl
def zF3 (g:Ev->Res D)(ρ:Ev)(x:D):Res D:=match x with
 | .lst ds=>(g ρ).bind (zz0 (.lst ds))
 | _=>.stuck
theorem zwy {f g:Ev->Res D}{ρ:Ev}:zsr f g ρ=(f ρ).bind (zF3 g ρ):=zaD rfl
theorem zrn {g:Ev->Res D}{ρ:Ev}{ds:List D}:zF3 g ρ (.lst ds)=(g ρ).bind (zz0 (.lst ds)):=zaD rfl
theorem zsO {α:Type}{x:α}:∀ {n:Nat},(sat n [x]).flatten=sat n x
 | 0=>rfl
 | n+1=>by rw[saX,sbQ,zsO,saX];rfl
theorem zoy {x:D}{k:Int}(h:(decide (0<=k)&&decide (k<=1000))=true):zz0 (.lst [x]) (.int k)=.ok (.lst (sat k.toNat x)):=by
 simp only[saF,decide_eq_true_eq] at h;unfold zz0;have:([x]:List D).length*k.toNat<=line/\-9223372036854775808<=k/\k < 9223372036854775808:=⟨by
  have h2:k.toNat<=1000:=by omega
  show 1*k.toNat<=line;have:(1000:Nat)<=line:=by decide
  omega,by omega,by omega⟩
 simp only[if_pos this,zsO]
end Com
local macro_rules | `(tactic| open_line with[$xs,*])=>`(tactic| simp only[zkw,zgh,zeM,zri,zrh,zrg,zls,zp0,zrf,zwx,zrm,zrl,zrO,zoJ,zBp,zwW,zwV,zwI,zrs,zxa,zrr,zrQ,zwz,zrp,zro,zoz,zwX,zwj,zwF,zrq,zBB,zw9,zw8,zw7,zwO,zig,ziH,zoK,zxb,zrS,zrR,zBl,zwM,zwL,zwN,zrt,zwU,zrM,zrL,zwi,zq8,zFG,zre,zwv,zrd,zrc,zrb,znc,zrk,zrj,zBk,zwK,zBm,zBh,zwt,zws,zwr,zwY,zrN,zoL,zBq,zw4,zw3,zw2,zwT,zxe,zwP,zBo,zBn,zrv,zru,zwG,zsZ,zjU,saJ,sbA,sar,sci,saX,sde,sch,sdD,sbU,sa9,sdi,sdj,sdA,Nat.reduceSub,Nat.reduceAdd,Nat.add_zero,sbS,Bool.not_true,Bool.not_false,zwn,zwR,zf0,zc8,zoM,zwQ,zra,zq9,zBj,zww,zBf,zwm,zwl,zwk,zlt,zoF,zrK,zrJ,zrI,zrH,zrG,zrF,zrE,zrD,zoE,zoD,zoC,zoB,zrC,zrB,zrA,zrz,zry,zrx,decide_true,decide_false,Nat.reduceLeDiff,Nat.reduceBEq,Int.reduceBEq,beq_self_eq_true,DL.dOne,DL.mYes,ze2,zfY,ze4,ze1,ze0,ze3,ze5,zfT,zgN,zfV,zfS,zfR,zfU,zfW,zfM,zgM,zfO,zfL,zfK,zfN,zfP,zed,zeN,zef,zec,zeb,zee,zeg,zeQ,zfQ,zeS,zeP,zeO,zeR,zeT,zeW,zfX,zeY,zeV,zeU,zeX,zeZ,zju,zic,zlu,zjr,zjw,zie,zjt,zib,zjs,zia,zjv,zid,zjx,zif,zBA,zBz,zBy,zBx,zBw,zBv,zBu,zBt,zBs,zBr,zw6,zw5,Int.reduceLT,Int.reduceLE,Int.reduceSub,Int.reduceAdd,Int.reduceMul,Int.reduceNeg,zrw,zoA,zwE,zwD,zwC,zwB,zwA,zwy,zrn,zoy,Int.reduceToNat,sc1,$[$xs:term],*])
namespace Com
open PySem L2 DL
noncomputable def zg4:Ev->Res Fl :=
 (zam (sIf (dOr (zdJ (zaY (zag 0) (zcY "str"))) (zdJ (zhK dLe dLe (dC (.int 1)) (zak (zad (zag 0) zar) (m1 zgt)) (dC (.int 8)))))
 (zam (zbQ (dC (.bl false)))
 zaj)
 zaj)
 (zam (zbQ (zak (zad (zes 1 [] (zEI (zag 0)) (zea 0) mYes (zac (zag 0) (dC (.str "abcdefghijklmnopqrstuvwxyz")) dIn)) zar) (m1 zCg)))
 zaj))
def zcH:List D->Res D:=zcD 1 zg4
noncomputable def zcV:Ev->Res Fl :=
 (zam (sIf (dOr (zdJ (zaY (zag 0) (zcY "tuple"))) (zac (zak (zad (zag 0) zar) (m1 zgt)) (dC (.int 2)) dNe))
 (zam (zbQ (dC (.bl false)))
 zaj)
 zaj)
 (zam (sIf (dOr (zdJ (zak (zad (zac (zag 0) (dC (.int 0)) dIx) zar) zbV)) (zdJ (zak (zad (zac (zag 0) (dC (.int 1)) dIx) zar) zbV)))
 (zam (zbQ (dC (.bl false)))
 zaj)
 zaj)
 (zam (zbQ (zgY (zac (zac (zag 0) (dC (.int 1)) dIx) (dC (.int 1)) dGe) (zac (zak (zad (zac (zag 0) (dC (.int 0)) dIx) (zad (zac (zag 0) (dC (.int 1)) dIx) zar)) za3) (dC (.int 1)) dEq)))
 zaj)))
def zcT:List D->Res D:=zcD 1 zcV
def abc:Str:="abcdefghijklmnopqrstuvwxyz"
def zq1 (c:Nat):Bool:=occ ⟨#[c]⟩ abc
def nameB (z:Str):Bool:=decide (1<=z.length)&&(decide (z.length<=8)&&z.cps.toList.all zq1)
def zFv:D->Bool
 | .str z=>nameB z
 | _=>false
def fit:D->Bool
 | .str z=>decide (z.length<=line)
 | _=>true
theorem zqe {b:Ev}{tg:Ev->D->Res Ev}{tt fe:Ev->Res D}{F:D->D}:∀ {ds:List D},(∀ d∈ds,∃ ρ1,tg b d=.ok ρ1/\tt ρ1=.ok (.bl true)/\fe ρ1=.ok (F d))->zcf b tg tt fe ds=.ok (ds.map F)
 | [],_=>rfl
 | d::r,h=>by
  obtain⟨ρ1,h1,h2,h3⟩:=h d saq;rw[zgZ h1 h2 h3,zqe (fun e he=>h e (sak _ he))];rfl
theorem zlU {α:Type}(F:α->Bool):∀ (cs:List α),zek (cs.map fun c=>D.bl (F c))=some (cs.map F)
 | []=>rfl
 | c::r=>by
  show(zek (r.map fun c=>D.bl (F c))).map (F c::·)=_;rw[zlU F r];rfl
theorem ztV {z:Str}(hz:z.length<=line):zes 1 [] (zEI (zag 0)) (zea 0) mYes (zac (zag 0) (dC (.str "abcdefghijklmnopqrstuvwxyz")) dIn) [.sh (.str z)]=.ok (.lst (z.cps.toList.map fun c=>.bl (zq1 c))):=by
 have hl:(zjJ z).length<=line:=by rw[zi7];exact hz
 unfold zes;show(if(zjJ z).length<=line then _ else _)=_;rw[if_pos hl];have:zcf (zel 1 [] [.sh (.str z)]) (zea 0) mYes (zac (zag 0) (dC (.str "abcdefghijklmnopqrstuvwxyz")) dIn) (zjJ z)=.ok (z.cps.toList.map fun c=>D.bl (zq1 c)):=by
  unfold zjJ
  induction z.cps.toList with
  | nil=>rfl
  | cons c r ih =>
   rw[saJ,zgZ (x:=.bl (zq1 c)) rfl rfl rfl,ih];rfl
 rw[this]
theorem zt2 {d:D}(h:fit d=true):zcH [d]=.ok (.bl (zFv d)):=by
 cases d with
 | str z =>
  have hz:z.length<=line:=of_decide_eq_true h;have hlen:zgt (.str z)=.ok (.int z.length):=if_pos hz;show zcD 1 zg4 _=.ok (.bl (nameB z));unfold nameB
  by_cases h1:1<=z.length
  .by_cases h8:z.length<=8
   .have e1:decide ((1:Int)<=(z.length:Int))=true:=decide_eq_true (by omega)
    have e2:decide ((z.length:Int)<=8)=true:=decide_eq_true (by omega);open_line with[zg4,hlen,e1,e2,ztV hz,zCg,zlU,decide_eq_true h1,decide_eq_true h8,sbz]
    simp [sc8,Function.comp_def]
   .have e1:decide ((1:Int)<=(z.length:Int))=true:=decide_eq_true (by omega)
    have e2:decide ((z.length:Int)<=8)=false:=decide_eq_false (by omega);open_line with[zg4,hlen,e1,e2,decide_eq_true h1,decide_eq_false h8,sa5,sb0]
  .have e1:decide ((1:Int)<=(z.length:Int))=false:=decide_eq_false (by omega)
   open_line with[zg4,hlen,e1,decide_eq_false h1,sa5]
 | ob k _=>cases k<;>rfl
 | _=>rfl
def zd6:D->Bool
 | .tup [.int p,.int q]=>decide (1<=q)&&(saH p q==1)
 | _=>false
theorem zEd {g:Nat}:((g:Int)==1)=(g==1):=by
 cases h:(g==1) with
 | true=>rw[eq_of_beq h];rfl
 | false =>
  have:g≠1:=fun z=>by rw[z] at h;cases h
  exact beq_eq_false_iff_ne.mpr (by omega)
theorem zzB {xs:List D}:(∃ x y,xs=[x,y])∨xs.length≠2:=by
 match xs with
 | []=>exact .inr (by decide)
 | [x]=>exact .inr (by simp)
 | [x,y]=>exact .inl ⟨x,y,rfl⟩
 | x::y::z::r=>exact .inr (by simp)
theorem zst:∀ {xs:List D},xs.length≠2->zd6 (.tup xs)=false
 | [],_=>rfl
 | [x],_=>by cases x<;>rfl
 | [x,y],h=>absurd rfl h
 | x::y::z::r,_=>by cases x<;>cases y<;>rfl
theorem zmQ {x y:D}:zd6 (.tup [x,y])=(isI x&&(isI y&&zd6 (.tup [x,y]))):=by
 cases x<;>cases y<;>rfl
theorem zjX (d:D):zcT [d]=.ok (.bl (zd6 d)):=by
 cases d with
 | tup xs =>
  rcases zzB (xs:=xs) with⟨x,y,rfl⟩ | h
  .rw[zmQ]
   show zcD 1 zcV _=_;cases hx:isI x with
   | false=>open_line with[zcV,zd9,hx,sa5]
   | true =>
    cases hy:isI y with
    | false=>open_line with[zcV,zd9,hx,hy,sa5,sbz]
    | true =>
     cases x<;>first | (cases hx;done) | skip
     cases y<;>first | (cases hy;done) | skip
     rename_i p q;show _=Res.ok (D.bl (decide (1<=q)&&(saH p q==1)))
     by_cases hq:1<=q
     .open_line with[zcV,zd9,hx,hy,ziS,sbz,decide_eq_true hq,zEd]
     .open_line with[zcV,zd9,hx,hy,ziS,sbz,decide_eq_false hq,sa5]
  .have e2:((xs.length:Int)==2)=false:=beq_eq_false_iff_ne.mpr (by omega)
   rw[zst h];show zcD 1 zcV _=_;open_line with[zcV,e2]
 | ob k _=>cases k<;>rfl
 | _=>rfl
theorem zii {α:Type}{F:α->D}{xs:List α}{lo hi:Option Int}:zmA (xs.map F) lo hi=((xs.drop (HT.sIx xs.length 0 lo)).take (HT.sIx xs.length xs.length hi-HT.sIx xs.length 0 lo)).map F:=by
 unfold zmA;rw[sab,← List.map_drop,← List.map_take]
theorem zBW {xs:List D}{lo hi:Option Int}{d:D}(h:d∈zmA xs lo hi):d∈xs:=List.mem_of_mem_drop (sda h)
theorem zog {α:Type}{xs:List α}{n:Nat}{a y:α}(h:y∈xs.set n a):y=a∨y∈xs:=by
 rcases List.mem_or_eq_of_mem_set h with h | h
 .exact .inr h
 .exact .inl h
section
variable {α β:Type}
theorem zgi {x:Exn}{f:α->Res β}:(Res.exn x:Res α).bind f=.exn x:=zaD rfl
end
def zCt (hit:Str->Bool)(ni:Nat)(sh:Ev->Res Fl)(ρ:Ev)(r:Res Fl):Res Fl:=match r with
 | .exn x=>if hit x.cls=true then(sh (ρ.set ni (.sh (zxZ x)))).bind (zCd ni) else .stuck
 | r=>r
theorem zsT {g:Ev->Res Fl}{hit:Str->Bool}{ni:Nat}{sh:Ev->Res Fl}{ρ:Ev}:zCb g hit ni sh ρ=zCt hit ni sh ρ (g ρ):=zaD rfl
theorem zBg {hit:Str->Bool}{ni:Nat}{sh:Ev->Res Fl}{ρ:Ev}{r:Fl}:zCt hit ni sh ρ (.ok r)=.ok r:=zaD rfl
theorem zwJ {ni:Nat}{ρ:Ev}:zCd ni (.nx ρ)=.ok (.nx (ρ.set ni .no)):=zaD rfl
def zCR (i:Nat)(m:List D->Res D)(ρ:Ev)(r:Res (List D)):Res Fl:=match r with
 | .ok ds=>(m ds).bind (zEK i ρ)
 | _=>.stuck
theorem zox {i:Nat}{fa:Ev->Res (List D)}{m:List D->Res D}{ρ:Ev}:zu3 i fa m ρ=zCR i m ρ (fa ρ):=zaD rfl
theorem zkG {i:Nat}{m:List D->Res D}{ρ:Ev}{ds:List D}:zCR i m ρ (.ok ds)=(m ds).bind (zEK i ρ):=zaD rfl
def zDY (tg:Ev->D->Res Ev)(s:Ev->Res Fl)(ρ:Ev)(ds:List D):Res Fl:=zdH tg s ds ρ
def zCL (d:D):Res (List D):=match d with
 | .lst ds=>.ok (zaW 0 ds)
 | _=>.stuck
def zCK (d:D):Res (List D):=match d with
 | .lst ds=>.ok ds
 | _=>.stuck
def zCJ (d:D):Res (List D):=match d with
 | .tup ds=>.ok ds
 | _=>.stuck
def ziR (n:Nat)(fr:List Nat)(tg:Ev->D->Res Ev)(tt fe:Ev->Res D)(ρ:Ev)(ds:List D):Res D:=if ds.length<=line then match zcf (zel n fr ρ) tg tt fe ds with
  | .ok es=>.ok (.lst es)
  | _=>.stuck
 else .stuck
def liK (fe:Ev->Res D)(ρ:Ev)(x:D):Res D:=match x with
 | .lst ds=>(fe ρ).bind (zxx (.lst ds))
 | _=>.stuck
def zxA (x:D)(xs:List D):Res (List D):=.ok (x::xs)
def frK (fa:Ev->Res (List D))(ρ:Ev)(x:D):Res (List D):=match x with
 | .lst ds=>(fa ρ).bind (zxA (.lst ds))
 | _=>.stuck
theorem zzT {x:D}{xs:List D}:zxA x xs=.ok (x::xs):=zaD rfl
def zy8 (tg:Ev->D->Res Ev)(s:Ev->Res Fl)(ρ:Ev)(d:D):Res Fl:=match d with
 | .int j=>if -4611686018427387904<=j/\j < 4611686018427387904 then zdH tg s (intsFrom 0 j.toNat) ρ else .stuck
 | _=>.stuck
section
variable {s t:Ev->Res Fl}{f g h:Ev->Res D}{src:Ev->Res (List D)}{fa:Ev->Res (List D)}{ρ r:Ev}{i j n:Nat}{d x y:D}{ds es xs:List D}{a b:Int}{tg:Ev->D->Res Ev}{tt fe:Ev->Res D}{fr:List Nat}
theorem zoI:zhq src tg s ρ=(src ρ).bind (zDY tg s ρ):=zaD rfl
theorem zoH:zDY tg s ρ ds=zdH tg s ds ρ:=zaD rfl
theorem zow:zty f ρ=(f ρ).bind zCL:=zaD rfl
theorem zkF:zCL (.lst ds)=.ok (zaW 0 ds):=zaD rfl
theorem zwq:zyq f ρ=(f ρ).bind zCK:=zaD rfl
theorem zsV:zCK (.lst ds)=.ok ds:=zaD rfl
theorem zwp:zGD f ρ=(f ρ).bind zCJ:=zaD rfl
theorem zsU:zCJ (.tup ds)=.ok ds:=zaD rfl
theorem zrP:zes n fr src tg tt fe ρ=(src ρ).bind (ziR n fr tg tt fe ρ):=zaD rfl
theorem zzW {c f:Str}{ks:List Str}:zGT f (.ob (.ins c ks) ds)=(match zqx f ks ds with | some d=>.ok d | none=>.stuck):=zaD rfl
theorem zw1 {f k:Str}{ks:List Str}:zqx f (k::ks) (d::ds)=if f=k then some d else zqx f ks ds:=zaD rfl
theorem zw0 {f:Str}:zqx f (f::ks) (d::ds)=some d:=by unfold zqx;rw[if_pos rfl]
theorem zwZ {c:Str}{ks:List Str}(h:(ds.length==ks.length)=true):zGJ c ks ds=.ok (.ob (.ins c ks) ds):=if_pos (eq_of_beq h)
theorem zEa:zBS f g ρ=(f ρ).bind (liK g ρ):=zaD rfl
theorem zzR:liK g ρ (.lst ds)=(g ρ).bind (zxx (.lst ds)):=zaD rfl
theorem zhr {is:List Nat}(h:(ds.length==is.length)=true):zff is ρ (.tup ds)=.ok (zcC ρ is ds):=by
 show(match (if ds.length=is.length then some ds else none) with | some ds=>Res.ok (zcC ρ is ds) | none=>.stuck)=_;rw[if_pos (eq_of_beq h)]
theorem zzV:aFr f fa ρ=(f ρ).bind (frK fa ρ):=zaD (by unfold aFr;cases f ρ with | ok x=>cases x<;>rfl | _=>rfl)
theorem zzU:frK fa ρ (.lst ds)=(fa ρ).bind (zxA (.lst ds)):=zaD rfl
theorem zwH:zFe i j fa ρ=(fa ρ).bind (zGd i j ρ):=zaD rfl
theorem zsY:zCU i j ρ=zBX i j ρ ρ[i]?:=zaD rfl
theorem zp2:zBX i j ρ (some (.ox j ds))=.ok (.nx (ρ.set i (.ox j (ds.set j (.lst []))))):=if_pos rfl
theorem zEc:zea i ρ d=.ok (ρ.set i (.sh d)):=zaD rfl
theorem zoG:zu5 f tg s ρ=(f (shr ρ)).bind (zy8 tg s ρ):=zaD rfl
theorem zot {k:Nat}(h:k<=1000000):zy8 tg s ρ (.int (k:Int))=zdH tg s (intsFrom 0 k) ρ:=by
 unfold zy8;dsimp only;rw[if_pos ⟨by omega,by omega⟩,sbt]
theorem zzP {l h:Option Int}(c:(HT.sIx ds.length 0 l==0&&HT.sIx ds.length ds.length h==ds.length)=false):zAv (.tup ds) l h=.ok (.tup (zmA ds l h)):=by
 show(if _ then _ else _)=_;rw[if_neg (fun z=>by rw[z.1,z.2] at c;simp at c)]
theorem zxc {x:D}(h:decide (ds.length+es.length<=1000)=true):zca (.tup (x::ds)) (.tup es)=.ok (.tup (x::ds++es)):=by
 refine if_pos ⟨rfl,?_⟩;have:=of_decide_eq_true h;show ds.length+1+es.length<=line;have:(1001:Nat)<=line:=by decide
 omega
theorem zxd {x y:Str}(h:decide (x.length+y.length<=1000)=true):zca (.str x) (.str y)=.ok (.str (x++y)):=if_pos (sal (of_decide_eq_true h) (by decide))
theorem zwS {z:Str}(h:decide (z.length<=1000)=true):zgt (.str z)=.ok (.int z.length):=if_pos (sal (of_decide_eq_true h) (by decide))
theorem zD8:zGS (.int a) (.int b)=.ok (.int (if b > a then b else a)):=zaD rfl
theorem zEb:zz1 (.bl true)=.ok (.int 1):=zaD rfl
theorem zzS:zz1 (.bl false)=.ok (.int 0):=zaD rfl
theorem zD9:zih (.lst ds)=.ok (.lst ds):=zaD rfl
theorem zzQ:zih (.tup ds)=.ok (.lst ds):=zaD rfl
theorem zhG:zs4 (.int 10) (.int 18)=.ok (.int 1000000000000000000):=zaD rfl
theorem zD7:zs4 (.int 10) (.int 9)=.ok (.int 1000000000):=zaD rfl
theorem zf4 {F:D->D}(hl:ds.length<=1000000)(h:∀ d∈ds,∃ ρ1,tg (zel n fr ρ) d=.ok ρ1/\tt ρ1=.ok (.bl true)/\fe ρ1=.ok (F d)):ziR n fr tg tt fe ρ ds=.ok (.lst (ds.map F)):=by
 unfold ziR;rw[if_pos (show ds.length<=line from hl),zqe h]
theorem zlN {B:Ev}{F:D->D}{p:D->Bool}:∀ {ds:List D},(∀ d∈ds,∃ ρ1,tg B d=.ok ρ1/\tt ρ1=.ok (.bl (p d))/\(p d=true->fe ρ1=.ok (F d)))->zcf B tg tt fe ds=.ok ((ds.filter p).map F)
 | [],_=>rfl
 | d::ds,h=>by
  obtain⟨ρ1,h1,h2,h3⟩:=h d saq;have ih:=zlN (ds:=ds) fun d hd=>h d (sak _ hd);unfold zcf;rw[h1,bok,h2,bok];cases hp:p d with
  | true =>
   show(fe ρ1).bind _=_;rw[h3 hp,bok,ih,bok,List.filter_cons_of_pos hp];rfl
  | false =>
   show zcf B tg tt fe ds=_;rw[ih,List.filter_cons_of_neg (by rw[hp];decide)]
theorem zlL {F:D->D}{p:D->Bool}(hl:ds.length<=1000000)(h:∀ d∈ds,∃ ρ1,tg (zel n fr ρ) d=.ok ρ1/\tt ρ1=.ok (.bl (p d))/\(p d=true->fe ρ1=.ok (F d))):ziR n fr tg tt fe ρ ds=.ok (.lst ((ds.filter p).map F)):=by
 unfold ziR;rw[if_pos (show ds.length<=line from hl),zlN h]
end
end Com
local macro_rules | `(tactic| open_line with[$xs,*])=>`(tactic| simp only[zkw,zgh,zeM,zri,zrh,zrg,zls,zp0,zrf,zwx,zrm,zrl,zrO,zoJ,zBp,zwW,zwV,zwI,zrs,zxa,zrr,zrQ,zwz,zrp,zro,zoz,zwX,zwj,zwF,zrq,zBB,zw9,zw8,zw7,zwO,zig,ziH,zoK,zxb,zrS,zrR,zBl,zwM,zwL,zwN,zrt,zwU,zrM,zrL,zwi,zq8,zFG,zre,zwv,zrd,zrc,zrb,zwu,zzV,zzU,zzT,zwH,zsY,zp2,znc,zrk,zrj,zBk,zwK,zBm,zBh,zwt,zws,zwr,zwY,zrN,zoL,zBq,zw4,zw3,zw2,zwT,zxe,zwP,zBo,zBn,zrv,zru,zwG,zsZ,zjU,saJ,sbA,sar,sci,saX,sde,sch,sdD,sbU,sa9,sdi,sdj,sdA,Nat.reduceSub,Nat.reduceAdd,Nat.add_zero,sbS,Bool.not_true,Bool.not_false,zwn,zwR,zf0,zc8,zoM,zwQ,zra,zq9,zBj,zww,zBf,zwm,zwl,zwk,zlt,zoF,zrK,zrJ,zrI,zrH,zrG,zrF,zrE,zrD,zoE,zoD,zoC,zoB,zrC,zrB,zrA,zrz,zry,zrx,decide_true,decide_false,Nat.reduceLeDiff,Nat.reduceBEq,Int.reduceBEq,beq_self_eq_true,DL.dOne,DL.mYes,ze2,zfY,ze4,ze1,ze0,ze3,ze5,zfT,zgN,zfV,zfS,zfR,zfU,zfW,zfM,zgM,zfO,zfL,zfK,zfN,zfP,zed,zeN,zef,zec,zeb,zee,zeg,zeQ,zfQ,zeS,zeP,zeO,zeR,zeT,zeW,zfX,zeY,zeV,zeU,zeX,zeZ,zju,zic,zlu,zjr,zjw,zie,zjt,zib,zjs,zia,zjv,zid,zjx,zif,zBA,zBz,zBy,zBx,zBw,zBv,zBu,zBt,zBs,zBr,zw6,zw5,Int.reduceLT,Int.reduceLE,Int.reduceSub,Int.reduceAdd,Int.reduceMul,Int.reduceNeg,zrw,zoA,zwE,zwD,zwC,zwB,zwA,zwy,zrn,zoy,Int.reduceToNat,sc1,zoI,zoH,zow,zkF,zwq,zsV,zwp,zsU,zrP,zzW,zw1,zw0,zwZ,zEa,zzR,zhr,zoG,zzP,zxc,zxd,zwS,zD8,zEb,zzS,zD9,zzQ,zEc,zhG,zD7,$[$xs:term],*])
local macro_rules | `(tactic| open_line with[$xs,*] seeing $h)=>`(tactic| simp only[zkw,zgh,zeM,zri,zrh,zrg,zls,zp0,zrf,zwx,zrm,zrl,zrO,zoJ,zBp,zwW,zwV,zwI,zrs,zxa,zrr,zrQ,zwz,zrp,zro,zoz,zwX,zwj,zwF,zrq,zBB,zw9,zw8,zw7,zwO,zig,ziH,zoK,zxb,zrS,zrR,zBl,zwM,zwL,zwN,zrt,zwU,zrM,zrL,zwi,zq8,zFG,zre,zwv,zrd,zrc,zrb,zwu,zzV,zzU,zzT,zwH,zsY,zp2,znc,zrk,zrj,zBk,zwK,zBm,zBh,zwt,zws,zwr,zwY,zrN,zoL,zBq,zw4,zw3,zw2,zwT,zxe,zwP,zBo,zBn,zrv,zru,zwG,zsZ,zjU,saJ,sbA,sar,sci,saX,sde,sch,sdD,sbU,sa9,sdi,sdj,sdA,Nat.reduceSub,Nat.reduceAdd,Nat.add_zero,sbS,Bool.not_true,Bool.not_false,zwn,zwR,zf0,zc8,zoM,zwQ,zra,zq9,zBj,zww,zBf,zwm,zwl,zwk,zlt,zoF,zrK,zrJ,zrI,zrH,zrG,zrF,zrE,zrD,zoE,zoD,zoC,zoB,zrC,zrB,zrA,zrz,zry,zrx,decide_true,decide_false,Nat.reduceLeDiff,Nat.reduceBEq,Int.reduceBEq,beq_self_eq_true,DL.dOne,DL.mYes,ze2,zfY,ze4,ze1,ze0,ze3,ze5,zfT,zgN,zfV,zfS,zfR,zfU,zfW,zfM,zgM,zfO,zfL,zfK,zfN,zfP,zed,zeN,zef,zec,zeb,zee,zeg,zeQ,zfQ,zeS,zeP,zeO,zeR,zeT,zeW,zfX,zeY,zeV,zeU,zeX,zeZ,zju,zic,zlu,zjr,zjw,zie,zjt,zib,zjs,zia,zjv,zid,zjx,zif,zBA,zBz,zBy,zBx,zBw,zBv,zBu,zBt,zBs,zBr,zw6,zw5,Int.reduceLT,Int.reduceLE,Int.reduceSub,Int.reduceAdd,Int.reduceMul,Int.reduceNeg,zrw,zoA,zwE,zwD,zwC,zwB,zwA,zwy,zrn,zoy,Int.reduceToNat,sc1,zoI,zoH,zow,zkF,zwq,zsV,zwp,zsU,zrP,zzW,zw1,zw0,zwZ,zEa,zzR,zhr,zoG,zzP,zxc,zxd,zwS,zD8,zEb,zzS,zD9,zzQ,zEc,zhG,zD7,$[$xs:term],*] at $(⟨h⟩):ident)
namespace Com
open PySem L2 DL
theorem zhi {a b:Int}(ha:0<=a)(hb:0 < b):0<=(low a b).1:=Int.ediv_nonneg ha (by omega)
theorem zD2 {a:Int}(h0:0<=a)(h1:a < (N60:Int)):zbo (a,1):=⟨⟨by show(1:Int)<=1;decide,by show saH a 1=1;exact Int.gcd_one_right ..⟩,by show a.natAbs < N60;omega,by show(1:Int).natAbs < N60;decide⟩
theorem zEN {a:Int}(h0:0<=a)(h1:a < (N60:Int)):a.natAbs < B13:=saf (show a.natAbs < N60 by omega) zr7
theorem zq7 {i:Nat}{body:Ev->Res Fl}(P:Nat->Ev->Prop){n:Nat}(h:∀ k,k < n->∀ ρ,P k ρ->∃ ρ2,body (ρ.set i (.sh (.int (k:Int))))=.ok (.nx ρ2)/\P (k+1) ρ2){ρ:Ev}(h0:P 0 ρ):∃ ρ',zdH (zea i) body (intsFrom 0 n) ρ=.ok (.nx ρ')/\P n ρ':=by
 have key:∀ (m k:Nat) (ρ:Ev),k+m=n->P k ρ->∃ ρ',zdH (zea i) body ((intsFrom 0 n).drop k) ρ=.ok (.nx ρ')/\P n ρ':=by
  intro m
  induction m with
  | zero =>
   intro k ρ hk hp;have:k=n:=by omega
   subst this;rw[zy1];exact⟨ρ,rfl,hp⟩
  | succ m ih =>
   intro k ρ hk hp;obtain⟨ρ2,h1,h2⟩:=h k (by omega) ρ hp;rw[zv0 (by omega),zlm (tg:=zea i) rfl h1];exact ih (k+1) ρ2 (by omega) h2
 exact key n 0 ρ (by omega) h0
theorem zdG {tg:Ev->D->Res Ev}{body:Ev->Res Fl}{ds:List D}(P:Nat->Ev->Prop)(h:∀ k d,ds[k]?=some d->∀ ρ,P k ρ->∃ ρ1 ρ2,tg ρ d=.ok ρ1/\body ρ1=.ok (.nx ρ2)/\P (k+1) ρ2){ρ:Ev}(h0:P 0 ρ):∃ ρ',zdH tg body ds ρ=.ok (.nx ρ')/\P ds.length ρ':=by
 have key:∀ (m k:Nat) (ρ:Ev),k+m=ds.length->P k ρ->∃ ρ',zdH tg body (ds.drop k) ρ=.ok (.nx ρ')/\P ds.length ρ':=by
  intro m
  induction m with
  | zero =>
   intro k ρ hk hp;have:k=ds.length:=by omega
   subst this;rw[List.drop_length];exact⟨ρ,rfl,hp⟩
  | succ m ih =>
   intro k ρ hk hp;have hlt:k < ds.length:=by omega
   obtain⟨ρ1,ρ2,h1,h2,h3⟩:=h k ds[k] (saa hlt) ρ hp;rw[sbc hlt,zlm h1 h2];exact ih (k+1) ρ2 (by omega) h3
 exact key ds.length 0 ρ (by omega) h0
structure Drawn (sz vs:List Int):Prop where
 len:vs.length=sz.length
 bnd:∀ (i:Nat) (v s:Int),vs[i]?=some v->sz[i]?=some s->0<=v/\v < s
theorem Drawn.at {sz vs:List Int}(W:Drawn sz vs)(i:Nat){s:Int}(h:sz[i]?=some s):∃ v,vs[i]?=some v/\(0<=v/\v < s)/\dIx (.lst (vs.map D.int)) (.int (i:Int))=.ok (.int v):=by
 have hi:i < vs.length:=by rw[W.len];exact(sad.mp h).1
 refine⟨vs[i],saa hi,W.bnd i _ _ (saa hi) h,zdf ?_⟩;rw[sai,saa hi];rfl
theorem Drawn.ix {sz vs:List Int}(W:Drawn sz vs)(k:Int)(i:Nat){s:Int}(hk:k=(i:Int))(h:sz[i]?=some s):∃ v,vs[i]?=some v/\(0<=v/\v < s)/\dIx (.lst (vs.map D.int)) (.int k)=.ok (.int v):=by
 subst hk;exact W.at i h
theorem zB3:("abcdefghijklmnopqrstuvwxyz" : Str).cps.toList=(saS 26).map (97 + ·):=by decide +kernel
theorem zxP:∀ n,n < 26->zq1 (97+n)=true:=by decide +kernel
theorem zxO {v:Int}(h0:0<=v)(h1:v < 26):dIx (.str "abcdefghijklmnopqrstuvwxyz") (.int v)=.ok (.str ⟨#[97+v.toNat]⟩):=by
 obtain⟨n,rfl⟩:=sbm h0;have hn:n < 26:=by omega
 have e:atI ("abcdefghijklmnopqrstuvwxyz" : Str).cps.toList ((n:Nat):Int)=some (97+n):=zbz (by rw[zB3];simp [hn]);show(if("abcdefghijklmnopqrstuvwxyz" : Str).length<=line then(match atI ("abcdefghijklmnopqrstuvwxyz" : Str).cps.toList ((n:Nat):Int) with | some c=>Res.ok (D.str ⟨#[c]⟩) | none=>.stuck) else .stuck)=_;rw[if_pos (by decide),e];rfl
theorem zvT:∀ cs:List Nat,Str.join "" (cs.map fun c=>(⟨#[c]⟩:Str))=⟨cs.toArray⟩
 | []=>rfl
 | [c]=>rfl
 | c::d::cs=>by
  show(⟨#[c]⟩:Str)++""++Str.join "" ((d::cs).map fun c=>(⟨#[c]⟩:Str))=_;rw[zvT (d::cs)];apply Str.ext';show(#[c]++("" : Str).cps)++(d::cs).toArray=_;have:("" : Str).cps=#[]:=rfl;rw[this];simp
theorem zuT:∀ cs:List Nat,zhs (cs.map fun c=>D.str ⟨#[c]⟩)=some (cs.map fun c=>(⟨#[c]⟩:Str))
 | []=>rfl
 | c::cs=>by
  show(zhs (cs.map fun c=>D.str ⟨#[c]⟩)).map _=_;rw[zuT cs];rfl
theorem zt1 {cs:List Nat}(h:cs.length<=1000):zqY "" [.lst (cs.map fun c=>D.str ⟨#[c]⟩)]=.ok (.str ⟨cs.toArray⟩):=by
 have fit:zgF "" (cs.map fun c=>(⟨#[c]⟩:Str))=true:=by
  unfold zgF;have e:((cs.map fun c=>(⟨#[c]⟩:Str)).map (·.length)).sum=cs.length:=by
   clear h
   induction cs with
   | nil=>rfl
   | cons c cs ih =>
    simp only[saJ,List.sum_cons,sar,ih];show 1+cs.length=_;omega
  rw[e,saF];exact⟨by decide,decide_eq_true (by rw[sab];omega)⟩
 show(match zhs (cs.map fun c=>D.str ⟨#[c]⟩) with | some ys=>if zgF "" ys=true then Res.ok (D.str (Txt.join "" ys)) else .stuck | none=>.stuck)=_;rw[zuT];show(if zgF "" _=true then Res.ok (D.str (Txt.join "" _)) else .stuck)=_;rw[if_pos fit];show Res.ok (D.str (Builtin.Str.glued "" _))=_;rw[StrLaws.glued_eq_join,zvT]
theorem znU {cs:List Nat}{b:Nat}(hb:b<=cs.length):scq ⟨cs.toArray⟩ none (some (b:Int))=⟨(cs.take b).toArray⟩:=by
 have:=StrLaws.sliceText_to (x:=⟨cs.toArray⟩) (j:=(b:Int)) ⟨by omega,by simpa using hb⟩;refine Eq.trans this ?_;simp
structure zl7 (zs:List Str):Prop where
 nd:zs.Nodup
 nm:∀ z∈zs,nameB z=true
theorem ztb {x y:Str}(h:x.length+y.length<=1000):zca (.str x) (.str y)=.ok (.str (x++y)):=if_pos (sal h (by decide))
theorem zqd (a b:List Nat):(⟨a.toArray⟩:Str)++⟨b.toArray⟩=⟨(a++b).toArray⟩:=by
 apply Str.ext';show a.toArray++b.toArray=_;simp
theorem zEs (a:List Nat):(⟨a.toArray⟩:Str).length=a.length:=by show a.toArray.size=_;simp
theorem zuZ {z:Str}{l h:Option Int}(hz:z.length<=1000):zAv (.str z) l h=.ok (.str (scq z l h)):=by
 show(if z.length<=line then _ else _)=_;rw[if_pos (sal hz (by decide))]
structure Tie where
 a:Str
 b:Str
 w:Str
 l:Fra
 o:Option Fra
def zcQ:Option Fra->D
 | none=>.non
 | some x=>fr x
def zbA (t:Tie):D:=.tup [.str t.a,.str t.b,.str t.w,fr t.l,zcQ t.o]
structure zpb (zs:List Str) (t:Tie):Prop where
 a:t.a∈zs
 b:t.b∈zs
 ne:t.a≠t.b
 w:t.w="one"∨t.w="both"
 l:zbo t.l
 l0:0<=t.l.1
 o:∀ x,t.o=some x->zbo x/\0 < x.1
theorem zAp {α:Type}{vs:List α}{i:Nat}{a b c:α}(h0:vs[i]?=some a)(h1:vs[i+1]?=some b)(h2:vs[i+2]?=some c):(vs.drop i).take 3=[a,b,c]:=by
 apply sb6;intro j;rcases j with _ | _ | _ | j
 .rw[saY (by decide),sbl];simpa using h0
 .rw[saY (by decide),sbl];simpa using h1
 .rw[saY (by decide),sbl];simpa using h2
 .rw[sbx (by simp;omega)];simp
theorem zoV {vs:List Int}{a b:Nat}{x y:Int}(hx:x=(a:Int))(hy:y=(b:Int))(h:b<=vs.length)(hab:a<=b):zmA (vs.map D.int) (some x) (some y)=((vs.drop a).take (b-a)).map D.int:=by
 subst hx hy;rw[zii,HT.sIx_nat,HT.sIx_nat,Nat.min_eq_left h,Nat.min_eq_left (sal hab h)]
theorem zFQ {vs:List Int}{i:Nat}{x y:Int}{a b c:Int}(hx:x=(i:Int))(hy:y=((i+3:Nat):Int))(h0:vs[i]?=some a)(h1:vs[i+1]?=some b)(h2:vs[i+2]?=some c):zmA (vs.map D.int) (some x) (some y)=[.int a,.int b,.int c]:=by
 have hl:i+3<=vs.length:=by have:=(sad.mp h2).1;omega
 rw[zoV hx hy hl (by omega),show i+3-i=3 by omega,zAp h0 h1 h2];rfl
theorem zzE {zs:List Str}{k:Int}(h0:0<=k)(h1:k < zs.length):∃ z,zs[k.toNat]?=some z/\dIx (.lst (zs.map D.str)) (.int k)=.ok (.str z):=by
 obtain⟨n,rfl⟩:=sbm h0;have hn:n < zs.length:=by omega
 refine⟨zs[n],by simp [hn],zdf ?_⟩;rw[sai,saa hn];rfl
theorem zAk {k:Int}(h0:0<=k)(h1:k < 2):∃ z:Str,(z="one"∨z="both")/\dIx (.lst [.str "one",.str "both"]) (.int k)=.ok (.str z):=by
 have:k=0∨k=1:=by omega
 rcases this with rfl | rfl
 .exact⟨_,.inl rfl,zlt⟩
 .exact⟨_,.inr rfl,zoF⟩
theorem zqq {n d e:Int}(h2:2<=n)(d0:0<=d)(d1:d < n)(e0:0<=e)(e1:e < n-1):(0<=(d+1+e).fmod n/\(d+1+e).fmod n < n)/\(d+1+e).fmod n≠d:=by
 refine⟨zde (by omega),?_⟩;rw[scI _ (by omega)]
 by_cases h:d+1+e < n
 .rw[Int.emod_eq_of_lt (by omega) h];omega
 .have:(d+1+e) % n=d+1+e-n:=by
   rw[← Int.sub_emod_right (d+1+e) n,Int.emod_eq_of_lt (by omega) (by omega)]
  rw[this];omega
theorem zsC {α:Type}{zs:List α}(nd:zs.Nodup){i j:Nat}{x y:α}(hi:zs[i]?=some x)(hj:zs[j]?=some y)(hij:i≠j):x≠y:=by
 intro e;subst e;obtain⟨h1,e1⟩:=sad.mp hi;obtain⟨h2,e2⟩:=sad.mp hj;exact hij ((sc3 nd).mp (e1.trans e2.symm))
def zlV:Ev->Res Fl :=
 (zam (zbQ (zgY (zak (zad (zag 0) zar) zcT) (zac (zac (zag 0) (dC (.int 0)) dIx) (dC (.int 0)) dGe)))
 zaj)
def zcp:List D->Res D:=zcD 1 zlV
def zns:Ev->Res Fl :=
 (zam (zbQ (dOr (zac (zag 0) (dC (.non)) zoU) (zgY (zak (zad (zag 0) zar) zcT) (zac (zac (zag 0) (dC (.int 0)) dIx) (dC (.int 0)) dGt))))
 zaj)
def zdV:List D->Res D:=zcD 1 zns
noncomputable def zta:Ev->Res Fl :=
 (zam (sIf (dOr (zdJ (zaY (zag 0) (zcY "tuple"))) (zac (zak (zad (zag 0) zar) (m1 zgt)) (dC (.int 5)) dNe))
 (zam (zbQ (dC (.bl false)))
 zaj)
 zaj)
 (zam (sIf (dOr (zdJ (zak (zad (zac (zag 0) (dC (.int 0)) dIx) zar) zcH)) (dOr (zdJ (zak (zad (zac (zag 0) (dC (.int 1)) dIx) zar) zcH)) (zac (zac (zag 0) (dC (.int 0)) dIx) (zac (zag 0) (dC (.int 1)) dIx) dEq)))
 (zam (zbQ (dC (.bl false)))
 zaj)
 zaj)
 (zam (sIf (dOr (zdJ (zaY (zac (zag 0) (dC (.int 2)) dIx) (zcY "str"))) (zac (zac (zag 0) (dC (.int 2)) dIx) (dC (.tup [(.str "one"),(.str "both")])) zb3))
 (zam (zbQ (dC (.bl false)))
 zaj)
 zaj)
 (zam (zbQ (zgY (zak (zad (zac (zag 0) (dC (.int 3)) dIx) zar) zcp) (zak (zad (zac (zag 0) (dC (.int 4)) dIx) zar) zdV)))
 zaj))))
def zfD:List D->Res D:=zcD 1 zta
noncomputable def zgo:Ev->Res Fl :=
 (zam (sIf (dOr (zdJ (zaY (zag 0) (zcY "list"))) (zdJ (zhK dLe dLe (dC (.int 2)) (zak (zad (zag 0) zar) (m1 zgt)) (dC (.int 7)))))
 (zam zc3
 zaj)
 zaj)
 (zam (zhq (zty (zag 0)) (zff [1,2])
 (zam (sIf (dOr (zdJ (zak (zad (zag 2) zar) zcH)) (zac (zag 2) (zjB (zag 0) zfC (zci (zag 1))) dIn))
 (zam zc3
 zaj)
 zaj)
 zaj))
 zaj))
def zbB:List D->Res D:=zcD 3 zgo
noncomputable def zhN:Ev->Res Fl :=
 (zam (sIf (dOr (zdJ (zaY (zag 0) (zcY "list"))) (zac (zak (zad (zag 0) zar) (m1 zgt)) (dC (.int 14)) dGt))
 (zam zc3
 zaj)
 zaj)
 (zam (zhq (zty (zag 0)) (zff [2,3])
 (zam (sIf (dOr (zdJ (zak (zad (zag 3) zar) zfD)) (dOr (zac (zac (zag 3) (dC (.int 0)) dIx) (zag 1) zb3) (zac (zac (zag 3) (dC (.int 1)) dIx) (zag 1) zb3)))
 (zam zc3
 zaj)
 zaj)
 zaj))
 zaj))
def zcd:List D->Res D:=zcD 4 zhN
def znt:Ev->Res Fl :=
 (zam (zbQ (zgY (zak (zad (zag 0) zar) zcH) (zac (zag 0) (zag 1) dIn)))
 zaj)
def zdl:List D->Res D:=zcD 2 znt
noncomputable def ziW:Ev->Res Fl :=
 (zam (sIf (dOr (zdJ (zaY (zag 0) (zcY "tuple"))) (zac (zak (zad (zag 0) zar) (m1 zgt)) (dC (.int 4)) dNe))
 (zam zc3
 zaj)
 zaj)
 (zam (zks (zak (zad (zac (zag 0) (dC (.int 0)) dIx) zar) zbB))
 (zam (zks (zak (zad (zac (zag 0) (dC (.int 1)) dIx) (zad (zac (zag 0) (dC (.int 0)) dIx) zar)) zcd))
 (zam (sIf (zdJ (zak (zad (zac (zag 0) (dC (.int 2)) dIx) (zad (zac (zag 0) (dC (.int 0)) dIx) zar)) zdl))
 (zam zc3
 zaj)
 zaj)
 (zam (sIf (dOr (zdJ (zak (zad (zac (zag 0) (dC (.int 3)) dIx) (zad (zac (zag 0) (dC (.int 0)) dIx) zar)) zdl)) (zac (zac (zag 0) (dC (.int 3)) dIx) (zac (zag 0) (dC (.int 2)) dIx) dEq))
 (zam zc3
 zaj)
 zaj)
 zaj)))))
def zbq:List D->Res D:=zcD 1 ziW
def zg3:Ev->Res Fl :=
 (zam (zbQ (zgY (zak (zad (zag 1) zar) zbV) (zhK dLe dLt (dC (.int 0)) (zag 1) (zak (zad (zac (zag 0) (dC (.int 1)) dIx) zar) (m1 zgt)))))
 zaj)
def zbs:List D->Res D:=zcD 2 zg3
noncomputable def zgn:Ev->Res Fl :=
 (zam (zks (zak (zad (zag 0) zar) zbq))
 (zam (sIf (zdJ (zaY (zag 1) (zcY "list")))
 (zam zc3
 zaj)
 zaj)
 (zam (za4 2 (zaY (dC (.int 1)) znq))
 (zam (zsq (zag 1) (zea 3)
 (zam (sIf (dOr (zdJ (zak (zad (zag 0) (zad (zag 3) zar)) zbs)) (zac (zag 3) (zag 2) dLe))
 (zam zc3
 zaj)
 zaj)
 (zam (sIf (zac (zac (zac (zac (zag 0) (dC (.int 1)) dIx) (zag 3) dIx) (dC (.int 4)) dIx) (dC (.non)) zoU)
 (zam zc3
 zaj)
 zaj)
 (zam (za4 2 (zag 3))
 zaj))))
 zaj))))
def zbc:List D->Res D:=zcD 4 zgn
structure Web where
 ps:List Str
 ts:List Tie
 fi:Str
 la:Str
def zbi (w:Web):D:=.tup [.lst (w.ps.map D.str),.lst (w.ts.map zbA),.str w.fi,.str w.la]
structure zha (w:Web):Prop where
 n2:2<=w.ps.length
 n7:w.ps.length<=7
 nm:zl7 w.ps
 t14:w.ts.length<=14
 ts:∀ t∈w.ts,zpb w.ps t
 fi:w.fi∈w.ps
 la:w.la∈w.ps
 ne:w.fi≠w.la
theorem ziA {z:Str}(h:nameB z=true):zcH [.str z]=.ok (.bl true):=by
 have hl:z.length<=8:=by
  unfold nameB at h;simp only[saF,decide_eq_true_eq] at h;exact h.2.1
 rw[zt2 (show fit (.str z)=true from decide_eq_true (sal hl (by decide)))];show Res.ok (D.bl (nameB z))=_;rw[h]
theorem zmP {x:Fra}(h:Low x):zcT [fr x]=.ok (.bl true):=by
 rw[zjX];show Res.ok (D.bl (zd6 (.tup [.int x.1,.int x.2])))=_;have h1:=h.q1;have h2:=h.g1;show Res.ok (D.bl (decide (1<=x.2)&&(saH x.1 x.2==1)))=_;rw[decide_eq_true h1,h2];rfl
theorem zlb {x:Fra}(h:Low x)(h0:0<=x.1):zcp [fr x]=.ok (.bl true):=by
 have e:fr x=.tup [.int x.1,.int x.2]:=rfl;have h1:=zmP h;rw[e] at h1 ⊢;open_line with[zcp,zlV,h1,decide_eq_true h0,decide_eq_true (show x.1≥0 from h0)]
theorem zts {o:Option Fra}(h:∀ x,o=some x->Low x/\0 < x.1):zdV [zcQ o]=.ok (.bl true):=by
 cases o with
 | none=>rfl
 | some x =>
  obtain⟨hx,h0⟩:=h x rfl;have e:zcQ (some x)=.tup [.int x.1,.int x.2]:=rfl;have h1:=zmP hx;rw[show fr x=.tup [.int x.1,.int x.2] from rfl] at h1;rw[e];open_line with[zdV,zns,h1,decide_eq_true h0]
theorem zrT {x y:Str}:dEq (.str x) (.str y)=.ok (.bl (x==y)):=by unfold dEq;rw[if_pos ⟨rfl,rfl⟩,eqD]
theorem zyj {zs:List Str}{t:Tie}(nm:zl7 zs)(h:zpb zs t):zfD [zbA t]=.ok (.bl true):=by
 obtain⟨a,b,w,l,o⟩:=t;obtain⟨ha,hb,hne,hw,hl,hl0,ho⟩:=h;have h1:=ziA (nm.nm a ha);have h2:=ziA (nm.nm b hb);have h3:=zlb hl.toLow hl0;have h4:=zts (o:=o) fun x hx=>⟨(ho x hx).1.toLow,(ho x hx).2⟩
 have h5:(a==b)=false:=beq_eq_false_iff_ne.mpr hne;have h6:zb3 (.str w) (.tup [.str "one",.str "both"])=.ok (.bl false):=by
  rcases hw with rfl | rfl<;>rfl
 have e:zbA ⟨a,b,w,l,o⟩=.tup [.str a,.str b,.str w,fr l,zcQ o]:=rfl;rw[e];open_line with[zfD,zta,h1,h2,zrT,h5,h6,h3,h4]
theorem zxI {zs:List Str}{z:Str}:(zs.map D.str).any (fun d=>eqD d (.str z))=decide (z∈zs):=by
 induction zs with
 | nil=>rfl
 | cons y zs ih =>
  rw[saJ,scX,ih];show((y==z)||decide (z∈zs))=_
  by_cases h:y=z
  .subst h;simp
  .have:(y==z)=false:=beq_eq_false_iff_ne.mpr h
   rw[this,sbW];have:z∈y::zs↔z∈zs:=by simp [saW h]
   exact decide_eq_decide.mpr this.symm
theorem zkQ {n:Nat}{zs:List Str}:(zs.map D.str).all (zbb n)=true:=saE.mpr fun d hd=>by
 obtain⟨z,_,rfl⟩:=saG.mp hd;cases n<;>rfl
theorem zq0 {zs:List Str}{z:Str}:dIn (.str z) (.lst (zs.map D.str))=.ok (.bl (decide (z∈zs))):=by
 have e:inD (.str z) (.lst (zs.map D.str))=some (decide (z∈zs)):=(if_pos ⟨rfl,zkQ⟩).trans (congrArg some zxI);unfold dIn;rw[e]
theorem zfd {zs:List Str}{z:Str}:zb3 (.str z) (.lst (zs.map D.str))=.ok (.bl (!(decide (z∈zs)))):=by
 have e:inD (.str z) (.lst (zs.map D.str))=some (decide (z∈zs)):=(if_pos ⟨rfl,zkQ⟩).trans (congrArg some zxI);unfold zb3;rw[e]
theorem zmS {zs:List Str}{z:Str}(h:nameB z=true)(hz:z∈zs):zdl [.str z,.lst (zs.map D.str)]=.ok (.bl true):=by
 open_line with[zdl,znt,ziA h,zq0,decide_eq_true hz]
theorem zcR {α:Type}{F:α->D}{xs:List α}{k:Nat}{d:D}(h:(zaW 0 (xs.map F))[k]?=some d):∃ x,xs[k]?=some x/\d=.tup [.int (k:Int),F x]:=by
 rw[zbH,sai] at h;cases e:xs[k]? with
 | none=>rw[e] at h;cases h
 | some x =>
  rw[e] at h;cases h;exact⟨x,rfl,by simp⟩
theorem zEr {α:Type}{F:α->D}{xs:List α}{k:Nat}(h:k<=xs.length):zmA (xs.map F) none (some (k:Int))=(xs.take k).map F:=by
 rw[zii,HT.sIx_none,HT.sIx_nat,Nat.min_eq_left h,List.drop_zero,sdA]
theorem zvj {zs:List Str}(h2:2<=zs.length)(h7:zs.length<=7)(nm:zl7 zs):zbB [.lst (zs.map D.str)]=.ok .non:=by
 obtain⟨ρ',hl,_⟩:=zdG (ds:=zaW 0 (zs.map D.str)) (tg:=zff [1,2]) (ρ:=[.sh (.lst (zs.map D.str)),.no,.no])
  (body:=(zam (sIf (dOr (zdJ (zak (zad (zag 2) zar) zcH)) (zac (zag 2) (zjB (zag 0) zfC (zci (zag 1))) dIn)) (zam zc3 zaj) zaj) zaj))
  (fun k ρ=>∃ a b,ρ=[.sh (.lst (zs.map D.str)),a,b]) (by
   rintro k d hd ρ ⟨a,b,rfl⟩;obtain⟨z,hz,rfl⟩:=zcR hd;refine⟨_,[.sh (.lst (zs.map D.str)),.sh (.int (k:Int)),.sh (.str z)],zhr rfl,?_,_,_,rfl⟩;have hk:k < zs.length:=(sad.mp hz).1;have hnot:decide (z∈zs.take k)=false:=decide_eq_false fun hm=>by
    obtain⟨j,hj⟩:=List.mem_iff_getElem?.mp hm;have hjk:j < k:=by have:=(sad.mp hj).1;simp at this;omega
    rw[saY hjk] at hj;exact zsC nm.nd hj hz (by omega) rfl
   open_line with[ziA (nm.nm z (say hz)),zEr (sbL hk),zq0,hnot]) ⟨.no,.no,rfl⟩
 have e1:decide ((2:Int)<=(zs.length:Int))=true:=decide_eq_true (by omega);have e2:decide ((zs.length:Int)<=7)=true:=decide_eq_true (by omega);open_line with[zbB,zgo,sab,e1,e2,hl]
theorem zAo {zs:List Str}{ts:List Tie}(h14:ts.length<=14)(nm:zl7 zs)(ht:∀ t∈ts,zpb zs t):zcd [.lst (ts.map zbA),.lst (zs.map D.str)]=.ok .non:=by
 obtain⟨ρ',hl,_⟩:=zdG (ds:=zaW 0 (ts.map zbA)) (tg:=zff [2,3]) (ρ:=[.sh (.lst (ts.map zbA)),.sh (.lst (zs.map D.str)),.no,.no])
  (body:=(zam (sIf (dOr (zdJ (zak (zad (zag 3) zar) zfD)) (dOr (zac (zac (zag 3) (dC (.int 0)) dIx) (zag 1) zb3) (zac (zac (zag 3) (dC (.int 1)) dIx) (zag 1) zb3))) (zam zc3 zaj) zaj) zaj))
  (fun k ρ=>∃ a b,ρ=[.sh (.lst (ts.map zbA)),.sh (.lst (zs.map D.str)),a,b]) (by
   rintro k d hd ρ ⟨a,b,rfl⟩;obtain⟨t,ht',rfl⟩:=zcR hd;refine⟨_,[.sh (.lst (ts.map zbA)),.sh (.lst (zs.map D.str)),.sh (.int (k:Int)),.sh (zbA t)],zhr rfl,?_,_,_,rfl⟩;have hT:=ht t (say ht');have h1:=zyj nm hT;rw[show zbA t=.tup [.str t.a,.str t.b,.str t.w,fr t.l,zcQ t.o] from rfl] at h1 ⊢;open_line with[h1,zfd,decide_eq_true hT.a,decide_eq_true hT.b]) ⟨.no,.no,rfl⟩
 have e1:decide ((14:Int) < (ts.length:Int))=false:=decide_eq_false (by omega);open_line with[zcd,zhN,sab,e1,decide_eq_false (show ¬ (ts.length:Int) > 14 by omega),hl]
theorem zzy {w:Web}(h:zha w):zbq [zbi w]=.ok .non:=by
 obtain⟨ps,ts,fi,la⟩:=w;have h1:=zvj h.n2 h.n7 h.nm;have h2:=zAo h.t14 h.nm h.ts;have h3:=zmS (h.nm.nm fi h.fi) h.fi;have h4:=zmS (h.nm.nm la h.la) h.la;have h5:(la==fi)=false:=beq_eq_false_iff_ne.mpr (saW h.ne);rw[show zbi ⟨ps,ts,fi,la⟩=.tup [.lst (ps.map D.str),.lst (ts.map zbA),.str fi,.str la] from rfl];open_line with[zbq,ziW,h1,h2,h3,h4,zrT,h5]
noncomputable def zg1:Ev->Res Fl :=
 (zam (za4 1 (dC (.int 1)))
 (zam (zsq (zag 0) (zea 2)
 (zam (za4 1 (zac (zac (zag 1) (zak (zad (zag 1) (zad (zac (zag 2) (dC (.int 1)) dIx) zar)) za3) zqz) (zac (zag 2) (dC (.int 1)) dIx) zbv))
 zaj))
 (zam (zbQ (zag 1))
 zaj)))
def zbU:List D->Res D:=zcD 3 zg1
def znu:Ev->Res Fl :=
 (zam (zbQ (zac (zac (zag 0) (dC (.int 0)) dIx) (zac (zag 1) (zac (zag 0) (dC (.int 1)) dIx) zqz) zbv))
 zaj)
def zdm:List D->Res D:=zcD 2 znu
noncomputable def zhM:Ev->Res Fl :=
 (zam (za4 1 (zak (zad (zes 1 [] (zyq (zag 0)) (zea 0) (zac (zag 0) (dC (.non)) zjC) (zag 0)) zar) zbU))
 (zam (zbQ (zak (zad (zes 1 [1] (zyq (zag 0)) (zea 0) mYes (dIf (zac (zag 0) (dC (.non)) zoU) (dC (.non)) (zak (zad (zag 0) (zad (zag 1) zar)) zdm))) (zad (zag 1) zar)) zcZ))
 zaj))
def zbf:List D->Res D:=zcD 2 zhM
def zaT (ks:List Nat):D:=.lst (ks.map fun(k:Nat)=>D.int (k:Int))
structure zxU (w:Web) (ks:List Nat):Prop where
 up:ks.Pairwise (· < ·)
 wo:∀ k∈ks,∃ t x,w.ts[k]?=some t/\t.o=some x
theorem zxU.lt {w:Web}{ks:List Nat}(T:zxU w ks):∀ k∈ks,k < w.ts.length:=fun k hk=>by
 obtain⟨t,x,h1,h2⟩:=T.wo k hk;exact(sad.mp h1).1
theorem zCq:∀ {ks:List Nat}{n:Nat},ks.Pairwise (· < ·)->(∀ k∈ks,k < n)->ks.length<=n:=by
 intro ks n h hb;have:∀ (ks:List Nat) (lo:Nat),ks.Pairwise (· < ·)->(∀ k∈ks,lo<=k/\k < n)->lo+ks.length<=n∨ks=[]:=by
  intro ks
  induction ks with
  | nil=>intro lo _ _;exact .inr rfl
  | cons a ks ih =>
   intro lo hp hb;rw[List.pairwise_cons] at hp;have ha:=hb a saq;rcases ih (a+1) hp.2 (fun k hk=>⟨hp.1 k hk,(hb k (sak _ hk)).2⟩) with h | h
   .left;simp;omega
   .left;subst h;simp;omega
 rcases this ks 0 h (fun k hk=>⟨scp _,hb k hk⟩) with h | h
 .omega
 .subst h;simp
theorem zzC {w:Web}{k:Nat}{t:Tie}(h:w.ts[k]?=some t):dIx (.lst (w.ts.map zbA)) (.int (k:Int))=.ok (zbA t):=zdf (by rw[sai,h];rfl)
theorem zqW {w:Web}{k:Nat}(h:k < w.ts.length):zbs [zbi w,.int (k:Int)]=.ok (.bl true):=by
 rw[show zbi w=.tup [.lst (w.ps.map D.str),.lst (w.ts.map zbA),.str w.fi,.str w.la] from rfl];open_line with[zbs,zg3,zd9,isI,sab,decide_eq_true (show(0:Int)<=(k:Int) by omega),decide_eq_true (show(k:Int) < (w.ts.length:Int) by omega)]
theorem zuL {w:Web}{ks:List Nat}(W:zha w)(T:zxU w ks):zbc [zbi w,zaT ks]=.ok .non:=by
 obtain⟨ρ',hl,_⟩:=zdG (ds:=ks.map fun(k:Nat)=>D.int (k:Int)) (tg:=zea 3) (ρ:=[.sh (zbi w),.sh (zaT ks),.sh (.int (-1)),.no])
  (body:=(zam (sIf (dOr (zdJ (zak (zad (zag 0) (zad (zag 3) zar)) zbs)) (zac (zag 3) (zag 2) dLe))
   (zam zc3 zaj) zaj)
   (zam (sIf (zac (zac (zac (zac (zag 0) (dC (.int 1)) dIx) (zag 3) dIx) (dC (.int 4)) dIx) (dC (.non)) zoU)
   (zam zc3 zaj) zaj)
   (zam (za4 2 (zag 3)) zaj))))
  (fun j ρ=>∃ (ah:Int) (x:Sl),ρ=[.sh (zbi w),.sh (zaT ks),.sh (.int ah),x]/\∀ v∈ks.drop j,ah < (v:Int)) (by
   rintro j d hd ρ ⟨ah,x,rfl,hah⟩;rw[sai] at hd;cases e:ks[j]? with
   | none=>rw[e] at hd;cases hd
   | some k =>
    rw[e] at hd;cases hd;have hj:j < ks.length:=(sad.mp e).1;have hkm:=say e;obtain⟨t,y,h1,h2⟩:=T.wo k hkm;have hdr:ks.drop j=k::ks.drop (j+1):=by
     rw[sbc hj]
     congr 1
     rw[saa hj] at e;exact saN e
    have hk:ah < (k:Int):=hah k (by rw[hdr];exact saq);refine⟨_,[.sh (zbi w),.sh (zaT ks),.sh (.int (k:Int)),.sh (.int (k:Int))],rfl,?_,_,_,rfl,fun v hv=>?_⟩
    .have hn:=zqW (T.lt k hkm)
     have hix:=zzC h1;rw[show zbi w=.tup [.lst (w.ps.map D.str),.lst (w.ts.map zbA),.str w.fi,.str w.la] from rfl] at hn ⊢;rw[show zbA t=.tup [.str t.a,.str t.b,.str t.w,fr t.l,zcQ t.o] from rfl,h2] at hix;open_line with[hn,decide_eq_false (show ¬ (k:Int)<=ah by omega),hix,zcQ,fr,zFE]
    .have hp:(k::ks.drop (j+1)).Pairwise (· < ·):=by rw[← hdr];exact T.up.sublist (List.drop_sublist _ _)
     have:=(List.pairwise_cons.mp hp).1 v hv;omega) ⟨-1,.no,rfl,fun v _=>by omega⟩
 have hw:=zzy W;unfold zaT at hl ⊢;open_line with[zbc,zgn,hw,hl]
theorem zyi {xs:List Fra}{x:Fra}:tot (xs++[x])=un (tot xs) x:=by unfold tot;rw[List.foldl_append];rfl
theorem zqZ {x y:Fra}(h1:x.1.natAbs < B60)(h2:x.2.natAbs < B60)(h3:y.1.natAbs < B60)(h4:y.2.natAbs < B60):zdx [fr x,fr y]=.ok (.bl (flt x y)):=by
 rw[show fr x=.tup [.int x.1,.int x.2] from rfl,show fr y=.tup [.int y.1,.int y.2] from rfl];open_line with[zdx,zqo,zbw (zcS h1 h4),zbw (zcS h3 h2)]
 rfl
def zkx (b:Int)(x:Fra):Int:=b / (saH b x.2:Int)*x.2
def bot (xs:List Fra):Int:=xs.foldl zkx 1
structure zur (k:Nat) (b:Int):Prop where
 pos:0 < b
 bd:b.natAbs<=2 ^ (200*k)
theorem zqK {k:Nat}(h:k<=60):2 ^ (200*k) < B13:=by rw[znI];exact sc9 (by decide) (by omega)
theorem zsL {a b:Int}(h:b≠0):0 < (saH a b:Int):=zlk h
theorem zur.step {k:Nat}{b:Int}{x:Fra}(h:zur k b)(hx:zbo x):zur (k+1) (zkx b x)/\b∣zkx b x/\x.2∣zkx b x:=by
 have q1:=hx.q1;have hg:0 < (saH b x.2:Int):=zsL (by omega);have hd:(saH b x.2:Int)∣b:=sdE ..;have hd2:(saH b x.2:Int)∣x.2:=sdv ..;have hq:0 < b / (saH b x.2:Int):=Int.ediv_pos_of_pos_of_dvd h.pos (by omega) hd;refine⟨⟨sbV hq (by omega),?_⟩,?_,⟨b / (saH b x.2:Int),by unfold zkx;rw[sdC]⟩⟩
 .unfold zkx
  rw[sbO,show 200*(k+1)=200*k+200 by omega,scV];refine sbi (sal (sbP _ _) h.bd) (sal (sbL hx.qN) zr8)
 .obtain⟨c,hc⟩:=hd
  obtain⟨d,hd'⟩:=hd2;refine⟨d,?_⟩;unfold zkx;generalize (saH b x.2:Int)=g at *;have e1:b / g=c:=by rw[hc];exact sce c (by omega)
  rw[e1,hd',hc,← Int.mul_assoc,sdC c g]
theorem zz4 {xs:List Fra}(hx:∀ x∈xs,zbo x):∀ (b:Int) (k:Nat),zur k b->zur (k+xs.length) (xs.foldl zkx b)/\b∣xs.foldl zkx b/\∀ x∈xs,x.2∣xs.foldl zkx b:=by
 induction xs with
 | nil=>intro b k h;exact⟨h,Int.dvd_refl b,fun x hx=>nomatch hx⟩
 | cons x xs ih =>
  intro b k h;obtain⟨h1,h2,h3⟩:=h.step (hx x saq);obtain⟨k1,k2,k3⟩:=ih (fun y hy=>hx y (sak _ hy)) _ _ h1;refine⟨?_,Int.dvd_trans h2 k2,fun y hy=>?_⟩
  .rw[sar,show k+(xs.length+1)=k+1+xs.length by omega];exact k1
  .rcases sas.mp hy with rfl | hy
   .exact Int.dvd_trans h3 k2
   .exact k3 y hy
theorem zzp {L:Sl}:∀ (xs:List Fra) (k:Nat) (b:Int) (z:Sl),zur k b->k+xs.length<=60->(∀ x∈xs,zbo x)->∃ z',zdH (zea 2) (zam (za4 1 (zac (zac (zag 1) (zak (zad (zag 1) (zad (zac (zag 2) (dC (.int 1)) dIx) zar)) za3) zqz) (zac (zag 2) (dC (.int 1)) dIx) zbv)) zaj) (xs.map fr) [L,.sh (.int b),z] =
  .ok (.nx [L,.sh (.int (xs.foldl zkx b)),z']):=by
 intro xs
 induction xs with
 | nil=>intro k b z _ _ _;exact⟨z,rfl⟩
 | cons x xs ih =>
  intro k b z h hk hx;have hxx:=hx x saq;have q1:=hxx.q1;obtain⟨h1,h2,h3⟩:=h.step hxx;simp only[sar] at hk;obtain⟨z',hz'⟩:=ih (k+1) _ (.sh (fr x)) h1 (by omega) (fun y hy=>hx y (sak _ hy));refine⟨z',?_⟩;have hg:0 < (saH b x.2:Int):=zsL (by omega);have hdiv:zgR b (saH b x.2:Int)=true:=zlz (by omega) (sav h.bd (zqK (by omega)));have hb13:(b / (saH b x.2:Int)).natAbs < B13:=sav (sal (sbP _ _) h.bd) (zqK (by omega));have hmul:zcA (b / (saH b x.2:Int)) x.2=true:=zcS (saf hb13 zpe) (saf hxx.qN zbN);rw[saJ,zlm (ρ1:=[L,.sh (.int b),.sh (fr x)]) (ρ2:=[L,.sh (.int (zkx b x)),.sh (fr x)]) rfl ?_]
  .exact hz'
  .rw[show fr x=.tup [.int x.1,.int x.2] from rfl]
   open_line with[ziS,zp1 hdiv,zex hg,zbw hmul]
   rfl
theorem zxH {xs:List Fra}(hl:xs.length<=60)(hx:∀ x∈xs,zbo x):zbU [.lst (xs.map fr)]=.ok (.int (bot xs)):=by
 obtain⟨z',hz⟩:=zzp (L:=.sh (.lst (xs.map fr))) xs 0 1 .no ⟨by decide,by decide⟩ (by omega) hx;open_line with[zbU,zg1,hz]
 rfl
def wI (b:Int):Option Fra->D
 | none=>.non
 | some x=>.int (x.1*(b / x.2))
def zhT (os:List (Option Fra)):List Fra:=os.filterMap id
theorem zvI {os:List (Option Fra)}{x:Fra}:x∈zhT os↔some x∈os:=by unfold zhT;simp
theorem zyb {x:Fra}{b:Int}(hx:zbo x)(hb:b.natAbs < B13):zdm [fr x,.int b]=.ok (.int (x.1*(b / x.2))):=by
 have q1:=hx.q1;have hdiv:zgR b x.2=true:=zEl (by omega) (saf hx.qN zEE);have hmul:zcA x.1 (b / x.2)=true:=zcS (saf hx.pN zbN) (saf (sav (sbP _ _) hb) zpe);rw[show fr x=.tup [.int x.1,.int x.2] from rfl];open_line with[zdm,znu,zp1 hdiv,zex (show 0 < x.2 by omega),zbw hmul]
theorem zgv:∀ os:List (Option Fra),(os.map zcQ).filter (fun d=>!(zt3 d))=(zhT os).map fr
 | []=>rfl
 | none::os=>by
  rw[saJ,List.filter_cons_of_neg (by decide),zgv os];rfl
 | some x::os=>by
  have:zt3 (zcQ (some x))=false:=rfl;rw[saJ,List.filter_cons_of_pos (by rw[this];rfl),zgv os];rfl
theorem zyt {os:List (Option Fra)}(hl:os.length<=60)(hx:∀ x,some x∈os->zbo x):zbf [.lst (os.map zcQ)]=.ok (.tup [.lst (os.map (wI (bot (zhT os)))),.int (bot (zhT os))]):=by
 have hxs:∀ x∈zhT os,zbo x:=fun x h=>hx x (zvI.mp h);have hls:(zhT os).length<=60:=sal (List.length_filterMap_le _ _) hl;have h1:=zxH hls hxs;obtain⟨B,_,_⟩:=zz4 hxs 1 0 ⟨by decide,by decide⟩;have hb:(bot (zhT os)).natAbs < B13:=sav B.bd (zqK (by omega));have c1:ziR 1 [] (zea 0) (zac (zag 0) (dC (.non)) zjC) (zag 0) [.sh (.lst (os.map zcQ)),.no] (os.map zcQ)=.ok (.lst ((zhT os).map fr)):=by
  rw[zlL (F:=id) (p:=fun d=>!(zt3 d)) (by rw[sab];omega)]
  .rw[List.map_id,zgv]
  .intro d hd
   exact⟨[.sh d],rfl,rfl,fun _=>rfl⟩
 have c2:ziR 1 [1] (zea 0) mYes (dIf (zac (zag 0) (dC (.non)) zoU) (dC (.non)) (zak (zad (zag 0) (zad (zag 1) zar)) zdm)) [.sh (.lst (os.map zcQ)),.sh (.int (bot (zhT os)))] (os.map zcQ)=.ok (.lst (os.map (wI (bot (zhT os))))):=by
  rw[zf4 (F:=fun d=>match d with | .tup [.int p,.int q]=>.int (p*(bot (zhT os) / q)) | _=>.non) (by rw[sab];omega)]
  .congr 2
   rw[sa2];apply List.map_congr_left;intro o _;cases o<;>rfl
  .intro d hd
   obtain⟨o,ho,rfl⟩:=saG.mp hd;refine⟨[.sh (zcQ o),.sh (.int (bot (zhT os)))],rfl,rfl,?_⟩;cases o with
   | none=>rfl
   | some x =>
    have hw:=zyb (hx x ho) hb;rw[show fr x=.tup [.int x.1,.int x.2] from rfl] at hw;rw[show zcQ (some x)=.tup [.int x.1,.int x.2] from rfl];open_line with[hw]
 open_line with[zbf,zhM,c1,h1,c2]
def zs_:List Int->Int
 | []=>0
 | a::l=>a+zs_ l
theorem zpg:∀ a b:List Int,zs_ (a++b)=zs_ a+zs_ b
 | [],b=>by show zs_ b=0+zs_ b;omega
 | x::a,b=>by show x+zs_ (a++b)=x+zs_ a+zs_ b;rw[zpg a b];omega
theorem zpu {b:Int}:∀ (xs:List Fra) (s:Fra) (z:Int),(∀ x∈xs,x.2∣b)->s.1*b=z*s.2->(xs.foldl un s).1*b=(z+zs_ (xs.map fun x=>x.1*(b / x.2)))*(xs.foldl un s).2
 | [],s,z,_,h=>by show s.1*b=(z+0)*s.2;rw[Int.add_zero];exact h
 | x::xs,s,z,hd,h=>by
  have hx:b / x.2*x.2=b:=Int.ediv_mul_cancel (hd x saq);have e:(un s x).1*b=(z+x.1*(b / x.2))*(un s x).2:=by
   show(s.1*x.2+x.1*s.2)*b=(z+x.1*(b / x.2))*(s.2*x.2);generalize b / x.2=q at *;have e1:(s.1*x.2+x.1*s.2)*b=(s.1*b)*x.2+x.1*s.2*b:=by grind
   rw[e1,h];rw[← hx]
   grind
  have:=zpu xs (un s x) _ (fun y hy=>hd y (sak _ hy)) e;show(xs.foldl un (un s x)).1*b=(z+(x.1*(b / x.2)+zs_ (xs.map fun x=>x.1*(b / x.2))))*_;rw[this,Int.add_assoc];rfl
def zAz (i:Nat)(ρ:Ev)(d:D):Res Fl:=if zln d=true then .ok (.nx (ρ.set i (.sh d))) else .stuck
theorem zBi {i:Nat}{f:Ev->Res D}{ρ:Ev}:zyu i f ρ=(f (shr ρ)).bind (zAz i ρ):=rfl
theorem zFb {i:Nat}{ρ:Ev}{x:Fra}:zAz i ρ (fr x)=.ok (.nx (ρ.set i (.sh (fr x)))):=rfl
theorem zyr {n:Nat}{t:Tie}:zbb (n+3) (zbA t)=true:=by
 obtain⟨a,b,w,l,o⟩:=t;cases o<;>cases n<;>rfl
theorem zkB {c:Ev->Res D}{s:Ev->Res Fl}{n:Nat}{ρ ρ2:Ev}(h1:c (shr ρ)=.ok (.bl true))(h2:s ρ=.ok (.nx ρ2)):zbO c s (n+1) ρ=zbO c s n ρ2:=by
 conv=>lhs;unfold zbO
 rw[h1,h2];rfl
theorem zgu {c:Ev->Res D}{s:Ev->Res Fl}{n:Nat}{ρ:Ev}(h1:c (shr ρ)=.ok (.bl false)):zbO c s (n+1) ρ=.ok (.nx ρ):=by
 conv=>lhs;unfold zbO
 rw[h1];rfl
end Com
namespace Cod
open PySem L2 DL Com
noncomputable def zkg:Ev->Res Fl :=
 (zam (zqH 2 (zak zar zcP))
 (zam (za4 3 (zak (zad (zag 0) zar) (m1 zxy)))
 (zam (za4 4 (zac (zac (zac (zag 0) (dC (.int 2147483647)) zdW) (dC (.int 48271)) zbv) (dC (.int 2147483647)) zdW))
 (zam (zu5 (zak (zad (zag 1) zar) (m1 zgt)) (zea 5)
 (zam (sIf (zac (zak (zad (zag 0) zar) (m1 zxy)) (zac (dC (.int 10)) (dC (.int 18)) zs4) dGe)
 (zam (zc4 2 (zac (zag 3) (zac (zag 1) (zag 5) dIx) zdW))
 (zam (za4 3 (zac (zag 3) (zac (zag 1) (zag 5) dIx) zqz))
 zaj))
 (zam (za4 4 (zac (zac (zac (zac (zac (zag 4) (zag 4) zbv) (zac (dC (.int 69621)) (zag 4) zbv) zca) (zac (dC (.int 7919)) (zag 5) zbv) zca) (dC (.int 1000003)) zca) (dC (.int 2147483647)) zdW))
 (zam (zc4 2 (zac (zac (zac (zag 4) (dC (.int 39373)) zbv) (dC (.int 2147483629)) zdW) (zac (zag 1) (zag 5) dIx) zdW))
 zaj)))
 zaj))
 (zam (zbQ (zag 2))
 zaj)))))
def zaH:List D->Res D:=zcD 6 zkg
theorem zB6:N60 < B9:=by rw[zB9];exact saf (show N60 < 2 ^ 200 by decide) (sa6 (by decide) (by decide))
theorem abs_ok {c:Int}:zxy (.int c)=.ok (.int (c.natAbs:Int)):=by
 show Res.ok (D.int (if c < 0 then -c else c))=_
 congr 2
 split<;>omega
theorem draws_ok (c:Int)(sz:List Int)(hp:∀ s∈sz,0 < s/\s<=(N60:Int))(hn:sz.length<=900):∃ vs,zaH [.int c,.lst (sz.map D.int)]=.ok (.lst (vs.map D.int))/\Drawn sz vs:=by
 have hmix0:=zde (a:=c.fmod 2147483647*48271) (b:=2147483647) (by decide);have hcm:=zde (a:=c) (b:=2147483647) (by decide);obtain⟨ρ',hl,vs,hv,hb,lf,mx,x5,rfl,_⟩:=zq7 (i:=5) (n:=sz.length)
  (ρ:=[.sh (.int c),.sh (.lst (sz.map D.int)),.ow (.lst []),.sh (.int (c.natAbs:Int)),.sh (.int ((c.fmod 2147483647*48271).fmod 2147483647)),.no])
  (body:=(zam (sIf (zac (zak (zad (zag 0) zar) (m1 zxy)) (zac (dC (.int 10)) (dC (.int 18)) zs4) dGe)
 (zam (zc4 2 (zac (zag 3) (zac (zag 1) (zag 5) dIx) zdW))
 (zam (za4 3 (zac (zag 3) (zac (zag 1) (zag 5) dIx) zqz))
 zaj))
 (zam (za4 4 (zac (zac (zac (zac (zac (zag 4) (zag 4) zbv) (zac (dC (.int 69621)) (zag 4) zbv) zca) (zac (dC (.int 7919)) (zag 5) zbv) zca) (dC (.int 1000003)) zca) (dC (.int 2147483647)) zdW))
 (zam (zc4 2 (zac (zac (zac (zag 4) (dC (.int 39373)) zbv) (dC (.int 2147483629)) zdW) (zac (zag 1) (zag 5) dIx) zdW))
 zaj)))
 zaj))
  (fun k ρ=>∃ vs:List Int,vs.length=k/\(∀ (i:Nat) (v s:Int),vs[i]?=some v->sz[i]?=some s->0<=v/\v < s)/\∃ (lf mx:Int) (x5:Sl),ρ=[.sh (.int c),.sh (.lst (sz.map D.int)),.ow (.lst (vs.map D.int)),.sh (.int lf),.sh (.int mx),x5]/\0<=mx/\mx < 2147483647) (by
   rintro k hk ρ ⟨vs,rfl,hb,lf,mx,x5,rfl,m0,m1_⟩;have hs:=hp sz[vs.length] (saL hk);have hix:dIx (.lst (sz.map D.int)) (.int (vs.length:Int))=.ok (.int sz[vs.length]):=zdf (by rw[sai,saa hk];rfl);have hsz0:(sz[vs.length]==0)=false:=beq_eq_false_iff_ne.mpr (by omega);have hap:decide ((vs.map D.int).length<=999)=true:=decide_eq_true (by rw[sab];omega);have hbn:∀ v:Int,0<=v->v < sz[vs.length]->∀ (i:Nat) (u s:Int),(vs++[v])[i]?=some u->sz[i]?=some s->0<=u/\u < s:=fun v v0 v1 i u s e1 e2=>by
    by_cases hi:i < vs.length
    .rw[saC hi] at e1;exact hb i u s e1 e2
    .have:i=vs.length:=by
      have:=(sad.mp e1).1;simp at this;omega
     subst this;rw[saI (saA _),Nat.sub_self] at e1;cases e1;rw[saa hk] at e2;cases e2;exact⟨v0,v1⟩
   by_cases hc:(1000000000000000000:Int)<=(c.natAbs:Int)
   .have f:=zde (a:=lf) (b:=sz[vs.length]) hs.1
    have hdiv:zgR lf sz[vs.length]=true:=zEl (by omega) (sav (show sz[vs.length].natAbs<=N60 by omega) zB6);refine⟨[.sh (.int c),.sh (.lst (sz.map D.int)),.ow (.lst ((vs++[lf.fmod sz[vs.length]]).map D.int)),.sh (.int (lf.fdiv sz[vs.length])),.sh (.int mx),.sh (.int (vs.length:Int))],?_,vs++[lf.fmod sz[vs.length]],by simp,hbn _ f.1 f.2,_,_,_,rfl,m0,m1_⟩;open_line with[abs_ok,zhG,decide_eq_true hc,decide_eq_true (show(c.natAbs:Int)≥1000000000000000000 from hc),hix,hsz0,zc8 hap,zp1 hdiv,saU]
   .have f1:=zde (a:=mx*mx+69621*mx+7919*(vs.length:Int)+1000003) (b:=2147483647) (by decide)
    generalize hmx:(mx*mx+69621*mx+7919*(vs.length:Int)+1000003).fmod 2147483647=my at f1;have f:=zde (a:=(my*39373).fmod 2147483629) (b:=sz[vs.length]) hs.1;have o1:zcA mx mx=true:=zev (by omega) (by omega);have o2:zcA 69621 mx=true:=zev (by decide) (by omega);have o3:zcA 7919 (vs.length:Int)=true:=zev (by decide) (by omega);have o4:zcA my 39373=true:=zev (by omega) (by decide);refine⟨[.sh (.int c),.sh (.lst (sz.map D.int)),.ow (.lst ((vs++[((my*39373).fmod 2147483629).fmod sz[vs.length]]).map D.int)),.sh (.int lf),.sh (.int my),.sh (.int (vs.length:Int))],?_,vs++[((my*39373).fmod 2147483629).fmod sz[vs.length]],by simp,hbn _ f.1 f.2,_,_,_,rfl,f1.1,f1.2⟩;open_line with[abs_ok,zhG,decide_eq_false hc,decide_eq_false (show ¬ (c.natAbs:Int)≥1000000000000000000 from hc),zbw o1,zbw o2,zbw o3,hmx,zbw o4,hix,hsz0,zc8 hap,saU]) ⟨[],rfl,fun i v s e=>(by simp at e),_,_,_,rfl,hmix0.1,hmix0.2⟩
 refine⟨vs,?_,hv,hb⟩;have o0:zcA (c.fmod 2147483647) 48271=true:=zev (by omega) (by decide);open_line with[zaH,zkg,abs_ok,zbw o0,sab,zoG,zot (show sz.length<=1000000 by omega),hl]
noncomputable def znx:Ev->Res Fl :=
 (zam (za4 2 (zak (zad (zag 0) zar) (m1 zxy)))
 (zam (za4 3 (zag 1))
 (zam (zge (zjo 3) (zac (zag 3) (dC (.int 0)) dNe)
 (zam (zxY 2 3 (zad (zag 3) (zad (zac (zag 2) (zag 3) zdW) zar)))
 zaj))
 (zam (zbQ (zak (zad (zac (zag 0) (zag 2) zqz) (zad (zac (zag 1) (zag 2) zqz) zar)) zcZ))
 zaj))))
def zbe:List D->Res D:=zcD 4 znx
theorem zsG {A B:Sl}:∀ (n:Nat) (a b:Int),0<=a->0<=b->b.natAbs < n->zbO (zac (zag 3) (dC (.int 0)) dNe) (zam (zxY 2 3 (zad (zag 3) (zad (zac (zag 2) (zag 3) zdW) zar))) zaj) n [A,B,.sh (.int a),.sh (.int b)]=.ok (.nx [A,B,.sh (.int (saH a b:Int)),.sh (.int 0)])
 | 0,a,b,_,_,h=>absurd h (Nat.not_lt_zero _)
 | n+1,a,b,ha,hb,h=>by
  by_cases h0:b=0
  .subst h0
   have hc:(zac (zag 3) (dC (.int 0)) dNe) (shr [A,B,.sh (.int a),.sh (.int 0)])=.ok (.bl false):=by
    cases A<;>cases B<;>rfl
   rw[zgu hc];have:((saH a 0:Nat):Int)=a:=by rw[Int.gcd_zero_right];omega
   rw[this]
  .have hc:(zac (zag 3) (dC (.int 0)) dNe) (shr [A,B,.sh (.int a),.sh (.int b)])=.ok (.bl true):=by
    have:(b==0)=false:=beq_eq_false_iff_ne.mpr h0;cases A<;>cases B<;>open_line with[this]
   have f:=zde (a:=a) (b:=b) (by omega);have hb0:(b==0)=false:=beq_eq_false_iff_ne.mpr h0;rw[zkB (ρ2:=[A,B,.sh (.int b),.sh (.int (a.fmod b))]) hc ?_,zsG n b (a.fmod b) (by omega) f.1 (by omega)]
   .rw[zoq]
   .cases A<;>cases B<;>open_line with[hb0]
theorem low_ok {a b:Int}(hb:0 < b)(h1:a.natAbs < B13)(h2:b.natAbs < B13):zbe [.int a,.int b]=.ok (fr (low a b)):=by
 have hg:0 < (saH a b:Int):=zlk (by omega);have hgn:(saH (a.natAbs:Int) b:Int)=(saH a b:Int):=by
  congr 1
 have hl:=zsG (A:=.sh (.int a)) (B:=.sh (.int b)) (b.natAbs+1) (a.natAbs:Int) b (by omega) (by omega) (scb _);rw[hgn] at hl;have hwh:∀ (c:Ev->Res D) (s:Ev->Res Fl),zge (zjo 3) c s [.sh (.int a),.sh (.int b),.sh (.int (a.natAbs:Int)),.sh (.int b)]=zbO c s (b.natAbs+1) [.sh (.int a),.sh (.int b),.sh (.int (a.natAbs:Int)),.sh (.int b)]:=fun _ _=>rfl;have d1:(saH a b:Int)∣a:=sdE ..;have d2:(saH a b:Int)∣b:=sdv ..;have q1:zgR a (saH a b:Int)=true:=zlz (by omega) h1;have q2:zgR b (saH a b:Int)=true:=zlz (by omega) h2;have e1:a.fdiv (saH a b:Int)=a / (saH a b:Int):=zex hg;have e2:b.fdiv (saH a b:Int)=b / (saH a b:Int):=zex hg;open_line with[zbe,znx,abs_ok,hwh,hl,zp1 q1,zp1 q2,e1,e2]
 rfl
noncomputable def zep:Ev->Res Fl :=
 (zam (za4 1 (zac (zak (zad (dC (.int 0)) (zad (zac (zac (zag 0) (dC (.int 1)) dIx) (dC (.int 7)) zdW) (zad (zac (zac (zag 0) (dC (.int 1)) dIx) (dC (.int 60)) zdW) (zad (zac (zag 0) (dC (.int 1)) dIx) (zad (zac (zac (zag 0) (dC (.int 1)) dIx) (dC (.int 1000)) zdW) zar))))) zcP) (zac (zag 0) (dC (.int 0)) dIx) dIx))
 (zam (za4 2 (zac (zak (zad (dC (.int 1)) (zad (dC (.int 1)) (zad (zac (dC (.int 1)) (zac (zag 0) (dC (.int 2)) dIx) zca) (zad (dC (.int 1)) (zad (zac (dC (.int 1)) (zac (zac (zag 0) (dC (.int 2)) dIx) (dC (.int 4)) zdW) zca) zar))))) zcP) (zac (zag 0) (dC (.int 0)) dIx) dIx))
 (zam (zbQ (zak (zad (zag 1) (zad (zag 2) zar)) zbe))
 zaj)))
def zax:List D->Res D:=zcD 3 zep
theorem zll {w a b:Int}(hw:0<=w/\w < 5)(ha:0<=a/\a < 1000000000000000000)(hb:0<=b/\b < 30):∃ x:Fra,zax [.lst [.int w,.int a,.int b]]=.ok (fr x)/\zbo x/\0<=x.1:=by
 have hN:(1000000000000000000000:Int) < (N60:Int):=by decide
 have f7:=zde (a:=a) (b:=7) (by decide);have f60:=zde (a:=a) (b:=60) (by decide);have f1000:=zde (a:=a) (b:=1000) (by decide);have f4:=zde (a:=b) (b:=4) (by decide);obtain⟨p,q,hp,hq,i1,i2⟩:∃ p q:Int,(0<=p/\p < 1000000000000000000)/\(1<=q/\q < 1000)/\dIx (.lst [.int 0,.int (a.fmod 7),.int (a.fmod 60),.int a,.int (a.fmod 1000)]) (.int w)=.ok (.int p)/\dIx (.lst [.int 1,.int 1,.int (1+b),.int 1,.int (1+b.fmod 4)]) (.int w)=.ok (.int q):=by
  have:w=0∨w=1∨w=2∨w=3∨w=4:=by omega
  rcases this with rfl | rfl | rfl | rfl | rfl
  .exact⟨0,1,by decide,by decide,rfl,rfl⟩
  .exact⟨a.fmod 7,1,by omega,by decide,rfl,rfl⟩
  .exact⟨a.fmod 60,1+b,by omega,by omega,rfl,rfl⟩
  .exact⟨a,1,by omega,by decide,rfl,rfl⟩
  .exact⟨a.fmod 1000,1+b.fmod 4,by omega,by omega,rfl,rfl⟩
 have hlo:=low_ok (a:=p) (b:=q) (by omega) (zEN (by omega) (by omega)) (zEN (by omega) (by omega));refine⟨low p q,?_,zFw (by omega) (by omega) (by omega),zhi (by omega) (by omega)⟩;open_line with[zax,zep,i1,i2,hlo]
noncomputable def zkf:Ev->Res Fl :=
 (zam (za4 2 (dC (.str "abcdefghijklmnopqrstuvwxyz")))
 (zam (zqH 3 (zak zar zcP))
 (zam (zu5 (zag 1) (zea 4)
 (zam (za4 5 (zjB (zag 0) (zci (zac (dC (.int 10)) (zag 4) zbv)) (zci (zac (zac (dC (.int 10)) (zag 4) zbv) (dC (.int 10)) zca))))
 (zam (za4 6 (zxw (dC (.str "")) (zad (zes 1 [2,5] (zuW (zac (dC (.int 1)) (zac (zag 5) (dC (.int 0)) dIx) zca)) (zea 0) mYes (zac (zag 1) (zac (zag 2) (zac (dC (.int 2)) (zag 0) zca) dIx) dIx)) zar)))
 (zam (sIf (zgY (zac (zag 4) (dC (.int 0)) dGt) (zac (zac (zag 5) (dC (.int 1)) dIx) (dC (.int 0)) dEq))
 (zam (zyu 6 (zac (zjB (zac (zag 3) (zac (zag 4) (dC (.int 1)) zl9) dIx) zfC (zci (zac (zag 5) (dC (.int 0)) dIx))) (zac (zag 2) (zac (zag 5) (dC (.int 2)) dIx) dIx) zca))
 zaj)
 zaj)
 (zam (za4 7 (zac (zag 5) (dC (.int 9)) dIx))
 (zam (zge (fun _=>30) (zac (zag 6) (zag 3) dIn)
 (zam (za4 7 (zac (zag 7) (dC (.int 1)) zca))
 (zam (za4 6 (zac (zjB (zag 6) zfC (zci (zaY (dC (.int 1)) znq))) (zac (zag 2) (zac (zag 7) (dC (.int 26)) zdW) dIx) zca))
 zaj)))
 (zam (zc4 3 (zag 6))
 zaj)))))))
 (zam (zbQ (zag 3))
 zaj))))
def zcr:List D->Res D:=zcD 8 zkf
def S (cs:List Nat):Str:=⟨cs.toArray⟩
theorem zEC {a b:List Nat}(h:S a=S b):a=b:=by
 have:=congrArg (fun s:Str=>s.cps.toList) h;simpa [S] using this
theorem zpc (a:List Nat):(S a).length=a.length:=zEs a
structure zxW (cs:List Nat):Prop where
 l1:1<=cs.length
 l8:cs.length<=8
 ab:∀ x∈cs,zq1 x=true
theorem zxW.nameB {cs:List Nat}(h:zxW cs):Com.nameB (S cs)=true:=by
 unfold Com.nameB;rw[zpc];simp only[saF,decide_eq_true_eq];exact⟨h.l1,h.l8,saE.mpr fun x hx=>h.ab x (by simpa [S] using hx)⟩
def zk5 (css:List (List Nat)):List D:=css.map fun cs=>D.str (S cs)
theorem zpV {css:List (List Nat)}{cs:List Nat}:dIn (.str (S cs)) (.lst (zk5 css))=.ok (.bl (decide (cs∈css))):=by
 have e:zk5 css=(css.map S).map D.str:=by unfold zk5;rw[sa2];rfl
 rw[e,zq0]
 congr 2
 apply decide_eq_decide.mpr;constructor
 .intro h
  obtain⟨b,hb,hs⟩:=saG.mp h;rw[← zEC hs];exact hb
 .exact fun h=>saG.mpr ⟨cs,h,rfl⟩
theorem zBV {cs:List Nat}(h:1<=cs.length)(h8:cs.length<=1000):zAv (.str (S cs)) none (some (-1))=.ok (.str (S cs.dropLast)):=by
 rw[zuZ (by rw[zpc];exact h8)]
 congr 2
 have e1:scq (S cs) none (some (-1))=scq (S cs) none (some (-1+((S cs).length:Int))):=StrLaws.sliceText_neg_hi (S cs) none (by decide) (by rw[zpc];omega);rw[e1,zpc,show(-1+(cs.length:Int))=((cs.length-1:Nat):Int) by omega,show S cs=⟨cs.toArray⟩ from rfl,znU (by omega)];rw[List.dropLast_eq_take];rfl
def zlR (pre:List Nat)(at_:Int)(i:Nat):List Nat:=pre++[97+((at_+(i:Int)).fmod 26).toNat]
theorem zBY {pre:List Nat}{at_:Int}{i:Nat}(hl:pre.length<=7)(hp:∀ x∈pre,zq1 x=true):zxW (zlR pre at_ i):=by
 have f:=zde (a:=at_+(i:Int)) (b:=26) (by decide);refine⟨by unfold zlR;simp,by unfold zlR;simp;omega,fun x hx=>?_⟩;unfold zlR at hx;rw[saQ] at hx;rcases hx with hx | hx
 .exact hp x hx
 .have:x=97+((at_+(i:Int)).fmod 26).toNat:=by simpa using hx
  rw[this];exact zxP _ (by omega)
theorem zoc {α:Type}[DecidableEq α]:∀ {l m:List α},l.Nodup->(∀ x∈l,x∈m)->l.length<=m.length
 | [],_,_,_=>scp _
 | a::l,m,nd,h=>by
  rw[sbD] at nd;have ha:=h a saq;have:=zoc (l:=l) (m:=m.erase a) nd.2 fun x hx=>by
   have hne:x≠a:=fun z=>nd.1 (z▸hx);exact(List.mem_erase_of_ne hne).mpr (h x (sak _ hx))
  rw[List.length_erase_of_mem ha] at this;have:=List.length_pos_of_mem ha;simp only[sar];omega
theorem zxE {pre:List Nat}{at_:Int}{css:List (List Nat)}(h6:css.length<=6):∃ j,j<=6/\zlR pre at_ (1+j)∉css:=by
 refine Classical.byContradiction fun hno=>?_;have hall:∀ j,j<=6->zlR pre at_ (1+j)∈css:=fun j hj=>Classical.byContradiction fun hn=>hno ⟨j,hj,hn⟩;have nd:((saS 7).map fun j=>zlR pre at_ (1+j)).Nodup:=by
  rw[sbG,sdt];refine scY.imp_of_mem ?_ List.pairwise_lt_range;intro k j hk hj hlt heq;rw[sbu] at hk hj;have h1:=List.append_inj_right heq rfl;have h2:97+((at_+((1+k:Nat):Int)).fmod 26).toNat=97+((at_+((1+j:Nat):Int)).fmod 26).toNat:=by simpa using h1
  rw[scI _ (by decide),scI _ (by decide)] at h2;omega
 have:=zoc nd (m:=css) fun x hx=>by
  obtain⟨j,hj,rfl⟩:=saG.mp hx;rw[sbu] at hj;exact hall j (by omega)
 simp at this;omega
theorem zvD {a b c e:D}{css:List (List Nat)}{cs:List Nat}{at_:Int}(h1:1<=cs.length)(h8:cs.length<=8):(zam (za4 7 (zac (zag 7) (dC (.int 1)) zca))
 (zam (za4 6 (zac (zjB (zag 6) zfC (zci (zaY (dC (.int 1)) znq))) (zac (zag 2) (zac (zag 7) (dC (.int 26)) zdW) dIx) zca))
 zaj)) [.sh a,.sh b,.sh (.str "abcdefghijklmnopqrstuvwxyz"),.ow (.lst (zk5 css)),.sh c,.sh e,.sh (.str (S cs)),.sh (.int at_)]=.ok (.nx [.sh a,.sh b,.sh (.str "abcdefghijklmnopqrstuvwxyz"),.ow (.lst (zk5 css)),.sh c,.sh e,.sh (.str (S (cs.dropLast++[97+((at_+1).fmod 26).toNat]))),.sh (.int (at_+1))]):=by
 have f:=zde (a:=at_+1) (b:=26) (by decide);have hs:=zBV h1 (by omega);have hi:=zxO f.1 f.2;have hadd:zca (.str (S cs.dropLast)) (.str ⟨#[97+((at_+1).fmod 26).toNat]⟩)=.ok (.str (S (cs.dropLast++[97+((at_+1).fmod 26).toNat]))):=by
  have hln:(S cs.dropLast).length+(⟨#[97+((at_+1).fmod 26).toNat]⟩:Str).length<=1000:=by
   rw[zpc,List.length_dropLast];show cs.length-1+1<=1000;omega
  rw[ztb hln];exact congrArg (fun z=>Res.ok (D.str z)) (zqd cs.dropLast [97+((at_+1).fmod 26).toNat])
 open_line with[hs,hi,hadd]
theorem zyS {a b c e:D}{css:List (List Nat)}{pre:List Nat}{at_:Int}(hl:pre.length<=7):∀ (d i fuel:Nat),zlR pre at_ (i+d)∉css->d < fuel->∃ i',zbO (zac (zag 6) (zag 3) dIn)
 (zam (za4 7 (zac (zag 7) (dC (.int 1)) zca))
 (zam (za4 6 (zac (zjB (zag 6) zfC (zci (zaY (dC (.int 1)) znq))) (zac (zag 2) (zac (zag 7) (dC (.int 26)) zdW) dIx) zca))
 zaj)) fuel [.sh a,.sh b,.sh (.str "abcdefghijklmnopqrstuvwxyz"),.ow (.lst (zk5 css)),.sh c,.sh e,.sh (.str (S (zlR pre at_ i))),.sh (.int (at_+(i:Int)))]=.ok (.nx [.sh a,.sh b,.sh (.str "abcdefghijklmnopqrstuvwxyz"),.ow (.lst (zk5 css)),.sh c,.sh e,.sh (.str (S (zlR pre at_ i'))),.sh (.int (at_+(i':Int)))])/\zlR pre at_ i'∉css:=by
 intro d
 induction d with
 | zero =>
  intro i fuel hn hf;obtain⟨f,rfl⟩:∃ f,fuel=f+1:=⟨fuel-1,by omega⟩
  have hn:zlR pre at_ i∉css:=hn;refine⟨i,?_,hn⟩;rw[zgu];have:=zpV (css:=css) (cs:=zlR pre at_ i);rw[decide_eq_false hn] at this;open_line with[this]
 | succ d ih =>
  intro i fuel hn hf;obtain⟨f,rfl⟩:∃ f,fuel=f+1:=⟨fuel-1,by omega⟩
  by_cases hm:zlR pre at_ i∈css
  .obtain⟨i',h1,h2⟩:=ih (i+1) f (by rw[show i+1+d=i+(d+1) by omega];exact hn) (by omega)
   refine⟨i',?_,h2⟩;have hst:=zvD (a:=a) (b:=b) (c:=c) (e:=e) (css:=css) (cs:=zlR pre at_ i) (at_:=at_+(i:Int)) (by unfold zlR;simp) (by unfold zlR;simp;omega);have e1:(zlR pre at_ i).dropLast++[97+((at_+(i:Int)+1).fmod 26).toNat]=zlR pre at_ (i+1):=by
    unfold zlR;rw[List.dropLast_concat,show at_+(i:Int)+1=at_+((i+1:Nat):Int) by omega]
   rw[e1,show at_+(i:Int)+1=at_+((i+1:Nat):Int) by omega] at hst;rw[zkB ?_ hst]
   .exact h1
   .have:=zpV (css:=css) (cs:=zlR pre at_ i)
    rw[decide_eq_true hm] at this;open_line with[this]
  .refine⟨i,?_,hm⟩
   rw[zgu];have:=zpV (css:=css) (cs:=zlR pre at_ i);rw[decide_eq_false hm] at this;open_line with[this]
theorem zvC {a b c e:D}{css:List (List Nat)}{cs:List Nat}{at_:Int}(h6:css.length<=6)(h:zxW cs):∃ cs' at',zbO (zac (zag 6) (zag 3) dIn)
 (zam (za4 7 (zac (zag 7) (dC (.int 1)) zca))
 (zam (za4 6 (zac (zjB (zag 6) zfC (zci (zaY (dC (.int 1)) znq))) (zac (zag 2) (zac (zag 7) (dC (.int 26)) zdW) dIx) zca))
 zaj)) 30 [.sh a,.sh b,.sh (.str "abcdefghijklmnopqrstuvwxyz"),.ow (.lst (zk5 css)),.sh c,.sh e,.sh (.str (S cs)),.sh (.int at_)]=.ok (.nx [.sh a,.sh b,.sh (.str "abcdefghijklmnopqrstuvwxyz"),.ow (.lst (zk5 css)),.sh c,.sh e,.sh (.str (S cs')),.sh (.int at')])/\zxW cs'/\cs'∉css:=by
 by_cases hm:cs∈css
 .have hpl:cs.dropLast.length<=7:=by rw[List.length_dropLast];have:=h.l8;omega
  obtain⟨j,hj,hn⟩:=zxE (pre:=cs.dropLast) (at_:=at_) (css:=css) h6;obtain⟨i',h1,h2⟩:=zyS (a:=a) (b:=b) (c:=c) (e:=e) hpl j 1 29 hn (by omega);refine⟨zlR cs.dropLast at_ i',at_+(i':Int),?_,zBY hpl fun x hx=>h.ab x (List.dropLast_subset _ hx),h2⟩;have hst:=zvD (a:=a) (b:=b) (c:=c) (e:=e) (css:=css) (cs:=cs) (at_:=at_) h.l1 h.l8;rw[zkB ?_ hst]
  .exact h1
  .have:=zpV (css:=css) (cs:=cs)
   rw[decide_eq_true hm] at this;open_line with[this]
 .refine⟨cs,at_,?_,h,hm⟩
  rw[zgu];have:=zpV (css:=css) (cs:=cs);rw[decide_eq_false hm] at this;open_line with[this]
noncomputable def dsz:List Int:=[8,3,26,26,26,26,26,26,26,26,8,3,26,26,26,26,26,26,26,26,8,3,26,26,26,26,26,26,26,26,8,3,26,26,26,26,26,26,26,26,8,3,26,26,26,26,26,26,26,26,8,3,26,26,26,26,26,26,26,26,8,3,26,26,26,26,26,26,26,26]
theorem zEg:∀ k,k < 7->∀ j,j < 10->dsz[10*k+j]?=some (if j=0 then 8 else if j=1 then 3 else 26):=by decide
structure Ten (es:List Int):Prop where
 len:es.length=10
 e0:∃ v,es[0]?=some v/\0<=v/\v < 8
 e1:∃ v,es[1]?=some v/\0<=v/\v < 3
 el:∀ j,2<=j->j < 10->∃ v,es[j]?=some v/\0<=v/\v < 26
theorem zCw {ds:List Int}(W:Drawn dsz ds){k:Nat}(hk:k < 7):Ten ((ds.drop (10*k)).take 10):=by
 have hl:ds.length=70:=W.len;have at_:∀ j,j < 10->∃ v,((ds.drop (10*k)).take 10)[j]?=some v/\0<=v/\v < (if j=0 then 8 else if j=1 then 3 else 26:Int):=fun j hj=>by
  rw[saY hj,sbl];obtain⟨v,h1,h2,_⟩:=W.at (10*k+j) (zEg k hk j hj);exact⟨v,h1,h2.1,h2.2⟩
 refine⟨by rw[sa4,sbY];omega,?_,?_,fun j h2 h10=>?_⟩
 .have:=at_ 0 (by decide);simpa using this
 .have:=at_ 1 (by decide);simpa using this
 .obtain⟨v,h⟩:=at_ j h10
  rw[if_neg (by omega),if_neg (by omega)] at h;exact⟨v,h⟩
theorem Ten.ix {es:List Int}{j:Nat}{v:Int}(h:es[j]?=some v):dIx (.lst (es.map D.int)) (.int (j:Int))=.ok (.int v):=zdf (by rw[sai,h];rfl)
def zsl (d:D):Res (List D):=match d with
 | .int j=>if -4611686018427387904<=j/\j < 4611686018427387904 then .ok (intsFrom 0 j.toNat) else .stuck
 | _=>.stuck
theorem zov {f:Ev->Res D}{ρ:Ev}:zuW f ρ=(f ρ).bind zsl:=zaD rfl
theorem zuV {k:Nat}(h:k<=1000000):zsl (.int (k:Int))=.ok (intsFrom 0 k):=by
 unfold zsl;dsimp only;rw[if_pos ⟨by omega,by omega⟩,sbt]
def first (es:List Int)(m:Nat):List Nat:=(saS m).map fun j=>97+((es[2+j]?).getD 0).toNat
theorem zza {es:List Int}(T:Ten es){m:Nat}(h1:1<=m)(h8:m<=8):zxW (first es m):=by
 refine⟨by unfold first;simpa using h1,by unfold first;simpa using h8,fun x hx=>?_⟩;unfold first at hx
 obtain⟨j,hj,rfl⟩:=saG.mp hx;rw[sbu] at hj;obtain⟨v,e,b⟩:=T.el (2+j) (by omega) (by omega);rw[e,scs];exact zxP _ (by omega)
theorem zt7 {es:List Int}(T:Ten es){m:Nat}(h8:m<=8){a b n k:D}{x6 x7:Sl}:ziR 1 [2,5] (zea 0) mYes (zac (zag 1) (zac (zag 2) (zac (dC (.int 2)) (zag 0) zca) dIx) dIx) [.sh a,.sh b,.sh (.str "abcdefghijklmnopqrstuvwxyz"),.ow n,.sh k,.sh (.lst (es.map D.int)),x6,x7] (intsFrom 0 m)=.ok (.lst ((first es m).map fun c=>D.str ⟨#[c]⟩)):=by
 have hlen:(DL.intsFrom 0 m).length=m:=by unfold DL.intsFrom;simp
 rw[zf4 (F:=fun d=>match d with | .int j=>.str ⟨#[97+((es[2+j.toNat]?).getD 0).toNat]⟩ | d=>d) (by rw[hlen];omega)]
 .congr 2
  unfold DL.intsFrom first
  rw[sa2,sa2];apply List.map_congr_left;intro j _;show D.str ⟨#[97+((es[2+(0+(j:Int)).toNat]?).getD 0).toNat]⟩=_;rw[show(0+(j:Int)).toNat=j by omega];rfl
 .intro d hd
  unfold DL.intsFrom at hd;obtain⟨j,hj,rfl⟩:=saG.mp hd;rw[sbu] at hj;obtain⟨v,e,hb⟩:=T.el (2+j) (by omega) (by omega);refine⟨[.sh (.int (0+(j:Int))),.sh (.str "abcdefghijklmnopqrstuvwxyz"),.sh (.lst (es.map D.int))],rfl,rfl,?_⟩;have hix:dIx (.lst (es.map D.int)) (.int (2+(0+(j:Int))))=.ok (.int v):=by
   rw[show(2+(0+(j:Int)))=((2+j:Nat):Int) by omega];exact Ten.ix e
  open_line with[hix,zxO hb.1 hb.2]
  rw[show(0+(j:Int)).toNat=j by omega,e];rfl
theorem ztz {z:Str}{j:Int}(h:(z.length:Int)<=j):scq z none (some j)=scq z none (some (z.length:Int)):=by
 show sdq z none (some j)=sdq z none (some (z.length:Int));have e:scF none (some j) 1 z.length=scF none (some (z.length:Int)) 1 z.length:=by
  have a:¬ j < 0:=by omega
  have b:¬ ((z.length:Int) < 0):=by omega
  have c:min j (z.length:Int)=(z.length:Int):=by omega
  have d:min (z.length:Int) (z.length:Int)=(z.length:Int):=by omega
  simp [scF,a,b,c,d]
 unfold sdq;rw[e]
theorem ztU {α:Type}{l:List α}{x:α}(h:l.Nodup)(hx:x∉l):(l++[x]).Nodup:=by
 rw[sdu];refine⟨h,by simp,fun a ha b hb=>?_⟩;have:b=x:=by simpa using hb
 subst this;intro z;subst z;exact hx ha
set_option maxHeartbeats 1000000 in
theorem zyU {ds:List Int}(W:Drawn dsz ds){n:Nat}(hn:n<=7):∃ css:List (List Nat),zcr [.lst (ds.map D.int),.int (n:Int)]=.ok (.lst (zk5 css))/\css.length=n/\css.Nodup/\∀ cs∈css,zxW cs:=by
 have hdl:ds.length=70:=W.len;obtain⟨ρ',hl,css,hc,hnd,hnm,x4,x5,x6,x7,rfl⟩:=zq7 (i:=4) (n:=n)
  (ρ:=[.sh (.lst (ds.map D.int)),.sh (.int (n:Int)),.sh (.str "abcdefghijklmnopqrstuvwxyz"),.ow (.lst []),.no,.no,.no,.no])
  (body:=(zam (za4 5 (zjB (zag 0) (zci (zac (dC (.int 10)) (zag 4) zbv)) (zci (zac (zac (dC (.int 10)) (zag 4) zbv) (dC (.int 10)) zca))))
 (zam (za4 6 (zxw (dC (.str "")) (zad (zes 1 [2,5] (zuW (zac (dC (.int 1)) (zac (zag 5) (dC (.int 0)) dIx) zca)) (zea 0) mYes (zac (zag 1) (zac (zag 2) (zac (dC (.int 2)) (zag 0) zca) dIx) dIx)) zar)))
 (zam (sIf (zgY (zac (zag 4) (dC (.int 0)) dGt) (zac (zac (zag 5) (dC (.int 1)) dIx) (dC (.int 0)) dEq))
 (zam (zyu 6 (zac (zjB (zac (zag 3) (zac (zag 4) (dC (.int 1)) zl9) dIx) zfC (zci (zac (zag 5) (dC (.int 0)) dIx))) (zac (zag 2) (zac (zag 5) (dC (.int 2)) dIx) dIx) zca))
 zaj)
 zaj)
 (zam (za4 7 (zac (zag 5) (dC (.int 9)) dIx))
 (zam (zge (fun _=>30) (zac (zag 6) (zag 3) dIn)
 (zam (za4 7 (zac (zag 7) (dC (.int 1)) zca))
 (zam (za4 6 (zac (zjB (zag 6) zfC (zci (zaY (dC (.int 1)) znq))) (zac (zag 2) (zac (zag 7) (dC (.int 26)) zdW) dIx) zca))
 zaj)))
 (zam (zc4 3 (zag 6))
 zaj)))))))
  (fun k ρ=>∃ css:List (List Nat),css.length=k/\css.Nodup/\(∀ cs∈css,zxW cs)/\∃ x4 x5 x6 x7,ρ=[.sh (.lst (ds.map D.int)),.sh (.int (n:Int)),.sh (.str "abcdefghijklmnopqrstuvwxyz"),.ow (.lst (zk5 css)),x4,x5,x6,x7]) (by
   rintro k hk ρ ⟨css,rfl,hnd,hnm,x4,x5,x6,x7,rfl⟩;have T:=zCw W (k:=css.length) (by omega);generalize hes:(ds.drop (10*css.length)).take 10=es at T;have hcut:zmA (ds.map D.int) (some (10*(css.length:Int))) (some (10*(css.length:Int)+10))=es.map D.int:=by
    rw[zoV (a:=10*css.length) (b:=10*css.length+10) (by omega) (by omega) (by omega) (by omega),show 10*css.length+10-10*css.length=10 by omega,hes]
   obtain⟨e0,g0,b0,b0'⟩:=T.e0;obtain⟨e1,g1,b1,b1'⟩:=T.e1;obtain⟨e2,g2,b2,b2'⟩:=T.el 2 (by decide) (by decide);obtain⟨e9,g9,b9,b9'⟩:=T.el 9 (by decide) (by decide);have i0:dIx (.lst (es.map D.int)) (.int 0)=.ok (.int e0):=Ten.ix (j:=0) g0;have i1:dIx (.lst (es.map D.int)) (.int 1)=.ok (.int e1):=Ten.ix (j:=1) g1;have i2:dIx (.lst (es.map D.int)) (.int 2)=.ok (.int e2):=Ten.ix (j:=2) g2;have i9:dIx (.lst (es.map D.int)) (.int 9)=.ok (.int e9):=Ten.ix (j:=9) g9;obtain⟨m,rfl⟩:=sbm b0;have hm1:zcA 10 (css.length:Int)=true:=zev (by decide) (by omega);have hsrc:zsl (.int (1+(m:Int)))=.ok (DL.intsFrom 0 (1+m)):=by
    rw[show(1+(m:Int))=((1+m:Nat):Int) by omega];exact zuV (by omega)
   have hjoin:=zt1 (cs:=first es (1+m)) (by unfold first;simp;omega);have hF:=zza T (m:=1+m) (by omega) (by omega);have hcomp:=fun(x6 x7:Sl)=>zt7 T (m:=1+m) (by omega) (a:=.lst (ds.map D.int)) (b:=.int (n:Int)) (n:=.lst (zk5 css)) (k:=.int (css.length:Int)) (x6:=x6) (x7:=x7);have hwh:∀ (c:Ev->Res D) (s:Ev->Res Fl) (ρ:Ev),zge (fun _=>30) c s ρ=zbO c s 30 ρ:=fun _ _ _=>rfl;have hap:decide ((zk5 css).length<=999)=true:=decide_eq_true (by unfold zk5;rw[sab];omega);have fin:∀ cs,cs∉css->zxW cs->(css++[cs]).Nodup/\∀ c∈css++[cs],zxW c:=fun cs h1 h2=>⟨ztU hnd h1,fun c hc=>by
    rw[saQ] at hc;rcases hc with hc | hc
    .exact hnm c hc
    .have:c=cs:=by simpa using hc
     subst this;exact h2⟩
   have hmp:∀ cs,zk5 (css++[cs])=zk5 css++[.str (S cs)]:=fun cs=>by unfold zk5;rw[saU];rfl
   have hS:∀ cs:List Nat,(⟨cs.toArray⟩:Str)=S cs:=fun _=>rfl;rw[hS] at hjoin;cases hcc:(decide ((css.length:Int) > 0)&&(e1==0)) with
   | false =>
    obtain⟨cs',at',hw,hN,hO⟩:=zvC (a:=.lst (ds.map D.int)) (b:=.int (n:Int)) (c:=.int (css.length:Int)) (e:=.lst (es.map D.int)) (css:=css) (cs:=first es (1+m)) (at_:=e9) (by omega) hF;refine⟨[.sh (.lst (ds.map D.int)),.sh (.int (n:Int)),.sh (.str "abcdefghijklmnopqrstuvwxyz"),.ow (.lst (zk5 (css++[cs']))),.sh (.int (css.length:Int)),.sh (.lst (es.map D.int)),.sh (.str (S cs')),.sh (.int at')],?_,css++[cs'],by simp,(fin cs' hO hN).1,(fin cs' hO hN).2,_,_,_,_,rfl⟩;rw[hmp]
    by_cases hk0:(css.length:Int) > 0
    .have h10:(e1==0)=false:=by rw[decide_eq_true hk0] at hcc;simpa using hcc
     open_line with[zbw hm1,hcut,i0,zov,hsrc,hcomp,hjoin,decide_eq_true hk0,i1,h10,i9,hwh,hw,zc8 hap]
    .open_line with[zbw hm1,hcut,i0,zov,hsrc,hcomp,hjoin,decide_eq_false hk0,i9,hwh,hw,zc8 hap]
   | true =>
    rw[saF,decide_eq_true_eq] at hcc;have hk0:=hcc.1;have hlast:css.length-1 < css.length:=by omega
    have hpx:=hnm css[css.length-1] (saL hlast);have hixn:dIx (.lst (zk5 css)) (.int ((css.length:Int)-1))=.ok (.str (S css[css.length-1])):=by
     rw[show((css.length:Int)-1)=((css.length-1:Nat):Int) by omega];exact zdf (by unfold zk5;rw[sai,saa hlast];rfl)
    generalize css[css.length-1]=pv at hixn hpx;have hsl:zAv (.str (S pv)) none (some (m:Int))=.ok (.str (S (pv.take m))):=by
     rw[zuZ (by rw[zpc];have:=hpx.l8;omega)]
     by_cases hmm:m<=pv.length
     .exact congrArg (fun z=>Res.ok (D.str z)) (znU hmm)
     .rw[ztz (by rw[zpc];omega),zpc]
      refine congrArg (fun z=>Res.ok (D.str z)) ((znU (saA _)).trans ?_);rw[sbX,sc4 (by omega)];rfl
    have hadd:zca (.str (S (pv.take m))) (.str ⟨#[97+e2.toNat]⟩)=.ok (.str (S (pv.take m++[97+e2.toNat]))):=by
     have hln:(S (pv.take m)).length+(⟨#[97+e2.toNat]⟩:Str).length<=1000:=by
      rw[zpc,sa4];show min m pv.length+1<=1000;omega
     rw[ztb hln];exact congrArg (fun z=>Res.ok (D.str z)) (zqd (pv.take m) [97+e2.toNat])
    have hset:∀ (i:Nat) (ρ:Ev) (z:Str),zAz i ρ (.str z)=.ok (.nx (ρ.set i (.sh (.str z)))):=fun _ _ _=>rfl;have hF2:zxW (pv.take m++[97+e2.toNat]):=by
     refine⟨by simp,by simp;omega,fun x hx=>?_⟩;rw[saQ] at hx;rcases hx with hx | hx
     .exact hpx.ab x (sda hx)
     .have:x=97+e2.toNat:=by simpa using hx
      rw[this];exact zxP _ (by omega)
    obtain⟨cs',at',hw,hN,hO⟩:=zvC (a:=.lst (ds.map D.int)) (b:=.int (n:Int)) (c:=.int (css.length:Int)) (e:=.lst (es.map D.int)) (css:=css) (cs:=pv.take m++[97+e2.toNat]) (at_:=e9) (by omega) hF2;refine⟨[.sh (.lst (ds.map D.int)),.sh (.int (n:Int)),.sh (.str "abcdefghijklmnopqrstuvwxyz"),.ow (.lst (zk5 (css++[cs']))),.sh (.int (css.length:Int)),.sh (.lst (es.map D.int)),.sh (.str (S cs')),.sh (.int at')],?_,css++[cs'],by simp,(fin cs' hO hN).1,(fin cs' hO hN).2,_,_,_,_,rfl⟩;rw[hmp];open_line with[zbw hm1,hcut,i0,zov,hsrc,hcomp,hjoin,decide_eq_true hk0,i1,hcc.2,zl9,hixn,hsl,i2,zxO b2 b2',hadd,zBi,hset,i9,hwh,hw,zc8 hap]) ⟨[],rfl,List.nodup_nil,fun c hc=>(nomatch hc),_,_,_,_,rfl⟩
 refine⟨css,?_,hc,hnd,hnm⟩;open_line with[zcr,zkf,zoG,zot (show n<=1000000 by omega),hl]
noncomputable def zds:Ev->Res Fl :=
 (zam (za4 3 (zak (zad (zag 0) (zad (zak (zad (dC (.int 420)) (zad (dC (.int 60)) (zad (dC (.int 2)) (zad (dC (.int 5)) (zad (zac (dC (.int 10)) (dC (.int 18)) zs4) (zad (dC (.int 30)) (zad (dC (.int 6)) (zad (dC (.int 5)) (zad (zac (dC (.int 10)) (dC (.int 18)) zs4) (zad (dC (.int 30)) (zad (dC (.int 3)) zar))))))))))) zcP) zar)) zaH))
 (zam (za4 4 (zac (zac (zag 3) (dC (.int 0)) dIx) (zak (zad (zag 2) zar) (m1 zgt)) zdW))
 (zam (za4 5 (zac (zac (zac (zag 4) (dC (.int 1)) zca) (zac (zac (zag 3) (dC (.int 1)) dIx) (zac (zak (zad (zag 2) zar) (m1 zgt)) (dC (.int 1)) zl9) zdW) zca) (zak (zad (zag 2) zar) (m1 zgt)) zdW))
 (zam (sIf (zac (zac (zag 3) (dC (.int 10)) dIx) (dC (.int 0)) dEq)
 (zam (za4 4 (zac (zag 1) (zac (zak (zad (zag 2) zar) (m1 zgt)) (dC (.int 1)) zl9) zdW))
 (zam (za4 5 (zac (zag 4) (dC (.int 1)) zca))
 zaj))
 zaj)
 (zam (za4 6 (dC (.non)))
 (zam (sIf (zac (zac (zag 3) (dC (.int 6)) dIx) (dC (.int 0)) dGt)
 (zam (za4 6 (zak (zad (zjB (zag 3) (zci (dC (.int 7))) (zci (dC (.int 10)))) zar) zax))
 (zam (sIf (zac (zac (zag 6) (dC (.int 0)) dIx) (dC (.int 0)) dEq)
 (zam (za4 6 (zak (zad (dC (.int 1)) (zad (dC (.int 1)) zar)) zcZ))
 zaj)
 zaj)
 zaj))
 zaj)
 (zam (zbQ (zak (zad (zac (zag 2) (zag 4) dIx) (zad (zac (zag 2) (zag 5) dIx) (zad (zac (zak (zad (dC (.str "one")) (zad (dC (.str "both")) zar)) zcP) (zac (zag 3) (dC (.int 2)) dIx) dIx) (zad (zak (zad (zjB (zag 3) (zci (dC (.int 3))) (zci (dC (.int 6)))) zar) zax) (zad (zag 6) zar))))) zcZ))
 zaj)))))))
def zbj:List D->Res D:=zcD 7 zds
theorem zuy:zbo (1,1)/\0 < ((1,1):Fra).1:=⟨⟨⟨by decide,by decide⟩,by decide,by decide⟩,by decide⟩
set_option maxHeartbeats 1000000 in
theorem zCv {zs:List Str}{c:Int}{k:Nat}(h2:2<=zs.length)(h8:zs.length<=8)(nd:zs.Nodup):∃ t,zbj [.int c,.int (k:Int),.lst (zs.map D.str)]=.ok (zbA t)/\zpb zs t:=by
 obtain⟨vs,hd,W⟩:=draws_ok c [420,60,2,5,1000000000000000000,30,6,5,1000000000000000000,30,3] (by decide) (by decide);have hd':zaH [.int c,.lst [.int 420,.int 60,.int 2,.int 5,.int 1000000000000000000,.int 30,.int 6,.int 5,.int 1000000000000000000,.int 30,.int 3]]=.ok (.lst (vs.map D.int)):=hd;obtain⟨d0,g0,b0,i0⟩:=W.ix 0 0 rfl rfl;obtain⟨d1,g1,b1,i1⟩:=W.ix 1 1 rfl rfl;obtain⟨d2,g2,b2,i2⟩:=W.ix 2 2 rfl rfl;obtain⟨d3,g3,b3,_⟩:=W.at 3 rfl;obtain⟨d4,g4,b4,_⟩:=W.at 4 rfl;obtain⟨d5,g5,b5,_⟩:=W.at 5 rfl;obtain⟨d6,g6,b6,i6⟩:=W.ix 6 6 rfl rfl;obtain⟨d7,g7,b7,_⟩:=W.at 7 rfl;obtain⟨d8,g8,b8,_⟩:=W.at 8 rfl;obtain⟨d9,g9,b9,_⟩:=W.at 9 rfl;obtain⟨d10,g10,b10,i10⟩:=W.ix 10 10 rfl rfl;have c3:=zFQ (x:=3) (y:=6) (i:=3) rfl rfl g3 g4 g5;have c7:=zFQ (x:=7) (y:=10) (i:=7) rfl rfl g7 g8 g9;obtain⟨x,hx,fx,lx⟩:=zll (w:=d3) (a:=d4) (b:=d5) b3 b4 b5;obtain⟨y,hy,fy,ly⟩:=zll (w:=d7) (a:=d8) (b:=d9) b7 b8 b9;obtain⟨wd,hw,jw⟩:=zAk b2.1 b2.2;have hn0:((zs.length:Int)==0)=false:=beq_eq_false_iff_ne.mpr (by omega);have hn1:((zs.length:Int)-1==0)=false:=beq_eq_false_iff_ne.mpr (by omega);obtain⟨p,q,hp,hq,hpq,hplace⟩:∃ p q:Int,(0<=p/\p < (zs.length:Int))/\(0<=q/\q < (zs.length:Int))/\p≠q/\(((d10==0)=true/\p=(k:Int).fmod ((zs.length:Int)-1)/\q=p+1)∨((d10==0)=false/\p=d0.fmod (zs.length:Int)/\q=(d0.fmod (zs.length:Int)+1+d1.fmod ((zs.length:Int)-1)).fmod (zs.length:Int))):=by
  cases h10:(d10==0) with
  | true =>
   have f:=zde (a:=(k:Int)) (b:=(zs.length:Int)-1) (by omega);exact⟨(k:Int).fmod ((zs.length:Int)-1),(k:Int).fmod ((zs.length:Int)-1)+1,by omega,by omega,by omega,.inl ⟨rfl,rfl,rfl⟩⟩
  | false =>
   have f:=zde (a:=d0) (b:=(zs.length:Int)) (by omega);have f':=zde (a:=d1) (b:=(zs.length:Int)-1) (by omega);obtain⟨hr,hne⟩:=zqq (n:=(zs.length:Int)) (d:=d0.fmod (zs.length:Int)) (e:=d1.fmod ((zs.length:Int)-1)) (by omega) f.1 f.2 f'.1 f'.2;exact⟨_,_,f,hr,saW hne,.inr ⟨rfl,rfl,rfl⟩⟩
 obtain⟨z1,k1,j1⟩:=zzE (zs:=zs) hp.1 hp.2;obtain⟨z2,k2,j2⟩:=zzE (zs:=zs) hq.1 hq.2;have hz12:z1≠z2:=zsC nd k1 k2 (by omega);have f1:dIx (fr y) (.int 0)=.ok (.int y.1):=rfl;obtain⟨o,ho,hworth⟩:∃ o:Option Fra,(∀ v,o=some v->zbo v/\0 < v.1)/\((¬ d6 > 0/\o=none)∨(d6 > 0/\(y.1==0)=true/\o=some (1,1))∨(d6 > 0/\(y.1==0)=false/\o=some y)):=by
  by_cases h6:d6 > 0
  .cases hy0:(y.1==0) with
   | true=>exact⟨some (1,1),fun v hv=>by cases hv;exact zuy,.inr (.inl ⟨h6,rfl,rfl⟩)⟩
   | false=>exact⟨some y,fun v hv=>by cases hv;exact⟨fy,by have:y.1≠0:=beq_eq_false_iff_ne.mp hy0;omega⟩,.inr (.inr ⟨h6,rfl,rfl⟩)⟩
  .exact⟨none,fun v hv=>(nomatch hv),.inl ⟨h6,rfl⟩⟩
 refine⟨⟨z1,z2,wd,x,o⟩,?_,say k1,say k2,hz12,hw,fx,lx,ho⟩;rw[show zbA ⟨z1,z2,wd,x,o⟩=.tup [.str z1,.str z2,.str wd,fr x,zcQ o] from rfl];rcases hplace with⟨h10,e1,e2⟩ | ⟨h10,e1,e2⟩<;>rcases hworth with⟨h6,e3⟩ | ⟨h6,hy0,e3⟩ | ⟨h6,hy0,e3⟩<;>subst e3
 .rw[e2,e1] at j2;rw[e1] at j1
  open_line with[zbj,zds,zhG,hd',i0,i1,i2,i6,i10,sab,hn0,hn1,zl9,h10,decide_eq_false h6,j1,j2,jw,c3,hx]
  rfl
 .rw[e2,e1] at j2;rw[e1] at j1
  open_line with[zbj,zds,zhG,hd',i0,i1,i2,i6,i10,sab,hn0,hn1,zl9,h10,decide_eq_true h6,c7,hy,f1,hy0,j1,j2,jw,c3,hx]
  rfl
 .rw[e2,e1] at j2;rw[e1] at j1
  open_line with[zbj,zds,zhG,hd',i0,i1,i2,i6,i10,sab,hn0,hn1,zl9,h10,decide_eq_true h6,c7,hy,f1,hy0,j1,j2,jw,c3,hx]
  rfl
 .rw[e2] at j2;rw[e1] at j1
  open_line with[zbj,zds,zhG,hd',i0,i1,i2,i6,i10,sab,hn0,hn1,zl9,h10,decide_eq_false h6,j1,j2,jw,c3,hx]
  rfl
 .rw[e2] at j2;rw[e1] at j1
  open_line with[zbj,zds,zhG,hd',i0,i1,i2,i6,i10,sab,hn0,hn1,zl9,h10,decide_eq_true h6,c7,hy,f1,hy0,j1,j2,jw,c3,hx]
  rfl
 .rw[e2] at j2;rw[e1] at j1
  open_line with[zbj,zds,zhG,hd',i0,i1,i2,i6,i10,sab,hn0,hn1,zl9,h10,decide_eq_true h6,c7,hy,f1,hy0,j1,j2,jw,c3,hx]
  rfl
noncomputable def zkh:Ev->Res Fl :=
 (zam (za4 1 (zak (zad (zac (zac (zag 0) (zak (zad (dC (.int 0)) zar) zcP) zca) (dC (.int 0)) dIx) (zad (zac (zac (zak (zad (dC (.int 6)) (zad (dC (.int 420)) (zad (dC (.int 60)) zar))) zcP) (zsr (zac (zak (zad (dC (.int 8)) (zad (dC (.int 3)) zar)) zcP) (zsr (zak (zad (dC (.int 26)) zar) zcP) (dC (.int 8))) zx1) (dC (.int 7))) zca) (zak (zad (dC (.int 18)) zar) zcP) zca) zar)) zaH))
 (zam (za4 2 (zak (zad (dC (.int 14)) (zad (zac (zag 1) (dC (.int 73)) dIx) zar)) (m2 zFP)))
 (zam (zbQ (zak (zad (zjB (zag 0) (zci (dC (.int 1))) (zci (zac (dC (.int 1)) (zag 2) zca))) (zad (zjB (zag 0) (zci (zac (dC (.int 1)) (zag 2) zca)) (zci (dC (.int 63)))) zar)) zcZ))
 zaj)))
def za6:List D->Res D:=zcD 3 zkh
def hd0 (ns:List Int):Int:=(ns++[0]).headD 0
theorem zv6 {ns:List Int}(hn:ns.length<=900){ρ:Ev}(h:ρ[0]?=some (.sh (.lst (ns.map D.int)))):(zac (zac (zag 0) (zak (zad (dC (.int 0)) zar) zcP) zca) (dC (.int 0)) dIx) ρ=.ok (.int (hd0 ns)):=by
 have hadd:zca (.lst (ns.map D.int)) (.lst [.int 0])=.ok (.lst ((ns++[0]).map D.int)):=by
  rw[zf0 (decide_eq_true (by rw[sab];simp;omega)),saU];rfl
 have hix:dIx (.lst ((ns++[0]).map D.int)) (.int 0)=.ok (.int (hd0 ns)):=by
  refine zdf (k:=0) ?_;unfold hd0;cases ns<;>rfl
 have hv:zag 0 ρ=.ok (.lst (ns.map D.int)):=by
  show(match ρ[0]? with | some (.sh d)=>Res.ok d | _=>.stuck)=_;rw[h]
 rw[zw9,zw9,hv];open_line with[hadd,hix]
def szW:List Int:=[6,420,60]++dsz
def szC:List Int:=szW++[18]
theorem zCF {ρ:Ev}:(zac (zak (zad (dC (.int 6)) (zad (dC (.int 420)) (zad (dC (.int 60)) zar))) zcP) (zsr (zac (zak (zad (dC (.int 8)) (zad (dC (.int 3)) zar)) zcP) (zsr (zak (zad (dC (.int 26)) zar) zcP) (dC (.int 8))) zx1) (dC (.int 7))) zca) ρ=.ok (.lst (szW.map D.int)):=rfl
theorem zCG {ρ:Ev}:(zac (zac (zak (zad (dC (.int 6)) (zad (dC (.int 420)) (zad (dC (.int 60)) zar))) zcP) (zsr (zac (zak (zad (dC (.int 8)) (zad (dC (.int 3)) zar)) zcP) (zsr (zak (zad (dC (.int 26)) zar) zcP) (dC (.int 8))) zx1) (dC (.int 7))) zca) (zak (zad (dC (.int 18)) zar) zcP) zca) ρ=.ok (.lst (szC.map D.int)):=rfl
theorem cut_any {ns:List Int}{lo hi:Option Int}:∃ ms:List Int,zmA (ns.map D.int) lo hi=ms.map D.int/\ms.length<=ns.length:=by
 rw[zii];exact⟨_,rfl,sal (List.length_take_le' ..) (by rw[sbY];omega)⟩
theorem zzn {ns:List Int}(hn:ns.length<=63):∃ c1 c2:List Int,za6 [.lst (ns.map D.int)]=.ok (.tup [.lst (c1.map D.int),.lst (c2.map D.int)])/\c1.length<=14/\c2.length<=63:=by
 obtain⟨vs,hd,W⟩:=draws_ok (hd0 ns) szC (by decide) (by decide);obtain⟨d,g,b,i⟩:=W.ix 73 73 rfl rfl;have hmin:zFP (.int 14) (.int d)=.ok (.int (min 14 d)):=by
  show Res.ok (D.int (if d < 14 then d else 14))=_
  congr 2
  split<;>omega
 obtain⟨c2,hc2,hl2⟩:=cut_any (ns:=ns) (lo:=some (1+min 14 d)) (hi:=some 63);obtain⟨m,hm⟩:=sbm (show 0<=min 14 d by omega);have hc1:∃ c1:List Int,zmA (ns.map D.int) (some 1) (some (1+min 14 d))=c1.map D.int/\c1.length<=14:=by
  rw[zii];refine⟨_,rfl,sal (List.length_take_le ..) ?_⟩;rw[hm,show(1+(m:Int))=((1+m:Nat):Int) by omega,HT.sIx_nat,show(1:Int)=((1:Nat):Int) from rfl,HT.sIx_nat];omega
 obtain⟨c1,hc1,hl1⟩:=hc1;refine⟨c1,c2,?_,hl1,by omega⟩;have hh:=zv6 (ns:=ns) (by omega) (ρ:=[.sh (.lst (ns.map D.int)),.no,.no]) rfl;rw[za6,zkh];rw[znc];show((zam _ _) [.sh (.lst (ns.map D.int)),.no,.no]).bind zCc=_;rw[zgh,zp0,zw7,zig,hh,zkw,ziH,zig,zCG];open_line with[hd,i,hmin,hc1,hc2]
noncomputable def znv:Ev->Res Fl :=
 (zam (za4 1 (zak (zad (zac (zac (zag 0) (zak (zad (dC (.int 0)) zar) zcP) zca) (dC (.int 0)) dIx) (zad (zac (zak (zad (dC (.int 6)) (zad (dC (.int 420)) (zad (dC (.int 60)) zar))) zcP) (zsr (zac (zak (zad (dC (.int 8)) (zad (dC (.int 3)) zar)) zcP) (zsr (zak (zad (dC (.int 26)) zar) zcP) (dC (.int 8))) zx1) (dC (.int 7))) zca) zar)) zaH))
 (zam (za4 2 (zak (zad (zjB (zag 1) (zci (dC (.int 3))) zfC) (zad (zac (dC (.int 2)) (zac (zag 1) (dC (.int 0)) dIx) zca) zar)) zcr))
 (zam (za4 3 (zac (zac (zag 1) (dC (.int 1)) dIx) (zak (zad (zag 2) zar) (m1 zgt)) zdW))
 (zam (za4 4 (zac (zac (zac (zag 3) (dC (.int 1)) zca) (zac (zac (zag 1) (dC (.int 2)) dIx) (zac (zak (zad (zag 2) zar) (m1 zgt)) (dC (.int 1)) zl9) zdW) zca) (zak (zad (zag 2) zar) (m1 zgt)) zdW))
 (zam (za4 5 (zes 2 [3,4] (zty (zag 2)) (zff [0,1]) (zac (zag 0) (zak (zad (zag 2) (zad (zag 3) zar)) zcZ) zb3) (zag 1)))
 (zam (za4 6 (zac (zac (zak (zad (zac (zag 2) (zag 3) dIx) zar) zcP) (zag 5) zca) (zak (zad (zac (zag 2) (zag 4) dIx) zar) zcP) zca))
 (zam (za4 7 (zes 2 [6] (zty (zac (zak (zad (zag 0) zar) za6) (dC (.int 0)) dIx)) (zff [0,1]) mYes (zak (zad (zag 1) (zad (zag 0) (zad (zag 2) zar))) zbj)))
 (zam (zbQ (zak (zad (zag 2) (zad (zag 7) (zad (zac (zag 2) (zag 3) dIx) (zad (zac (zag 2) (zag 4) dIx) zar)))) zcZ))
 zaj))))))))
def zcU:List D->Res D:=zcD 8 znv
theorem zhx {zs:List Str}:zaW 0 (zs.map D.str)=(saS zs.length).map fun(k:Nat)=>D.tup [.int (k:Int),.str (zs[k]?.getD ("" : Str))]:=by
 apply sb6;intro i;rw[zbH,sai,sai]
 by_cases h:i < zs.length
 .rw[saa h,List.getElem?_range h]
  simp;rw[saa h];rfl
 .rw[sbx (by omega),sbx (by simp;omega)];rfl
theorem zfc {k f l:Nat}:zb3 (.int (k:Int)) (.tup [.int (f:Int),.int (l:Int)])=.ok (.bl (!(decide (k=f)||decide (k=l)))):=by
 have e:inD (.int (k:Int)) (.tup [.int (f:Int),.int (l:Int)])=some (decide (k=f)||decide (k=l)):=by
  have e0:inD (.int (k:Int)) (.tup [.int (f:Int),.int (l:Int)])=some (((f:Int)==(k:Int))||(((l:Int)==(k:Int))||false)):=rfl;rw[e0];refine congrArg some ?_;show(((f:Int)==(k:Int))||(((l:Int)==(k:Int))||false))=_;rw[sdo]
  congr 1
  .by_cases h:k=f
   .subst h;simp
   .rw[decide_eq_false h];exact beq_eq_false_iff_ne.mpr (by omega)
  .by_cases h:k=l
   .subst h;simp
   .rw[decide_eq_false h];exact beq_eq_false_iff_ne.mpr (by omega)
 unfold zb3;rw[e]
def zzr (zs:List Str)(f l:Nat):List Str:=((saS zs.length).filter fun k=>!(decide (k=f)||decide (k=l))).map fun(k:Nat)=>zs[k]?.getD ("" : Str)
theorem zxL {zs:List Str}{f l:Nat}(h:zs.length<=8){a b x5 x6 x7:Sl}:ziR 2 [3,4] (zff [0,1]) (zac (zag 0) (zak (zad (zag 2) (zad (zag 3) zar)) zcZ) zb3) (zag 1) [a,b,.sh (.lst (zs.map D.str)),.sh (.int (f:Int)),.sh (.int (l:Int)),x5,x6,x7] (zaW 0 (zs.map D.str))=.ok (.lst ((zzr zs f l).map D.str)):=by
 rw[zlL (F:=fun d=>match d with | .tup [_,z]=>z | d=>d) (p:=fun d=>match d with | .tup [.int k,_]=>!(decide (k.toNat=f)||decide (k.toNat=l)) | _=>false) (by rw[zbG,sab];omega)]
 .congr 2
  rw[zhx];unfold zzr;rw[List.filter_map,sa2,sa2];rfl
 .intro d hd
  rw[zhx] at hd;obtain⟨k,_,rfl⟩:=saG.mp hd;refine⟨[.sh (.int (k:Int)),.sh (.str (zs[k]?.getD ("" : Str))),.sh (.int (f:Int)),.sh (.int (l:Int))],rfl,?_,fun _=>rfl⟩;open_line with[zfc,sbt]
def zus (zs:List Str)(f l:Nat):List Str:=(zs[f]?.getD ("" : Str))::(zzr zs f l++[zs[l]?.getD ("" : Str)])
def wix (n f l:Nat):List Nat:=f::((saS n).filter (fun k=>!(decide (k=f)||decide (k=l)))++[l])
theorem zse {zs:List Str}{f l:Nat}:zus zs f l=(wix zs.length f l).map fun(k:Nat)=>zs[k]?.getD ("" : Str):=by
 unfold zus wix zzr;rw[saJ,saU];rfl
theorem zCo {n f l:Nat}(hfl:f≠l):(wix n f l).Nodup:=by
 unfold wix;rw[sbD,sdu];refine⟨fun h=>?_,List.nodup_range.filter _,by simp,fun a ha b hb=>?_⟩
 .rw[saQ] at h
  rcases h with h | h
  .have:=(scB.mp h).2
   simp at this
  .exact hfl (by simpa using h)
 .have hb':b=l:=by simpa using hb
  subst hb';intro z;subst z;have:=(scB.mp ha).2;simp at this
theorem zuz {n f l:Nat}(hf:f < n)(hl:l < n):∀ k∈wix n f l,k < n:=fun k hk=>by
 unfold wix at hk;rw[sas,saQ] at hk;rcases hk with rfl | hk | hk
 .exact hf
 .exact sbu.mp (scB.mp hk).1
 .have:k=l:=by simpa using hk
  subst this;exact hl
theorem zuA {zs:List Str}(nd:zs.Nodup){f l:Nat}(hf:f < zs.length)(hl:l < zs.length)(hfl:f≠l):(zus zs f l).Nodup:=by
 rw[zse,sbG,sdt];refine scY.imp_of_mem ?_ (sbG.mp (zCo hfl));intro a b ha hb hab;have h1:=zuz hf hl a ha;have h2:=zuz hf hl b hb;rw[saa h1,saa h2,scs,scs];exact fun z=>hab ((sc3 nd).mp z)
theorem znN {zs:List Str}{f l:Nat}(hf:f < zs.length)(hl:l < zs.length):∀ z∈zus zs f l,z∈zs:=fun z hz=>by
 rw[zse] at hz;obtain⟨k,hk,rfl⟩:=saG.mp hz;have h1:=zuz hf hl k hk;rw[saa h1,scs];exact saL h1
theorem zye {zs:List Str}(nd:zs.Nodup){f l:Nat}(hf:f < zs.length)(hl:l < zs.length)(hfl:f≠l):2<=(zus zs f l).length/\(zus zs f l).length<=zs.length:=by
 refine⟨by unfold zus;simp,zoc (zuA nd hf hl hfl) (znN hf hl)⟩
theorem zuK {ws:List Str}{cs:List Int}(h2:2<=ws.length)(h8:ws.length<=8)(nd:ws.Nodup)(h14:cs.length<=14){x0 x1 x2 x3 x4 x5 x7:Sl}:∃ ts:List Tie,ziR 2 [6] (zff [0,1]) mYes (zak (zad (zag 1) (zad (zag 0) (zad (zag 2) zar))) zbj) [x0,x1,x2,x3,x4,x5,.sh (.lst (ws.map D.str)),x7] (zaW 0 (cs.map D.int))=.ok (.lst (ts.map zbA))/\ts.length=cs.length/\∀ t∈ts,zpb ws t:=by
 have key:∀ (c:Int) (k:Nat),∃ t,zbj [.int c,.int (k:Int),.lst (ws.map D.str)]=.ok (zbA t)/\zpb ws t:=fun c k=>zCv h2 h8 nd;obtain⟨g,hg⟩:∃ g:Int->Nat->Tie,∀ (c:Int) (k:Nat),zbj [.int c,.int (k:Int),.lst (ws.map D.str)]=.ok (zbA (g c k))/\zpb ws (g c k):=⟨fun c k=>Classical.choose (key c k),fun c k=>Classical.choose_spec (key c k)⟩
 refine⟨(saS cs.length).map fun(k:Nat)=>g (cs[k]?.getD 0) k,?_,by simp,fun t ht=>?_⟩
 .rw[zf4 (F:=fun d=>match d with | .tup [.int k,.int c]=>zbA (g c k.toNat) | d=>d) (by rw[zbG,sab];omega)]
  .congr 2
   apply sb6;intro i;rw[sai,zbH,sai,sai,sai]
   by_cases h:i < cs.length
   .rw[saa h,List.getElem?_range h]
    show some (zbA (g cs[i] (((0+i:Nat):Int)).toNat))=some (zbA (g (cs[i]?.getD 0) i));rw[saa h,scs,sbt,sbS]
   .rw[sbx (by omega),sbx (by simp;omega)];rfl
  .intro d hd
   obtain⟨i,hi⟩:=List.mem_iff_getElem?.mp hd;rw[zbH,sai] at hi;cases e:cs[i]? with
   | none=>rw[e] at hi;cases hi
   | some c =>
    rw[e] at hi;have hi':D.tup [.int ((0+i:Nat):Int),.int c]=d:=saN hi;rw[sbS] at hi';subst hi';refine⟨[.sh (.int (i:Int)),.sh (.int c),.sh (.lst (ws.map D.str))],rfl,rfl,?_⟩;have h:=(hg c i).1;open_line with[h,sbt]
 .obtain⟨k,_,rfl⟩:=saG.mp ht
  exact(hg _ _).2
set_option maxHeartbeats 1000000 in
theorem web_cells {ns:List Int}(hn:ns.length<=63):∃ w,∃ c1 c2:List Int,za6 [.lst (ns.map D.int)]=.ok (.tup [.lst (c1.map D.int),.lst (c2.map D.int)])/\c2.length<=63/\w.ts.length=c1.length/\zcU [.lst (ns.map D.int)]=.ok (zbi w)/\zha w:=by
 obtain⟨vs,hd,W⟩:=draws_ok (hd0 ns) szW (by decide) (by decide);have hvl:vs.length=73:=W.len;obtain⟨d0,g0,b0,i0⟩:=W.ix 0 0 rfl rfl;obtain⟨d1,g1,b1,i1⟩:=W.ix 1 1 rfl rfl;obtain⟨d2,g2,b2,i2⟩:=W.ix 2 2 rfl rfl;have W3:Drawn dsz (vs.drop 3):=⟨by rw[sbY,hvl];rfl,fun i v s e1 e2=>by
  rw[sbl] at e1;refine W.bnd (3+i) v s e1 ?_;have:szW[3+i]?=dsz[i]?:=by
   unfold szW;rw[saI (by simp)];simp
  rw[this];exact e2⟩
 obtain⟨m,rfl⟩:=sbm b0.1;obtain⟨css,hnm,hcl,hnd,hall⟩:=zyU W3 (n:=2+m) (by omega);have hnm':zcr [.lst ((vs.drop 3).map D.int),.int (2+(m:Int))]=.ok (.lst ((css.map S).map D.str)):=by
  have:zk5 css=(css.map S).map D.str:=by unfold zk5;rw[sa2];rfl
  rw[← this];exact hnm
 have hzl:(css.map S).length=2+m:=by rw[sab,hcl]
 have nd:(css.map S).Nodup:=by
  rw[sbG,sdt];exact scY.imp (fun h z=>h (zEC z)) (sbG.mp hnd)
 have nm:zl7 (css.map S):=⟨nd,fun z hz=>by
  obtain⟨cs,hc,rfl⟩:=saG.mp hz;exact(hall cs hc).nameB⟩
 generalize css.map S=zs at *;have hcut:zmA (vs.map D.int) (some 3) none=(vs.drop 3).map D.int:=by
  rw[zii,HT.sIx_none,show(3:Int)=((3:Nat):Int) from rfl,HT.sIx_nat,hvl];rw[sc4 (by rw[sbY];omega)];rfl
 have hn0:((zs.length:Int)==0)=false:=beq_eq_false_iff_ne.mpr (by omega);have hn1:((zs.length:Int)-1==0)=false:=beq_eq_false_iff_ne.mpr (by omega);have f1:=zde (a:=d1) (b:=(zs.length:Int)) (by omega);have f2:=zde (a:=d2) (b:=(zs.length:Int)-1) (by omega);obtain⟨hr,hne⟩:=zqq (n:=(zs.length:Int)) (d:=d1.fmod (zs.length:Int)) (e:=d2.fmod ((zs.length:Int)-1)) (by omega) f1.1 f1.2 f2.1 f2.2;obtain⟨f,hf⟩:=sbm f1.1;obtain⟨l,hl⟩:=sbm hr.1;have hfn:f < zs.length:=by omega
 have hln:l < zs.length:=by omega
 have hfl:f≠l:=by omega
 have hixf:dIx (.lst (zs.map D.str)) (.int (f:Int))=.ok (.str zs[f]):=zdf (by rw[sai,saa hfn];rfl);have hixl:dIx (.lst (zs.map D.str)) (.int (l:Int))=.ok (.str zs[l]):=zdf (by rw[sai,saa hln];rfl);obtain⟨c1,c2,hcells,hc1,hc2⟩:=zzn hn;obtain⟨w2,w8⟩:=zye nd hfn hln hfl;have hwl:(zzr zs f l).length+2=(zus zs f l).length:=by unfold zus;simp
 have a1:zca (.lst [.str zs[f]]) (.lst ((zzr zs f l).map D.str))=.ok (.lst (.str zs[f]::(zzr zs f l).map D.str)):=by
  rw[zf0 (decide_eq_true (by rw[sab];simp;omega))];rfl
 have a2:zca (.lst (.str zs[f]::(zzr zs f l).map D.str)) (.lst [.str zs[l]])=.ok (.lst ((zus zs f l).map D.str)):=by
  rw[zf0 (decide_eq_true (by simp;omega))];unfold zus;rw[saJ,saU,saa hfn,saa hln];rfl
 have hh:=zv6 (ns:=ns) (by omega) (ρ:=[.sh (.lst (ns.map D.int)),.no,.no,.no,.no,.no,.no,.no]) rfl;obtain⟨ts,hts,htl,htall⟩:=zuK (ws:=zus zs f l) (cs:=c1) w2 (by omega) (zuA nd hfn hln hfl) hc1 (x0:=.sh (.lst (ns.map D.int))) (x1:=.sh (.lst (vs.map D.int))) (x2:=.sh (.lst (zs.map D.str))) (x3:=.sh (.int (f:Int))) (x4:=.sh (.int (l:Int))) (x5:=.sh (.lst ((zzr zs f l).map D.str))) (x7:=.no);refine⟨⟨zs,ts,zs[f],zs[l]⟩,c1,c2,hcells,hc2,htl,?_,⟨by show 2<=zs.length;omega,by show zs.length<=7;omega,nm,by show ts.length<=14;omega,fun t ht=>?_,saL hfn,saL hln,fun z=>hfl ((sc3 nd).mp z)⟩⟩
 .rw[zcU,znv,znc]
  show((zam _ _) [.sh (.lst (ns.map D.int)),.no,.no,.no,.no,.no,.no,.no]).bind zCc=_;rw[zgh,zp0,zw7,zig,hh,zkw,ziH,zig,zCF];open_line with[hd,hcut,i0,hnm',i1,i2,sab,hn0,hn1,zl9,hf]
  rw[hf] at hl;open_line with[hl,zrP,zow,zkF,zxL (show zs.length<=8 by omega),hixf,hixl,a1,a2,hcells,hts]
  rfl
 .have T:=htall t ht
  exact⟨znN hfn hln _ T.a,znN hfn hln _ T.b,T.ne,T.w,T.l,T.l0,T.o⟩
end Cod
namespace DL
open PySem L2
section
variable {α β:Type}
def Rf (a b:Res α):Prop:=a=.stuck∨a=b
theorem zcL {a b:Res α}{f g:α->Res β}(h:Rf a b)(k:∀ x,Rf (f x) (g x)):Rf (a.bind f) (b.bind g):=by
 rcases h with rfl | rfl
 .exact .inl rfl
 .cases a with
  | ok x=>exact k x
  | exn x=>exact .inr rfl
  | stuck=>exact .inl rfl
structure RfF (f g:Ev->Res α):Prop where
 o:∀ ρ,Rf (f ρ) (g ρ)
end
structure RfM (f g:List D->Res D):Prop where
 o:∀ ds,Rf (f ds) (g ds)
theorem RfM.ok {f g:List D->Res D}(h:RfM f g){ds:List D}{d:D}(e:f ds=.ok d):g ds=.ok d:=by
 rcases h.o ds with q | q
 .rw[q] at e;cases e
 .rw[← q];exact e
theorem rfm_refl {f:List D->Res D}:RfM f f:=⟨fun _=>.inr rfl⟩
theorem rf_refl {α:Type}{f:Ev->Res α}:RfF f f:=⟨fun _=>.inr rfl⟩
section
variable {s s' t t':Ev->Res Fl}{c c' f f':Ev->Res D}{fa fa':Ev->Res (List D)}{m m':List D->Res D}
theorem rf_stuck:RfF zc3 s:=⟨fun _=>.inl rfl⟩
theorem rf_seq (h1:RfF s s')(h2:RfF t t'):RfF (zam s t) (zam s' t'):=⟨fun ρ=>zcL (h1.o ρ) fun r=>by
 cases r with
 | nx ρ'=>exact h2.o ρ'
 | _=>exact .inr rfl⟩
theorem rf_if (hc:RfF c c')(h1:RfF s s')(h2:RfF t t'):RfF (sIf c s t) (sIf c' s' t'):=⟨fun ρ=>zcL (hc.o _) fun r=>by
 cases r with
 | bl b=>cases b with
  | true=>exact h1.o ρ
  | false=>exact h2.o ρ
 | _=>exact .inr rfl⟩
theorem zn0 {tg:Ev->D->Res Ev}(h:RfF s s'):∀ (ds:List D) (ρ:Ev),Rf (zdH tg s ds ρ) (zdH tg s' ds ρ)
 | [],ρ=>.inr rfl
 | d::r,ρ=>by
  unfold zdH;refine zcL (.inr rfl) fun ρ1=>zcL (h.o ρ1) fun x=>?_;cases x with
  | nx ρ2=>exact zn0 h r ρ2
  | ct ρ2=>exact zn0 h r ρ2
  | bk ρ2=>exact .inr rfl
  | rt d=>exact .inr rfl
theorem rf_for {tg:Ev->D->Res Ev}(hf:RfF f f')(h:RfF s s'):RfF (zsq f tg s) (zsq f' tg s'):=⟨fun ρ=>zcL (hf.o ρ) fun d=>by
 cases d with
 | lst ds=>exact zn0 h ds ρ
 | _=>exact .inr rfl⟩
theorem rf_forI {tg:Ev->D->Res Ev}{src:Ev->Res (List D)}(h:RfF s s'):RfF (zhq src tg s) (zhq src tg s'):=⟨fun ρ=>zcL (.inr rfl) fun ds=>zn0 h ds ρ⟩
theorem rf_drop (h:RfF f f'):RfF (zks f) (zks f'):=⟨fun ρ=>zcL (h.o _) fun _=>.inr rfl⟩
theorem rf_ret (h:RfF f f'):RfF (zbQ f) (zbQ f'):=⟨fun ρ=>zcL (h.o _) fun _=>.inr rfl⟩
theorem rf_set {i:Nat}(h:RfF f f'):RfF (za4 i f) (za4 i f'):=⟨fun ρ=>zcL (h.o _) fun _=>.inr rfl⟩
theorem rf_b1 {op:D->Res D}(h:RfF f f'):RfF (zaY f op) (zaY f' op):=⟨fun ρ=>zcL (h.o _) fun _=>.inr rfl⟩
theorem rf_not (h:RfF f f'):RfF (zdJ f) (zdJ f'):=rf_b1 h
theorem rf_b2 {op:D->D->Res D}(h:RfF f f')(h2:RfF c c'):RfF (zac f c op) (zac f' c' op):=⟨fun ρ=>zcL (h.o _) fun _=>zcL (h2.o _) fun _=>.inr rfl⟩
theorem rf_bA (h:RfF fa fa')(hm:RfM m m'):RfF (zak fa m) (zak fa' m'):=⟨fun ρ=>zcL (h.o _) fun ds=>hm.o ds⟩
theorem rf_cons (h:RfF f f')(h2:RfF fa fa'):RfF (zad f fa) (zad f' fa'):=⟨fun ρ=>zcL (h.o _) fun _=>zcL (h2.o _) fun _=>.inr rfl⟩
end
end DL
local macro_rules | `(tactic| open_line with[rf_go])=>`(tactic| repeat (first | with_reducible exact DL.rf_refl | with_reducible exact DL.rf_stuck | with_reducible assumption | with_reducible exact DL.rfm_refl | with_reducible refine DL.rf_seq ?_ ?_ | with_reducible refine DL.rf_if ?_ ?_ ?_ | with_reducible refine DL.rf_for ?_ ?_ | with_reducible refine DL.rf_forI ?_ | with_reducible refine DL.rf_drop ?_ | with_reducible refine DL.rf_ret ?_ | with_reducible refine DL.rf_set ?_ | with_reducible refine DL.rf_not ?_ | with_reducible refine DL.rf_bA ?_ ?_ | with_reducible refine DL.rf_cons ?_ ?_ | with_reducible refine DL.rf_b1 ?_ | with_reducible refine DL.rf_b2 ?_ ?_))
namespace Wex
open PySem L2 DL Com
noncomputable def zjF:Ev->Res Fl :=
 (zam (sIf (dOr (zdJ (zak (zad (zag 0) zar) zbV)) (zdJ (zak (zad (zag 1) zar) zbV)))
 (zam (zzG "NoNumber" (zad (dC (.str "a fraction is made of two whole numbers")) zar))
 zaj)
 zaj)
 (zam (sIf (zac (zag 1) (dC (.int 0)) dEq)
 (zam (zzG "NoNumber" (zad (dC (.str "a fraction's second number is not 0")) zar))
 zaj)
 zaj)
 (zam (za4 2 (zak (zad (zag 0) (zad (zag 1) zar)) za3))
 (zam (sIf (zac (zag 1) (dC (.int 0)) dLt)
 (zam (za4 2 (zaY (zag 2) znq))
 zaj)
 zaj)
 (zam (zbQ (zak (zad (zac (zag 0) (zag 2) zqz) (zad (zac (zag 1) (zag 2) zqz) zar)) zcZ))
 zaj)))))
def m_ratio:List D->Res D:=zcD 3 zjF
noncomputable def zqn:Ev->Res Fl :=
 (zam (zbQ (zak (zad (zac (zac (zac (zag 0) (dC (.int 0)) dIx) (zac (zag 1) (dC (.int 1)) dIx) zbv) (zac (zac (zag 1) (dC (.int 0)) dIx) (zac (zag 0) (dC (.int 1)) dIx) zbv) zca) (zad (zac (zac (zag 0) (dC (.int 1)) dIx) (zac (zag 1) (dC (.int 1)) dIx) zbv) zar)) m_ratio))
 zaj)
def m_plus:List D->Res D:=zcD 2 zqn
def ziV:Ev->Res Fl :=
 (zam (za4 1 (dC (.tup [(.int 0),(.int 1)])))
 (zam (zsq (zag 0) (zea 2)
 (zam (za4 1 (zak (zad (zag 1) (zad (zag 2) zar)) m_plus))
 zaj))
 (zam (zbQ (zag 1))
 zaj)))
def m_sum_of:List D->Res D:=zcD 3 ziV
section
variable {d t p:D}{x:Exn}
end
theorem shal_nums {n:Nat}{t:List Nat}:zbb (n+1) (zaT t)=true:=by
 show(t.map fun(k:Nat)=>D.int (k:Int)).all (zbb n)=true;exact saE.mpr fun d hd=>by
  obtain⟨z,_,rfl⟩:=saG.mp hd;cases n<;>rfl
theorem nums_some {k:Nat}{t:List Nat}:dNe (zaT (k::t)) (.lst [])=.ok (.bl true):=by
 unfold dNe;rw[if_pos ⟨shal_nums,rfl⟩];unfold zaT;rw[zjz,zkH _ _ (by simp)];rfl
end Wex
namespace Com
open PySem L2 DL
theorem zD6 {c f:Str}{d:D}:zxZ ⟨c,[(f,d)]⟩=.ob (.exf c [f]) [d]:=by
 show(if([f]:List Str).Nodup then D.ob (.exf c [f]) [d] else .exc c)=_;rw[if_pos (by simp)]
theorem zwo {hit:Str->Bool}{ni:Nat}{sh:Ev->Res Fl}{ρ:Ev}{x:Exn}(h:hit x.cls=true):zCt hit ni sh ρ (.exn x)=(sh (ρ.set ni (.sh (zxZ x)))).bind (zCd ni):=if_pos h
theorem zfZ {tab:Str->Option Bool}{c:Str}{ks:List Str}{ds:List D}{b:Bool}(h:tab c=some b):zs5 tab (.ob (.exf c ks) ds)=.ok (.bl b):=by unfold zs5;simp only[h]
def zu7 (x:Str)(ks:List Str)(ds:List D):Res Fl:=if ds.length=ks.length then .exn ⟨x,ks.zip ds⟩ else .stuck
theorem zgL {x:Str}{ks:List Str}{fa:Ev->Res (List D)}{ρ:Ev}:zji x ks fa ρ=(fa (shr ρ)).bind (zu7 x ks):=zaD rfl
theorem zfj {x f:Str}{d:D}:zu7 x [f] [d]=.exn ⟨x,[(f,d)]⟩:=if_pos rfl
theorem zsX {tab:Str->Option Bool}{c f:Str}{d:D}{b:Bool}(h:tab c=some b):zlI tab f (.ob (.exf c [f]) [d])=.ok d:=by
 unfold zlI;simp only[h];rw[show zqx f [f] [d]=some d by unfold zqx;rw[if_pos rfl]]
end Com
namespace K34
open PySem L2 DL
def zdn:List (Str×Bool):=[("NoFlow",true),("Unbalanced",true)]
def zym:Str->Option Bool:=znO [("NoFlow",true),("Unbalanced",true)]
def zuN:Str->Option Bool:=znO [("NoFlow",true),("Unbalanced",false)]
def zuM:Str->Option Bool:=znO [("NoFlow",false),("Unbalanced",true)]
def zv9:Str->Option Bool:=znO [("NoFlow",true)]
def zor:Str->Option Bool:=znO [("Unbalanced",true)]
abbrev zaH:List D->Res D:=Cod.zaH
abbrev zcr:List D->Res D:=Cod.zcr
abbrev za6:List D->Res D:=Cod.za6
abbrev zbe:List D->Res D:=Cod.zbe
abbrev zax:List D->Res D:=Cod.zax
abbrev zbj:List D->Res D:=Cod.zbj
abbrev zcU:List D->Res D:=Cod.zcU
noncomputable def zeo:Ev->Res Fl :=
 (zam (zbQ (zak (zad (zac (zac (zac (zag 0) (dC (.int 0)) dIx) (zac (zag 1) (dC (.int 1)) dIx) zbv) (zac (zac (zag 2) (zac (zag 1) (dC (.int 0)) dIx) zbv) (zac (zag 0) (dC (.int 1)) dIx) zbv) zca) (zad (zac (zac (zag 0) (dC (.int 1)) dIx) (zac (zag 1) (dC (.int 1)) dIx) zbv) zar)) zbe)) zaj)
def zaK:List D->Res D:=zcD 3 zeo
noncomputable def if1:Ev->Res Fl:=(sIf (zgY (zac (zag 7) (zag 1) zb3) (zgY (zac (zac (zag 8) (dC (.int 0)) dIx) (zag 3) dEq) (zac (zac (zag 8) (dC (.int 1)) dIx) (zag 4) zb3))) (zam (zc4 6 (zak (zad (zag 7) (zad (dC (.int 1)) (zad (zac (zag 8) (dC (.int 1)) dIx) zar))) zcZ)) zaj) zaj)
noncomputable def if2:Ev->Res Fl:=(sIf (zgY (zac (zag 7) (zag 1) zb3) (zgY (zac (zac (zag 8) (dC (.int 2)) dIx) (dC (.str "both")) dEq) (zgY (zac (zac (zag 8) (dC (.int 1)) dIx) (zag 3) dEq) (zac (zac (zag 8) (dC (.int 0)) dIx) (zag 4) zb3)))) (zam (zc4 6 (zak (zad (zag 7) (zad (zaY (dC (.int 1)) znq) (zad (zac (zag 8) (dC (.int 0)) dIx) zar))) zcZ)) zaj) zaj)
def zuB:Ev->Res D:=(zac (zag 3) (zac (zag 0) (dC (.int 3)) dIx) dNe)
noncomputable def zqD:Ev->Res Fl:=(zam (zqH 6 (zak zar zcP)) (zam (zhq (zty (zac (zag 0) (dC (.int 1)) dIx)) (zff [7,8]) (zam if1 (zam if2 zaj))) (zam (zzH 6 (sIf (zac (zag 6) (zak zar zcP) dEq) (zam (zbQ (zak zar zcP)) zaj) zaj)) (zam (zzH 6 (zAA [7,9,3] (zac (zag 6) (zac (zac (zag 2) (zak (zad (zag 5) zar) (m1 zgt)) dIx) (zak (zad (zag 6) zar) (m1 zgt)) zdW) dIx))) (zam (zc4 5 (zak (zad (zag 7) (zad (zag 9) zar)) zcZ)) (zam (zc4 4 (zag 3)) zaj))))))
def zjG:Ev->Res Fl :=
 (zam (za4 3 (zac (zag 0) (dC (.int 2)) dIx)) (zam (zqH 4 (zak (zad (zag 3) zar) zcP)) (zam (zqH 5 (zak zar zcP)) (zam (zge (fun _=>8) zuB zqD) (zam (zbQ (zag 5)) zaj)))))
def zhg:List D->Res D:=zcD 10 zjG
def ztK:Ev->Res Fl:=(zam (zyv 3 (zak (zad (zac (zag 3) (zag 7) dIx) (zad (zag 6) (zad (zag 8) zar))) zaK) (zag 7)) zaj)
noncomputable def zt9:Ev->Res Fl:=(zam (za4 5 (zjB (zag 2) (zci (zac (dC (.int 9)) (zag 4) zbv)) (zci (zac (zac (dC (.int 9)) (zag 4) zbv) (dC (.int 9)) zca)))) (zam (za4 6 (zak (zad (zjB (zag 5) (zci (dC (.int 6))) zfC) zar) zax)) (zam (zsq (zak (zad (zag 0) (zad (zag 1) (zad (zag 5) zar))) zhg) (zff [7,8]) ztK) zaj)))
def zlX:Ev->Res Fl :=
 (zam (zqH 3 (zes 1 [] (zyq (zac (zag 0) (dC (.int 1)) dIx)) (zea 0) mYes (zak (zad (dC (.int 0)) (zad (dC (.int 1)) zar)) zcZ))) (zam (zu5 (dC (.int 3)) (zea 4) zt9) (zam (zbQ (zag 3)) zaj)))
def zfE:List D->Res D:=zcD 9 zlX
noncomputable def zmI:Ev->Res Fl:=(zam (sIf (zgY (zac (zac (zag 5) (dC (.int 4)) dIx) (dC (.non)) zjC) (zgY (zac (zac (zac (zag 1) (zag 4) dIx) (dC (.int 0)) dIx) (dC (.int 0)) dEq) (zac (zac (zac (zag 2) (zag 4) zFN) (dC (.int 1)) zBU) (dC (.int 1)) dEq))) (zam (zc4 3 (zag 4)) zaj) zaj) zaj)
def ziY:Ev->Res Fl :=
 (zam (zqH 3 (zak zar zcP)) (zam (zhq (zty (zac (zag 0) (dC (.int 1)) dIx)) (zff [4,5]) zmI) (zam (zbQ (zag 3)) zaj)))
def zdR:List D->Res D:=zcD 6 ziY
noncomputable def zke:Ev->Res Fl :=
 (zam (za4 1 (zak (zad (dC (.int 420)) (zad (dC (.int 60)) (zad (dC (.int 2)) (zad (dC (.int 5)) (zad (zac (dC (.int 10)) (dC (.int 18)) zs4) (zad (dC (.int 30)) (zad (dC (.int 6)) (zad (dC (.int 5)) (zad (zac (dC (.int 10)) (dC (.int 18)) zs4) (zad (dC (.int 30)) (zad (dC (.int 3)) (zad (dC (.int 5)) (zad (zac (dC (.int 10)) (dC (.int 18)) zs4) (zad (dC (.int 30)) zar)))))))))))))) zcP)) (zam (zbQ (zes 1 [1] (zyq (zac (zak (zad (zag 0) zar) za6) (dC (.int 0)) dIx)) (zea 0) mYes (zak (zad (zjB (zak (zad (zag 0) (zad (zag 1) zar)) zaH) (zci (dC (.int 11))) zfC) zar) zax))) zaj))
def zdy:List D->Res D:=zcD 2 zke
abbrev zcH:List D->Res D:=Com.zcH
abbrev zbB:List D->Res D:=Com.zbB
abbrev zbV:List D->Res D:=Com.zbV
abbrev za3:List D->Res D:=Com.za3
abbrev zcT:List D->Res D:=Com.zcT
abbrev zcp:List D->Res D:=Com.zcp
abbrev zdV:List D->Res D:=Com.zdV
abbrev zfD:List D->Res D:=Com.zfD
abbrev zcd:List D->Res D:=Com.zcd
abbrev zdl:List D->Res D:=Com.zdl
abbrev zbq:List D->Res D:=Com.zbq
noncomputable def ziX:Ev->Res Fl :=
 (zam (sIf (dOr (zdJ (zaY (zag 1) (zcY "list"))) (zac (zak (zad (zag 1) zar) (m1 zgt)) (zak (zad (zac (zag 0) (dC (.int 1)) dIx) zar) (m1 zgt)) dNe)) (zam (zbQ (dC (.bl false))) zaj) zaj) (zam (zbQ (zak (zad (zes 1 [] (zyq (zag 1)) (zea 0) mYes (zak (zad (zag 0) zar) zcp)) zar) (m1 zCg))) zaj))
def zdQ:List D->Res D:=zcD 2 ziX
def zg2:Ev->Res Fl :=
 (zam (zks (zak (zad (zag 0) zar) zbq)) (zam (sIf (zdJ (zak (zad (zag 0) (zad (zag 1) zar)) zdQ)) (zam zc3 zaj) zaj) zaj))
def zc6:List D->Res D:=zcD 2 zg2
abbrev zbs:List D->Res D:=Com.zbs
abbrev zbc:List D->Res D:=Com.zbc
abbrev zdx:List D->Res D:=Com.zdx
noncomputable def zem:Ev->Res Fl :=
 (zam (sIf (dOr (zdJ (zak (zad (zag 2) zar) zcT)) (zgY (zac (zac (zag 2) (dC (.int 0)) dIx) (dC (.int 0)) dLt) (zac (zac (zag 0) (dC (.int 2)) dIx) (dC (.str "one")) dEq))) (zam (zbQ (dC (.bl false))) zaj) zaj) (zam (zbQ (zdJ (zak (zad (zag 1) (zad (zak (zad (zak (zad (zac (zag 2) (dC (.int 0)) dIx) zar) (m1 zxy)) (zad (zac (zag 2) (dC (.int 1)) dIx) zar)) zcZ) zar)) zdx))) zaj))
def zcO:List D->Res D:=zcD 3 zem
noncomputable def zuo:Ev->Res Fl:=(zam (za4 6 (dIf (zac (zag 4) (zag 2) dIn) (dC (.tup [(.int 0),(.int 1)])) (zac (zag 1) (zag 4) dIx))) (zam (sIf (zdJ (zak (zad (zac (zac (zag 0) (dC (.int 1)) dIx) (zag 4) dIx) (zad (zag 6) (zad (zag 5) zar))) zcO)) (zam (zji "NoFlow" ["at"] (zad (zag 4) zar)) zaj) zaj) zaj))
noncomputable def zbZ:Ev->Res Fl :=
 (zam (sIf (dOr (zdJ (zaY (zag 3) (zcY "list"))) (zac (zak (zad (zag 3) zar) (m1 zgt)) (zak (zad (zac (zag 0) (dC (.int 1)) dIx) zar) (m1 zgt)) dNe)) (zam (zji "NoFlow" ["at"] (zad (dC (.non)) zar)) zaj) zaj) (zam (zhq (zty (zag 3)) (zff [4,5]) zuo) zaj))
def zaG:List D->Res D:=zcD 7 zbZ
abbrev zbU:List D->Res D:=Com.zbU
abbrev zdm:List D->Res D:=Com.zdm
abbrev zbf:List D->Res D:=Com.zbf
noncomputable def zga:Ev->Res Fl :=
 (zam (za4 3 (dC (.int 0))) (zam (zhq (zCa (zac (zag 0) (dC (.int 1)) dIx) (zag 1)) (zff [4,5]) (zam (sIf (zac (zac (zag 4) (dC (.int 0)) dIx) (zag 2) dEq) (zam (za4 3 (zac (zag 3) (zag 5) zca)) zaj) zaj) (zam (sIf (zac (zac (zag 4) (dC (.int 1)) dIx) (zag 2) dEq) (zam (za4 3 (zac (zag 3) (zag 5) zl9)) zaj) zaj) zaj))) (zam (zbQ (zag 3)) zaj)))
def zcq:List D->Res D:=zcD 6 zga
noncomputable def zf9:Ev->Res Fl :=
 (zam (za4 3 (zak (zad (zag 0) (zad (zag 1) (zad (zag 2) zar))) zcq)) (zam (zbQ (dIf (zac (zag 2) (zac (zag 0) (dC (.int 2)) dIx) dEq) (zac (zag 3) (dC (.int 0)) dGe) (zac (zag 3) (dC (.int 0)) dEq))) zaj))
def zc7:List D->Res D:=zcD 4 zf9
noncomputable def zuk:Ev->Res Fl:=(zam (sIf (zgY (zac (zag 3) (zac (zag 0) (dC (.int 3)) dIx) dNe) (zdJ (zak (zad (zag 0) (zad (zag 2) (zad (zag 3) zar))) zc7))) (zam (zji "Unbalanced" ["place"] (zad (zag 3) zar)) zaj) zaj) zaj)
def zdr:Ev->Res Fl :=
 (zam (za4 2 (zac (zak (zad (zag 1) zar) zbf) (dC (.int 0)) dIx)) (zam (zsq (zac (zag 0) (dC (.int 0)) dIx) (zea 3) zuk) zaj))
def za5:List D->Res D:=zcD 4 zdr
noncomputable def zce:Ev->Res Fl :=
 (zam (zks (zak (zad (zag 0) (zad (zag 1) zar)) zc6)) (zam (zks (zak (zad (zag 0) (zad (zag 2) zar)) zbc)) (zam (zks (zak (zad (zag 0) (zad (zag 1) (zad (zag 2) (zad (zag 3) zar)))) zaG)) (zam (zks (zak (zad (zag 0) (zad (zag 3) zar)) za5)) zaj))))
def zaI:List D->Res D:=zcD 4 zce
abbrev zbI:List D->Res D:=Com.zbI
noncomputable def zen:Ev->Res Fl :=
 (zam (za4 5 (dC (.non))) (zam (za4 6 (dC (.bl true))) (zam (zCb (zu3 6 (zad (zag 0) (zad (zag 1) (zad (zag 2) (zad (zag 3) zar)))) zaI) (zpX zdn) 7 (zam (za4 5 (zag 7)) zaj)) (zam (sIf (zac (zag 4) (dC (.non)) zoU) (zam (zbQ (zgY (zac (zag 5) (dC (.non)) zoU) (zac (zag 6) (dC (.non)) zoU))) zaj) zaj) (zam (sIf (zdJ (zaY (zag 5) (zs5 zym))) (zam (zbQ (dC (.bl false))) zaj) zaj) (zam (sIf (zac (zaY (zag 5) (zs5 zuN)) (zaY (zag 5) (zs5 zuM)) dEq) (zam (zbQ (dC (.bl false))) zaj) zaj) (zam (sIf (zac (zac (zag 4) (dC (.int 0)) dIx) (dC (.str "place")) dEq) (zam (zbQ (zgY (zaY (zag 5) (zs5 zuM)) (zac (zaY (zag 5) (zlI zor "place")) (zac (zag 4) (dC (.int 1)) dIx) dEq))) zaj) zaj) (zam (sIf (zdJ (zaY (zag 5) (zs5 zuN))) (zam (zbQ (dC (.bl false))) zaj) zaj) (zam (zbQ (dOr (zgY (zac (zac (zag 4) (dC (.int 1)) dIx) (dC (.non)) zoU) (zac (zaY (zag 5) (zlI zv9 "at")) (dC (.non)) zoU)) (zgY (zak (zad (zaY (zag 5) (zlI zv9 "at")) zar) zbI) (zac (zaY (zag 5) (zlI zv9 "at")) (zac (zag 4) (dC (.int 1)) dIx) dEq)))) zaj)))))))))
def zb7:List D->Res D:=zcD 8 zen
noncomputable def znw:Ev->Res Fl :=
 (zam (zFc [2,3] (zag 0)) (zam (za4 4 (zak (zad (dC (.bl true)) (zad (dC (.int 0)) (zad (dC (.str "0")) (zad (dC (.non)) (zad (zak (zad (dC (.int 0)) (zad (dC (.int 2)) zar)) zcZ) (zad (zak (zad (dC (.int 0)) (zad (dC (.int 0)) zar)) zcZ) (zad (zak (zad (dC (.int 0)) (zad (dC (.int 1)) zar)) zcP) (zad (zak (zad (dC (.int 0)) (zad (dC (.int 1)) (zad (dC (.int 1)) zar))) zcZ) zar)))))))) zcP)) (zam (za4 4 (zac (zag 4) (zak (zad (zak (zad (zac (zag 2) (dC (.int 2)) zbv) (zad (zac (zag 3) (dC (.int 2)) zbv) zar)) zcZ) (zad (zak (zad (zag 2) (zad (zaY (zag 3) znq) zar)) zcZ) (zad (zak (zad (dC (.bl true)) (zad (dC (.int 1)) zar)) zcZ) zar))) zcP) zca)) (zam (zbQ (zac (zac (zag 4) (zak (zad (zak (zad (zag 2) zar) zcZ) (zad (zak (zad (zak (zad (zag 2) zar) (m1 zs3)) (zad (zag 3) zar)) zcZ) (zad (zak (zad (dC (.int 1)) (zad (dC (.bl true)) zar)) zcZ) (zad (dC (.int 7)) (zad (dC (.dic [] [])) zar))))) zcP) zca) (zag 1) dIx)) zaj))))
def zhh:List D->Res D:=zcD 5 znw
def st4:Ev->Res Fl:=(sIf (zac (zac (zag 3) (dC (.int 0)) dIx) (dC (.int 4)) dEq) (zam (zu4 4 (zak (zad (zac (zag 8) (zac (zag 7) (dC (.int 0)) dIx) zbv) (zad (zac (zag 7) (dC (.int 1)) dIx) zar)) zcZ) (zag 5)) zaj) zaj)
noncomputable def st5:Ev->Res Fl:=(sIf (zac (zac (zag 3) (dC (.int 0)) dIx) (dC (.int 5)) dEq) (zam (za4 9 (zak (zad (zac (zag 0) (zag 5) dIx) (zad (zak (zad (dC (.int 1)) (zad (zac (dC (.int 1)) (zac (zag 3) (dC (.int 5)) dIx) zca) zar)) zcZ) (zad (dC (.int 1)) zar))) zaK)) (zam (zu4 4 (zak (zad (zac (zag 8) (zac (zag 9) (dC (.int 0)) dIx) zbv) (zad (zac (zag 9) (dC (.int 1)) dIx) zar)) zcZ) (zag 5)) zaj)) zaj)
noncomputable def st6:Ev->Res Fl:=(sIf (zac (zac (zag 3) (dC (.int 0)) dIx) (dC (.int 6)) dEq) (zam (zu4 4 (zak (zad (zac (zag 8) (zac (zac (zag 0) (zag 5) dIx) (dC (.int 0)) dIx) zbv) (zad (zac (zac (zag 0) (zag 5) dIx) (dC (.int 1)) dIx) zar)) zcZ) (zag 5)) zaj) zaj)
noncomputable def st7:Ev->Res Fl:=(sIf (dOr (zac (zac (zag 3) (dC (.int 0)) dIx) (dC (.int 7)) dEq) (zac (zac (zag 3) (dC (.int 0)) dIx) (dC (.int 13)) dEq)) (zam (zu4 4 (zak (zad (zag 7) (zad (zac (zag 3) (dC (.int 7)) dIx) zar)) zhh) (zag 5)) zaj) zaj)
noncomputable def st8:Ev->Res Fl:=(sIf (zac (zac (zag 3) (dC (.int 0)) dIx) (dC (.int 8)) dEq) (zam (zqH 4 (zes 1 [] (zyq (zag 2)) (zea 0) mYes (zak (zad (zaY (zac (zag 0) (dC (.int 0)) dIx) znq) (zad (zac (zag 0) (dC (.int 1)) dIx) zar)) zcZ))) zaj) zaj)
def st9:Ev->Res Fl:=(sIf (zac (zac (zag 3) (dC (.int 0)) dIx) (dC (.int 9)) dEq) (zam (zu4 4 (zac (zag 2) (zag 6) dIx) (zag 5)) (zam (zu4 4 (zac (zag 2) (zag 5) dIx) (zag 6)) zaj)) zaj)
noncomputable def zFa:Ev->Res Fl:=(sIf (dOr (zac (zac (zag 3) (dC (.int 0)) dIx) (dC (.int 10)) dEq) (zac (zac (zag 3) (dC (.int 0)) dIx) (dC (.int 13)) dEq)) (zam (zu4 4 (zak (zad (zac (zag 2) (zag 6) dIx) (zad (zag 7) (zad (zag 8) zar))) zaK) (zag 6)) zaj) zaj)
noncomputable def zEH:Ev->Res Fl:=(sIf (zac (zac (zag 3) (dC (.int 0)) dIx) (dC (.int 11)) dEq) (zam (zu4 4 (zak (zad (zac (zag 2) (zag 5) dIx) (zad (zak (zad (dC (.int 1)) (zad (zac (dC (.int 1)) (zac (zag 3) (dC (.int 5)) dIx) zca) zar)) zcZ) (zad (zag 8) zar))) zaK) (zag 5)) (zam (zyv 4 (zak (zad (zac (zag 4) (zag 6) dIx) (zad (zak (zad (dC (.int 1)) (zad (zac (dC (.int 1)) (zac (zag 3) (dC (.int 5)) dIx) zca) zar)) zcZ) (zad (zaY (zag 8) znq) zar))) zaK) (zag 6)) zaj)) zaj)
noncomputable def zCI:Ev->Res Fl:=(sIf (zgY (zac (zac (zag 3) (dC (.int 0)) dIx) (dC (.int 12)) dEq) (zac (zag 1) (zak zar zcP) dNe)) (zam (zu4 4 (zak (zad (zac (zag 8) (zac (zag 7) (dC (.int 0)) dIx) zbv) (zad (zac (zag 7) (dC (.int 1)) dIx) zar)) zcZ) (zac (zag 1) (zac (zag 5) (zak (zad (zag 1) zar) (m1 zgt)) zdW) dIx)) zaj) zaj)
noncomputable def zfq:Ev->Res Fl :=
 (zam (zqH 4 (zak (zad (zag 2) zar) (m1 zih))) (zam (za4 5 (zac (zac (zag 3) (dC (.int 1)) dIx) (zak (zad (zag 2) zar) (m1 zgt)) zdW)) (zam (za4 6 (zac (zac (zag 3) (dC (.int 2)) dIx) (zak (zad (zag 2) zar) (m1 zgt)) zdW)) (zam (za4 7 (zak (zad (zjB (zag 3) (zci (dC (.int 3))) (zci (dC (.int 6)))) zar) zax)) (zam (za4 8 (zac (dC (.int 1)) (zac (dC (.int 2)) (zac (zag 3) (dC (.int 6)) dIx) zbv) zl9)) (zam st4 (zam st5 (zam st6 (zam st7 (zam st8 (zam st9 (zam zFa (zam zEH (zam zCI (zam (zbQ (zag 4)) zaj)))))))))))))))
def zbW:List D->Res D:=zcD 10 zfq
noncomputable def zbJ:Ev->Res Fl :=
 (zam (za4 4 (zak (zad (zag 3) (zad (zak (zad (dC (.int 14)) (zad (dC (.int 360360)) (zad (dC (.int 360360)) (zad (dC (.int 5)) (zad (zac (dC (.int 10)) (dC (.int 18)) zs4) (zad (dC (.int 30)) (zad (dC (.int 2)) (zad (dC (.int 16)) zar)))))))) zcP) zar)) zaH)) (zam (sIf (zac (zac (zag 4) (dC (.int 0)) dIx) (dC (.int 0)) dEq) (zam (zbQ (zak (zad (zag 2) zar) (m1 zih))) zaj) zaj) (zam (sIf (zac (zac (zag 4) (dC (.int 0)) dIx) (dC (.int 1)) dEq) (zam (zbQ (zac (zag 2) (zsr (zak (zad (zak (zad (dC (.int 0)) (zad (dC (.int 1)) zar)) zcZ) zar) zcP) (zac (dC (.int 1)) (zac (zac (zag 4) (dC (.int 1)) dIx) (dC (.int 3)) zdW) zca)) zca)) zaj) zaj) (zam (sIf (zgY (zac (zac (zag 4) (dC (.int 0)) dIx) (dC (.int 2)) dEq) (zac (zag 2) (zak zar zcP) dNe)) (zam (zbQ (zjB (zag 2) zfC (zci (zac (zac (zag 4) (dC (.int 1)) dIx) (zak (zad (zag 2) zar) (m1 zgt)) zdW)))) zaj) zaj) (zam (sIf (zac (zac (zag 4) (dC (.int 0)) dIx) (dC (.int 3)) dEq) (zam (zbQ (zac (zak (zad (zak (zad (zag 2) zar) (m1 zxv)) (zad (dC (.non)) (zad (dC (.dic [] [])) (zad (dC (.str "flow")) (zad (dC (.int 7)) (zad (dC (.bl true)) (zad (zaY (zag 2) zBT) zar))))))) zcP) (zac (zac (zag 4) (dC (.int 1)) dIx) (dC (.int 7)) zdW) dIx)) zaj) zaj) (zam (sIf (zac (zag 2) (zak zar zcP) dEq) (zam (zbQ (zak zar zcP)) zaj) zaj) (zam (zbQ (zak (zad (zag 0) (zad (zag 1) (zad (zag 2) (zad (zag 4) zar)))) zbW)) zaj)))))))
def za8:List D->Res D:=zcD 5 zbJ
noncomputable def zbm:Ev->Res Fl :=
 (zam (sIf (dOr (zdJ (zaY (zag 0) (zcY "tuple"))) (zac (zak (zad (zag 0) zar) (m1 zgt)) (dC (.int 2)) dNe)) (zam (zbQ (dC (.bl false))) zaj) zaj) (zam (sIf (dOr (zdJ (zak (zad (zac (zag 0) (dC (.int 0)) dIx) zar) zbI)) (zdJ (zak (zad (zac (zag 0) (dC (.int 1)) dIx) zar) zbI))) (zam (zbQ (dC (.bl false))) zaj) zaj) (zam (zbQ (zgY (zac (zac (zag 0) (dC (.int 1)) dIx) (dC (.int 0)) dGt) (zac (zak (zad (zac (zag 0) (dC (.int 0)) dIx) (zad (zac (zag 0) (dC (.int 1)) dIx) zar)) zbe) (zag 0) dEq))) zaj)))
def zaZ:List D->Res D:=zcD 1 zbm
def zlW:Ev->Res Fl :=
 (zam (zbQ (zac (zac (zac (zag 0) (dC (.int 0)) dIx) (zac (zag 1) (dC (.int 1)) dIx) zbv) (zac (zac (zag 1) (dC (.int 0)) dIx) (zac (zag 0) (dC (.int 1)) dIx) zbv) dLt)) zaj)
def zd8:List D->Res D:=zcD 2 zlW
noncomputable def zeC:Ev->Res Fl :=
 (zam (za4 3 (zak (zad (dC (.int 0)) (zad (dC (.int 1)) zar)) zcZ)) (zam (zhq (zty (zac (zag 0) (dC (.int 1)) dIx)) (zff [4,5]) (zam (sIf (zac (zac (zag 5) (dC (.int 0)) dIx) (zag 2) dEq) (zam (za4 3 (zak (zad (zag 3) (zad (zac (zag 1) (zag 4) dIx) (zad (dC (.int 1)) zar))) zaK)) zaj) zaj) (zam (sIf (zac (zac (zag 5) (dC (.int 1)) dIx) (zag 2) dEq) (zam (za4 3 (zak (zad (zag 3) (zad (zac (zag 1) (zag 4) dIx) (zad (zaY (dC (.int 1)) znq) zar))) zaK)) zaj) zaj) zaj))) (zam (zbQ (zag 3)) zaj)))
def zcs:List D->Res D:=zcD 6 zeC
noncomputable def lI1:Ev->Res Fl:=(sIf (dOr (zdJ (zak (zad (zac (zag 3) (zag 4) dIx) zar) zaZ)) (zgY (zac (zag 4) (zag 2) dIn) (zac (zac (zac (zag 3) (zag 4) dIx) (dC (.int 0)) dIx) (dC (.int 0)) dNe))) (zam (zbQ (zak (zad (dC (.str "flow")) (zad (zag 4) zar)) zcZ)) zaj) zaj)
noncomputable def lI2:Ev->Res Fl:=(sIf (dOr (zak (zad (zac (zag 1) (zag 4) dIx) (zad (zac (zag 3) (zag 4) dIx) zar)) zd8) (zak (zad (zac (zag 1) (zag 4) dIx) (zad (zak (zad (zaY (zac (zac (zag 3) (zag 4) dIx) (dC (.int 0)) dIx) znq) (zad (zac (zac (zag 3) (zag 4) dIx) (dC (.int 1)) dIx) zar)) zcZ) zar)) zd8)) (zam (zbQ (zak (zad (dC (.str "flow")) (zad (zag 4) zar)) zcZ)) zaj) zaj)
noncomputable def lI3:Ev->Res Fl:=(sIf (zgY (zac (zac (zag 5) (dC (.int 2)) dIx) (dC (.str "one")) dEq) (zac (zac (zac (zag 3) (zag 4) dIx) (dC (.int 0)) dIx) (dC (.int 0)) dLt)) (zam (zbQ (zak (zad (dC (.str "flow")) (zad (zag 4) zar)) zcZ)) zaj) zaj)
noncomputable def lP:Ev->Res Fl:=(zam (za4 7 (zac (zak (zad (zag 0) (zad (zag 3) (zad (zag 6) zar))) zcs) (dC (.int 0)) dIx)) (zam (sIf (dOr (zgY (zac (zag 6) (zac (zag 0) (dC (.int 2)) dIx) dEq) (zac (zag 7) (dC (.int 0)) dLt)) (zgY (zac (zag 6) (zak (zad (zac (zag 0) (dC (.int 2)) dIx) (zad (zac (zag 0) (dC (.int 3)) dIx) zar)) zcZ) zb3) (zac (zag 7) (dC (.int 0)) dNe))) (zam (zbQ (zak (zad (dC (.str "place")) (zad (zag 6) zar)) zcZ)) zaj) zaj) zaj))
def lA:Ev->Res Fl:=(zam lI1 (zam lI2 (zam lI3 zaj)))
noncomputable def zcW:Ev->Res Fl :=
 (zam (sIf (dOr (zdJ (zaY (zag 3) (zcY "list"))) (zac (zak (zad (zag 3) zar) (m1 zgt)) (zak (zad (zac (zag 0) (dC (.int 1)) dIx) zar) (m1 zgt)) dNe)) (zam (zbQ (zak (zad (dC (.str "flow")) (zad (dC (.non)) zar)) zcZ)) zaj) zaj) (zam (zhq (zty (zac (zag 0) (dC (.int 1)) dIx)) (zff [4,5]) lA) (zam (zsq (zac (zag 0) (dC (.int 0)) dIx) (zea 6) lP) (zam (zbQ (dC (.non))) zaj))))
def zbh:List D->Res D:=zcD 8 zcW
def zyC:Ev->Res Fl:=(zam (zc4 6 (zak (zad (zak (zad (zak (zad (zac (zag 7) (dC (.int 0)) dIx) zar) (m1 zxy)) (zad (zac (zag 7) (dC (.int 1)) dIx) zar)) zcZ) (zad (zag 8) (zad (dC (.int 1)) zar))) zaK)) zaj)
noncomputable def zCu:Ev->Res D:=(zac (zsr (zac (zsr (zak (zad (dC (.int 360360)) zar) zcP) (dC (.int 6))) (zak (zad (dC (.int 5)) (zad (zac (dC (.int 10)) (dC (.int 18)) zs4) (zad (dC (.int 30)) zar))) zcP) zx1) (dC (.int 3))) (zak (zad (dC (.int 16384)) (zad (dC (.int 2)) zar)) zcP) zca)
noncomputable def wIf:Ev->Res Fl:=(sIf (zac (zac (zag 3) (dC (.int 28)) dIx) (dC (.int 1)) dEq) (zam (za4 1 (zak (zad (zaY (zac (zag 1) (dC (.int 0)) dIx) zFO) (zad (zac (zag 1) (dC (.int 1)) dIx) (zad (zac (zag 1) (dC (.int 2)) dIx) (zad (zac (zag 1) (dC (.int 3)) dIx) zar)))) zcZ)) zaj) zaj)
noncomputable def zA4:Ev->Res Fl:=(zam (zzH 6 (za4 11 (zak (zad (zag 6) (zad (zag 5) (zad (zag 4) (zad (zag 10) zar)))) za8))) (zam (zzH 6 (za4 12 (zak (zad (zag 1) (zad (zag 6) (zad (zag 5) (zad (zag 11) zar)))) zbh))) (zam (sIf (zdJ (zak (zad (zac (zag 9) (dC (.int 0)) dIx) (zad (zac (zag 9) (dC (.int 1)) dIx) (zad (zac (zag 9) (dC (.int 2)) dIx) (zad (zag 11) (zad (zag 12) zar))))) zb7)) (zam (zbQ (dC (.bl false))) zaj) zaj) (zam (zzH 6 (sIf (dOr (zac (zag 11) (zak (zad (zag 6) (zad (zag 5) (zad (zag 4) (zad (zag 10) zar)))) za8) zBR) (zac (zag 9) (zak (zad (zag 1) (zad (zag 6) (zad (zag 5) zar))) zcZ) dNe)) (zam (zbQ (dC (.bl false))) zaj) zaj)) zaj))))
noncomputable def zEx:Ev->Res Fl :=
 (zam (za4 1 (zak (zad (zag 0) zar) zcU)) (zam (za4 2 zCu) (zam (za4 3 (zak (zad (zac (zac (zac (zak (zad (zag 0) zar) za6) (dC (.int 1)) dIx) (zak (zad (dC (.int 0)) zar) zcP) zca) (dC (.int 0)) dIx) (zad (zag 2) zar)) zaH)) (zam wIf (zam (za4 4 (zak (zad (zag 1) (zad (zak zar zcP) (zad (zag 3) zar))) zfE)) (zam (za4 5 (zak (zad (zag 1) (zad (zag 4) (zad (zac (zag 3) (dC (.int 27)) dIx) zar))) zdR)) (zam (zqH 6 (zak zar zcP)) (zam (zhq (zCa (zag 4) (zak (zad (zag 0) zar) zdy)) (zff [7,8]) zyC) (zam (zzH 6 (za4 9 (zak (zad (zak (zad (zak (zad (zac (zag 1) (dC (.int 0)) dIx) zar) (m1 zih)) (zad (zak (zad (zac (zag 1) (dC (.int 1)) dIx) zar) (m1 zih)) (zad (zac (zag 1) (dC (.int 2)) dIx) (zad (zac (zag 1) (dC (.int 3)) dIx) zar)))) zcZ) (zad (zak (zad (zag 6) zar) (m1 zih)) (zad (zak (zad (zag 5) zar) (m1 zih)) zar))) zcZ))) (zam (sIf (zdJ (zak (zad (zac (zag 9) (dC (.int 0)) dIx) (zad (zac (zag 9) (dC (.int 1)) dIx) (zad (zac (zag 9) (dC (.int 2)) dIx) (zad (zak (zad (zag 4) zar) (m1 zih)) (zad (dC (.non)) zar))))) zb7)) (zam (zbQ (dC (.bl false))) zaj) zaj) (zam (zsq (zac (zjB (zac (zak (zad (zag 0) zar) za6) (dC (.int 1)) dIx) (zci (dC (.int 1))) zfC) (zak (zad (dC (.int 7)) zar) zcP) zca) (zea 10) zA4) (zam (zbQ (dC (.bl true))) zaj))))))))))))
def zvJ:List D->Res D:=zcD 13 zEx
end K34
namespace K35
open PySem L2 DL
abbrev m_ratio:List D->Res D:=Wex.m_ratio
abbrev m_plus:List D->Res D:=Wex.m_plus
abbrev m_sum_of:List D->Res D:=Wex.m_sum_of
end K35
namespace K36
open PySem L2 DL
abbrev zbe:List D->Res D:=Cod.zbe
noncomputable def zeo:Ev->Res Fl :=
 (zam (zbQ (zak (zad (zac (zac (zac (zag 0) (dC (.int 0)) dIx) (zac (zag 1) (dC (.int 1)) dIx) zbv) (zac (zac (zag 2) (zac (zag 1) (dC (.int 0)) dIx) zbv) (zac (zag 0) (dC (.int 1)) dIx) zbv) zca) (zad (zac (zac (zag 0) (dC (.int 1)) dIx) (zac (zag 1) (dC (.int 1)) dIx) zbv) zar)) zbe))
 zaj)
def zaK:List D->Res D:=zcD 3 zeo
noncomputable def zeC:Ev->Res Fl :=
 (zam (za4 3 (zak (zad (dC (.int 0)) (zad (dC (.int 1)) zar)) zcZ))
 (zam (zhq (zty (zac (zag 0) (dC (.int 1)) dIx)) (zff [4,5])
 (zam (sIf (zac (zac (zag 5) (dC (.int 0)) dIx) (zag 2) dEq)
 (zam (za4 3 (zak (zad (zag 3) (zad (zac (zag 1) (zag 4) dIx) (zad (dC (.int 1)) zar))) zaK))
 zaj)
 zaj)
 (zam (sIf (zac (zac (zag 5) (dC (.int 1)) dIx) (zag 2) dEq)
 (zam (za4 3 (zak (zad (zag 3) (zad (zac (zag 1) (zag 4) dIx) (zad (zaY (dC (.int 1)) znq) zar))) zaK))
 zaj)
 zaj)
 zaj)))
 (zam (zbQ (zag 3))
 zaj)))
def zcs:List D->Res D:=zcD 6 zeC
abbrev m_ratio:List D->Res D:=Com.m_ratio
noncomputable def zga:Ev->Res Fl :=
 (zam (za4 3 (dC (.int 0)))
 (zam (zhq (zCa (zac (zag 0) (dC (.int 1)) dIx) (zag 1)) (zff [4,5])
 (zam (sIf (zac (zac (zag 4) (dC (.int 0)) dIx) (zag 2) dEq)
 (zam (za4 3 (zac (zag 3) (zag 5) zca))
 zaj)
 zaj)
 (zam (sIf (zac (zac (zag 4) (dC (.int 1)) dIx) (zag 2) dEq)
 (zam (za4 3 (zac (zag 3) (zag 5) zl9))
 zaj)
 zaj)
 zaj)))
 (zam (zbQ (zag 3))
 zaj)))
def zcq:List D->Res D:=zcD 6 zga
end K36
namespace K35
open PySem L2 DL Com
theorem zxM {α:Type}{g:α->Bool}:∀ {l:List α},zek (l.map fun x=>D.bl (g x))=some (l.map g)
 | []=>rfl
 | a::l=>by rw[saJ,zek,zxM];rfl
theorem all_ok {ds:List D}{g:D->Bool}:zCg (.lst (ds.map fun d=>.bl (g d)))=.ok (.bl (ds.all g)):=by
 show(match zek (ds.map fun d=>D.bl (g d)) with | some bs=>Res.ok (D.bl (bs.all id)) | none=>.stuck)=_;rw[zxM];simp only[sc8];rfl
theorem notin_nums {k:Nat}{ks:List Nat}:zb3 (.int (k:Int)) (zaT ks)=.ok (.bl (!(decide (k∈ks)))):=by
 have e:inD (.int (k:Int)) (zaT ks)=some (decide (k∈ks)):=by
  have h1:(ks.map fun(k:Nat)=>D.int (k:Int)).all (zbb 40)=true:=saE.mpr fun d hd=>by
   obtain⟨z,_,rfl⟩:=saG.mp hd;rfl
  have h2:(ks.map fun(k:Nat)=>D.int (k:Int)).any (fun d=>eqD d (.int (k:Int)))=decide (k∈ks):=by
   induction ks with
   | nil=>rfl
   | cons y zs ih =>
    rw[saJ,scX,ih (by
     rw[saJ,sb7,saF] at h1;exact h1.2)]
    rw[eqD]
    by_cases h:y=k
    .subst h;simp
    .have:((y:Int)==(k:Int))=false:=beq_eq_false_iff_ne.mpr (by omega)
     rw[this,sbW];simp [saW h]
  exact(if_pos ⟨rfl,h1⟩).trans (congrArg some h2)
 unfold zb3;rw[e]
end K35
namespace K36
open PySem L2 DL Com
theorem zzi:zbe=Cod.zbe:=rfl
def sg (s:Int)(x:Fra):Fra:=(s*x.1,x.2)
theorem zsm {s:Int}{x:Fra}(h:zbo x)(hs:s=1∨s=-1):zbo (sg s x):=by
 rcases hs with rfl | rfl
 .have:sg 1 x=x:=by unfold sg;rw[scZ]
  rw[this];exact h
 .refine⟨⟨h.q1,?_⟩,?_,h.qN⟩
  .show saH (-1*x.1) x.2=1
   rw[show(-1*x.1)=-x.1 by omega,Int.neg_gcd];exact h.g1
  .show(-1*x.1).natAbs < N60
   have:=h.pN;omega
def sumF (xs:List Fra):Fra:=low (tot xs).1 (tot xs).2
theorem sum_acc {xs:List Fra}(hl:xs.length<=40)(hx:∀ x∈xs,zbo x):Acc xs.length (sumF xs)/\Low (sumF xs):=by
 have A:=zqE (xs:=xs) (by omega) hx;have hL:=zfF (a:=(tot xs).1) A.pos;have:=hL.q1;exact⟨⟨by show 0 < (low _ _).2;omega,sal zk7 A.b1,sal zk6 A.b2⟩,hL⟩
theorem zqM {xs:List Fra}{x:Fra}{s:Int}(hl:xs.length<=39)(hxs:∀ y∈xs,zbo y)(hx:zbo x)(hs:s=1∨s=-1):zaK [fr (sumF xs),fr x,.int s]=.ok (fr (sumF (xs++[sg s x]))):=by
 have hx':=zsm hx hs;have A:=zqE (xs:=xs) (by omega) hxs;obtain⟨hA,_⟩:=sum_acc (xs:=xs) (by omega) hxs;have hB:=hA.step hx';have bb:bnd (xs.length+1) < B13:=zo8 (by omega);have b60:bnd xs.length < B60:=saf (zo8 (by omega)) zpe;have hw:sumF (xs++[sg s x])=low ((sumF xs).1*x.2+s*x.1*(sumF xs).2) ((sumF xs).2*x.2):=by
  have:=zsF (s:=tot xs) (x:=sg s x) A.pos hx'.q1;unfold sumF;rw[zyi,← this];rfl
 have hlo:=Cod.low_ok (a:=(sumF xs).1*x.2+s*x.1*(sumF xs).2) (b:=(sumF xs).2*x.2) hB.pos (sav hB.b1 bb) (sav hB.b2 bb);have m1_:zcA (sumF xs).1 x.2=true:=zcS (sav hA.b1 b60) (saf hx.qN zbN);have m0_:zcA s x.1=true:=zcS (saf (show s.natAbs < N60 by rcases hs with rfl | rfl<;>decide) zbN) (saf hx.pN zbN);have m2_:zcA (s*x.1) (sumF xs).2=true:=zcS (saf hx'.pN zbN) (sav hA.b2 b60);have m3_:zcA (sumF xs).2 x.2=true:=zcS (sav hA.b2 b60) (saf hx.qN zbN);rw[hw];generalize sumF xs=u at *;rw[show fr u=.tup [.int u.1,.int u.2] from rfl,show fr x=.tup [.int x.1,.int x.2] from rfl];open_line with[zaK,zeo,zbw m1_,zbw m0_,zbw m2_,zbw m3_,zzi,hlo]
def part (p:Str)(t:Tie)(x:Fra):List Fra:=(if t.a=p then[sg 1 x] else[])++(if t.b=p then[sg (-1) x] else[])
def parts (p:Str):List Tie->List Fra->List Fra
 | t::ts,x::xs=>part p t x++parts p ts xs
 | _,_=>[]
theorem zAS {p:Str}{t:Tie}{x:Fra}:(part p t x).length<=2:=by
 unfold part;split<;>split<;>simp
theorem parts_len {p:Str}:∀ {ts:List Tie}{xs:List Fra},(parts p ts xs).length<=2*ts.length
 | [],_=>by simp [parts]
 | _::_,[]=>by simp [parts]
 | t::ts,x::xs=>by
  unfold parts;rw[sba,sar];have:=parts_len (p:=p) (ts:=ts) (xs:=xs);have:=zAS (p:=p) (t:=t) (x:=x);omega
theorem zyN {p:Str}{t:Tie}{x:Fra}(h:zbo x):∀ y∈part p t x,zbo y:=fun y hy=>by
 unfold part at hy;rw[saQ] at hy;rcases hy with hy | hy
 .split at hy
  .have:y=sg 1 x:=by simpa using hy
   rw[this];exact zsm h (.inl rfl)
  .cases hy
 .split at hy
  .have:y=sg (-1) x:=by simpa using hy
   rw[this];exact zsm h (.inr rfl)
  .cases hy
theorem parts_fin {p:Str}:∀ {ts:List Tie}{xs:List Fra},(∀ x∈xs,zbo x)->∀ y∈parts p ts xs,zbo y
 | [],_,_,y,hy=>by simp [parts] at hy
 | _::_,[],_,y,hy=>by simp [parts] at hy
 | t::ts,x::xs,h,y,hy=>by
  unfold parts at hy;rw[saQ] at hy;rcases hy with hy | hy
  .exact zyN (h x saq) y hy
  .exact parts_fin (fun z hz=>h z (sak _ hz)) y hy
theorem eqs {x y:Str}:dEq (.str x) (.str y)=.ok (.bl (decide (x=y))):=by
 rw[zrT]
 congr 2
theorem zt6 {A B p:D}{P:Str}{t:Tie}{x:Fra}{acc:List Fra}{k:Nat}{xs:List Fra}(hp:p=.str P)(hacc:∀ y∈acc,zbo y)(hl:acc.length<=37)(hx:xs[k]?=some x)(fx:zbo x):∃ ρ2,(zam (sIf (zac (zac (zag 5) (dC (.int 0)) dIx) (zag 2) dEq)
 (zam (za4 3 (zak (zad (zag 3) (zad (zac (zag 1) (zag 4) dIx) (zad (dC (.int 1)) zar))) zaK))
 zaj)
 zaj)
 (zam (sIf (zac (zac (zag 5) (dC (.int 1)) dIx) (zag 2) dEq)
 (zam (za4 3 (zak (zad (zag 3) (zad (zac (zag 1) (zag 4) dIx) (zad (zaY (dC (.int 1)) znq) zar))) zaK))
 zaj)
 zaj)
 zaj)) [.sh A,.sh (.lst (xs.map fr)),.sh p,.sh (fr (sumF acc)),.sh (.int (k:Int)),.sh (zbA t)]=.ok (.nx ρ2)/\ρ2=[.sh A,.sh (.lst (xs.map fr)),.sh p,.sh (fr (sumF (acc++part P t x))),.sh (.int (k:Int)),.sh (zbA t)]:=by
 subst hp;have hix:dIx (.lst (xs.map fr)) (.int (k:Int))=.ok (fr x):=zdf (by rw[sai,hx];rfl);have i0:dIx (zbA t) (.int 0)=.ok (.str t.a):=rfl;have i1:dIx (zbA t) (.int 1)=.ok (.str t.b):=rfl;have p1:=zqM (xs:=acc) (x:=x) (s:=1) (by omega) hacc fx (.inl rfl);refine⟨_,?_,rfl⟩
 by_cases ha:t.a=P
 .have hacc':∀ y∈acc++[sg 1 x],zbo y:=fun y hy=>by
   rw[saQ] at hy;rcases hy with hy | hy
   .exact hacc y hy
   .have:y=sg 1 x:=by simpa using hy
    rw[this];exact zsm fx (.inl rfl)
  have p2:=zqM (xs:=acc++[sg 1 x]) (x:=x) (s:=-1) (by simp;omega) hacc' fx (.inr rfl)
  by_cases hb:t.b=P
  .have e:acc++part P t x=acc++[sg 1 x]++[sg (-1) x]:=by unfold part;rw[if_pos ha,if_pos hb,scR]
   rw[e];open_line with[i0,i1,eqs,decide_eq_true ha,decide_eq_true hb,hix,p1,p2]
  .have e:acc++part P t x=acc++[sg 1 x]:=by unfold part;rw[if_pos ha,if_neg hb,sbR]
   rw[e];open_line with[i0,i1,eqs,decide_eq_true ha,decide_eq_false hb,hix,p1]
 .have p2:=zqM (xs:=acc) (x:=x) (s:=-1) (by omega) hacc fx (.inr rfl)
  by_cases hb:t.b=P
  .have e:acc++part P t x=acc++[sg (-1) x]:=by unfold part;rw[if_neg ha,if_pos hb,sch]
   rw[e];open_line with[i0,i1,eqs,decide_eq_false ha,decide_eq_true hb,hix,p2]
  .have e:acc++part P t x=acc:=by unfold part;rw[if_neg ha,if_neg hb];simp
   rw[e];open_line with[i0,i1,eqs,decide_eq_false ha,decide_eq_false hb]
theorem zmT {p:Str}:∀ {ts:List Tie}{xs:List Fra}{k:Nat}{t:Tie}{x:Fra},ts[k]?=some t->xs[k]?=some x->parts p (ts.take (k+1)) (xs.take (k+1))=parts p (ts.take k) (xs.take k)++part p t x
 | t'::ts,x'::xs,0,t,x,h1,h2=>by
  cases h1;cases h2;show part p t' x'++parts p [] []=[]++part p t' x';simp [parts]
 | t'::ts,x'::xs,k+1,t,x,h1,h2=>by
  show part p t' x'++parts p (ts.take (k+1)) (xs.take (k+1))=(part p t' x'++parts p (ts.take k) (xs.take k))++part p t x;rw[zmT (ts:=ts) (xs:=xs) h1 h2,scR]
 | [],_,_,_,_,h1,_=>by simp at h1
 | _::_,[],_,_,_,_,h2=>by simp at h2
theorem going_ok {w:Web}{P:Str}{xs:List Fra}(h14:w.ts.length<=14)(hl:xs.length=w.ts.length)(hx:∀ x∈xs,zbo x):zcs [zbi w,.lst (xs.map fr),.str P]=.ok (fr (sumF (parts P w.ts xs))):=by
 obtain⟨ρ',hf,x4,x5,rfl⟩:=zdG (ds:=zaW 0 (w.ts.map zbA)) (tg:=zff [4,5]) (ρ:=[.sh (zbi w),.sh (.lst (xs.map fr)),.sh (.str P),.sh (fr (sumF [])),.no,.no])
  (body:=(zam (sIf (zac (zac (zag 5) (dC (.int 0)) dIx) (zag 2) dEq)
 (zam (za4 3 (zak (zad (zag 3) (zad (zac (zag 1) (zag 4) dIx) (zad (dC (.int 1)) zar))) zaK))
 zaj)
 zaj)
 (zam (sIf (zac (zac (zag 5) (dC (.int 1)) dIx) (zag 2) dEq)
 (zam (za4 3 (zak (zad (zag 3) (zad (zac (zag 1) (zag 4) dIx) (zad (zaY (dC (.int 1)) znq) zar))) zaK))
 zaj)
 zaj)
 zaj)))
  (fun k ρ=>∃ x4 x5,ρ=[.sh (zbi w),.sh (.lst (xs.map fr)),.sh (.str P),.sh (fr (sumF (parts P (w.ts.take k) (xs.take k)))),x4,x5]) (by
   rintro k d hd ρ ⟨x4,x5,rfl⟩;obtain⟨t,ht,rfl⟩:=zcR hd;have hk:k < w.ts.length:=(sad.mp ht).1;have hxk:xs[k]?=some xs[k]:=saa (by omega);have hpl:(parts P (w.ts.take k) (xs.take k)).length<=28:=sal parts_len (by rw[sa4];omega);obtain⟨ρ2,h1,h2⟩:=zt6 (A:=zbi w) (B:=.non) (p:=.str P) (P:=P) (t:=t) (acc:=parts P (w.ts.take k) (xs.take k)) (xs:=xs) rfl (parts_fin fun x hx'=>hx x (sda hx')) (by omega) hxk (hx _ (saL (by omega)));refine⟨_,ρ2,zhr rfl,h1,.sh (.int (k:Int)),.sh (zbA t),?_⟩;rw[h2,zmT ht hxk]) ⟨.no,.no,rfl⟩
 rw[zbG,sab,sbX,← hl,sbX] at hf;have h0:fr (sumF [])=.tup [.int 0,.int 1]:=by
  show fr (low 0 1)=_;have:low 0 1=(0,1):=by decide
  rw[this];rfl
 rw[h0] at hf;rw[show zbi w=.tup [.lst (w.ps.map D.str),.lst (w.ts.map zbA),.str w.fi,.str w.la] from rfl] at hf ⊢;open_line with[zcs,zeC,zoI,zow,zkF,hf]
def ip (P:Str)(t:Tie)(z:Int):Int:=(if t.a=P then z else 0)-(if t.b=P then z else 0)
def ips (P:Str):List Tie->List Int->Int
 | t::ts,z::zs=>ip P t z+ips P ts zs
 | _,_=>0
theorem zsJ {p:Str}:∀ {ts:List Tie}{xs:List Int}{k:Nat}{t:Tie}{x:Int},ts[k]?=some t->xs[k]?=some x->ips p (ts.take (k+1)) (xs.take (k+1))=ips p (ts.take k) (xs.take k)+ip p t x
 | t'::ts,x'::xs,0,t,x,h1,h2=>by
  cases h1;cases h2;show ip p t' x' + ips p [] []=0+ip p t' x';simp [ips]
 | t'::ts,x'::xs,k+1,t,x,h1,h2=>by
  show ip p t' x' + ips p (ts.take (k+1)) (xs.take (k+1))=(ip p t' x' + ips p (ts.take k) (xs.take k))+ip p t x;rw[zsJ (ts:=ts) (xs:=xs) h1 h2,Int.add_assoc]
 | [],_,_,_,_,h1,_=>by simp at h1
 | _::_,[],_,_,_,_,h2=>by simp at h2
theorem ips_parts {P:Str}{b:Int}:∀ (ts:List Tie) (xs:List Fra),ips P ts (xs.map fun x=>x.1*(b / x.2))=zs_ ((parts P ts xs).map fun x=>x.1*(b / x.2))
 | [],xs=>by simp [ips,parts,zs_]
 | _::_,[]=>by simp [ips,parts,zs_]
 | t::ts,x::xs=>by
  show ip P t (x.1*(b / x.2))+ips P ts (xs.map fun x=>x.1*(b / x.2))=zs_ ((part P t x++parts P ts xs).map fun x=>x.1*(b / x.2));rw[ips_parts ts xs,saU,zpg]
  congr 1
  unfold ip part sg
  by_cases ha:t.a=P
  .by_cases hb:t.b=P
   .rw[if_pos ha,if_pos hb,if_pos ha,if_pos hb]
    show _=1*x.1*(b / x.2)+(-1*x.1*(b / x.2)+0);rw[scZ,Int.neg_one_mul,Int.neg_mul];omega
   .rw[if_pos ha,if_neg hb,if_pos ha,if_neg hb]
    show _=1*x.1*(b / x.2)+0;rw[scZ];omega
  .by_cases hb:t.b=P
   .rw[if_neg ha,if_pos hb,if_neg ha,if_pos hb]
    show _=-1*x.1*(b / x.2)+0;rw[Int.neg_one_mul,Int.neg_mul];omega
   .rw[if_neg ha,if_neg hb,if_neg ha,if_neg hb];rfl
def srcZK (g:Ev->Res D)(ρ:Ev)(d:D):Res (List D):=(g ρ).bind fun e=>match d,e with
 | .lst ds,.lst es=>.ok (zbx ds es)
 | _,_=>.stuck
theorem ev_srcZ {f g:Ev->Res D}{ρ:Ev}:zCa f g ρ=(f ρ).bind (srcZK g ρ):=zaD rfl
theorem ev_srcZ1 {g:Ev->Res D}{ρ:Ev}{ds es:List D}(h:g ρ=.ok (.lst es)):srcZK g ρ (.lst ds)=.ok (zbx ds es):=by unfold srcZK;rw[h];rfl
theorem zvq {ts:List Tie}{zs:List Int}{k:Nat}{d:D}(h:(zbx (ts.map zbA) (zs.map D.int))[k]?=some d):∃ t z,ts[k]?=some t/\zs[k]?=some z/\d=.tup [zbA t,.int z]:=by
 obtain⟨x,y,h1,h2,h3⟩:=zhd _ _ _ _ h;rw[sai] at h1 h2;cases e1:ts[k]? with
 | none=>rw[e1] at h1;cases h1
 | some t =>
  cases e2:zs[k]? with
  | none=>rw[e2] at h2;cases h2
  | some z =>
   rw[e1] at h1;rw[e2] at h2;cases h1;cases h2;exact⟨t,z,rfl,rfl,h3⟩
theorem goes_ok {w:Web}{P:Str}{zs:List Int}(hl:zs.length=w.ts.length):zcq [zbi w,.lst (zs.map D.int),.str P]=.ok (.int (ips P w.ts zs)):=by
 obtain⟨ρ',hf,x4,x5,rfl⟩:=zdG (ds:=zbx (w.ts.map zbA) (zs.map D.int)) (tg:=zff [4,5]) (ρ:=[.sh (zbi w),.sh (.lst (zs.map D.int)),.sh (.str P),.sh (.int 0),.no,.no])
  (body:=(zam (sIf (zac (zac (zag 4) (dC (.int 0)) dIx) (zag 2) dEq)
 (zam (za4 3 (zac (zag 3) (zag 5) zca))
 zaj)
 zaj)
 (zam (sIf (zac (zac (zag 4) (dC (.int 1)) dIx) (zag 2) dEq)
 (zam (za4 3 (zac (zag 3) (zag 5) zl9))
 zaj)
 zaj)
 zaj)))
  (fun k ρ=>∃ x4 x5,ρ=[.sh (zbi w),.sh (.lst (zs.map D.int)),.sh (.str P),.sh (.int (ips P (w.ts.take k) (zs.take k))),x4,x5]) (by
   rintro k d hd ρ ⟨x4,x5,rfl⟩;obtain⟨t,z,ht,hz,rfl⟩:=zvq hd;have i0:dIx (zbA t) (.int 0)=.ok (.str t.a):=rfl;have i1:dIx (zbA t) (.int 1)=.ok (.str t.b):=rfl;refine⟨_,[.sh (zbi w),.sh (.lst (zs.map D.int)),.sh (.str P),.sh (.int (ips P (w.ts.take (k+1)) (zs.take (k+1)))),.sh (zbA t),.sh (.int z)],zhr rfl,?_,_,_,rfl⟩;rw[zsJ ht hz];unfold ip;show(zam _ _) [.sh (zbi w),.sh (.lst (zs.map D.int)),.sh (.str P),.sh (.int (ips P (w.ts.take k) (zs.take k))),.sh (zbA t),.sh (.int z)]=_
   by_cases ha:t.a=P
   .by_cases hb:t.b=P
    .rw[if_pos ha,if_pos hb,show ips P (w.ts.take k) (zs.take k)+(z-z)=ips P (w.ts.take k) (zs.take k)+z-z by omega]
     open_line with[i0,i1,eqs,decide_eq_true ha,decide_eq_true hb,zl9]
    .rw[if_pos ha,if_neg hb,Int.sub_zero]
     open_line with[i0,i1,eqs,decide_eq_true ha,decide_eq_false hb,zl9]
   .by_cases hb:t.b=P
    .rw[if_neg ha,if_pos hb,show ips P (w.ts.take k) (zs.take k)+(0-z)=ips P (w.ts.take k) (zs.take k)-z by omega]
     open_line with[i0,i1,eqs,decide_eq_false ha,decide_eq_true hb,zl9]
    .rw[if_neg ha,if_neg hb,show ips P (w.ts.take k) (zs.take k)+(0-0)=ips P (w.ts.take k) (zs.take k) by omega]
     open_line with[i0,i1,eqs,decide_eq_false ha,decide_eq_false hb]) ⟨.no,.no,rfl⟩
 have hpl:(zbx (w.ts.map zbA) (zs.map D.int)).length=w.ts.length:=by
  rw[zfa,sab,sab];omega
 rw[hpl,sbX,← hl,sbX] at hf;rw[show zbi w=.tup [.lst (w.ps.map D.str),.lst (w.ts.map zbA),.str w.fi,.str w.la] from rfl] at hf ⊢;open_line with[zcq,zga,zoI,ev_srcZ]
 rw[ev_srcZ1 (es:=zs.map D.int) rfl];open_line with[zoH,hf]
theorem somes_some (xs:List Fra):zhT (xs.map some)=xs:=by unfold zhT;rw[scL];simp
end K36
namespace K35
open PySem L2 DL Com
theorem ix_mem {ds:List D}{v:Int}(h0:0<=v)(h1:v < (ds.length:Int)):∃ d,dIx (.lst ds) (.int v)=.ok d/\d∈ds:=by
 have hk:v.toNat < ds.length:=by omega
 refine⟨ds[v.toNat],?_,saL hk⟩;have:=zdf (saa hk);rw[show((v.toNat:Nat):Int)=v by omega] at this;exact this
end K35
namespace K34
open PySem L2 DL Com
theorem zf1:zaH=Cod.zaH:=rfl
theorem zzi:zbe=Cod.zbe:=rfl
theorem zCf:zax=Cod.zax:=rfl
theorem zFI:zcU=Cod.zcU:=rfl
theorem zxi:za6=Cod.za6:=rfl
theorem zFJ:zbf=Com.zbf:=rfl
theorem zlx:zcs=K36.zcs:=rfl
theorem zzX:zcq=K36.zcq:=rfl
theorem zlw:zbc=Com.zbc:=rfl
theorem zEf:zbq=Com.zbq:=rfl
def zkJ (u x:Fra)(s:Int):Fra:=low (u.1*x.2+s*x.1*u.2) (u.2*x.2)
def T18:Nat:=1000000000000000000
structure Sz (n:Nat) (x:Fra):Prop where
 l:Low x
 p:x.1.natAbs<=n*T18*31 ^ n
 q:x.2.natAbs<=31 ^ n
theorem Sz.fin {n:Nat}{x:Fra}(h:Sz n x)(hn:n<=24):zbo x:=by
 have h31:31 ^ n<=31 ^ 24:=sa6 (by decide) hn;refine⟨h.l,?_,?_⟩
 .refine sav (sal h.p (sbi (Nat.mul_le_mul_right T18 hn) h31)) ?_
  decide
 .exact sav (sal h.q h31) (by decide)
theorem Sz.mono {n m:Nat}{x:Fra}(h:Sz n x)(hn:n<=m):Sz m x:=by
 have h31:31 ^ n<=31 ^ m:=sa6 (by decide) hn;exact⟨h.l,sal h.p (sbi (Nat.mul_le_mul_right T18 hn) h31),sal h.q h31⟩
theorem zxV:Sz 0 (0,1):=⟨⟨by decide,by decide⟩,by decide,by decide⟩
theorem zu0 {s a:Int}(hs:s=1∨s=-1):(s*a).natAbs=a.natAbs:=by
 rw[sbO];rcases hs with rfl | rfl<;>simp
theorem zxN {u x:Fra}{s:Int}(hs:s=1∨s=-1):(u.1*x.2+s*x.1*u.2).natAbs<=u.1.natAbs*x.2.natAbs+x.1.natAbs*u.2.natAbs:=by
 refine sal (Int.natAbs_add_le _ _) ?_;rw[sbO,sbO,zu0 hs];exact saA _
theorem Sz.add {n m:Nat}{u x:Fra}{s:Int}(hu:Sz n u)(hx:Sz m x)(hs:s=1∨s=-1):Sz (n+m) (zkJ u x s):=by
 have h1:=hu.l.q1;have h2:=hx.l.q1;have hp:0 < u.2*x.2:=sbV (by omega) (by omega);refine⟨zfF hp,sal zk7 (sal (zxN hs) ?_),sal zk6 ?_⟩
 .have a1:=sbi hu.p hx.q
  have a2:=sbi hx.p hu.q;refine sal (Nat.add_le_add a1 a2) (sdB ?_);rw[scV];generalize 31 ^ n=A;generalize 31 ^ m=B
  grind
 .rw[sbO,scV];exact sbi hu.q hx.q
theorem Sz.sgn {n:Nat}{x:Fra}{s:Int}(h:Sz n x)(hs:s=1∨s=-1):Sz n (s*x.1,x.2):=by
 refine⟨⟨h.l.q1,?_⟩,?_,h.q⟩
 .show saH (s*x.1) x.2=1
  have:=h.l.g1;rcases hs with rfl | rfl
  .rw[scZ];exact this
  .rw[show(-1*x.1)=-x.1 by omega,Int.neg_gcd];exact this
 .show(s*x.1).natAbs<=_
  rw[zu0 hs];exact h.p
theorem Sz.abs {n:Nat}{x:Fra}(h:Sz n x):Sz n ((x.1.natAbs:Int),x.2):=by
 by_cases c:0<=x.1
 .have:((x.1.natAbs:Int),x.2)=(1*x.1,x.2):=by rw[scZ,show(x.1.natAbs:Int)=x.1 by omega]
  rw[this];exact h.sgn (.inl rfl)
 .have:((x.1.natAbs:Int),x.2)=(-1*x.1,x.2):=by rw[show(x.1.natAbs:Int)=-1*x.1 by omega]
  rw[this];exact h.sgn (.inr rfl)
theorem ztH {u x:Fra}{s:Int}(hu:zbo u)(hx:zbo x)(hs:s=1∨s=-1):zaK [fr u,fr x,.int s]=.ok (fr (zkJ u x s)):=by
 have h1:=hu.q1;have h2:=hx.q1;have hp:0 < u.2*x.2:=sbV (by omega) (by omega);have n60:N60<=2 ^ 200:=by decide
 have b1:u.1.natAbs<=2 ^ 200:=sal (sbL hu.pN) n60;have b2:u.2.natAbs<=2 ^ 200:=sal (sbL hu.qN) n60;have b3:x.1.natAbs<=2 ^ 200:=sal (sbL hx.pN) n60;have b4:x.2.natAbs<=2 ^ 200:=sal (sbL hx.qN) n60;have k13:(2:Nat) ^ 401 < B13:=by rw[znI];exact sc9 (by decide) (by decide)
 have c1:(u.1*x.2+s*x.1*u.2).natAbs < B13:=by
  refine sav (sal (zxN hs) (Nat.add_le_add (sbi b1 b4) (sbi b3 b2))) (sav (sdB ?_) k13);rw[← scV,show(401:Nat)=(200+200)+1 from rfl,Nat.pow_succ];omega
 have c2:(u.2*x.2).natAbs < B13:=by
  rw[sbO];refine sav (sbi b2 b4) (sav ?_ k13);rw[← scV];exact sa6 (by decide) (by decide)
 have hlo:=Cod.low_ok hp c1 c2;have l60:∀ {a:Int},a.natAbs < N60->a.natAbs < B60:=fun h=>saf h zbN;have m1_:zcA u.1 x.2=true:=zcS (l60 hu.pN) (l60 hx.qN);have m0_:zcA s x.1=true:=zcS (l60 (show s.natAbs < N60 by rcases hs with rfl | rfl<;>decide)) (l60 hx.pN);have m2_:zcA (s*x.1) u.2=true:=zcS (by rw[zu0 hs];exact l60 hx.pN) (l60 hu.qN);have m3_:zcA u.2 x.2=true:=zcS (l60 hu.qN) (l60 hx.qN);rw[show fr u=.tup [.int u.1,.int u.2] from rfl,show fr x=.tup [.int x.1,.int x.2] from rfl];unfold zkJ;open_line with[zaK,zeo,zbw m1_,zbw m0_,zbw m2_,zbw m3_,zzi,hlo]
def Rp (M:Int)(x:Fra)(z:Int):Prop:=x.1*M=z*x.2
theorem Rp.add {M:Int}{u x:Fra}{zu zx s:Int}(hu:Rp M u zu)(hx:Rp M x zx)(u1:1<=u.2)(x1:1<=x.2):Rp M (zkJ u x s) (zu+s*zx):=by
 have hr:=zh6 (a:=u.1*x.2+s*x.1*u.2) (b:=u.2*x.2);have hp:u.2*x.2≠0:=by have:=sbV (show 0 < u.2 by omega) (show 0 < x.2 by omega);omega
 unfold Rp at *;unfold zkJ;generalize low (u.1*x.2+s*x.1*u.2) (u.2*x.2)=L at *;refine sbH hp ?_;have e1:L.1*M*(u.2*x.2)=L.1*(u.2*x.2)*M:=by grind
 rw[e1,hr];have e2:(u.1*x.2+s*x.1*u.2)*L.2*M=(u.1*M)*x.2*L.2+s*(x.1*M)*u.2*L.2:=by grind
 rw[e2,hu,hx]
 grind
theorem zq5 {w a b:Int}(hw:0<=w/\w < 5)(ha:0<=a/\a < 1000000000000000000)(hb:0<=b/\b < 30):∃ x:Fra,zax [.lst [.int w,.int a,.int b]]=.ok (fr x)/\Sz 1 x/\0<=x.1:=by
 have hN:(1000000000000000000000:Int) < (N60:Int):=by decide
 have f7:=zde (a:=a) (b:=7) (by decide);have f60:=zde (a:=a) (b:=60) (by decide);have f1000:=zde (a:=a) (b:=1000) (by decide);have f4:=zde (a:=b) (b:=4) (by decide);obtain⟨p,q,hp,hq,i1,i2⟩:∃ p q:Int,(0<=p/\p < 1000000000000000000)/\(1<=q/\q < 31)/\dIx (.lst [.int 0,.int (a.fmod 7),.int (a.fmod 60),.int a,.int (a.fmod 1000)]) (.int w)=.ok (.int p)/\dIx (.lst [.int 1,.int 1,.int (1+b),.int 1,.int (1+b.fmod 4)]) (.int w)=.ok (.int q):=by
  have:w=0∨w=1∨w=2∨w=3∨w=4:=by omega
  rcases this with rfl | rfl | rfl | rfl | rfl
  .exact⟨0,1,by decide,by decide,rfl,rfl⟩
  .exact⟨a.fmod 7,1,by omega,by decide,rfl,rfl⟩
  .exact⟨a.fmod 60,1+b,by omega,by omega,rfl,rfl⟩
  .exact⟨a,1,by omega,by decide,rfl,rfl⟩
  .exact⟨a.fmod 1000,1+b.fmod 4,by omega,by omega,rfl,rfl⟩
 have hlo:=Cod.low_ok (a:=p) (b:=q) (by omega) (zEN (by omega) (by omega)) (zEN (by omega) (by omega));refine⟨low p q,?_,⟨zfF (by omega),sal zk7 ?_,sal zk6 ?_⟩,zhi (by omega) (by omega)⟩
 .open_line with[Cod.zax,Cod.zep,i1,i2,hlo]
 .have:p.natAbs < T18:=by unfold T18;omega
  unfold T18 at *;omega
 .omega
theorem zuD {d:Int}(h:0<=d/\d < 30):Sz 1 (1,1+d):=⟨⟨by show 1<=1+d;omega,Int.gcd_one_left ..⟩,by show(1:Int).natAbs<=_;decide,by show(1+d).natAbs<=31 ^ 1;omega⟩
theorem zyx {ns:List Int}{c1 c2:List Int}(hc:Cod.za6 [.lst (ns.map D.int)]=.ok (.tup [.lst (c1.map D.int),.lst (c2.map D.int)]))(h14:c1.length<=14):∃ xs:List Fra,zdy [.lst (ns.map D.int)]=.ok (.lst (xs.map fr))/\xs.length=c1.length/\∀ x∈xs,Sz 1 x/\0<=x.1:=by
 have key:∀ c:Int,∃ x:Fra,(∀ ρ:Ev,ρ[0]?=some (.sh (.int c))->ρ[1]?=some (.sh (.lst [.int 420,.int 60,.int 2,.int 5,.int 1000000000000000000,.int 30,.int 6,.int 5,.int 1000000000000000000,.int 30,.int 3,.int 5,.int 1000000000000000000,.int 30]))->(zak (zad (zjB (zak (zad (zag 0) (zad (zag 1) zar)) zaH) (zci (dC (.int 11))) zfC) zar) zax) ρ=.ok (fr x))/\Sz 1 x/\0<=x.1:=fun c=>by
  obtain⟨vs,hd,V⟩:=Cod.draws_ok c [420,60,2,5,1000000000000000000,30,6,5,1000000000000000000,30,3,5,1000000000000000000,30] (by decide) (by decide);have hvl:vs.length=14:=V.len;obtain⟨v11,g11,b11,_⟩:=V.ix 11 11 rfl rfl;obtain⟨v12,g12,b12,_⟩:=V.ix 12 12 rfl rfl;obtain⟨v13,g13,b13,_⟩:=V.ix 13 13 rfl rfl;obtain⟨x,hx,fx,x0⟩:=zq5 (w:=v11) (a:=v12) (b:=v13) b11 b12 b13;refine⟨x,fun ρ h0 h1=>?_,fx,x0⟩;have hcut:zmA (vs.map D.int) (some 11) none=[.int v11,.int v12,.int v13]:=by
   rw[zii,HT.sIx_none,show(11:Int)=((11:Nat):Int) from rfl,HT.sIx_nat,hvl];have:=zAp (i:=11) g11 g12 g13;show((vs.drop 11).take 3).map D.int=_;rw[this];rfl
  have hd':Cod.zaH [.int c,.lst [.int 420,.int 60,.int 2,.int 5,.int 1000000000000000000,.int 30,.int 6,.int 5,.int 1000000000000000000,.int 30,.int 3,.int 5,.int 1000000000000000000,.int 30]]=.ok (.lst (vs.map D.int)):=hd;generalize vs.map D.int=Q at *;open_line with[h0,h1,zf1,hd',hcut,hx]
 obtain⟨g,hg⟩:∃ g:Int->Fra,∀ c,(∀ ρ:Ev,ρ[0]?=some (.sh (.int c))->ρ[1]?=some (.sh (.lst [.int 420,.int 60,.int 2,.int 5,.int 1000000000000000000,.int 30,.int 6,.int 5,.int 1000000000000000000,.int 30,.int 3,.int 5,.int 1000000000000000000,.int 30]))->(zak (zad (zjB (zak (zad (zag 0) (zad (zag 1) zar)) zaH) (zci (dC (.int 11))) zfC) zar) zax) ρ=.ok (fr (g c)))/\Sz 1 (g c)/\0<=(g c).1:=⟨fun c=>Classical.choose (key c),fun c=>Classical.choose_spec (key c)⟩
 refine⟨c1.map g,?_,by simp,fun x hx=>?_⟩
 .have hcomp:ziR 1 [1] (zea 0) mYes (zak (zad (zjB (zak (zad (zag 0) (zad (zag 1) zar)) zaH) (zci (dC (.int 11))) zfC) zar) zax) [.sh (.lst (ns.map D.int)),.sh (.lst [.int 420,.int 60,.int 2,.int 5,.int 1000000000000000000,.int 30,.int 6,.int 5,.int 1000000000000000000,.int 30,.int 3,.int 5,.int 1000000000000000000,.int 30])] (c1.map D.int)=.ok (.lst ((c1.map g).map fr)):=by
   rw[zf4 (F:=fun d=>match d with | .int v=>fr (g v) | d=>d) (by rw[sab];omega)]
   .rw[sa2,sa2];rfl
   .intro d hd
    obtain⟨c,_,rfl⟩:=saG.mp hd;exact⟨[.sh (.int c),.sh (.lst [.int 420,.int 60,.int 2,.int 5,.int 1000000000000000000,.int 30,.int 6,.int 5,.int 1000000000000000000,.int 30,.int 3,.int 5,.int 1000000000000000000,.int 30])],rfl,rfl,(hg c).1 _ rfl rfl⟩
  have p18:zs4 (.int 10) (.int 18)=.ok (.int 1000000000000000000):=rfl;open_line with[zdy,zke,p18,zxi,hc,hcomp]
 .obtain⟨c,_,rfl⟩:=saG.mp hx
  exact(hg c).2
def zqw (c:Nat×Int×Str):D:=.tup [.int (c.1:Int),.int c.2.1,.str c.2.2]
def ztx (c:Nat×Int):D:=.tup [.int (c.1:Int),.int c.2]
def Stp (ts:List Tie)(p:Str)(k:Nat)(s:Int)(q:Str):Prop:=∃ t,ts[k]?=some t/\((s=1/\t.a=p/\t.b=q)∨(s=-1/\t.w="both"/\t.b=p/\t.a=q))
def Wk (ts:List Tie):Str->List (Nat×Int)->Str->Prop
 | p,[],q=>p=q
 | p,c::r,q=>∃ p',Stp ts p c.1 c.2 p'/\Wk ts p' r q
theorem zxR {ts:List Tie}{k:Nat}{s:Int}{q q':Str}:∀ {p:Str}{l:List (Nat×Int)},Wk ts p l q->Stp ts q k s q'->Wk ts p (l++[(k,s)]) q'
 | p,[],h,g=>by
  cases h;exact⟨q',g,rfl⟩
 | p,c::r,⟨p',h1,h2⟩,g=>⟨p',h1,zxR h2 g⟩
def zB7 (w:Web)(p:Str)(been:List Str)(c:Nat×Int×Str):Prop:=Stp w.ts p c.1 c.2.1 c.2.2/\c.2.2∉been/\c.2.2∈w.ps
theorem zpO {d:D}(h:zbb 40 d=true):zb3 d (.lst [])=.ok (.bl true):=by
 have e:inD d (.lst [])=some ([].any fun x=>eqD x d):=if_pos ⟨h,rfl⟩;unfold zb3;rw[e];rfl
section
variable {w:Web}{p:Str}{been:List Str}{st:List (Nat×Int)}{ws:List (Nat×Int×Str)}{k:Nat}{t:Tie}{A2:D}{x9:Sl}
abbrev wEv (w:Web)(A2:D)(p:Str)(been:List Str)(st:List (Nat×Int))(x6 x7 x8 x9:Sl):Ev:=[.sh (zbi w),.sh (.lst []),.sh A2,.sh (.str p),.ow (.lst (been.map D.str)),.ow (.lst (st.map ztx)),x6,x7,x8,x9]
theorem zDW (ht:w.ts[k]?=some t)(hT:zpb w.ps t)(hw:∀ c∈ws,zB7 w p been c)(hl:ws.length<=100):∃ ws':List (Nat×Int×Str),if1 (wEv w A2 p been st (.ow (.lst (ws.map zqw))) (.sh (.int (k:Int))) (.sh (zbA t)) x9)=.ok (.nx (wEv w A2 p been st (.ow (.lst (ws'.map zqw))) (.sh (.int (k:Int))) (.sh (zbA t)) x9))/\(∀ c∈ws',zB7 w p been c)/\ws'.length<=ws.length+1:=by
 have n0:=zpO (d:=.int (k:Int)) rfl;have i0:dIx (zbA t) (.int 0)=.ok (.str t.a):=rfl;have i1:dIx (zbA t) (.int 1)=.ok (.str t.b):=rfl;have hap:decide ((ws.map zqw).length<=999)=true:=decide_eq_true (by rw[sab];omega);unfold wEv if1
 by_cases c1:t.a=p
 .by_cases c2:t.b∈been
  .exact⟨ws,by open_line with[n0,i0,i1,K36.eqs,decide_eq_true c1,zfd,decide_eq_true c2],hw,by omega⟩
  .refine⟨ws++[((k,1,t.b):Nat×Int×Str)],?_,fun c hc=>?_,by simp⟩
   .rw[saU]
    open_line with[n0,i0,i1,K36.eqs,decide_eq_true c1,zfd,decide_eq_false c2,zc8 hap]
    rfl
   .rcases saQ.mp hc with hc | hc
    .exact hw c hc
    .have:c=(k,1,t.b):=by simpa using hc
     subst this;exact⟨⟨t,ht,.inl ⟨rfl,c1,rfl⟩⟩,c2,hT.b⟩
 .exact⟨ws,by open_line with[n0,i0,i1,K36.eqs,decide_eq_false c1],hw,by omega⟩
theorem zDV (ht:w.ts[k]?=some t)(hT:zpb w.ps t)(hw:∀ c∈ws,zB7 w p been c)(hl:ws.length<=100):∃ ws':List (Nat×Int×Str),if2 (wEv w A2 p been st (.ow (.lst (ws.map zqw))) (.sh (.int (k:Int))) (.sh (zbA t)) x9)=.ok (.nx (wEv w A2 p been st (.ow (.lst (ws'.map zqw))) (.sh (.int (k:Int))) (.sh (zbA t)) x9))/\(∀ c∈ws',zB7 w p been c)/\ws'.length<=ws.length+1:=by
 have n0:=zpO (d:=.int (k:Int)) rfl;have i0:dIx (zbA t) (.int 0)=.ok (.str t.a):=rfl;have i1:dIx (zbA t) (.int 1)=.ok (.str t.b):=rfl;have i2:dIx (zbA t) (.int 2)=.ok (.str t.w):=rfl;have hap:decide ((ws.map zqw).length<=999)=true:=decide_eq_true (by rw[sab];omega);unfold wEv if2
 by_cases c0:t.w="both"
 .by_cases c1:t.b=p
  .by_cases c2:t.a∈been
   .exact⟨ws,by open_line with[n0,i0,i1,i2,K36.eqs,decide_eq_true c0,decide_eq_true c1,zfd,decide_eq_true c2],hw,by omega⟩
   .refine⟨ws++[((k,-1,t.a):Nat×Int×Str)],?_,fun c hc=>?_,by simp⟩
    .rw[saU]
     open_line with[n0,i0,i1,i2,K36.eqs,decide_eq_true c0,decide_eq_true c1,zfd,decide_eq_false c2,zc8 hap]
     rfl
    .rcases saQ.mp hc with hc | hc
     .exact hw c hc
     .have:c=(k,-1,t.a):=by simpa using hc
      subst this;exact⟨⟨t,ht,.inr ⟨rfl,c0,c1,rfl⟩⟩,c2,hT.a⟩
  .exact⟨ws,by open_line with[n0,i0,i1,i2,K36.eqs,decide_eq_true c0,decide_eq_false c1],hw,by omega⟩
 .exact⟨ws,by open_line with[n0,i0,i1,i2,K36.eqs,decide_eq_false c0],hw,by omega⟩
theorem zAl (W:zha w)(x7 x8:Sl):∃ (ws:List (Nat×Int×Str)) (x7' x8':Sl),zdH (zff [7,8]) (zam if1 (zam if2 zaj)) (zaW 0 (w.ts.map zbA)) (wEv w A2 p been st (.ow (.lst [])) x7 x8 x9)=.ok (.nx (wEv w A2 p been st (.ow (.lst (ws.map zqw))) x7' x8' x9))/\(∀ c∈ws,zB7 w p been c)/\ws.length<=28:=by
 have h14:=W.t14;obtain⟨ρ',hf,ws,x7',x8',rfl,hg,hl⟩:=zdG (ds:=zaW 0 (w.ts.map zbA)) (tg:=zff [7,8]) (ρ:=wEv w A2 p been st (.ow (.lst [])) x7 x8 x9) (body:=zam if1 (zam if2 zaj))
  (fun k ρ=>∃ (ws:List (Nat×Int×Str)) (x7' x8':Sl),ρ=wEv w A2 p been st (.ow (.lst (ws.map zqw))) x7' x8' x9/\(∀ c∈ws,zB7 w p been c)/\ws.length<=2*k) (by
   rintro k d hd ρ ⟨ws,x7',x8',rfl,hg,hl⟩;obtain⟨t,ht,rfl⟩:=zcR hd;have hk:k < w.ts.length:=(sad.mp ht).1;have hT:=W.ts t (say ht);obtain⟨w1,h1,g1,l1⟩:=zDW (A2:=A2) (st:=st) (x9:=x9) ht hT hg (by omega);obtain⟨w2,h2,g2,l2⟩:=zDV (A2:=A2) (st:=st) (x9:=x9) ht hT g1 (by omega);refine⟨_,_,zhr rfl,?_,w2,.sh (.int (k:Int)),.sh (zbA t),rfl,g2,by omega⟩;show(zam if1 (zam if2 zaj)) (wEv w A2 p been st (.ow (.lst (ws.map zqw))) (.sh (.int (k:Int))) (.sh (zbA t)) x9)=_;rw[zgh,h1,zkw,zeM,zgh,h2,zkw,zeM,zls]) ⟨[],x7,x8,rfl,fun c h=>(nomatch h),by simp⟩
 rw[zbG,sab] at hl;exact⟨ws,x7',x8',hf,hg,by omega⟩
theorem zvG:∀ {a b:List Str},a.Nodup->(∀ x∈a,x∈b)->a.length<=b.length
 | [],b,_,_=>scp _
 | x::a,b,h,s=>by
  rw[sbD] at h;have hx:x∈b:=s x saq;have:=zvG (a:=a) (b:=b.erase x) h.2 fun y hy=>by
   have hne:y≠x:=fun e=>h.1 (e▸hy);exact(List.mem_erase_of_ne hne).mpr (s y (sak _ hy))
  rw[List.length_erase_of_mem hx] at this;have hb:0 < b.length:=List.length_pos_of_mem hx;rw[sar];omega
end
theorem zBC {ws:List (Nat×Int×Str)}:dEq (.lst (ws.map zqw)) (.lst [])=.ok (.bl ws.isEmpty):=by
 have h1:zbb 40 (.lst (ws.map zqw))=true:=saE.mpr fun d hd=>by
  obtain⟨c,_,rfl⟩:=saG.mp hd;rfl
 unfold dEq;rw[if_pos ⟨h1,rfl⟩,zjz];cases ws<;>rfl
theorem nes {x y:Str}:dNe (.str x) (.str y)=.ok (.bl (!(decide (x=y)))):=by
 unfold dNe;rw[if_pos ⟨rfl,rfl⟩,eqD];rfl
theorem zEW {i j k:Nat}{ρ:Ev}{c:Nat×Int×Str}:zuC [i,j,k] ρ (zqw c)=.ok (.nx (((ρ.set i (.sh (.int (c.1:Int)))).set j (.sh (.int c.2.1))).set k (.sh (.str c.2.2)))):=rfl
theorem zzg {is:List Nat}{f:Ev->Res D}{ρ:Ev}:zAA is f ρ=(f (shr ρ)).bind (zuC is ρ):=zaD rfl
theorem zyg {w:Web}(W:zha w){p:Str}{been:List Str}{st:List (Nat×Int)}{es:List Int}{x6 x7 x8 x9:Sl}(hs:st.length < es.length)(hs2:st.length<=100)(hb:been.length<=100) :
  zqD (wEv w (.lst (es.map D.int)) p been st x6 x7 x8 x9)=.ok (.rt (.lst []))∨∃ c y6 y7 y8 y9,zB7 w p been c/\zqD (wEv w (.lst (es.map D.int)) p been st x6 x7 x8 x9)=.ok (.nx (wEv w (.lst (es.map D.int)) c.2.2 (been++[c.2.2]) (st++[(c.1,c.2.1)]) y6 y7 y8 y9)):=by
 obtain⟨ws,y7,y8,hf,hg,hl⟩:=zAl (A2:=.lst (es.map D.int)) (p:=p) (been:=been) (st:=st) (x9:=x9) W x7 x8;have hmt:zcP []=.ok (.lst []):=rfl;have i1:dIx (zbi w) (.int 1)=.ok (.lst (w.ts.map zbA)):=rfl;cases ws with
 | nil =>
  left;have he:dEq (.lst []) (.lst [])=.ok (.bl true):=rfl;unfold zqD;unfold wEv at hf ⊢;rw[sbA] at hf;open_line with[hmt,i1,hf,he]
 | cons c0 r =>
  right;have he:=zBC (ws:=c0::r);rw[List.isEmpty_cons] at he;have hlen:(((c0::r).map zqw).length:Int)=((c0::r).length:Int):=by rw[sab]
  have hst:dIx (.lst (es.map D.int)) (.int (st.length:Int))=.ok (.int es[st.length]):=zdf (by rw[sai,saa hs];rfl);have hne:((c0::r).length:Int)≠0:=by rw[sar];omega
  have hfm:=zde (a:=es[st.length]) (b:=((c0::r).length:Int)) (by rw[sar];omega);obtain⟨d,hd,hm⟩:=K35.ix_mem (ds:=(c0::r).map zqw) (v:=es[st.length].fmod ((c0::r).length:Int)) hfm.1 (by rw[sab];exact hfm.2);obtain⟨c,hc,rfl⟩:=saG.mp hm;have hmod:=zhy (a:=es[st.length]) hne;have ha1:decide ((st.map ztx).length<=999)=true:=decide_eq_true (by rw[sab];omega);have ha2:decide ((been.map D.str).length<=999)=true:=decide_eq_true (by rw[sab];omega);refine⟨c,.sh (.lst ((c0::r).map zqw)),.sh (.int (c.1:Int)),y8,.sh (.int c.2.1),hg c hc,?_⟩;unfold zqD;unfold wEv at hf ⊢;rw[saU,saU];generalize hL:(c0::r).map zqw=L at *;have hLl:(L.length:Int)=((c0::r).length:Int):=hlen;generalize ((c0::r).length:Int)=n at *;open_line with[hmt,i1,hf,he,zzg,sab,hLl,hst,hmod,hd,zEW,zc8 ha1,zc8 ha2]
  rfl
theorem zyd {w:Web}(W:zha w){es:List Int}(he:es.length=9):∀ (n:Nat) (p:Str) (been:List Str) (st:List (Nat×Int)) (x6 x7 x8 x9:Sl),been.Nodup->(∀ x∈been,x∈w.ps)->st.length+1=been.length->9<=n+been.length->Wk w.ts w.fi st p ->
  zbO zuB zqD n (wEv w (.lst (es.map D.int)) p been st x6 x7 x8 x9)=.ok (.rt (.lst []))∨∃ been' st' y6 y7 y8 y9,zbO zuB zqD n (wEv w (.lst (es.map D.int)) p been st x6 x7 x8 x9)=.ok (.nx (wEv w (.lst (es.map D.int)) w.la been' st' y6 y7 y8 y9))/\Wk w.ts w.fi st' w.la/\st'.length<=6:=by
 intro n
 induction n with
 | zero =>
  intro p been st x6 x7 x8 x9 nd sub hl hn wk;exfalso;have:=zvG nd sub;have:=W.n7;omega
 | succ n ih =>
  intro p been st x6 x7 x8 x9 nd sub hl hn wk;have h7:=zvG nd sub;have n7:=W.n7;have i3:dIx (zbi w) (.int 3)=.ok (.str w.la):=rfl;have hcond:zuB (shr (wEv w (.lst (es.map D.int)) p been st x6 x7 x8 x9))=.ok (.bl (!(decide (p=w.la)))):=by
   unfold wEv zuB;open_line with[i3,nes]
  by_cases c:p=w.la
  .right
   subst c;rw[decide_eq_true rfl] at hcond;exact⟨been,st,x6,x7,x8,x9,zgu hcond,wk,by omega⟩
  .rw[decide_eq_false c] at hcond
   rcases zyg W (p:=p) (been:=been) (st:=st) (es:=es) (x6:=x6) (x7:=x7) (x8:=x8) (x9:=x9) (by omega) (by omega) (by omega) with h | ⟨c',y6,y7,y8,y9,hg,h⟩
   .left
    conv=>lhs;unfold zbO
    rw[hcond,h];rfl
   .rw[zkB hcond h]
    refine ih c'.2.2 (been++[c'.2.2]) (st++[(c'.1,c'.2.1)]) y6 y7 y8 y9 ?_ (fun x hx=>?_) (by simp;omega) (by simp;omega) (zxR wk hg.1)
    .rw[sdu]
     exact⟨nd,by simp,fun a ha b hb=>by
      have:b=c'.2.2:=by simpa using hb
      subst this;intro e;subst e;exact hg.2.1 ha⟩
    .rcases saQ.mp hx with hx | hx
     .exact sub x hx
     .have:x=c'.2.2:=by simpa using hx
      subst this;exact hg.2.2
theorem zsS {fu:Ev->Nat}{c:Ev->Res D}{s:Ev->Res Fl}{ρ:Ev}:zge fu c s ρ=zbO c s (fu ρ) ρ:=rfl
theorem zCp {w:Web}(W:zha w){es:List Int}(he:es.length=9):∃ st:List (Nat×Int),zhg [zbi w,.lst [],.lst (es.map D.int)]=.ok (.lst (st.map ztx))/\(st=[]∨Wk w.ts w.fi st w.la)/\st.length<=6:=by
 have i2:dIx (zbi w) (.int 2)=.ok (.str w.fi):=rfl;have hmt:zcP []=.ok (.lst []):=rfl;have hm1:zcP [.str w.fi]=.ok (.lst [.str w.fi]):=rfl;have hrun:zhg [zbi w,.lst [],.lst (es.map D.int)]=(zjG [.sh (zbi w),.sh (.lst []),.sh (.lst (es.map D.int)),.no,.no,.no,.no,.no,.no,.no]).bind zCc:=rfl;rw[hrun,zjG];rcases zyd W he 8 w.fi [w.fi] [] .no .no .no .no (by simp) (fun x hx=>by
  have:x=w.fi:=by simpa using hx
  subst this;exact W.fi) rfl (saA 9) rfl with h | ⟨been',st',y6,y7,y8,y9,h,wk,hl⟩
 .refine⟨[],?_,.inl rfl,by decide⟩
  unfold wEv at h;rw[sbA,saJ,sbA] at h;open_line with[i2,hmt,hm1,zsS,h]
 .refine⟨st',?_,.inr wk,hl⟩
  unfold wEv at h;rw[sbA,saJ,sbA] at h;open_line with[i2,hmt,hm1,zsS,h]
abbrev ips:=K36.ips
abbrev ip:=K36.ip
def dl (P p:Str):Int:=if P=p then 1 else 0
theorem zvV {n k:Nat}(h:k < n):ixN n (k:Int)=some k:=by
 unfold ixN;rw[if_pos (by omega),if_pos (by omega),sbt]
structure FI (w:Web) (M:Int) (c:Nat) (xs:List Fra) (zs:List Int):Prop where
 lx:xs.length=w.ts.length
 lz:zs.length=w.ts.length
 at_:∀ (k:Nat) (x:Fra) (z:Int),xs[k]?=some x->zs[k]?=some z->Sz c x/\Rp M x z
 one:∀ (k:Nat) (t:Tie) (x:Fra),w.ts[k]?=some t->xs[k]?=some x->t.w="one"->0<=x.1
theorem zvY {P:Str}:∀ {ts:List Tie}{zs:List Int}{k:Nat}{t:Tie}{z v:Int},ts[k]?=some t->zs[k]?=some z->ips P ts (zs.set k (z+v))=ips P ts zs+ip P t v
 | t'::ts,z'::zs,0,t,z,v,h1,h2=>by
  cases h1;cases h2;show ip P t' (z' + v)+ips P ts zs=ip P t' z' + ips P ts zs+ip P t' v;unfold ip K36.ip;split<;>split<;>omega
 | t'::ts,z'::zs,k+1,t,z,v,h1,h2=>by
  show ip P t' z' + ips P ts (zs.set k (z+v))=ip P t' z' + ips P ts zs+ip P t v;rw[zvY (ts:=ts) (zs:=zs) h1 h2];omega
 | [],_,_,_,_,_,h1,_=>by simp at h1
 | _::_,[],_,_,_,_,_,h2=>by simp at h2
theorem ziC {P:Str}{c:Int}:∀ {ts:List Tie}{zs:List Int},ips P ts (zs.map (· * c))=ips P ts zs*c
 | [],_=>by simp [ips,K36.ips]
 | _::_,[]=>by simp [ips,K36.ips]
 | t::ts,z::zs=>by
  show ip P t (z*c)+ips P ts (zs.map (· * c))=(ip P t z+ips P ts zs)*c;rw[ziC,Int.add_mul]
  congr 1
  unfold ip K36.ip;split<;>split<;>simp [Int.sub_mul,Int.neg_mul]
theorem zA9 {w:Web}{P p q:Str}{k:Nat}{s z:Int}(h:Stp w.ts p k s q):∃ t,w.ts[k]?=some t/\ip P t (s*z)=z*(dl P p-dl P q):=by
 obtain⟨t,ht,h⟩:=h;refine⟨t,ht,?_⟩;unfold ip K36.ip dl;rcases h with⟨rfl,rfl,rfl⟩ | ⟨rfl,_,rfl,rfl⟩
 .rw[scZ]
  by_cases c1:P=t.a
  .subst c1
   by_cases c2:t.a=t.b
   .rw[if_pos rfl,if_pos rfl,if_pos c2,if_pos c2.symm];simp
   .rw[if_pos rfl,if_pos rfl,if_neg c2,if_neg (fun e=>c2 e.symm)];simp
  .rw[if_neg c1,if_neg (fun e=>c1 e.symm)]
   by_cases c2:P=t.b
   .rw[if_pos c2,if_pos c2.symm];simp
   .rw[if_neg c2,if_neg (fun e=>c2 e.symm)];simp
 .rw[Int.neg_one_mul]
  by_cases c1:P=t.a
  .subst c1
   by_cases c2:t.a=t.b
   .rw[if_pos rfl,if_pos rfl,if_pos c2,if_pos c2.symm];simp
   .rw[if_pos rfl,if_pos rfl,if_neg c2,if_neg (fun e=>c2 e.symm)];simp
  .rw[if_neg c1,if_neg (fun e=>c1 e.symm)]
   by_cases c2:P=t.b
   .rw[if_pos c2,if_pos c2.symm];simp
   .rw[if_neg c2,if_neg (fun e=>c2 e.symm)];simp
theorem FI.scale {w:Web}{M c':Int}{c:Nat}{xs:List Fra}{zs:List Int}(h:FI w M c xs zs):FI w (M*c') c xs (zs.map (· * c')):=by
 refine⟨h.lx,by rw[sab];exact h.lz,fun k x z h1 h2=>?_,h.one⟩;rw[sai] at h2;cases e:zs[k]? with
 | none=>rw[e] at h2;cases h2
 | some z0 =>
  rw[e] at h2;cases h2;obtain⟨a,b⟩:=h.at_ k x z0 h1 e;refine⟨a,?_⟩;unfold Rp at b ⊢;rw[← Int.mul_assoc,b];grind
theorem FI.up {w:Web}{M:Int}{c c':Nat}{xs:List Fra}{zs:List Int}(h:FI w M c xs zs)(hc:c<=c'):FI w M c' xs zs :=
 ⟨h.lx,h.lz,fun k x z h1 h2=>⟨(h.at_ k x z h1 h2).1.mono hc,(h.at_ k x z h1 h2).2⟩,h.one⟩
theorem FI.push {w:Web}{M:Int}{c:Nat}{xs:List Fra}{zs:List Int}{A:Fra}{za:Int}{p q:Str}{k:Nat}{s:Int}(h:FI w M c xs zs)(hA:Sz 1 A)(h0:0<=A.1)(hR:Rp M A za)(hS:Stp w.ts p k s q)(hc:c<=20) :
  ∃ x,xs[k]?=some x/\(s=1∨s=-1)/\zbo x/\∃ z,zs[k]?=some z/\FI w M (c+1) (xs.set k (zkJ x A s)) (zs.set k (z+s*za))/\∀ P,ips P w.ts (zs.set k (z+s*za))=ips P w.ts zs+za*(dl P p-dl P q):=by
 obtain⟨t0,ht0,hcase⟩:=hS;have hs:s=1∨s=-1:=by rcases hcase with⟨h,_⟩ | ⟨h,_⟩<;>omega
 have hk:k < w.ts.length:=(sad.mp ht0).1;have hx:xs[k]?=some (xs[k]'(by rw[h.lx];exact hk)):=saa _;have hz:zs[k]?=some (zs[k]'(by rw[h.lz];exact hk)):=saa _;generalize xs[k]'(by rw[h.lx];exact hk)=x at hx;generalize zs[k]'(by rw[h.lz];exact hk)=z at hz;obtain⟨sx,rx⟩:=h.at_ k x z hx hz;refine⟨x,hx,hs,sx.fin (by omega),z,hz,⟨by rw[sbE];exact h.lx,by rw[sbE];exact h.lz,fun j y v h1 h2=>?_,fun j t y h1 h2 h3=>?_⟩,fun P=>?_⟩
 .by_cases e:j=k
  .subst e
   rw[saO (by rw[h.lx];exact hk)] at h1;rw[saO (by rw[h.lz];exact hk)] at h2;cases h1;cases h2;exact⟨sx.add hA hs,rx.add hR sx.l.q1 hA.l.q1⟩
  .rw[sao (fun z=>e z.symm)] at h1 h2
   exact⟨(h.at_ j y v h1 h2).1.mono (by omega),(h.at_ j y v h1 h2).2⟩
 .by_cases e:j=k
  .subst e
   rw[saO (by rw[h.lx];exact hk)] at h2;cases h2;rw[ht0] at h1;obtain rfl:t0=t:=saN h1;have hs1:s=1:=by
    rcases hcase with⟨q,_⟩ | ⟨_,q,_⟩
    .exact q
    .rw[h3] at q;exact absurd q (by decide)
   subst hs1;have hx0:=h.one j _ x ht0 hx h3;have q1:=sx.l.q1;have q2:=hA.l.q1;unfold zkJ;refine zhi (Int.add_nonneg (saZ hx0 (by omega)) (saZ (by omega) (by omega))) (sbV (by omega) (by omega))
  .rw[sao (fun z=>e z.symm)] at h2
   exact h.one j t y h1 h2 h3
 .obtain⟨t,ht,hip⟩:=zA9 (P:=P) (z:=za) ⟨t0,ht0,hcase⟩
  rw[zvY ht hz,hip]
abbrev fEv (w:Web)(D2:D)(xs:List Fra)(x4 x5 x6 x7 x8:Sl):Ev:=[.sh (zbi w),.sh (.lst []),.sh D2,.ow (.lst (xs.map fr)),x4,x5,x6,x7,x8]
theorem zvd {w:Web}{D2:D}{M:Int}{A:Fra}{za:Int}{x4 x5:Sl}(hA:Sz 1 A)(h0:0<=A.1)(hR:Rp M A za):∀ (st:List (Nat×Int)) (q:Str) (c:Nat) (xs:List Fra) (zs:List Int) (x7 x8:Sl),FI w M c xs zs->c+st.length<=20->Wk w.ts q st w.la ->
  ∃ xs' zs' y7 y8,zdH (zff [7,8]) ztK (st.map ztx) (fEv w D2 xs x4 x5 (.sh (fr A)) x7 x8)=.ok (.nx (fEv w D2 xs' x4 x5 (.sh (fr A)) y7 y8))/\FI w M (c+st.length) xs' zs'/\∀ P,ips P w.ts zs'=ips P w.ts zs+za*(dl P q-dl P w.la):=by
 intro st
 induction st with
 | nil =>
  intro q c xs zs x7 x8 hF hc hW;refine⟨xs,zs,x7,x8,rfl,hF,fun P=>?_⟩;have:q=w.la:=hW;rw[this];simp
 | cons a r ih =>
  intro q c xs zs x7 x8 hF hc hW;obtain⟨k,s⟩:=a;obtain⟨p',hS,hW'⟩:=hW;rw[sar] at hc;obtain⟨x,hx,hs,fx,z,hz,hF',hP⟩:=hF.push hA h0 hR hS (by omega);obtain⟨xs',zs',y7,y8,h1,h2,h3⟩:=ih p' (c+1) _ _ (.sh (.int (k:Int))) (.sh (.int s)) hF' (by omega) hW';refine⟨xs',zs',y7,y8,?_,by rw[sar,show c+(r.length+1)=c+1+r.length by omega];exact h2,fun P=>?_⟩
  .rw[saJ]
   (conv=>lhs;unfold zdH)
   have hg:zff [7,8] (fEv w D2 xs x4 x5 (.sh (fr A)) x7 x8) (ztx (k,s))=.ok (fEv w D2 xs x4 x5 (.sh (fr A)) (.sh (.int (k:Int))) (.sh (.int s))):=rfl;rw[hg];have hix:dIx (.lst (xs.map fr)) (.int (k:Int))=.ok (fr x):=zdf (by rw[sai,hx];rfl);have hpl:=ztH fx (hA.fin (by decide)) hs;have hkl:k < (xs.map fr).length:=by rw[sab];exact(sad.mp hx).1
   have hput:∀ ρ,DL.putAt ρ 3 (xs.map fr) (fr (zkJ x A s)) (.int (k:Int))=.ok (.nx (ρ.set 3 (.ow (.lst ((xs.set k (zkJ x A s)).map fr))))):=fun ρ=>by
    rw[zfJ (zvV hkl),List.map_set]
   have hb:ztK (fEv w D2 xs x4 x5 (.sh (fr A)) (.sh (.int (k:Int))) (.sh (.int s)))=.ok (.nx (fEv w D2 (xs.set k (zkJ x A s)) x4 x5 (.sh (fr A)) (.sh (.int (k:Int))) (.sh (.int s)))):=by
    unfold ztK fEv;have hfl:zln (fr (zkJ x A s))=true:=rfl;generalize hy:fr (zkJ x A s)=y at *;open_line with[hix,hpl,zsW hfl,hput]
   show(ztK _).bind _=_;rw[hb];exact h1
  .rw[h3,hP]
   generalize dl P q=a;generalize dl P p'=b;generalize dl P w.la=cc
   grind
def fSz:List Int:=(sat 3 [360360,360360,360360,360360,360360,360360,5,1000000000000000000,30]).flatten++[16384,2]
theorem zD5:∀ k,k < 3->fSz[9*k+6]?=some 5/\fSz[9*k+7]?=some 1000000000000000000/\fSz[9*k+8]?=some 30:=by decide
structure Bal (w:Web) (zs:List Int) (Z:Int):Prop where
 z:0<=Z
 b:∀ P,ips P w.ts zs=Z*(dl P w.fi-dl P w.la)
theorem zFF {w:Web}(W:zha w){vs:List Int}(V:Drawn fSz vs){t:Nat}(ht:t < 3){M Z:Int}{xs:List Fra}{zs:List Int}{x5 x6 x7 x8:Sl}(hM:0 < M)(hF:FI w M (6*t) xs zs)(hB:Bal w zs Z) :
  ∃ M' Z' xs' zs' y5 y6 y7 y8,zt9 (fEv w (.lst (vs.map D.int)) xs (.sh (.int (t:Int))) x5 x6 x7 x8)=.ok (.nx (fEv w (.lst (vs.map D.int)) xs' (.sh (.int (t:Int))) y5 y6 y7 y8))/\0 < M'/\FI w M' (6*(t+1)) xs' zs'/\Bal w zs' Z':=by
 have hvl:vs.length=29:=V.len;obtain⟨s6,s7,s8⟩:=zD5 t ht;obtain⟨d6,g6,b6,_⟩:=V.at _ s6;obtain⟨d7,g7,b7,_⟩:=V.at _ s7;obtain⟨d8,g8,b8,_⟩:=V.at _ s8;have hcut:zmA (vs.map D.int) (some (9*(t:Int))) (some (9*(t:Int)+9))=((vs.drop (9*t)).take 9).map D.int:=by
  rw[zoV (a:=9*t) (b:=9*t+9) (by omega) (by omega) (by omega) (by omega),show 9*t+9-9*t=9 by omega]
 have hel:((vs.drop (9*t)).take 9).length=9:=by rw[sa4,sbY];omega
 have e6:((vs.drop (9*t)).take 9)[6]?=some d6:=by rw[saY (by decide),sbl];exact g6
 have e7:((vs.drop (9*t)).take 9)[7]?=some d7:=by rw[saY (by decide),sbl];exact g7
 have e8:((vs.drop (9*t)).take 9)[8]?=some d8:=by rw[saY (by decide),sbl];exact g8
 generalize (vs.drop (9*t)).take 9=es at *;have hcut2:zmA (es.map D.int) (some 6) none=[.int d6,.int d7,.int d8]:=by
  rw[zii,HT.sIx_none,show(6:Int)=((6:Nat):Int) from rfl,HT.sIx_nat,hel];have:=zAp (i:=6) e6 e7 e8;show((es.drop 6).take 3).map D.int=_;rw[this];rfl
 obtain⟨A,hA,sA,A0⟩:=zq5 b6 b7 b8;obtain⟨st,hst,hw,hl⟩:=zCp W hel;have m1_:zcA 9 (t:Int)=true:=zev (by decide) (by omega);have A1:=sA.l.q1;have key:∃ M' Z' xs' zs' y7 y8,zdH (zff [7,8]) ztK (st.map ztx) (fEv w (.lst (vs.map D.int)) xs (.sh (.int (t:Int))) (.sh (.lst (es.map D.int))) (.sh (fr A)) x7 x8)=.ok (.nx (fEv w (.lst (vs.map D.int)) xs' (.sh (.int (t:Int))) (.sh (.lst (es.map D.int))) (.sh (fr A)) y7 y8))/\0 < M'/\FI w M' (6*(t+1)) xs' zs'/\Bal w zs' Z':=by
  rcases hw with rfl | hw
  .exact⟨M,Z,xs,zs,x7,x8,rfl,hM,hF.up (by omega),hB⟩
  .have hF2:=hF.scale (c':=A.2)
   have hR:Rp (M*A.2) A (M*A.1):=by unfold Rp;grind
   obtain⟨xs',zs',y7,y8,h1,h2,h3⟩:=zvd (D2:=.lst (vs.map D.int)) (x4:=.sh (.int (t:Int))) (x5:=.sh (.lst (es.map D.int))) sA A0 hR st w.fi (6*t) xs _ x7 x8 hF2 (by omega) hw;refine⟨M*A.2,Z*A.2+M*A.1,xs',zs',y7,y8,h1,sbV hM (by omega),h2.up (by omega),⟨Int.add_nonneg (saZ hB.z (by omega)) (saZ (by omega) A0),fun P=>?_⟩⟩;rw[h3,ziC,hB.b]
   grind
 obtain⟨M',Z',xs',zs',y7,y8,h1,hM',hF',hB'⟩:=key;refine⟨M',Z',xs',zs',.sh (.lst (es.map D.int)),.sh (fr A),y7,y8,?_,hM',hF',hB'⟩
 .unfold zt9
  unfold fEv at h1 ⊢;open_line with[zbw m1_,hcut,hcut2,hA,hst,h1]
theorem zBd {w:Web}(W:zha w){vs:List Int}(V:Drawn fSz vs):∃ M Z xs zs,zfE [zbi w,.lst [],.lst (vs.map D.int)]=.ok (.lst (xs.map fr))/\0 < M/\FI w M 18 xs zs/\Bal w zs Z:=by
 have h14:=W.t14;obtain⟨ρ',hl,M,Z,xs,zs,y4,y5,y6,y7,y8,rfl,hM,hF,hB⟩:=zq7 (i:=4) (n:=3) (body:=zt9) (ρ:=fEv w (.lst (vs.map D.int)) (w.ts.map fun _=>((0,1):Fra)) .no .no .no .no .no)
  (fun t ρ=>∃ M Z xs zs y4 y5 y6 y7 y8,ρ=fEv w (.lst (vs.map D.int)) xs y4 y5 y6 y7 y8/\0 < M/\FI w M (6*t) xs zs/\Bal w zs Z) (by
   rintro t ht ρ ⟨M,Z,xs,zs,y4,y5,y6,y7,y8,rfl,hM,hF,hB⟩;obtain⟨M',Z',xs',zs',z5,z6,z7,z8,h1,h2,h3,h4⟩:=zFF W V ht (x5:=y5) (x6:=y6) (x7:=y7) (x8:=y8) hM hF hB;exact⟨_,h1,M',Z',xs',zs',_,_,_,_,_,rfl,h2,h3,h4⟩) ⟨1,0,w.ts.map fun _=>((0,1):Fra),w.ts.map fun _=>0,.no,.no,.no,.no,.no,rfl,by decide,⟨by simp,by simp,fun k x z h1 h2=>by
    have e1:x=(0,1):=by
     have:=say h1;obtain⟨_,_,e⟩:=saG.mp this;exact e.symm
    have e2:z=0:=by
     have:=say h2;obtain⟨_,_,e⟩:=saG.mp this;exact e.symm
    subst e1 e2;exact⟨zxV,by unfold Rp;decide⟩,fun k t x _ h1 _=>by
    have e1:x=(0,1):=by
     have:=say h1;obtain⟨_,_,e⟩:=saG.mp this;exact e.symm
    subst e1;decide⟩,⟨by decide,fun P=>by
    have:∀ ts:List Tie,ips P ts (ts.map fun _=>0)=0:=fun ts=>by
     induction ts with
     | nil=>rfl
     | cons t ts ih =>
      show ip P t 0+ips P ts (ts.map fun _=>0)=0;rw[ih];unfold ip K36.ip;split<;>split<;>rfl
    rw[this];simp⟩⟩
 refine⟨M,Z,xs,zs,?_,hM,hF,hB⟩;have i1:dIx (zbi w) (.int 1)=.ok (.lst (w.ts.map zbA)):=rfl;have hcomp:ziR 1 [] (zea 0) mYes (zak (zad (dC (.int 0)) (zad (dC (.int 1)) zar)) zcZ) [.sh (zbi w),.sh (.lst []),.sh (.lst (vs.map D.int)),.no,.no,.no,.no,.no,.no] (w.ts.map zbA)=.ok (.lst ((w.ts.map fun _=>((0,1):Fra)).map fr)):=by
  rw[zf4 (F:=fun _=>fr (0,1)) (by rw[sab];omega)]
  .rw[sa2,sa2];rfl
  .intro d hd
   exact⟨[.sh d],rfl,rfl,rfl⟩
 have hf3:∀ ρ,zy8 (zea 4) zt9 ρ (.int 3)=zdH (zea 4) zt9 (intsFrom 0 3) ρ:=fun ρ=>zot (k:=3) (by decide);unfold fEv at hl;open_line with[zfE,zlX,i1,hcomp,hf3,hl]
theorem zmU {o:Option Fra}:zjC (zcQ o) .non=.ok (.bl o.isSome):=by cases o<;>rfl
theorem zEX {w:Web}(W:zha w){xs:List Fra}(hl:xs.length=w.ts.length)(v:Int):∃ ks,zdR [zbi w,.lst (xs.map fr),.int v]=.ok (zaT ks)/\zxU w ks/\∀ (k:Nat) (x:Fra),k∈ks->xs[k]?=some x->x.1=0:=by
 have h14:=W.t14;obtain⟨ρ',hf,ks,x4,x5,rfl,hp,hk⟩:=zdG (ds:=zaW 0 (w.ts.map zbA)) (tg:=zff [4,5]) (ρ:=[.sh (zbi w),.sh (.lst (xs.map fr)),.sh (.int v),.ow (.lst []),.no,.no]) (body:=zmI)
  (fun k ρ=>∃ ks x4 x5,ρ=[.sh (zbi w),.sh (.lst (xs.map fr)),.sh (.int v),.ow (zaT ks),x4,x5]/\ks.Pairwise (· < ·)/\∀ j∈ks,j < k/\(∃ t y,w.ts[j]?=some t/\t.o=some y)/\∀ x,xs[j]?=some x->x.1=0) (by
   rintro k d hd ρ ⟨ks,x4,x5,rfl,hp,hk⟩;obtain⟨t,ht,rfl⟩:=zcR hd;have hkl:k < w.ts.length:=(sad.mp ht).1;have hxk:xs[k]?=some xs[k]:=saa (by omega);have hix:dIx (.lst (xs.map fr)) (.int (k:Int))=.ok (fr xs[k]):=zdf (by rw[sai,hxk];rfl);have i4:dIx (zbA t) (.int 4)=.ok (zcQ t.o):=rfl;have i0:dIx (fr xs[k]) (.int 0)=.ok (.int xs[k].1):=rfl;have hs:zFN (.int v) (.int (k:Int))=.ok (.int (v / 2 ^ k)):=by
    show(if decide (0<=(k:Int))=true then Res.ok (D.int (v / 2 ^ (k:Int).toNat)) else .stuck)=_;rw[if_pos (decide_eq_true (by omega)),sbt]
   have hb:zBU (.int (v / 2 ^ k)) (.int 1)=.ok (.int (sdc (v / 2 ^ k) 1)):=rfl;have hkn:ks.length<=14:=by
    have:=zCq (n:=w.ts.length) hp (fun j hj=>by have:=(hk j hj).1;omega);omega
   have hap:decide ((ks.map fun(k:Nat)=>D.int (k:Int)).length<=999)=true:=decide_eq_true (by rw[sab];omega);have hrw:zaT ks=.lst (ks.map fun(k:Nat)=>D.int (k:Int)):=rfl;have no:∃ ks' x4 x5,([.sh (zbi w),.sh (.lst (xs.map fr)),.sh (.int v),.ow (zaT ks),.sh (.int (k:Int)),.sh (zbA t)]:Ev)=[.sh (zbi w),.sh (.lst (xs.map fr)),.sh (.int v),.ow (zaT ks'),x4,x5]/\ks'.Pairwise (· < ·)/\∀ j∈ks',j < k+1/\(∃ t y,w.ts[j]?=some t/\t.o=some y)/\∀ x,xs[j]?=some x->x.1=0:=⟨ks,_,_,rfl,hp,fun j hj=>⟨by have:=(hk j hj).1;omega,(hk j hj).2⟩⟩
   cases ho:t.o with
   | none =>
    have hN:=zmU (o:=t.o);rw[ho,Option.isSome_none] at hN;rw[ho] at i4;refine⟨_,_,zhr rfl,?_,no⟩;unfold zmI;generalize zbA t=TD at *;open_line with[i4,hN]
   | some y =>
    have hN:=zmU (o:=t.o);rw[ho,Option.isSome_some] at hN;rw[ho] at i4;cases e0:(xs[k].1==0) with
    | false =>
     refine⟨_,_,zhr rfl,?_,no⟩;unfold zmI;generalize zbA t=TD at *;open_line with[i4,hN,hix,i0,e0]
    | true =>
     cases eb:(sdc (v / 2 ^ k) 1==1) with
     | false =>
      refine⟨_,_,zhr rfl,?_,no⟩;unfold zmI;generalize zbA t=TD at *;open_line with[i4,hN,hix,i0,e0,hs,hb,eb]
     | true =>
      refine⟨_,[.sh (zbi w),.sh (.lst (xs.map fr)),.sh (.int v),.ow (zaT (ks++[k])),.sh (.int (k:Int)),.sh (zbA t)],zhr rfl,?_,ks++[k],_,_,rfl,?_,fun j hj=>?_⟩
      .unfold zmI
       rw[show zaT (ks++[k])=.lst ((ks.map fun(k:Nat)=>D.int (k:Int))++[.int (k:Int)]) by unfold zaT;rw[saU];rfl,hrw];generalize zbA t=TD at *;open_line with[i4,hN,hix,i0,e0,hs,hb,eb,zc8 hap]
      .rw[List.pairwise_append]
       exact⟨hp,List.pairwise_singleton ..,fun a ha b hb=>by
        have:b=k:=by simpa using hb
        subst this;exact(hk a ha).1⟩
      .rcases saQ.mp hj with hj | hj
       .exact⟨by have:=(hk j hj).1;omega,(hk j hj).2⟩
       .have:j=k:=by simpa using hj
        subst this;refine⟨by omega,⟨t,y,ht,ho⟩,fun x hx=>?_⟩;rw[hxk] at hx;cases hx;exact eq_of_beq e0) ⟨[],.no,.no,rfl,scY.nil,fun j h=>(nomatch h)⟩
 refine⟨ks,?_,⟨hp,fun k h=>(hk k h).2.1⟩,fun k x h=>(hk k h).2.2 x⟩;have i1:dIx (zbi w) (.int 1)=.ok (.lst (w.ts.map zbA)):=rfl;have hmt:zcP []=.ok (.lst []):=rfl;open_line with[zdR,ziY,hmt,i1,hf]
structure ztd (x r:Fra):Prop where
 s:Sz 19 r
 n:0<=r.1
 le:(x.1.natAbs:Int)*r.2<=r.1*x.2
theorem zyy {x m:Fra}(hx:Sz 18 x)(hm:Sz 1 m)(m0:0<=m.1):ztd x (zkJ ((x.1.natAbs:Int),x.2) m 1):=by
 have x1:=hx.l.q1;have m1:=hm.l.q1;have hr:=zh6 (a:=(x.1.natAbs:Int)*m.2+1*m.1*x.2) (b:=x.2*m.2);have hS:=hx.abs.add hm (s:=1) (.inl rfl);have hq:=hS.l.q1;have hn:0<=(zkJ ((x.1.natAbs:Int),x.2) m 1).1:=by
  unfold zkJ;exact zhi (Int.add_nonneg (saZ (by show(0:Int)<=(x.1.natAbs:Int);omega) (by omega)) (saZ (by omega) (by show 0<=x.2;omega))) (sbV (by show 0 < x.2;omega) (by omega))
 refine⟨hS,hn,?_⟩;change (zkJ ((x.1.natAbs:Int),x.2) m 1).1*(x.2*m.2)=((x.1.natAbs:Int)*m.2+1*m.1*x.2)*(zkJ ((x.1.natAbs:Int),x.2) m 1).2 at hr;generalize zkJ ((x.1.natAbs:Int),x.2) m 1=r at *;generalize (x.1.natAbs:Int)=a at *;have hm2:0 < m.2:=by omega
 refine Int.le_of_mul_le_mul_right ?_ hm2;have e1:r.1*x.2*m.2=r.1*(x.2*m.2):=by grind
 rw[e1,hr];have e2:(a*m.2+1*m.1*x.2)*r.2=a*r.2*m.2+m.1*x.2*r.2:=by grind
 rw[e2];have:0<=m.1*x.2*r.2:=saZ (saZ m0 (by omega)) (by omega);omega
theorem ztJ {xs ms:List Fra}{k:Nat}{d:D}(h:(zbx (xs.map fr) (ms.map fr))[k]?=some d):∃ x m,xs[k]?=some x/\ms[k]?=some m/\d=.tup [fr x,fr m]:=by
 obtain⟨x,y,h1,h2,h3⟩:=zhd _ _ _ _ h;rw[sai] at h1 h2;cases e1:xs[k]? with
 | none=>rw[e1] at h1;cases h1
 | some t =>
  cases e2:ms[k]? with
  | none=>rw[e2] at h2;cases h2
  | some z =>
   rw[e1] at h1;rw[e2] at h2;cases h1;cases h2;exact⟨t,z,rfl,rfl,h3⟩
theorem zAB {xs ms:List Fra}{a0 a1 a2 a3 a4 a5 a9 a10 a11 a12:Sl}(hl:xs.length=ms.length)(h14:xs.length<=14)(hx:∀ x∈xs,Sz 18 x)(hm:∀ m∈ms,Sz 1 m/\0<=m.1) :
  ∃ rs:List Fra,rs.length=xs.length/\(∀ (k:Nat) (x r:Fra),xs[k]?=some x->rs[k]?=some r->ztd x r)/\∃ x7 x8,zdH (zff [7,8]) zyC (zbx (xs.map fr) (ms.map fr)) [a0,a1,a2,a3,a4,a5,.ow (.lst []),.no,.no,a9,a10,a11,a12]=.ok (.nx [a0,a1,a2,a3,a4,a5,.ow (.lst (rs.map fr)),x7,x8,a9,a10,a11,a12]):=by
 obtain⟨ρ',hf,rs,x7,x8,rfl,hrl,hr⟩:=zdG (ds:=zbx (xs.map fr) (ms.map fr)) (tg:=zff [7,8]) (ρ:=[a0,a1,a2,a3,a4,a5,.ow (.lst []),.no,.no,a9,a10,a11,a12]) (body:=zyC)
  (fun k ρ=>∃ (rs:List Fra) (x7 x8:Sl),ρ=[a0,a1,a2,a3,a4,a5,.ow (.lst (rs.map fr)),x7,x8,a9,a10,a11,a12]/\rs.length=k/\∀ (j:Nat) (x r:Fra),xs[j]?=some x->rs[j]?=some r->ztd x r) (by
   rintro k d hd ρ ⟨rs,x7,x8,rfl,hrl,hr⟩;obtain⟨x,m,e1,e2,rfl⟩:=ztJ hd;have hk:k < xs.length:=(sad.mp e1).1;have sx:=hx x (say e1);obtain⟨sm,m0⟩:=hm m (say e2);have hpl:=ztH (u:=((x.1.natAbs:Int),x.2)) (x:=m) (s:=1) (sx.abs.fin (by decide)) (sm.fin (by decide)) (.inl rfl);have hR:=zyy sx sm m0;have i0:dIx (fr x) (.int 0)=.ok (.int x.1):=rfl;have i1:dIx (fr x) (.int 1)=.ok (.int x.2):=rfl;have hap:decide ((rs.map fr).length<=999)=true:=decide_eq_true (by rw[sab];omega);rw[show fr ((x.1.natAbs:Int),x.2)=.tup [.int (x.1.natAbs:Int),.int x.2] from rfl] at hpl;generalize zkJ ((x.1.natAbs:Int),x.2) m 1=r at *;refine⟨_,[a0,a1,a2,a3,a4,a5,.ow (.lst ((rs++[r]).map fr)),.sh (fr x),.sh (fr m),a9,a10,a11,a12],zhr rfl,?_,rs++[r],_,_,rfl,by simp [hrl],fun j y q h1 h2=>?_⟩
   .rw[saU]
    unfold zyC;generalize fr x=X at *;generalize fr m=Mm at *;open_line with[i0,i1,Cod.abs_ok,hpl,zc8 hap]
   .by_cases c:j < rs.length
    .rw[saC c] at h2
     exact hr j y q h1 h2
    .have hj:j < (rs++[r]).length:=(sad.mp h2).1
     rw[sba,List.length_singleton] at hj;have:j=rs.length:=by omega
     subst this;rw[saI (saA _),Nat.sub_self] at h2;cases h2;rw[hrl,e1] at h1;cases h1;exact hR) ⟨[],.no,.no,rfl,rfl,fun j x r h1 h2=>by simp at h2⟩
 have hpl:(zbx (xs.map fr) (ms.map fr)).length=xs.length:=by
  rw[zfa,sab,sab];omega
 exact⟨rs,by rw[hrl,hpl],hr,x7,x8,hf⟩
def Bd (d:D):Prop:=∀ a b,d=.tup [.int a,.int b]->a.natAbs < N60/\b.natAbs < N60
theorem zkY {d:D}(h:zd6 d=true):∃ x:Fra,d=fr x/\Low x:=by
 unfold zd6 at h;split at h
 .rename_i p q
  rw[saF] at h;exact⟨(p,q),rfl,⟨of_decide_eq_true h.1,eq_of_beq h.2⟩⟩
 .cases h
theorem Bd.fin {x:Fra}(h:Bd (fr x))(l:Low x):zbo x:=⟨l,(h x.1 x.2 rfl).1,(h x.1 x.2 rfl).2⟩
theorem zDG {a b:Int}(hb:0 < b):((low a b).1==a&&(low a b).2==b)=(saH a b==1):=by
 cases h:(saH a b==1) with
 | true =>
  have e:=eq_of_beq h;unfold low;rw[e];simp
 | false =>
  have hne:saH a b≠1:=fun z=>by rw[z] at h;cases h
  have h2:((low a b).2==b)=false:=beq_eq_false_iff_ne.mpr fun z=>by
   have hl:=zfF (a:=a) hb;have hr:=zh6 (a:=a) (b:=b);rw[z] at hr;have h1:(low a b).1=a:=sbH (by omega) hr;have:=hl.g1;rw[h1,z] at this;exact hne this
  rw[h2,sb0]
theorem zkA {d:D}:zbI [d]=.ok (.bl (isI d)):=zyc d
theorem ztZ {d:D}(hB:Bd d):zaZ [d]=.ok (.bl (zd6 d)):=by
 cases d with
 | tup xs =>
  rcases zzB (xs:=xs) with⟨x,y,rfl⟩ | h
  .rw[zmQ]
   cases hx:isI x with
   | false=>open_line with[zaZ,zbm,zkA,hx,sa5]
   | true =>
    cases hy:isI y with
    | false=>open_line with[zaZ,zbm,zkA,hx,hy,sa5,sbz]
    | true =>
     have ex:∃ a,x=.int a:=by cases x<;>first | exact⟨_,rfl⟩ | cases hx
     have ey:∃ a,y=.int a:=by cases y<;>first | exact⟨_,rfl⟩ | cases hy
     obtain⟨a,rfl⟩:=ex;obtain⟨b,rfl⟩:=ey;obtain⟨ha,hb⟩:=hB a b rfl;show _=Res.ok (D.bl (true&&(true&&(decide (1<=b)&&(saH a b==1)))))
     by_cases c:0 < b
     .have hlo:=Cod.low_ok c (saf ha zr7) (saf hb zr7)
      have heq:dEq (fr (low a b)) (.tup [.int a,.int b])=.ok (.bl (saH a b==1)):=by
       have:dEq (fr (low a b)) (fr (a,b))=.ok (.bl (eqD (fr (low a b)) (fr (a,b)))):=if_pos ⟨znW _,znW _⟩;rw[zFH,zDG c] at this;exact this
      have hgt:dGt (.int b) (.int 0)=.ok (.bl true):=by
       show Res.ok (D.bl (decide (b > 0)))=_;rw[decide_eq_true c]
      rw[decide_eq_true (show 1<=b by omega)];generalize fr (low a b)=L at *;open_line with[zaZ,zbm,zkA,hx,hy,hgt,zzi,hlo,heq,sbz]
     .have hgt:dGt (.int b) (.int 0)=.ok (.bl false):=by
       show Res.ok (D.bl (decide (b > 0)))=_;rw[decide_eq_false c]
      rw[decide_eq_false (show ¬ 1<=b by omega)];open_line with[zaZ,zbm,zkA,hx,hy,hgt,sbz,sa5]
  .rw[zst h]
   have e:dNe (.int (xs.length:Int)) (.int 2)=.ok (.bl true):=by
    rw[zjU,beq_eq_false_iff_ne.mpr (by omega)];rfl
   open_line with[zaZ,zbm,e]
 | ob k ds=>cases k<;>rfl
 | _=>rfl
def zlj (t:Tie)(r:Fra)(inK:Bool):D->Bool
 | .tup [.int a,.int b]=>(decide (1<=b)&&(saH a b==1))&&((if inK=true then a==0 else !(flt r ((a.natAbs:Int),b)))&&!(decide (a < 0)&&decide (t.w="one")))
 | _=>false
theorem zq2 {t:Tie}{r:Fra}{i:Bool}{d:D}(h:zd6 d=false):zlj t r i d=false:=by
 unfold zlj;split
 .rename_i a b
  have h':(decide (1<=b)&&(saH a b==1))=false:=h;rw[h'];rfl
 .rfl
theorem zt5 {t:Tie}{r:Fra}{i:Bool}{d:D}(h:zlj t r i d=true):zd6 d=true:=by
 cases e:zd6 d with
 | true=>rfl
 | false=>rw[zq2 e] at h;cases h
theorem zop {t:Tie}{r x:Fra}{i:Bool}(h:Low x):zlj t r i (fr x)=((if i=true then x.1==0 else !(flt r ((x.1.natAbs:Int),x.2)))&&!(decide (x.1 < 0)&&decide (t.w="one"))):=by
 show((decide (1<=x.2)&&(saH x.1 x.2==1))&&_)=_;rw[decide_eq_true h.q1,h.g1];rfl
theorem zvK {x y:Fra}(hx:zbo x)(hy:y.1.natAbs < N60/\y.2.natAbs < N60):zdx [fr x,fr y]=.ok (.bl (flt x y)) :=
 zqZ (saf hx.pN zbN) (saf hx.qN zbN) (saf hy.1 zbN) (saf hy.2 zbN)
theorem zxK {t:Tie}{r:Fra}{i:Bool}{d:D}(hr:zbo r)(hB:Bd d):zcO [zbA t,(if i=true then .tup [.int 0,.int 1] else fr r),d]=.ok (.bl (zlj t r i d)):=by
 have h1:=zjX d;cases e:zd6 d with
 | false =>
  rw[e] at h1;rw[zq2 e];generalize (if i=true then D.tup [.int 0,.int 1] else fr r)=R;open_line with[zcO,zem,h1]
 | true =>
  rw[e] at h1;obtain⟨x,rfl,hL⟩:=zkY e;have hx:=hB.fin hL;rw[zop hL];have i0:dIx (fr x) (.int 0)=.ok (.int x.1):=rfl;have i1:dIx (fr x) (.int 1)=.ok (.int x.2):=rfl;have i2:dIx (zbA t) (.int 2)=.ok (.str t.w):=rfl;have hlt:dLt (.int x.1) (.int 0)=.ok (.bl (decide (x.1 < 0))):=rfl;have hab:(x.1.natAbs:Int).natAbs < N60:=by rw[Int.natAbs_natCast];exact hx.pN
  have hls:zdx [(if i=true then .tup [.int 0,.int 1] else fr r),.tup [.int (x.1.natAbs:Int),.int x.2]]=.ok (.bl (!(if i=true then x.1==0 else !(flt r ((x.1.natAbs:Int),x.2))))):=by
   cases i with
   | true =>
    have:=zvK (x:=(0,1)) (y:=((x.1.natAbs:Int),x.2)) ⟨⟨by decide,by decide⟩,by decide,by decide⟩ ⟨hab,hx.qN⟩;rw[if_pos rfl,if_pos rfl];refine this.trans ?_
    congr 2
    show decide ((0:Int)*x.2 < (x.1.natAbs:Int)*1)=_;cases c:(x.1==0) with
    | true=>have:=eq_of_beq c;exact decide_eq_false (by omega)
    | false=>have:x.1≠0:=(fun z=>by rw[z] at c;cases c);exact decide_eq_true (by omega)
   | false =>
    have:=zvK (x:=r) (y:=((x.1.natAbs:Int),x.2)) hr ⟨hab,hx.qN⟩;rw[if_neg saD,if_neg saD,Bool.not_not];exact this
  generalize (if i=true then x.1==0 else !(flt r ((x.1.natAbs:Int),x.2)))=g at *;generalize (if i=true then D.tup [.int 0,.int 1] else fr r)=R at *;generalize fr x=X at *;generalize zbA t=TD at *;cases c1:decide (x.1 < 0) with
  | false =>
   rw[c1] at hlt;open_line with[zcO,zem,h1,i0,i1,i2,hlt,Cod.abs_ok,hls,Bool.not_not,sa5,Bool.and_true]
  | true =>
   rw[c1] at hlt;cases c2:decide (t.w="one") with
   | true =>
    open_line with[zcO,zem,h1,i0,i1,i2,hlt,K36.eqs,c2,sb0]
   | false =>
    open_line with[zcO,zem,h1,i0,i1,i2,hlt,K36.eqs,c2,Cod.abs_ok,hls,Bool.not_not,Bool.and_true,sbz,sb0]
def zDU (r:Res Fl):Bool:=match r with
 | .ok (.rt _)=>true
 | .exn _=>true
 | _=>false
theorem zkE {tg:Ev->D->Res Ev}{body:Ev->Res Fl}{out:Res Fl}(ho:zDU out=true)(P:Nat->Ev->Prop):∀ (k:Nat) (ds:List D) (ρ:Ev) (b:Nat),P b ρ ->
  (∀ j d,j < k->ds[j]?=some d->∀ ρ,P (b+j) ρ->∃ ρ1 ρ2,tg ρ d=.ok ρ1/\body ρ1=.ok (.nx ρ2)/\P (b+j+1) ρ2)->(∃ d,ds[k]?=some d/\∀ ρ,P (b+k) ρ->∃ ρ1,tg ρ d=.ok ρ1/\body ρ1=out)->zdH tg body ds ρ=out:=by
 intro k
 induction k with
 | zero =>
  rintro ds ρ b hp hs ⟨d,hd,hk⟩;cases ds with
  | nil=>cases hd
  | cons d' r =>
   cases hd;obtain⟨ρ1,h1,h2⟩:=hk ρ hp
   conv=>lhs;unfold zdH
   rw[h1];show(body ρ1).bind _=out;rw[h2];cases out with
   | ok f=>cases f<;>first | rfl | cases ho
   | exn x=>rfl
   | stuck=>cases ho
 | succ k ih =>
  rintro ds ρ b hp hs ⟨d,hd,hk⟩;cases ds with
  | nil=>cases hd
  | cons d' r =>
   obtain⟨ρ1,ρ2,h1,h2,h3⟩:=hs 0 d' (by omega) rfl ρ hp
   conv=>lhs;unfold zdH
   rw[h1];show(body ρ1).bind _=out;rw[h2];refine ih r ρ2 (b+1) h3 (fun j e hj he ρ hp=>?_) ⟨d,hd,fun ρ hp=>hk ρ (by rw[show b+(k+1)=b+1+k by omega];exact hp)⟩;have:=hs (j+1) e (by omega) he ρ (by rw[show b+(j+1)=b+1+j by omega];exact hp);rw[show b+(j+1)+1=b+1+j+1 by omega] at this;exact this
theorem zlo (g:Nat->Bool):∀ n,(∀ k,k < n->g k=true)∨∃ k,k < n/\g k=false/\∀ j,j < k->g j=true
 | 0=>.inl fun k h=>absurd h (by omega)
 | n+1=>by
  rcases zlo g n with h | ⟨k,h1,h2,h3⟩
  .cases e:g n with
   | true =>
    refine .inl fun k hk=>?_
    by_cases c:k=n
    .subst c;exact e
    .exact h k (by omega)
   | false=>exact .inr ⟨n,by omega,e,h⟩
  .exact .inr ⟨k,by omega,h2,h3⟩
def gAt (w:Web)(rs:List Fra)(ks:List Nat)(ds:List D)(k:Nat):Bool:=match w.ts[k]?,rs[k]?,ds[k]? with
 | some t,some r,some d=>zlj t r (decide (k∈ks)) d
 | _,_,_=>false
structure Su (w:Web) (rs:List Fra) (ks:List Nat):Prop where
 W:zha w
 T:zxU w ks
 rl:rs.length=w.ts.length
 rf:∀ r∈rs,zbo r/\0<=r.1
theorem zv2 {k:Nat}{ks:List Nat}:dIn (.int (k:Int)) (zaT ks)=.ok (.bl (decide (k∈ks))):=by
 have h:=K35.notin_nums (k:=k) (ks:=ks);unfold zb3 at h;unfold dIn;cases e:inD (.int (k:Int)) (zaT ks) with
 | none=>rw[e] at h;cases h
 | some b =>
  rw[e] at h;simp only[Res.ok.injEq,D.bl.injEq] at h ⊢;cases b<;>cases hd:decide (k∈ks)<;>first | rfl | (rw[hd] at h;cases h)
section
variable {w:Web}{rs:List Fra}{ks:List Nat}{ds:List D}
theorem at3 (S:Su w rs ks)(hl:ds.length=w.ts.length){k:Nat}(hk:k < w.ts.length):∃ t r d,w.ts[k]?=some t/\rs[k]?=some r/\ds[k]?=some d/\gAt w rs ks ds k=zlj t r (decide (k∈ks)) d:=by
 have h1:w.ts[k]?=some w.ts[k]:=saa hk;have h2:rs[k]?=some (rs[k]'(by rw[S.rl];exact hk)):=saa _;have h3:ds[k]?=some (ds[k]'(by omega)):=saa _;refine⟨_,_,_,h1,h2,h3,?_⟩;unfold gAt;rw[h1,h2,h3]
abbrev aEv (w:Web)(rs:List Fra)(ks:List Nat)(ds:List D)(x4 x5 x6:Sl):Ev:=[.sh (zbi w),.sh (.lst (rs.map fr)),.sh (zaT ks),.sh (.lst ds),x4,x5,x6]
theorem zEA (S:Su w rs ks){k:Nat}{t:Tie}{r:Fra}{d:D}{x6:Sl}(h1:w.ts[k]?=some t)(h2:rs[k]?=some r)(h3:ds[k]?=some d)(hB:Bd d) :
  ∃ y6,zuo (aEv w rs ks ds (.sh (.int (k:Int))) (.sh d) x6)=(if zlj t r (decide (k∈ks)) d=true then .ok (.nx (aEv w rs ks ds (.sh (.int (k:Int))) (.sh d) y6)) else .exn ⟨"NoFlow",[("at",.int (k:Int))]⟩):=by
 have hr:=(S.rf r (say h2)).1;have ham:=zxK (t:=t) (i:=decide (k∈ks)) hr hB;have hin:=zv2 (k:=k) (ks:=ks);have i1:dIx (zbi w) (.int 1)=.ok (.lst (w.ts.map zbA)):=rfl;have it:dIx (.lst (w.ts.map zbA)) (.int (k:Int))=.ok (zbA t):=zzC h1;have ir:dIx (.lst (rs.map fr)) (.int (k:Int))=.ok (fr r):=zdf (by rw[sai,h2];rfl);refine⟨.sh (if decide (k∈ks)=true then .tup [.int 0,.int 1] else fr r),?_⟩;unfold zuo aEv;cases c:decide (k∈ks) with
 | true =>
  rw[c] at ham hin;rw[if_pos rfl] at ham ⊢;cases g:zlj t r true d with
  | true =>
   rw[g] at ham;open_line with[hin,i1,it,ham,if_true]
  | false =>
   rw[g] at ham;rw[if_neg saD];open_line with[hin,i1,it,ham,zgL,zfj,zgi]
 | false =>
  rw[c] at ham hin;rw[if_neg saD] at ham ⊢;cases g:zlj t r false d with
  | true =>
   rw[g] at ham;open_line with[hin,i1,it,ir,ham,if_true]
  | false =>
   rw[g] at ham;rw[if_neg saD];open_line with[hin,i1,it,ir,ham,zgL,zfj,zgi]
theorem zDA {k:Nat}{d:D}(h:(zaW 0 ds)[k]?=some d):∃ e,ds[k]?=some e/\d=.tup [.int (k:Int),e]:=by
 rw[zbH] at h;cases e:ds[k]? with
 | none=>rw[e] at h;cases h
 | some x =>
  rw[e,sbS] at h;cases h;exact⟨x,rfl,rfl⟩
theorem zxJ (S:Su w rs ks)(hl:ds.length=w.ts.length)(hB:∀ d∈ds,Bd d) :
  ((∀ k,k < w.ts.length->gAt w rs ks ds k=true)->zaG [zbi w,.lst (rs.map fr),zaT ks,.lst ds]=.ok .non)/\(∀ k,k < w.ts.length->gAt w rs ks ds k=false->(∀ j,j < k->gAt w rs ks ds j=true)->zaG [zbi w,.lst (rs.map fr),zaT ks,.lst ds]=.exn ⟨"NoFlow",[("at",.int (k:Int))]⟩):=by
 have h14:=S.W.t14;have step:∀ (j:Nat) (d:D),(zaW 0 ds)[j]?=some d->gAt w rs ks ds j=true->∀ ρ,(∃ x4 x5 x6,ρ=aEv w rs ks ds x4 x5 x6)->∃ ρ1 ρ2,zff [4,5] ρ d=.ok ρ1/\zuo ρ1=.ok (.nx ρ2)/\∃ x4 x5 x6,ρ2=aEv w rs ks ds x4 x5 x6:=by
  rintro j d hd hg ρ ⟨x4,x5,x6,rfl⟩;obtain⟨e,he,rfl⟩:=zDA hd;have hj:j < ds.length:=(sad.mp he).1;obtain⟨t,r,d',a1,a2,a3,a4⟩:=at3 S hl (k:=j) (by omega);rw[he] at a3;cases a3;obtain⟨y6,ht⟩:=zEA S (x6:=x6) a1 a2 he (hB e (say he));rw[← a4,hg,if_pos rfl] at ht;exact⟨_,_,zhr rfl,ht,_,_,_,rfl⟩
 have hlen:(((ds.length:Int)==((w.ts.length:Nat):Int)))=true:=by rw[hl];exact beq_self_eq_true _
 have i1:dIx (zbi w) (.int 1)=.ok (.lst (w.ts.map zbA)):=rfl;refine⟨fun hall=>?_,fun k hk hbad hgood=>?_⟩
 .obtain⟨ρ',hf,x4,x5,x6,rfl⟩:=zdG (ds:=zaW 0 ds) (tg:=zff [4,5]) (body:=zuo) (ρ:=aEv w rs ks ds .no .no .no) (fun _ ρ=>∃ x4 x5 x6,ρ=aEv w rs ks ds x4 x5 x6) (fun j d hd ρ hp=>by
   have hj:j < ds.length:=by have:=(sad.mp hd).1;rw[zbG] at this;exact this
   exact step j d hd (hall j (by omega)) ρ hp) ⟨_,_,_,rfl⟩
  unfold aEv at hf;open_line with[zaG,zbZ,i1,sab,hlen,hf]
 .have hf:=zkE (tg:=zff [4,5]) (body:=zuo) (out:=.exn ⟨"NoFlow",[("at",.int (k:Int))]⟩) rfl (fun _ ρ=>∃ x4 x5 x6,ρ=aEv w rs ks ds x4 x5 x6) k (zaW 0 ds) (aEv w rs ks ds .no .no .no) 0 ⟨_,_,_,rfl⟩ (fun j d hj hd ρ hp=>step j d hd (hgood j hj) ρ hp) (by
   obtain⟨t,r,d,a1,a2,a3,a4⟩:=at3 S hl hk;refine⟨.tup [.int (k:Int),d],by rw[zbH,a3,sbS];rfl,?_⟩;rintro ρ ⟨x4,x5,x6,rfl⟩;obtain⟨y6,ht⟩:=zEA S (x6:=x6) a1 a2 a3 (hB d (say a3));rw[← a4,hbad,if_neg saD] at ht;exact⟨_,zhr rfl,ht⟩)
  unfold aEv at hf;open_line with[zaG,zbZ,i1,sab,hlen,hf,zgi]
abbrev lEv (w:Web)(rs:List Fra)(ks:List Nat)(ds:List D)(x4 x5 x6 x7:Sl):Ev:=[.sh (zbi w),.sh (.lst (rs.map fr)),.sh (zaT ks),.sh (.lst ds),x4,x5,x6,x7]
theorem zDJ {x y:Fra}(hx:zbo x)(hy:y.1.natAbs < N60/\y.2.natAbs < N60):zd8 [fr x,fr y]=.ok (.bl (flt x y)):=by
 have l60:∀ {a:Int},a.natAbs < N60->a.natAbs < B60:=fun h=>saf h zbN;rw[show fr x=.tup [.int x.1,.int x.2] from rfl,show fr y=.tup [.int y.1,.int y.2] from rfl];open_line with[zd8,zlW,zbw (zcS (l60 hx.pN) (l60 hy.2)),zbw (zcS (l60 hy.1) (l60 hx.qN))]
 rfl
theorem zy9 {r x:Fra}(hr:1<=r.2)(r0:0<=r.1)(hx:1<=x.2):(flt r x||flt r (-x.1,x.2))=flt r ((x.1.natAbs:Int),x.2):=by
 have h0:0<=r.1*x.2:=saZ r0 (by omega);unfold flt
 by_cases c:0<=x.1
 .have e:(x.1.natAbs:Int)=x.1:=by omega
  have h1:0<=x.1*r.2:=saZ c (by omega);have e2:decide (r.1*x.2 < -x.1*r.2)=false:=decide_eq_false (by rw[Int.neg_mul];omega);show(decide (r.1*x.2 < x.1*r.2)||decide (r.1*x.2 < -x.1*r.2))=decide (r.1*x.2 < (x.1.natAbs:Int)*r.2);rw[e2,sdo,e]
 .have e:(x.1.natAbs:Int)=-x.1:=by omega
  have h1:x.1*r.2<=0:=Int.mul_nonpos_of_nonpos_of_nonneg (by omega) (by omega);have e2:decide (r.1*x.2 < x.1*r.2)=false:=decide_eq_false (by omega);show(decide (r.1*x.2 < x.1*r.2)||decide (r.1*x.2 < -x.1*r.2))=decide (r.1*x.2 < (x.1.natAbs:Int)*r.2);rw[e2,sbW,e]
theorem zDK (S:Su w rs ks){k:Nat}{t:Tie}{r:Fra}{d:D}{x6 x7:Sl}(h1:w.ts[k]?=some t)(h2:rs[k]?=some r)(h3:ds[k]?=some d)(hB:Bd d) :
  (zam lI1 (zam lI2 (zam lI3 zaj))) (lEv w rs ks ds (.sh (.int (k:Int))) (.sh (zbA t)) x6 x7)=(if zlj t r (decide (k∈ks)) d=true then .ok (.nx (lEv w rs ks ds (.sh (.int (k:Int))) (.sh (zbA t)) x6 x7)) else .ok (.rt (.tup [.str "flow",.int (k:Int)]))):=by
 obtain⟨hr,r0⟩:=S.rf r (say h2);have hfr:=ztZ hB;have hin:=zv2 (k:=k) (ks:=ks);have id_:dIx (.lst ds) (.int (k:Int))=.ok d:=zdf h3;have ir:dIx (.lst (rs.map fr)) (.int (k:Int))=.ok (fr r):=zdf (by rw[sai,h2];rfl);have i2:dIx (zbA t) (.int 2)=.ok (.str t.w):=rfl;have htup:zcZ [.str "flow",.int (k:Int)]=.ok (.tup [.str "flow",.int (k:Int)]):=rfl;cases e:zd6 d with
 | false =>
  rw[e] at hfr;rw[zq2 e,if_neg saD];unfold lI1 lEv;open_line with[id_,hfr,htup]
 | true =>
  rw[e] at hfr;obtain⟨x,rfl,hL⟩:=zkY e;have hx:=hB.fin hL;rw[zop hL,← zy9 hr.q1 r0 hL.q1];have i0:dIx (fr x) (.int 0)=.ok (.int x.1):=rfl;have i1:dIx (fr x) (.int 1)=.ok (.int x.2):=rfl;have hl1:=zDJ (x:=r) (y:=x) hr ⟨hx.pN,hx.qN⟩;have hl2:=zDJ (x:=r) (y:=(-x.1,x.2)) hr ⟨by rw[Int.natAbs_neg];exact hx.pN,hx.qN⟩;rw[show fr (-x.1,x.2)=.tup [.int (-x.1),.int x.2] from rfl] at hl2;have hz1:(x.1==0)=true->flt r x=false:=fun h=>by
   have:=eq_of_beq h;unfold flt;rw[this];exact decide_eq_false (by have:=saZ r0 (show 0<=x.2 by have:=hL.q1;omega);omega)
  have hz2:(x.1==0)=true->flt r (-x.1,x.2)=false:=fun h=>by
   have:=eq_of_beq h;unfold flt;rw[this];exact decide_eq_false (by have:=saZ r0 (show 0<=x.2 by have:=hL.q1;omega);show ¬ (r.1*x.2 < -0*r.2);omega)
  have hlt:dLt (.int x.1) (.int 0)=.ok (.bl (decide (x.1 < 0))):=rfl;generalize flt r (-x.1,x.2)=f2 at *;generalize flt r x=f1 at *;generalize hX:fr x=X at *;generalize fr r=R at *;generalize hTD:zbA t=TD at *;have s1:lI1 (lEv w rs ks ds (.sh (.int (k:Int))) (.sh TD) x6 x7)=(if(decide (k∈ks)&&!(x.1==0))=true then .ok (.rt (.tup [.str "flow",.int (k:Int)])) else .ok (.nx (lEv w rs ks ds (.sh (.int (k:Int))) (.sh TD) x6 x7))):=by
   unfold lI1 lEv;cases c:decide (k∈ks) with
   | false=>rw[c] at hin;open_line with[id_,hfr,hin,sa5,sbb,if_false]
   | true =>
    rw[c] at hin;cases c2:(x.1==0) with
    | true=>open_line with[id_,hfr,hin,i0,c2,sbz,sbb,if_false]
    | false=>open_line with[id_,hfr,hin,i0,c2,sbz,htup,if_true]
  have s2:lI2 (lEv w rs ks ds (.sh (.int (k:Int))) (.sh TD) x6 x7)=(if(f1||f2)=true then .ok (.rt (.tup [.str "flow",.int (k:Int)])) else .ok (.nx (lEv w rs ks ds (.sh (.int (k:Int))) (.sh TD) x6 x7))):=by
   unfold lI2 lEv;cases f1 with
   | true=>open_line with[ir,id_,hl1,htup,Bool.true_or,if_true]
   | false =>
    cases f2 with
    | true=>open_line with[ir,id_,hl1,i0,i1,hl2,htup,sbW,if_true]
    | false=>open_line with[ir,id_,hl1,i0,i1,hl2,sbW,sbb,if_false]
  have s3:lI3 (lEv w rs ks ds (.sh (.int (k:Int))) (.sh TD) x6 x7)=(if(decide (x.1 < 0)&&decide (t.w="one"))=true then .ok (.rt (.tup [.str "flow",.int (k:Int)])) else .ok (.nx (lEv w rs ks ds (.sh (.int (k:Int))) (.sh TD) x6 x7))):=by
   unfold lI3 lEv;cases c1:decide (t.w="one") with
   | false=>open_line with[i2,K36.eqs,c1,sb0,sbb,if_false]
   | true =>
    cases c2:decide (x.1 < 0) with
    | true=>open_line with[i2,K36.eqs,c1,id_,i0,hlt,c2,htup,sc1,if_true]
    | false=>open_line with[i2,K36.eqs,c1,id_,i0,hlt,c2,sa5,sbb,if_false]
  rw[zgh,s1];cases cK:decide (k∈ks) with
  | true =>
   cases cz:(x.1==0) with
   | false=>rfl
   | true =>
    have hf1:=hz1 cz;have hf2:=hz2 cz;subst hf1 hf2;have hn:decide (x.1 < 0)=false:=decide_eq_false (by have:=eq_of_beq cz;omega);rw[if_neg (by decide),zkw,zeM,zgh,s2,if_neg (by decide),zkw,zeM,zgh,s3,hn,if_neg (by rw[sa5];decide),zkw,zeM,zls];rfl
  | false =>
   rw[if_neg (by simp),zkw,zeM,zgh,s2];cases cf:(f1||f2) with
   | true=>rfl
   | false =>
    rw[if_neg (by decide),zkw,zeM,zgh,s3];cases cl:(decide (x.1 < 0)&&decide (t.w="one")) with
    | true=>rfl
    | false=>rfl
end
def szs (xs:List Fra):List Int:=xs.map fun x=>x.1*(bot xs / x.2)
theorem zu2 {xs:List Fra}(hl:xs.length<=60)(hx:∀ x∈xs,zbo x):zbf [.lst (xs.map fr)]=.ok (.tup [.lst ((szs xs).map D.int),.int (bot xs)]):=by
 have hsc:=zyt (os:=xs.map some) (by rw[sab];omega) (fun x h=>by
  obtain⟨y,hy,e⟩:=saG.mp h;cases e;exact hx x hy)
 have e1:(xs.map some).map zcQ=xs.map fr:=by rw[sa2];rfl
 rw[K36.somes_some,e1] at hsc;have e2:(xs.map some).map (wI (bot xs))=(xs.map fun x=>x.1*(bot xs / x.2)).map D.int:=by rw[sa2,sa2];rfl
 rw[e2] at hsc;exact hsc
theorem zyO {P:Str}{b:Int}:∀ (ts:List Tie) (xs':List Fra),(∀ x∈xs',x.2∣b)->∀ x∈K36.parts P ts xs',x.2∣b:=by
 intro ts
 induction ts with
 | nil=>intro xs' _ x hx';simp [K36.parts] at hx'
 | cons t ts ih =>
  intro xs' h x hx';cases xs' with
  | nil=>simp [K36.parts] at hx'
  | cons y ys =>
   unfold K36.parts at hx';rw[saQ] at hx';rcases hx' with hx' | hx'
   .have:x.2=y.2:=by
     unfold K36.part at hx';rw[saQ] at hx';rcases hx' with h' | h'
     .split at h'
      .have:x=K36.sg 1 y:=by simpa using h'
       rw[this];rfl
      .cases h'
     .split at h'
      .have:x=K36.sg (-1) y:=by simpa using h'
       rw[this];rfl
      .cases h'
    rw[this];exact h y saq
   .exact ih ys (fun z hz=>h z (sak _ hz)) x hx'
theorem zrY {xs:List Fra}(hx:∀ x∈xs,zbo x):0 < bot xs/\∀ x∈xs,x.2∣bot xs:=by
 obtain⟨B,_,hdv⟩:=zz4 hx 1 0 ⟨by decide,by decide⟩;exact⟨B.pos,hdv⟩
theorem zyp {P:Str}{ts:List Tie}{xs:List Fra}(h14:ts.length<=14)(hx:∀ x∈xs,zbo x):∃ b s2,0 < b/\0 < s2/\(K36.sumF (K36.parts P ts xs)).1*b=ips P ts (szs xs)*s2:=by
 obtain⟨hb,hdv⟩:=zrY hx;have hpl:(K36.parts P ts xs).length<=28:=sal K36.parts_len (by omega);have hpf:=K36.parts_fin (p:=P) (ts:=ts) hx;have A:=zqE (xs:=K36.parts P ts xs) (by omega) hpf;obtain⟨_,hSL⟩:=K36.sum_acc (xs:=K36.parts P ts xs) (by omega) hpf;have hts:=zpu (b:=bot xs) (K36.parts P ts xs) (0,1) 0 (zyO ts xs hdv) (by show(0:Int)*_=0*1;omega);rw[Int.zero_add,← K36.ips_parts] at hts;change (tot (K36.parts P ts xs)).1*bot xs=ips P ts (szs xs)*(tot (K36.parts P ts xs)).2 at hts;have hr:=zh6 (a:=(tot (K36.parts P ts xs)).1) (b:=(tot (K36.parts P ts xs)).2);change (K36.sumF (K36.parts P ts xs)).1*_=_*(K36.sumF (K36.parts P ts xs)).2 at hr;have Ap:=A.pos;have q1:=hSL.q1;refine⟨bot xs,(K36.sumF (K36.parts P ts xs)).2,hb,by omega,?_⟩;generalize K36.sumF (K36.parts P ts xs)=S at *;generalize tot (K36.parts P ts xs)=T at *;generalize bot xs=b at *;generalize ips P ts (szs xs)=Z at *;refine sbH (show T.2≠0 by omega) ?_;have e1:S.1*b*T.2=S.1*T.2*b:=by grind
 have e2:T.1*S.2*b=T.1*b*S.2:=by grind
 rw[e1,hr,e2,hts]
 grind
theorem zAw {s z b c:Int}(hb:0 < b)(hc:0 < c)(h:s*b=z*c):decide (s < 0)=decide (z < 0):=by
 by_cases c1:s < 0
 .have:s*b < 0:=scM c1 hb
  have c2:z < 0:=by
   rcases Int.lt_or_le z 0 with h2 | h2
   .exact h2
   .have:=saZ h2 (show 0<=c by omega);omega
  rw[decide_eq_true c1,decide_eq_true c2]
 .have:0<=s*b:=saZ (by omega) (by omega)
  have c2:¬ z < 0:=fun h2=>by
   have:=scM h2 hc;omega
  rw[decide_eq_false c1,decide_eq_false c2]
theorem zAx {s z b c:Int}(hb:0 < b)(hc:0 < c)(h:s*b=z*c):(s==0)=(z==0):=by
 cases e:(s==0) with
 | true =>
  have:=eq_of_beq e;rw[this,Int.zero_mul] at h;have:z=0:=by
   rcases Int.mul_eq_zero.mp h.symm with h | h
   .exact h
   .omega
  rw[this];rfl
 | false =>
  have hs:s≠0:=fun z=>by rw[z] at e;cases e
  symm;refine beq_eq_false_iff_ne.mpr fun z0=>?_;rw[z0,Int.zero_mul] at h;rcases Int.mul_eq_zero.mp h with h | h
  .exact hs h
  .omega
def zq3 (w:Web)(Z:Int)(p:Str):Bool:=if p=w.la then true else if p=w.fi then !(decide (Z < 0)) else(Z==0)
section
variable {w:Web}{xs:List Fra}
theorem zrZ (hl:xs.length=w.ts.length){p:Str}:zc7 [zbi w,.lst ((szs xs).map D.int),.str p]=.ok (.bl (if p=w.fi then !(decide (ips p w.ts (szs xs) < 0)) else(ips p w.ts (szs xs)==0))):=by
 have hg:=K36.goes_ok (w:=w) (P:=p) (zs:=szs xs) (by unfold szs;rw[sab];exact hl);have i2:dIx (zbi w) (.int 2)=.ok (.str w.fi):=rfl;have hge:∀ z:Int,dGe (.int z) (.int 0)=.ok (.bl (!(decide (z < 0)))):=fun z=>by
  show Res.ok (D.bl (decide (0<=z)))=_
  congr 2
  by_cases c:z < 0
  .rw[decide_eq_true c,decide_eq_false (by omega)];rfl
  .rw[decide_eq_false c,decide_eq_true (by omega)];rfl
 change K36.zcq [zbi w,.lst ((szs xs).map D.int),.str p]=.ok (.int (ips p w.ts (szs xs))) at hg;generalize ips p w.ts (szs xs)=Z at *
 by_cases c:p=w.fi
 .rw[if_pos c]
  open_line with[zc7,zf9,zzX,hg,i2,K36.eqs,decide_eq_true c,hge]
 .rw[if_neg c]
  open_line with[zc7,zf9,zzX,hg,i2,K36.eqs,decide_eq_false c]
abbrev bEv (w:Web)(xs:List Fra)(x3:Sl):Ev:=[.sh (zbi w),.sh (.lst (xs.map fr)),.sh (.lst ((szs xs).map D.int)),x3]
theorem zEy (hl:xs.length=w.ts.length){p:Str}:zuk (bEv w xs (.sh (.str p)))=(if zq3 w (ips p w.ts (szs xs)) p=true then .ok (.nx (bEv w xs (.sh (.str p)))) else .exn ⟨"Unbalanced",[("place",.str p)]⟩):=by
 have hb:=zrZ (w:=w) hl (p:=p);have i3:dIx (zbi w) (.int 3)=.ok (.str w.la):=rfl;unfold zuk bEv zq3;generalize ips p w.ts (szs xs)=Z at *
 by_cases c:p=w.la
 .rw[if_pos c,if_pos rfl]
  open_line with[i3,nes,decide_eq_true c]
 .rw[if_neg c]
  cases g:(if p=w.fi then !(decide (Z < 0)) else(Z==0)) with
  | true =>
   rw[g] at hb;rw[if_pos rfl];open_line with[i3,nes,decide_eq_false c,hb]
  | false =>
   rw[g] at hb;rw[if_neg saD];open_line with[i3,nes,decide_eq_false c,hb,zgL,zfj,zgi]
theorem zzF {zs:List Str}{k:Nat}{d:D}(h:(zs.map D.str)[k]?=some d):∃ z,zs[k]?=some z/\d=.str z:=by
 rw[sai] at h;cases e:zs[k]? with
 | none=>rw[e] at h;cases h
 | some z=>rw[e] at h;cases h;exact⟨z,rfl,rfl⟩
def pAt (w:Web)(xs:List Fra)(k:Nat):Bool:=match w.ps[k]? with
 | some p=>zq3 w (ips p w.ts (szs xs)) p
 | none=>false
theorem zz5 (W:zha w)(hl:xs.length=w.ts.length)(hx:∀ x∈xs,zbo x) :
  ((∀ k,k < w.ps.length->pAt w xs k=true)->za5 [zbi w,.lst (xs.map fr)]=.ok .non)/\(∀ k p,w.ps[k]?=some p->pAt w xs k=false->(∀ j,j < k->pAt w xs j=true)->za5 [zbi w,.lst (xs.map fr)]=.exn ⟨"Unbalanced",[("place",.str p)]⟩):=by
 have h14:=W.t14;have hsc:=zu2 (xs:=xs) (by omega) hx;have i0:dIx (zbi w) (.int 0)=.ok (.lst (w.ps.map D.str)):=rfl;have step:∀ (j:Nat) (d:D),(w.ps.map D.str)[j]?=some d->pAt w xs j=true->∀ ρ,(∃ x3,ρ=bEv w xs x3)->∃ ρ1 ρ2,zea 3 ρ d=.ok ρ1/\zuk ρ1=.ok (.nx ρ2)/\∃ x3,ρ2=bEv w xs x3:=by
  rintro j d hd hg ρ ⟨x3,rfl⟩;obtain⟨p,hp,rfl⟩:=zzF hd;have ht:=zEy (w:=w) hl (p:=p);unfold pAt at hg;rw[hp] at hg;simp only at hg;rw[hg,if_pos rfl] at ht;exact⟨_,_,rfl,ht,_,rfl⟩
 refine⟨fun hall=>?_,fun k p hk hbad hgood=>?_⟩
 .obtain⟨ρ',hf,x3,rfl⟩:=zdG (ds:=w.ps.map D.str) (tg:=zea 3) (body:=zuk) (ρ:=bEv w xs .no) (fun _ ρ=>∃ x3,ρ=bEv w xs x3) (fun j d hd ρ hp=>by
   have hj:j < w.ps.length:=by have:=(sad.mp hd).1;rw[sab] at this;exact this
   exact step j d hd (hall j hj) ρ hp) ⟨_,rfl⟩
  unfold bEv at hf;open_line with[za5,zdr,hsc,i0,hf]
 .have hf:=zkE (tg:=zea 3) (body:=zuk) (out:=.exn ⟨"Unbalanced",[("place",.str p)]⟩) rfl (fun _ ρ=>∃ x3,ρ=bEv w xs x3) k (w.ps.map D.str) (bEv w xs .no) 0 ⟨_,rfl⟩ (fun j d hj hd ρ hp=>step j d hd (hgood j hj) ρ hp) (by
   refine⟨.str p,by rw[sai,hk];rfl,?_⟩;rintro ρ ⟨x3,rfl⟩;have ht:=zEy (w:=w) hl (p:=p);unfold pAt at hbad;rw[hk] at hbad;simp only at hbad;rw[hbad,if_neg saD] at ht;exact⟨_,rfl,ht⟩)
  unfold bEv at hf;open_line with[za5,zdr,hsc,i0,hf,zgi]
theorem zfc {p a b:Str}:zb3 (.str p) (.tup [.str a,.str b])=.ok (.bl (!(decide (p=a)||decide (p=b)))):=by
 have e:inD (.str p) (.tup [.str a,.str b])=some ([D.str a,.str b].any fun d=>eqD d (.str p)):=by
  unfold inD;exact if_pos ⟨rfl,rfl⟩
 unfold zb3;rw[e];have h:∀ x y:Str,eqD (.str x) (.str y)=decide (y=x):=fun x y=>by
  rw[eqD]
  by_cases c:y=x
  .subst c;simp
  .rw[decide_eq_false c];exact beq_eq_false_iff_ne.mpr fun z=>c z.symm
 simp only[scX,List.any_nil,h,sdo]
theorem zzN {rs:List Fra}{ks:List Nat}(W:zha w)(hl:xs.length=w.ts.length)(hx:∀ x∈xs,zbo x){p:Str}{x4 x5 x7:Sl}:∃ y7,lP (lEv w rs ks (xs.map fr) x4 x5 (.sh (.str p)) x7)=(if zq3 w (ips p w.ts (szs xs)) p=true then .ok (.nx (lEv w rs ks (xs.map fr) x4 x5 (.sh (.str p)) y7)) else .ok (.rt (.tup [.str "place",.str p]))):=by
 have hg:=K36.going_ok (w:=w) (P:=p) W.t14 hl hx;obtain⟨b,s2,hb,hs2,he⟩:=zyp (P:=p) W.t14 hx;have h1:=zAw hb hs2 he;have h2:=zAx hb hs2 he;have i2:dIx (zbi w) (.int 2)=.ok (.str w.fi):=rfl;have i3:dIx (zbi w) (.int 3)=.ok (.str w.la):=rfl;have ne:=W.ne;have htup:zcZ [.str "place",.str p]=.ok (.tup [.str "place",.str p]):=rfl;have htu2:zcZ [.str w.fi,.str w.la]=.ok (.tup [.str w.fi,.str w.la]):=rfl;have hi0:∀ u:Fra,dIx (fr u) (.int 0)=.ok (.int u.1):=fun _=>rfl;have hlt:∀ z:Int,dLt (.int z) (.int 0)=.ok (.bl (decide (z < 0))):=fun _=>rfl;refine⟨.sh (.int (K36.sumF (K36.parts p w.ts xs)).1),?_⟩;unfold lP lEv zq3;rw[← h1,← h2];generalize K36.sumF (K36.parts p w.ts xs)=u at *
 by_cases cl:p=w.la
 .have cf:p≠w.fi:=fun z=>ne (z.symm.trans cl)
  rw[if_pos cl,if_pos rfl];open_line with[zlx,hg,hi0,i2,i3,K36.eqs,decide_eq_false cf,htu2,zfc,decide_eq_true cl,Bool.or_true]
 .rw[if_neg cl]
  by_cases cf:p=w.fi
  .rw[if_pos cf]
   cases c:decide (u.1 < 0) with
   | true =>
    rw[if_neg (by decide)];open_line with[zlx,hg,hi0,i2,i3,K36.eqs,decide_eq_true cf,hlt,c,htup]
   | false =>
    rw[if_pos (by decide)];open_line with[zlx,hg,hi0,i2,i3,K36.eqs,decide_eq_true cf,hlt,c,htu2,zfc,Bool.true_or]
  .rw[if_neg cf]
   cases c:(u.1==0) with
   | true =>
    rw[if_pos rfl];open_line with[zlx,hg,hi0,i2,i3,K36.eqs,decide_eq_false cf,htu2,zfc,decide_eq_false cl,Bool.or_self,c]
   | false =>
    rw[if_neg saD];open_line with[zlx,hg,hi0,i2,i3,K36.eqs,decide_eq_false cf,htu2,zfc,decide_eq_false cl,Bool.or_self,c,htup]
end
def XF (d:D):Exn:=⟨"NoFlow",[("at",d)]⟩
def XP (p:Str):Exn:=⟨"Unbalanced",[("place",.str p)]⟩
inductive Ans:D->Res D->Prop
 | ok:Ans .non (.ok .non)
 | no:Ans (.tup [.str "flow",.non]) (.exn (XF .non))
 | at_ (k:Nat):Ans (.tup [.str "flow",.int (k:Int)]) (.exn (XF (.int (k:Int))))
 | pl (p:Str):Ans (.tup [.str "place",.str p]) (.exn (XP p))
theorem ztC {w:Web}{xs:List Fra}(W:zha w)(hl:xs.length=w.ts.length)(hx:∀ x∈xs,zbo x/\0<=x.1):zc6 [zbi w,.lst (xs.map fr)]=.ok .non:=by
 have h14:=W.t14;have i1:dIx (zbi w) (.int 1)=.ok (.lst (w.ts.map zbA)):=rfl;have hc:∀ ρ:Ev,ziR 1 [] (zea 0) mYes (zak (zad (zag 0) zar) zcp) ρ (xs.map fr)=.ok (.lst ((xs.map fr).map fun _=>.bl true)):=fun ρ=>by
  rw[zf4 (F:=fun _=>.bl true) (by rw[sab];omega)];intro d hd;obtain⟨x,hm,rfl⟩:=saG.mp hd;refine⟨[.sh (fr x)],rfl,rfl,?_⟩;have:=zlb (hx x hm).1.toLow (hx x hm).2;open_line with[this]
 have hall:=K35.all_ok (ds:=xs.map fr) (g:=fun _=>true);have ht:(xs.map fr).all (fun _=>true)=true:=saE.mpr fun _ _=>rfl;rw[ht] at hall;have hh:zdQ [zbi w,.lst (xs.map fr)]=.ok (.bl true):=by
  have hne:dNe (.int (xs.length:Int)) (.int (w.ts.length:Int))=.ok (.bl false):=by rw[hl,zjU];simp
  have e1:zgt (.lst (xs.map fr))=.ok (.int (xs.length:Int)):=by show Res.ok (D.int _)=_;rw[sab]
  have e2:zgt (.lst (w.ts.map zbA))=.ok (.int (w.ts.length:Int)):=by show Res.ok (D.int _)=_;rw[sab]
  generalize hX:xs.map fr=X at *;open_line with[zdQ,ziX,i1,sab]
  rw[show X.length=xs.length by rw[← hX,sab],hl];open_line with[zjU,bne_self_eq_false,hc,hall]
 have hw:=zzy W;open_line with[zc6,zg2,zEf,hw,hh]
section
variable {w:Web}{rs:List Fra}{ks:List Nat}{ds:List D}{d:D}
theorem zla (S:Su w rs ks):zaI [zbi w,.lst (rs.map fr),zaT ks,d]=((zaG [zbi w,.lst (rs.map fr),zaT ks,d]).bind fun _=>(za5 [zbi w,d]).bind fun _=>.ok .non):=by
 have h1:=ztC S.W S.rl S.rf;have h2:=zuL S.W S.T;cases e1:zaG [zbi w,.lst (rs.map fr),zaT ks,d] with
 | stuck =>
  rw[show zaT ks=.lst (ks.map fun(k:Nat)=>D.int (k:Int)) from rfl] at *;unfold zaI;rw[znc];unfold zce;open_line with[h1,zlw,h2,e1]
  rfl
 | exn x=>open_line with[zaI,zce,h1,zlw,h2,e1,zgi]
 | ok v =>
  cases e2:za5 [zbi w,d] with
  | stuck =>
   open_line with[zaI,zce,h1,zlw,h2,e1,e2]
   rfl
  | exn x=>open_line with[zaI,zce,h1,zlw,h2,e1,e2,zgi]
  | ok u=>open_line with[zaI,zce,h1,zlw,h2,e1,e2]
theorem zA0 (S:Su w rs ks)(h:zcY "list" d=.ok (.bl false)):∃ due,zbh [zbi w,.lst (rs.map fr),zaT ks,d]=.ok due/\Ans due (zaI [zbi w,.lst (rs.map fr),zaT ks,d]):=by
 refine⟨.tup [.str "flow",.non],?_,?_⟩
 .have htup:zcZ [.str "flow",.non]=.ok (.tup [.str "flow",.non]):=rfl
  open_line with[zbh,zcW,h,htup]
 .have:zaG [zbi w,.lst (rs.map fr),zaT ks,d]=.exn (XF .non):=by
   unfold XF;open_line with[zaG,zbZ,h,zgL,zfj,zgi]
  rw[zla S,this];exact .no
theorem zDB (S:Su w rs ks)(h:ds.length≠w.ts.length):∃ due,zbh [zbi w,.lst (rs.map fr),zaT ks,.lst ds]=.ok due/\Ans due (zaI [zbi w,.lst (rs.map fr),zaT ks,.lst ds]):=by
 have i1:dIx (zbi w) (.int 1)=.ok (.lst (w.ts.map zbA)):=rfl;have hl:((ds.length:Int)==(w.ts.length:Int))=false:=beq_eq_false_iff_ne.mpr (by omega);refine⟨.tup [.str "flow",.non],?_,?_⟩
 .have htup:zcZ [.str "flow",.non]=.ok (.tup [.str "flow",.non]):=rfl
  open_line with[zbh,zcW,i1,sab,hl,htup]
 .have:zaG [zbi w,.lst (rs.map fr),zaT ks,.lst ds]=.exn (XF .non):=by
   unfold XF;open_line with[zaG,zbZ,i1,sab,hl,zgL,zfj,zgi]
  rw[zla S,this];exact .no
theorem zzO:∀ {ds:List D},(∀ d∈ds,zd6 d=true)->∃ xs:List Fra,ds=xs.map fr/\∀ x∈xs,Low x
 | [],_=>⟨[],rfl,fun _ h=>(nomatch h)⟩
 | d::ds,h=>by
  obtain⟨xs,rfl,hx⟩:=zzO (ds:=ds) fun e he=>h e (sak _ he);obtain⟨x,rfl,hL⟩:=zkY (h d saq);exact⟨x::xs,rfl,fun y hy=>(sas.mp hy).elim (fun e=>e▸hL) (hx y)⟩
theorem zFV (S:Su w rs ks)(hl:ds.length=w.ts.length)(hB:∀ d∈ds,Bd d):∃ due,zbh [zbi w,.lst (rs.map fr),zaT ks,.lst ds]=.ok due/\Ans due (zaI [zbi w,.lst (rs.map fr),zaT ks,.lst ds]):=by
 have i1:dIx (zbi w) (.int 1)=.ok (.lst (w.ts.map zbA)):=rfl;have i0:dIx (zbi w) (.int 0)=.ok (.lst (w.ps.map D.str)):=rfl;have hlen:((ds.length:Int)==(w.ts.length:Int))=true:=by rw[hl];exact beq_self_eq_true _
 obtain⟨pA,pB⟩:=zxJ S hl hB;have step:∀ (j:Nat) (d:D),(zaW 0 (w.ts.map zbA))[j]?=some d->gAt w rs ks ds j=true->∀ ρ,(∃ x4 x5,ρ=lEv w rs ks ds x4 x5 .no .no)->∃ ρ1 ρ2,zff [4,5] ρ d=.ok ρ1/\lA ρ1=.ok (.nx ρ2)/\∃ x4 x5,ρ2=lEv w rs ks ds x4 x5 .no .no:=by
  rintro j d hd hg ρ ⟨x4,x5,rfl⟩;obtain⟨t',ht',rfl⟩:=zcR hd;have hj:j < w.ts.length:=(sad.mp ht').1;obtain⟨t,r,d',a1,a2,a3,a4⟩:=at3 S hl (k:=j) hj;rw[ht'] at a1;cases a1;have ht:=zDK S (x6:=.no) (x7:=.no) ht' a2 a3 (hB d' (say a3));rw[← a4,hg,if_pos rfl] at ht;exact⟨_,_,zhr rfl,ht,_,_,rfl⟩
 rcases zlo (gAt w rs ks ds) w.ts.length with hall | ⟨k,hk,hbad,hgood⟩
 .have hrat:∀ d∈ds,zd6 d=true:=fun d hd=>by
   obtain⟨k,hk⟩:=scx hd;have hkl:k < ds.length:=(sad.mp hk).1;obtain⟨t,r,d',a1,a2,a3,a4⟩:=at3 S hl (k:=k) (by omega);rw[hk] at a3;cases a3;have:=hall k (by omega);rw[a4] at this;exact zt5 this
  obtain⟨xs,rfl,hL⟩:=zzO hrat;rw[sab] at hl hlen;have hx:∀ x∈xs,zbo x:=fun x h=>(hB (fr x) (saG.mpr ⟨x,h,rfl⟩)).fin (hL x h);obtain⟨qA,qB⟩:=zz5 S.W hl hx;obtain⟨ρ',hf,x4,x5,rfl⟩:=zdG (ds:=zaW 0 (w.ts.map zbA)) (tg:=zff [4,5]) (body:=lA) (ρ:=lEv w rs ks (xs.map fr) .no .no .no .no) (fun _ ρ=>∃ x4 x5,ρ=lEv w rs ks (xs.map fr) x4 x5 .no .no) (fun j d hd ρ hp=>by
   have hj:j < w.ts.length:=by have:=(sad.mp hd).1;rw[zbG,sab] at this;exact this
   exact step j d hd (hall j hj) ρ hp) ⟨_,_,rfl⟩
  have pstep:∀ (j:Nat) (d:D),(w.ps.map D.str)[j]?=some d->pAt w xs j=true->∀ ρ,(∃ x6 x7,ρ=lEv w rs ks (xs.map fr) x4 x5 x6 x7)->∃ ρ1 ρ2,zea 6 ρ d=.ok ρ1/\lP ρ1=.ok (.nx ρ2)/\∃ x6 x7,ρ2=lEv w rs ks (xs.map fr) x4 x5 x6 x7:=by
   rintro j d hd hg ρ ⟨x6,x7,rfl⟩;obtain⟨p,hp,rfl⟩:=zzF hd;obtain⟨y7,ht⟩:=zzN (rs:=rs) (ks:=ks) S.W hl hx (p:=p) (x4:=x4) (x5:=x5) (x7:=x7);unfold pAt at hg;rw[hp] at hg;simp only at hg;rw[hg,if_pos rfl] at ht;exact⟨_,_,rfl,ht,_,_,rfl⟩
  rw[zla S,pA hall];unfold lEv at hf;rcases zlo (pAt w xs) w.ps.length with hpall | ⟨k,hk,hbad,hgood⟩
  .obtain⟨ρ2,hf2,x6,x7,rfl⟩:=zdG (ds:=w.ps.map D.str) (tg:=zea 6) (body:=lP) (ρ:=lEv w rs ks (xs.map fr) x4 x5 .no .no) (fun _ ρ=>∃ x6 x7,ρ=lEv w rs ks (xs.map fr) x4 x5 x6 x7) (fun j d hd ρ hp=>by
    have hj:j < w.ps.length:=by have:=(sad.mp hd).1;rw[sab] at this;exact this
    exact pstep j d hd (hpall j hj) ρ hp) ⟨_,_,rfl⟩
   unfold lEv at hf2;refine⟨.non,?_,?_⟩
   .open_line with[zbh,zcW,i1,i0,sab,hlen,hf,hf2]
   .rw[qA hpall];exact .ok
  .obtain⟨p,hp⟩:∃ p,w.ps[k]?=some p:=⟨_,saa hk⟩
   have hf2:=zkE (tg:=zea 6) (body:=lP) (out:=.ok (.rt (.tup [.str "place",.str p]))) rfl (fun _ ρ=>∃ x6 x7,ρ=lEv w rs ks (xs.map fr) x4 x5 x6 x7) k (w.ps.map D.str) (lEv w rs ks (xs.map fr) x4 x5 .no .no) 0 ⟨_,_,rfl⟩ (fun j d hj hd ρ hp=>pstep j d hd (hgood j hj) ρ hp) (by
    refine⟨.str p,by rw[sai,hp];rfl,?_⟩;rintro ρ ⟨x6,x7,rfl⟩;obtain⟨y7,ht⟩:=zzN (rs:=rs) (ks:=ks) S.W hl hx (p:=p) (x4:=x4) (x5:=x5) (x7:=x7);unfold pAt at hbad;rw[hp] at hbad;simp only at hbad;rw[hbad,if_neg saD] at ht;exact⟨_,rfl,ht⟩)
   unfold lEv at hf2;refine⟨.tup [.str "place",.str p],?_,?_⟩
   .open_line with[zbh,zcW,i1,i0,sab,hlen,hf,hf2]
   .rw[qB k p hp hbad hgood];exact .pl p
 .have hf:=zkE (tg:=zff [4,5]) (body:=lA) (out:=.ok (.rt (.tup [.str "flow",.int (k:Int)]))) rfl (fun _ ρ=>∃ x4 x5,ρ=lEv w rs ks ds x4 x5 .no .no) k (zaW 0 (w.ts.map zbA)) (lEv w rs ks ds .no .no .no .no) 0 ⟨_,_,rfl⟩ (fun j d hj hd ρ hp=>step j d hd (hgood j hj) ρ hp) (by
   obtain⟨t,r,d,a1,a2,a3,a4⟩:=at3 S hl hk;refine⟨.tup [.int (k:Int),zbA t],by rw[zbH,sai,a1,sbS];rfl,?_⟩;rintro ρ ⟨x4,x5,rfl⟩;have ht:=zDK S (x6:=.no) (x7:=.no) a1 a2 a3 (hB d (say a3));rw[← a4,hbad,if_neg saD] at ht;exact⟨_,zhr rfl,ht⟩)
  unfold lEv at hf;refine⟨.tup [.str "flow",.int (k:Int)],?_,?_⟩
  .open_line with[zbh,zcW,i1,sab,hlen,hf]
  .rw[zla S,pB k hk hbad hgood];exact .at_ k
theorem zuJ {A B C d due:D}(h:Ans due (zaI [A,B,C,d])):zb7 [A,B,C,d,due]=.ok (.bl true):=by
 generalize hr:zaI [A,B,C,d]=r at h;have t1:zym "NoFlow"=some true:=rfl;have t2:zuN "NoFlow"=some true:=rfl;have t3:zuM "NoFlow"=some false:=rfl;have u1:zym "Unbalanced"=some true:=rfl;have u2:zuN "Unbalanced"=some false:=rfl;have u3:zuM "Unbalanced"=some true:=rfl;have hF:zpX zdn "NoFlow"=true:=rfl;have hU:zpX zdn "Unbalanced"=true:=rfl;have hne:dEq (.bl true) (.bl false)=.ok (.bl false):=rfl;have hne2:dEq (.bl false) (.bl true)=.ok (.bl false):=rfl;have hfp:dEq (.str "flow") (.str "place")=.ok (.bl false):=rfl;have hpp:dEq (.str "place") (.str "place")=.ok (.bl true):=rfl;have ht:∀ (d:D) (ni:Nat) (sh:Ev->Res Fl) (ρ:Ev),zCt (zpX zdn) ni sh ρ (.exn (XF d))=(sh (ρ.set ni (.sh (.ob (.exf "NoFlow" ["at"]) [d])))).bind (zCd ni):=fun d _ _ _=>by
  rw[zwo (x:=XF d) hF,show zxZ (XF d)=.ob (.exf "NoFlow" ["at"]) [d] from zD6]
 have hu:∀ (p:Str) (ni:Nat) (sh:Ev->Res Fl) (ρ:Ev),zCt (zpX zdn) ni sh ρ (.exn (XP p))=(sh (ρ.set ni (.sh (.ob (.exf "Unbalanced" ["place"]) [.str p])))).bind (zCd ni):=fun p _ _ _=>by
  rw[zwo (x:=XP p) hU,show zxZ (XP p)=.ob (.exf "Unbalanced" ["place"]) [.str p] from zD6]
 have hfa:∀ d,zlI zv9 "at" (.ob (.exf "NoFlow" ["at"]) [d])=.ok d:=fun d=>zsX (b:=true) rfl;have hfp2:∀ d,zlI zor "place" (.ob (.exf "Unbalanced" ["place"]) [d])=.ok d:=fun d=>zsX (b:=true) rfl;have hwh:∀ v:Int,zbI [.int v]=.ok (.bl true):=fun _=>rfl;cases h with
 | ok=>open_line with[zb7,zen,zsT,zox,zkG,hr,zBg]
 | no=>open_line with[zb7,zen,zsT,zox,zkG,hr,zgi,ht,zwJ,zfZ t1,zfZ t2,zfZ t3,hne,hfp,hfa]
 | at_ k=>open_line with[zb7,zen,zsT,zox,zkG,hr,zgi,ht,zwJ,zfZ t1,zfZ t2,zfZ t3,hne,hfp,hfa,hwh]
 | pl p=>open_line with[zb7,zen,zsT,zox,zkG,hr,zgi,hu,zwJ,zfZ u1,zfZ u2,zfZ u3,hne2,hpp,hfp2,K36.eqs,decide_eq_true rfl]
theorem zuR {M:Int}{c:Nat}{xs:List Fra}{zs:List Int}(h:FI w M c xs zs)(hx:∀ x∈xs,zbo x):(szs xs).map (· * M)=zs.map (· * bot xs):=by
 obtain⟨hb,hd⟩:=zrY hx;apply sb6;intro i;rw[szs,sai,sai,sai]
 by_cases hi:i < w.ts.length
 .have e1:xs[i]?=some (xs[i]'(by rw[h.lx];exact hi)):=saa _
  have e2:zs[i]?=some (zs[i]'(by rw[h.lz];exact hi)):=saa _;generalize xs[i]'(by rw[h.lx];exact hi)=x at e1;generalize zs[i]'(by rw[h.lz];exact hi)=z at e2;obtain⟨_,hR⟩:=h.at_ i x z e1 e2;have hm:=say e1;obtain⟨q,hq⟩:=hd x hm;have hx1:=(hx x hm).q1;rw[e1,e2];show some (x.1*(bot xs / x.2)*M)=some (z*bot xs);have e3:bot xs / x.2=q:=by rw[hq];exact sce q (by omega)
  rw[e3]
  congr 1
  unfold Rp at hR;have e4:x.1*q*M=x.1*M*q:=by grind
  rw[e4,hR,hq]
  grind
 .rw[sbx (by rw[h.lx];omega),sbx (by rw[h.lz];omega)];rfl
theorem zBe {M Z:Int}{xs:List Fra}{zs:List Int}(S:Su w rs ks)(hM:0 < M)(hF:FI w M 18 xs zs)(hB:Bal w zs Z)(hk:∀ (k:Nat) (x:Fra),k∈ks->xs[k]?=some x->x.1=0)(hr:∀ (k:Nat) (x r:Fra),xs[k]?=some x->rs[k]?=some r->ztd x r) :
  zaI [zbi w,.lst (rs.map fr),zaT ks,.lst (xs.map fr)]=.ok .non:=by
 have sz:∀ (k:Nat) (x:Fra),xs[k]?=some x->Sz 18 x:=fun k x e=>by
  have hk':k < xs.length:=(sad.mp e).1;exact(hF.at_ k x (zs[k]'(by rw[hF.lz,← hF.lx];exact hk')) e (saa _)).1
 have hx:∀ x∈xs,zbo x:=fun x hm=>by
  obtain⟨k,e⟩:=scx hm;exact(sz k x e).fin (by decide)
 have hBd:∀ d∈xs.map fr,Bd d:=fun d hd=>by
  obtain⟨x,hm,rfl⟩:=saG.mp hd;intro a b e;have e':D.tup [.int x.1,.int x.2]=.tup [.int a,.int b]:=e;injection e' with e';injection e' with e1 e2;injection e1 with e1;injection e2 with e2 _;injection e2 with e2;rw[← e1,← e2];exact⟨(hx x hm).pN,(hx x hm).qN⟩
 have hl:(xs.map fr).length=w.ts.length:=by rw[sab];exact hF.lx
 obtain⟨pA,_⟩:=zxJ S hl hBd;obtain⟨qA,_⟩:=zz5 S.W hF.lx hx;obtain⟨hb,_⟩:=zrY hx;have hips:∀ P,ips P w.ts (szs xs)*M=Z*(dl P w.fi-dl P w.la)*bot xs:=fun P=>by
  rw[← ziC,zuR hF hx,ziC,hB.b]
 suffices hh:(∀ k,k < w.ts.length->gAt w rs ks (xs.map fr) k=true)/\(∀ k,k < w.ps.length->pAt w xs k=true) by
  rw[zla S,pA hh.1,qA hh.2];rfl
 refine⟨fun k hkl=>?_,fun k hkl=>?_⟩
 .obtain⟨t,r,d,a1,a2,a3,a4⟩:=at3 S hl hkl
  rw[sai] at a3;cases e:xs[k]? with
  | none=>rw[e] at a3;cases a3
  | some x =>
   rw[e] at a3;cases a3;have hs:=sz k x e;have hR:=hr k x r e a2;rw[a4,zop hs.l];have h1:(if decide (k∈ks)=true then x.1==0 else !(flt r ((x.1.natAbs:Int),x.2)))=true:=by
    cases c:decide (k∈ks) with
    | true=>rw[if_pos rfl,hk k x (of_decide_eq_true c) e];rfl
    | false =>
     rw[if_neg saD];have:flt r ((x.1.natAbs:Int),x.2)=false:=decide_eq_false (by have:=hR.le;show ¬ (r.1*x.2 < (x.1.natAbs:Int)*r.2);omega);rw[this];rfl
   have h2:(decide (x.1 < 0)&&decide (t.w="one"))=false:=by
    cases c:decide (t.w="one") with
    | false=>rw[sb0]
    | true =>
     have:=hF.one k t x a1 e (of_decide_eq_true c);rw[decide_eq_false (by omega)];rfl
   rw[h1,h2];rfl
 .have hp:w.ps[k]?=some w.ps[k]:=saa hkl
  unfold pAt;rw[hp];generalize w.ps[k]=p;show zq3 w (ips p w.ts (szs xs)) p=true;have h0:=hips p;unfold zq3
  by_cases c1:p=w.la
  .rw[if_pos c1]
  .rw[if_neg c1]
   by_cases c2:p=w.fi
   .rw[if_pos c2]
    have d1:dl p w.fi=1:=if_pos c2;have d2:dl p w.la=0:=if_neg c1;rw[d1,d2] at h0;have:¬ (ips p w.ts (szs xs) < 0):=fun hn=>by
     have:=scM hn hM;have h3:0<=Z*(1-0)*bot xs:=saZ (saZ hB.z (by decide)) (by omega);omega
    rw[decide_eq_false this];rfl
   .rw[if_neg c2]
    have d1:dl p w.fi=0:=if_neg c2;have d2:dl p w.la=0:=if_neg c1;rw[d1,d2] at h0;have h3:ips p w.ts (szs xs)*M=0:=by rw[h0];simp
    rcases Int.mul_eq_zero.mp h3 with h | h
    .rw[h];rfl
    .omega
end
structure El (d:D):Prop where
 b:Bd d
 k:okE d d=true
theorem zyQ {d:D}(h:zbb 39 d=true):okE d d=true:=by unfold okE;rw[h];simp
theorem zBI {x:Fra}(h1:x.1.natAbs < N60)(h2:x.2.natAbs < N60):El (fr x):=⟨fun a b e=>by
 have e':D.tup [.int x.1,.int x.2]=.tup [.int a,.int b]:=e;injection e' with e';injection e' with e1 e2;injection e1 with e1;injection e2 with e2 _;injection e2 with e2;rw[← e1,← e2];exact⟨h1,h2⟩,zyQ (znW x)⟩
theorem zp7 {n:Nat}{x:Fra}(h:Sz n x)(hn:n<=24):El (fr x):=zBI (h.fin hn).pN (h.fin hn).qN
theorem El.self {d:D}(h:El d):eqE d d=true:=by
 have k:=h.k;unfold okE at k;unfold eqE;cases e:isE d with
 | true=>rfl
 | false =>
  rw[e] at k;simp only[sa5,sbW,sc1] at k;rw[sbW];exact zdS 39 d k
theorem zDE {ds:List D}(h:∀ e∈ds,El e):zBR (.lst ds) (.lst ds)=.ok (.bl false):=by
 have hat:∀ j,j < ds.length->El (ds.getD j .non):=fun j hj=>by
  have:ds.getD j .non=ds[j]:=by simp [scE,saa hj]
  rw[this];exact h _ (saL hj)
 show(if zbb 40 (.lst ds)=true/\zbb 40 (.lst ds)=true then dNe (.lst ds) (.lst ds) else _)=_
 by_cases c:zbb 40 (.lst ds)=true
 .rw[if_pos ⟨c,c⟩]
  unfold dNe;rw[if_pos ⟨c,c⟩,zdS 40 _ c];rfl
 .rw[if_neg (fun z=>c z.1),if_pos ⟨rfl,saE.mpr fun j hj=>(hat j (sbu.mp hj)).k⟩]
  have:((saS ds.length).all fun j=>eqE (ds.getD j .non) (ds.getD j .non))=true:=saE.mpr fun j hj=>(hat j (sbu.mp hj)).self;rw[this];rfl
theorem zA2 {xs:List Fra}:zBR (.ob (.dint (zfk (xs.map fr).length)) (xs.map fr)) (.ob (.dint (zfk (xs.map fr).length)) (xs.map fr))=.ok (.bl false):=by
 have hs:(xs.map fr).all (zbb 39)=true:=zir xs;show(if _ then _ else _)=_;rw[if_pos ⟨rfl,rfl,rfl,hs,hs⟩];have:((saS (xs.map fr).length).all fun j=>eqD ((xs.map fr).getD j .non) ((xs.map fr).getD j .non))=true:=saE.mpr fun j hj=>by
  have hj':=sbu.mp hj;have e:(xs.map fr).getD j .non=(xs.map fr)[j]:=by simp [scE,saa hj']
  rw[e];exact zdS 39 _ (saE.mp hs _ (saL hj'))
 rw[this];rfl
theorem zDD {xs:List Fra}:zBR (.tup (xs.map fr)) (.tup (xs.map fr))=.ok (.bl false):=by
 have h:zbb 40 (.tup (xs.map fr))=true:=zir xs;show dNe (.tup (xs.map fr)) (.tup (xs.map fr))=_;unfold dNe;rw[if_pos ⟨h,h⟩,zdS 40 _ h];rfl
structure Th (d:D):Prop where
 ne:zBR d d=.ok (.bl false)
 h:zcY "list" d=.ok (.bl false)∨∃ ds,d=.lst ds/\∀ e∈ds,Bd e
theorem zmJ {ds:List D}(h:∀ e∈ds,El e):Th (.lst ds):=⟨zDE h,.inr ⟨ds,rfl,fun e he=>(h e he).b⟩⟩
theorem zDI {n:Int}(h:n.natAbs < N60):n.natAbs.log2 < 1920:=by
 by_cases c:n.natAbs=0
 .rw[c];decide
 .exact(Nat.log2_lt c).mpr (saf h (sal (show N60<=2 ^ 200 by decide) (sa6 (by decide) (by decide))))
theorem zDx {x:Fra}(h:Sz 1 x){v:Int}(hv:0<=v/\v < 16):∃ d,zhh [fr x,.int v]=.ok d/\El d:=by
 have hf:=h.fin (by decide);have p1:x.1.natAbs<=31000000000000000000:=h.p;have p2:x.2.natAbs<=31:=h.q;have hN:1000000000000000000000 < N60:=by decide
 have m1_:zcA x.1 2=true:=zcS (saf hf.pN zbN) (saf (show(2:Int).natAbs < N60 by decide) zbN);have m2_:zcA x.2 2=true:=zcS (saf hf.qN zbN) (saf (show(2:Int).natAbs < N60 by decide) zbN);have hs:zs3 (.int x.1)=.ok (.str (toString x.1)):=if_pos (zDI hf.pN);obtain⟨d,hd,hm⟩:=K35.ix_mem (ds:=[.bl true,.int 0,.str "0",.non,.tup [.int 0,.int 2],.tup [.int 0,.int 0],.lst [.int 0,.int 1],.tup [.int 0,.int 1,.int 1],.tup [.int (x.1*2),.int (x.2*2)],.tup [.int x.1,.int (-x.2)],.tup [.bl true,.int 1],.tup [.int x.1],.tup [.str (toString x.1),.int x.2],.tup [.int 1,.bl true],.int 7,.dic [] []]) (v:=v) hv.1 (by show v < 16;exact hv.2);have two:∀ a b:Int,a.natAbs < N60->b.natAbs < N60->El (.tup [.int a,.int b]):=fun a b h1 h2=>zBI (x:=(a,b)) h1 h2;refine⟨d,?_,?_⟩
 .rw[show fr x=.tup [.int x.1,.int x.2] from rfl]
  open_line with[zhh,znw,zbw m1_,zbw m2_,hs,hd]
 .have no:∀ e:D,(∀ a b,e≠.tup [.int a,.int b])->okE e e=true->El e:=fun e h1 h2=>⟨fun a b z=>absurd z (h1 a b),h2⟩
  simp only[sas,sa3,or_false] at hm;rcases hm with rfl | rfl | rfl | rfl | rfl | rfl | rfl | rfl | rfl | rfl | rfl | rfl | rfl | rfl | rfl | rfl
  .exact no _ (fun _ _ z=>by cases z) rfl
  .exact no _ (fun _ _ z=>by cases z) rfl
  .exact no _ (fun _ _ z=>by cases z) rfl
  .exact no _ (fun _ _ z=>by cases z) rfl
  .exact two _ _ (by decide) (by decide)
  .exact two _ _ (by decide) (by decide)
  .exact no _ (fun _ _ z=>by cases z) rfl
  .exact no _ (fun _ _ z=>by cases z) rfl
  .exact two _ _ (by omega) (by omega)
  .exact two _ _ (by omega) (by omega)
  .exact no _ (fun _ _ z=>by cases z) rfl
  .exact no _ (fun _ _ z=>by cases z) rfl
  .exact no _ (fun _ _ z=>by cases z) rfl
  .exact no _ (fun _ _ z=>by cases z) rfl
  .exact no _ (fun _ _ z=>by cases z) rfl
  .exact no _ (fun _ _ z=>by cases z) rfl
structure OC (rs xs:List Fra) (ks:List Nat) (vs:List Int) (k j:Nat) (one:Fra) (s d0 d5 d7:Int):Prop where
 hk:k < xs.length
 hj:j < xs.length
 rl:rs.length=xs.length
 xz:∀ x∈xs,Sz 18 x
 rz:∀ r∈rs,Sz 19 r
 kz:∀ n∈ks,n < xs.length
 o:Sz 1 one
 s1:s=1∨s=-1
 i0:dIx (.lst (vs.map D.int)) (.int 0)=.ok (.int d0)
 i5:dIx (.lst (vs.map D.int)) (.int 5)=.ok (.int d5)
 i7:dIx (.lst (vs.map D.int)) (.int 7)=.ok (.int d7)
 b5:0<=d5/\d5 < 30
 b7:0<=d7/\d7 < 16
structure OQ (xs:List Fra) (d0:Int) (ds:List D):Prop where
 el:∀ e∈ds,El e
 len:ds.length=xs.length
 same:d0=11->ds=xs.map fr
theorem OQ.put {xs:List Fra}{d0:Int}{ds:List D}{d:D}{k:Nat}(h:OQ xs d0 ds)(hd:El d)(h11:d0≠11):OQ xs d0 (ds.set k d) :=
 ⟨fun e he=>(zog he).elim (fun z=>z▸hd) (h.el e),by rw[sbE];exact h.len,fun z=>absurd z h11⟩
abbrev oEv (rs xs:List Fra)(ks:List Nat)(vs:List Int)(k j:Nat)(one:Fra)(s:Int)(ds:List D)(x9:Sl):Ev:=[.sh (.lst (rs.map fr)),.sh (zaT ks),.sh (.lst (xs.map fr)),.sh (.lst (vs.map D.int)),.ow (.lst ds),.sh (.int (k:Int)),.sh (.int (j:Int)),.sh (fr one),.sh (.int s),x9]
theorem zeK {ds:List D}{d:D}{k:Nat}(h:k < ds.length)(ρ:Ev)(i:Nat):DL.putAt ρ i ds d (.int (k:Int))=.ok (.nx (ρ.set i (.ow (.lst (ds.set k d))))):=zfJ (zvV h)
theorem at0 (x:Fra):dIx (fr x) (.int 0)=.ok (.int x.1):=rfl
theorem at1 (x:Fra):dIx (fr x) (.int 1)=.ok (.int x.2):=rfl
theorem zq6 {xs:List Fra}{k:Nat}(h:k < xs.length):dIx (.lst (xs.map fr)) (.int (k:Int))=.ok (fr xs[k]):=zdf (by rw[sai,saa h];rfl)
theorem zEJ {s:Int}{x:Fra}(hs:s=1∨s=-1)(hx:zbo x):zcA s x.1=true:=zcS (saf (show s.natAbs < N60 by rcases hs with rfl | rfl<;>decide) zbN) (saf hx.pN zbN)
theorem zxh {n:Nat}{s:Int}{x:Fra}(h:Sz n x)(hn:n<=24)(hs:s=1∨s=-1):El (.tup [.int (s*x.1),.int x.2]):=zp7 (h.sgn hs) hn
section
variable {rs xs:List Fra}{ks:List Nat}{vs:List Int}{k j:Nat}{one:Fra}{s d0 d5 d7:Int}{ds:List D}{x9:Sl}
theorem s4 (C:OC rs xs ks vs k j one s d0 d5 d7)(q:OQ xs d0 ds):∃ ds' y9,st4 (oEv rs xs ks vs k j one s ds x9)=.ok (.nx (oEv rs xs ks vs k j one s ds' y9))/\OQ xs d0 ds':=by
 have i0:=C.i0;have hkx:=C.hk;have hjx:=C.hj;have m_:=zEJ C.s1 (C.o.fin (by decide));have hp:=zeK (ds:=ds) (d:=.tup [.int (s*one.1),.int one.2]) (k:=k) (by rw[q.len];exact C.hk);unfold st4 oEv;generalize vs.map D.int=V at *;cases c:(d0==4) with
 | false=>exact⟨ds,x9,by open_line with[i0,c],q⟩
 | true =>
  have e:=eq_of_beq c;refine⟨ds.set k (.tup [.int (s*one.1),.int one.2]),x9,?_,q.put (zxh C.o (by decide) C.s1) (by omega)⟩;open_line with[i0,c,at0,at1,zbw m_,hp]
theorem s5 (C:OC rs xs ks vs k j one s d0 d5 d7)(q:OQ xs d0 ds):∃ ds' y9,st5 (oEv rs xs ks vs k j one s ds x9)=.ok (.nx (oEv rs xs ks vs k j one s ds' y9))/\OQ xs d0 ds':=by
 have i0:=C.i0;have hkx:=C.hk;have hjx:=C.hj;have i5:=C.i5;have hkr:k < rs.length:=by rw[C.rl];exact C.hk
 have ir:=zq6 hkr;have hr:=C.rz rs[k] (saL hkr);have hu:=zuD C.b5;have hpl:=ztH (hr.fin (by decide)) (hu.fin (by decide)) (s:=1) (.inl rfl);have hS:=hr.add hu (s:=1) (.inl rfl);rw[show fr (1,1+d5)=.tup [.int 1,.int (1+d5)] from rfl] at hpl;generalize zkJ rs[k] (1,1+d5) 1=y at *;have m_:=zEJ C.s1 (hS.fin (by decide));have hp:=zeK (ds:=ds) (d:=.tup [.int (s*y.1),.int y.2]) (k:=k) (by rw[q.len];exact C.hk);unfold st5 oEv;generalize vs.map D.int=V at *;cases c:(d0==5) with
 | false=>exact⟨ds,x9,by open_line with[i0,c],q⟩
 | true =>
  have e:=eq_of_beq c;refine⟨ds.set k (.tup [.int (s*y.1),.int y.2]),.sh (fr y),?_,q.put (zxh hS (by decide) C.s1) (by omega)⟩;open_line with[i0,c,ir,i5,hpl,at0,at1,zbw m_,hp]
theorem s6 (C:OC rs xs ks vs k j one s d0 d5 d7)(q:OQ xs d0 ds):∃ ds' y9,st6 (oEv rs xs ks vs k j one s ds x9)=.ok (.nx (oEv rs xs ks vs k j one s ds' y9))/\OQ xs d0 ds':=by
 have i0:=C.i0;have hkx:=C.hk;have hjx:=C.hj;have hkr:k < rs.length:=by rw[C.rl];exact C.hk
 have ir:=zq6 hkr;have hr:=C.rz rs[k] (saL hkr);generalize rs[k]=y at *;have m_:=zEJ C.s1 (hr.fin (by decide));have hp:=zeK (ds:=ds) (d:=.tup [.int (s*y.1),.int y.2]) (k:=k) (by rw[q.len];exact C.hk);unfold st6 oEv;generalize vs.map D.int=V at *;cases c:(d0==6) with
 | false=>exact⟨ds,x9,by open_line with[i0,c],q⟩
 | true =>
  have e:=eq_of_beq c;refine⟨ds.set k (.tup [.int (s*y.1),.int y.2]),x9,?_,q.put (zxh hr (by decide) C.s1) (by omega)⟩;open_line with[i0,c,ir,at0,at1,zbw m_,hp]
theorem s7 (C:OC rs xs ks vs k j one s d0 d5 d7)(q:OQ xs d0 ds):∃ ds' y9,st7 (oEv rs xs ks vs k j one s ds x9)=.ok (.nx (oEv rs xs ks vs k j one s ds' y9))/\OQ xs d0 ds':=by
 have i0:=C.i0;have hkx:=C.hk;have hjx:=C.hj;have i7:=C.i7;obtain⟨d,hd,he⟩:=zDx C.o C.b7;have hp:=zeK (ds:=ds) (d:=d) (k:=k) (by rw[q.len];exact C.hk);unfold st7 oEv;generalize vs.map D.int=V at *;cases c:(d0==7) with
 | false =>
  cases c2:(d0==13) with
  | false=>exact⟨ds,x9,by open_line with[i0,c,c2],q⟩
  | true =>
   have e:=eq_of_beq c2;exact⟨ds.set k d,x9,by open_line with[i0,c,c2,i7,hd,hp],q.put he (by omega)⟩
 | true =>
  have e:=eq_of_beq c;exact⟨ds.set k d,x9,by open_line with[i0,c,i7,hd,hp],q.put he (by omega)⟩
theorem s8 (C:OC rs xs ks vs k j one s d0 d5 d7)(q:OQ xs d0 ds)(h14:xs.length<=14):∃ ds' y9,st8 (oEv rs xs ks vs k j one s ds x9)=.ok (.nx (oEv rs xs ks vs k j one s ds' y9))/\OQ xs d0 ds':=by
 have i0:=C.i0;have hkx:=C.hk;have hjx:=C.hj;have hcomp:∀ ρ,ziR 1 [] (zea 0) mYes (zak (zad (zaY (zac (zag 0) (dC (.int 0)) dIx) znq) (zad (zac (zag 0) (dC (.int 1)) dIx) zar)) zcZ) ρ (xs.map fr)=.ok (.lst (xs.map fun x=>.tup [.int (-x.1),.int x.2])):=fun ρ=>by
  rw[zf4 (F:=fun d=>match d with | .tup [.int a,.int b]=>.tup [.int (-a),.int b] | d=>d) (by rw[sab];omega)]
  .rw[sa2];rfl
  .intro d hd
   obtain⟨x,_,rfl⟩:=saG.mp hd;exact⟨[.sh (fr x)],rfl,rfl,by open_line with[at0,at1];rfl⟩
 unfold st8 oEv;generalize hV:vs.map D.int=V at *;cases c:(d0==8) with
 | false=>exact⟨ds,x9,by open_line with[i0,c],q⟩
 | true =>
  have e:=eq_of_beq c;refine⟨xs.map fun x=>.tup [.int (-x.1),.int x.2],x9,by open_line with[i0,c,hcomp],⟨fun e he=>?_,by rw[sab],fun z=>by omega⟩⟩;obtain⟨x,hx,rfl⟩:=saG.mp he;have:=zxh (C.xz x hx) (by decide) (s:=-1) (.inr rfl);rw[show(-1*x.1)=-x.1 by omega] at this;exact this
theorem s9 (C:OC rs xs ks vs k j one s d0 d5 d7)(q:OQ xs d0 ds):∃ ds' y9,st9 (oEv rs xs ks vs k j one s ds x9)=.ok (.nx (oEv rs xs ks vs k j one s ds' y9))/\OQ xs d0 ds':=by
 have i0:=C.i0;have hkx:=C.hk;have hjx:=C.hj;have ik:=zq6 C.hk;have ij:=zq6 C.hj;have ek:=zp7 (C.xz xs[k] (saL C.hk)) (by decide);have ej:=zp7 (C.xz xs[j] (saL C.hj)) (by decide);generalize fr xs[k]=y at *;generalize fr xs[j]=z at *;have hp:=zeK (ds:=ds) (d:=z) (k:=k) (by rw[q.len];exact C.hk);have hp2:=zeK (ds:=ds.set k z) (d:=y) (k:=j) (by rw[sbE,q.len];exact C.hj);unfold st9 oEv;generalize vs.map D.int=V at *;cases c:(d0==9) with
 | false=>exact⟨ds,x9,by open_line with[i0,c],q⟩
 | true =>
  have e:=eq_of_beq c;refine⟨(ds.set k z).set j y,x9,?_,(q.put ej (by omega)).put ek (by omega)⟩;open_line with[i0,c,ik,ij,hp,hp2]
theorem s10 (C:OC rs xs ks vs k j one s d0 d5 d7)(q:OQ xs d0 ds):∃ ds' y9,zFa (oEv rs xs ks vs k j one s ds x9)=.ok (.nx (oEv rs xs ks vs k j one s ds' y9))/\OQ xs d0 ds':=by
 have i0:=C.i0;have hkx:=C.hk;have hjx:=C.hj;have ij:=zq6 C.hj;have hx:=C.xz xs[j] (saL C.hj);have hpl:=ztH (hx.fin (by decide)) (C.o.fin (by decide)) C.s1;have hS:=zp7 (hx.add C.o C.s1) (by decide);generalize fr (zkJ xs[j] one s)=y at *;have hp:=zeK (ds:=ds) (d:=y) (k:=j) (by rw[q.len];exact C.hj);unfold zFa oEv;generalize vs.map D.int=V at *;cases c:(d0==10) with
 | false =>
  cases c2:(d0==13) with
  | false=>exact⟨ds,x9,by open_line with[i0,c,c2],q⟩
  | true =>
   have e:=eq_of_beq c2;exact⟨ds.set j y,x9,by open_line with[i0,c,c2,ij,hpl,hp],q.put hS (by omega)⟩
 | true =>
  have e:=eq_of_beq c;exact⟨ds.set j y,x9,by open_line with[i0,c,ij,hpl,hp],q.put hS (by omega)⟩
theorem s11 (C:OC rs xs ks vs k j one s d0 d5 d7)(q:OQ xs d0 ds):∃ ds' y9,zEH (oEv rs xs ks vs k j one s ds x9)=.ok (.nx (oEv rs xs ks vs k j one s ds' y9))/\(∀ e∈ds',El e)/\ds'.length=xs.length:=by
 have i0:=C.i0;have hkx:=C.hk;have hjx:=C.hj;have i5:=C.i5;cases c:(d0==11) with
 | false =>
  refine⟨ds,x9,?_,q.el,q.len⟩;unfold zEH oEv;generalize vs.map D.int=V at *;open_line with[i0,c]
 | true =>
  have e:=eq_of_beq c;have hds:=q.same e;subst hds;have ik:=zq6 C.hk;have hx:=C.xz xs[k] (saL C.hk);have hu:=zuD C.b5;have hs':-s=1∨-s=-1:=by rcases C.s1 with h | h<;>omega
  have hpl:=ztH (hx.fin (by decide)) (hu.fin (by decide)) C.s1;have hS:=hx.add hu C.s1;rw[show fr (1,1+d5)=.tup [.int 1,.int (1+d5)] from rfl] at hpl;generalize hy:zkJ xs[k] (1,1+d5) s=y at *;have hset:((xs.map fr).set k (fr y))=(xs.set k y).map fr:=by rw[List.map_set]
  have hp:=zeK (ds:=xs.map fr) (d:=fr y) (k:=k) (by rw[sab];exact C.hk);rw[hset] at hp;have hjl:j < (xs.set k y).length:=by rw[sbE];exact C.hj
  have ij:=zq6 hjl;have hz:∀ x∈xs.set k y,Sz 19 x:=fun x hm=>by
   rcases zog hm with rfl | hm
   .exact hS
   .exact(C.xz x hm).mono (by decide)
  have hxj:=hz (xs.set k y)[j] (saL hjl);generalize (xs.set k y)[j]=u at *;have hpl2:=ztH (hxj.fin (by decide)) (hu.fin (by decide)) hs';have hS2:=zp7 (hxj.add hu hs') (by decide);rw[show fr (1,1+d5)=.tup [.int 1,.int (1+d5)] from rfl] at hpl2;have hfl:zln (fr (zkJ u (1,1+d5) (-s)))=true:=rfl;generalize fr (zkJ u (1,1+d5) (-s))=v at *;have hp2:=zeK (ds:=(xs.set k y).map fr) (d:=v) (k:=j) (by rw[sab];exact hjl);refine⟨((xs.set k y).map fr).set j v,x9,?_,fun e he=>?_,by rw[sbE,sab,sbE]⟩
  .unfold zEH oEv
   generalize vs.map D.int=V at *;open_line with[i0,c,ik,i5,hpl,hp,ij,hpl2,zsW hfl,hp2]
  .rcases zog he with rfl | he
   .exact hS2
   .obtain⟨x,hx,rfl⟩:=saG.mp he
    exact zp7 (hz x hx) (by decide)
theorem zA1 {ks:List Nat}:dNe (zaT ks) (.lst [])=.ok (.bl (!(ks.isEmpty))):=by
 cases ks with
 | nil=>rfl
 | cons a r=>rw[Wex.nums_some];rfl
theorem s12 (C:OC rs xs ks vs k j one s d0 d5 d7)(q1:∀ e∈ds,El e)(q2:ds.length=xs.length):∃ ds' y9,zCI (oEv rs xs ks vs k j one s ds x9)=.ok (.nx (oEv rs xs ks vs k j one s ds' y9))/\(∀ e∈ds',El e)/\ds'.length=xs.length:=by
 have i0:=C.i0;have hkx:=C.hk;have hjx:=C.hj;have hmt:zcP []=.ok (.lst []):=rfl;have hne:=zA1 (ks:=ks);cases c:(d0==12) with
 | false =>
  refine⟨ds,x9,?_,q1,q2⟩;unfold zCI oEv;generalize vs.map D.int=V at *;open_line with[i0,c]
 | true =>
  cases ks with
  | nil =>
   refine⟨ds,x9,?_,q1,q2⟩;have hne':dNe (zaT []) (.lst [])=.ok (.bl false):=rfl;unfold zCI oEv;generalize vs.map D.int=V at *;open_line with[i0,c,hmt,hne']
  | cons a r =>
   have hne':dNe (zaT (a::r)) (.lst [])=.ok (.bl true):=Wex.nums_some;have hlen:zgt (zaT (a::r))=.ok (.int ((r.length:Int)+1)):=by
    show Res.ok (D.int (((a::r).map fun(k:Nat)=>D.int (k:Int)).length:Int))=_;rw[sab,sar];rfl
   have hfm:=zde (a:=(k:Int)) (b:=(r.length:Int)+1) (by omega);have hmod:=zhy (a:=(k:Int)) (b:=(r.length:Int)+1) (by omega);obtain⟨d,hd,hm⟩:=K35.ix_mem (ds:=(a::r).map fun(k:Nat)=>D.int (k:Int)) (v:=(k:Int).fmod ((r.length:Int)+1)) hfm.1 (by rw[sab,sar];exact hfm.2);obtain⟨n,hn,rfl⟩:=saG.mp hm;change dIx (zaT (a::r)) _=_ at hd;have m_:=zEJ C.s1 (C.o.fin (by decide));have hp:=zeK (ds:=ds) (d:=.tup [.int (s*one.1),.int one.2]) (k:=n) (by rw[q2];exact C.kz n hn);refine⟨ds.set n (.tup [.int (s*one.1),.int one.2]),x9,?_,fun e he=>(zog he).elim (fun z=>z▸zxh C.o (by decide) C.s1) (q1 e),by rw[sbE];exact q2⟩;unfold zCI oEv;generalize vs.map D.int=V at *;generalize zaT (a::r)=N at *;open_line with[i0,c,hmt,hne',at0,at1,zbw m_,hlen,hmod,hd,hp]
theorem zDv {w0 w1 w2:Int}(C:OC rs xs ks vs k j one s d0 d5 d7)(h14:xs.length<=14){d1 d2 d6:Int}(i1:dIx (.lst (vs.map D.int)) (.int 1)=.ok (.int d1))(i2:dIx (.lst (vs.map D.int)) (.int 2)=.ok (.int d2))(i6:dIx (.lst (vs.map D.int)) (.int 6)=.ok (.int d6))(b6:0<=d6/\d6 < 2)
  (hk:d1.fmod (xs.length:Int)=(k:Int))(hj:d2.fmod (xs.length:Int)=(j:Int))(hcut:zmA (vs.map D.int) (some 3) (some 6)=[.int w0,.int w1,.int w2])(hf:zax [.lst [.int w0,.int w1,.int w2]]=.ok (fr one))(hs:s=1-2*d6) :
  ∃ ds,zbW [.lst (rs.map fr),zaT ks,.lst (xs.map fr),.lst (vs.map D.int)]=.ok (.lst ds)/\(∀ e∈ds,El e)/\ds.length=xs.length:=by
 have q0:OQ xs d0 (xs.map fr):=⟨fun e he=>by
  obtain⟨x,hx,rfl⟩:=saG.mp he;exact zp7 (C.xz x hx) (by decide),by rw[sab],fun _=>rfl⟩
 obtain⟨e4,y4,t4,q4⟩:=s4 (x9:=.no) C q0;obtain⟨e5,y5,t5,q5⟩:=s5 (x9:=y4) C q4;obtain⟨e6,y6,t6,q6⟩:=s6 (x9:=y5) C q5;obtain⟨e7,y7,t7,q7⟩:=s7 (x9:=y6) C q6;obtain⟨e8,y8,t8,q8⟩:=s8 (x9:=y7) C q7 h14;obtain⟨e9,y9,t9,q9⟩:=s9 (x9:=y8) C q8;obtain⟨e10,y10,t10,q10⟩:=s10 (x9:=y9) C q9;obtain⟨e11,y11,t11,q11,q11'⟩:=s11 (x9:=y10) C q10;obtain⟨e12,y12,t12,q12,q12'⟩:=s12 (x9:=y11) C q11 q11';refine⟨e12,?_,q12,q12'⟩;have hne:((xs.length:Int))≠0:=by have:=C.hk;omega
 have hm1:=zhy (a:=d1) hne;have hm2:=zhy (a:=d2) hne;rw[hk] at hm1;rw[hj] at hm2;have m2_:zcA 2 d6=true:=zev (by decide) (by omega);have hsub:zl9 (.int 1) (.int (2*d6))=.ok (.int s):=by rw[hs];rfl
 unfold oEv at t4 t5 t6 t7 t8 t9 t10 t11 t12;open_line with[zbW,zfq,i1,i2,i6,sab,hm1,hm2,hcut,hf,zbw m2_,hsub,t4,t5,t6,t7,t8,t9,t10,t11,t12]
end
theorem zyT {xs:List Fra}:dNe (.lst (xs.map fr)) (.lst [])=.ok (.bl (!(xs.isEmpty))):=by
 have h:zbb 40 (.lst (xs.map fr))=true:=zir xs;unfold dNe;rw[if_pos ⟨h,rfl⟩,zjz];cases xs<;>rfl
theorem zoN {xs:List Fra}:dEq (.lst (xs.map fr)) (.lst [])=.ok (.bl xs.isEmpty):=by
 have h:zbb 40 (.lst (xs.map fr))=true:=zir xs;unfold dEq;rw[if_pos ⟨h,rfl⟩,zjz];cases xs<;>rfl
section
variable {rs xs:List Fra}{ks:List Nat}
theorem zuX (h14:xs.length<=14)(rl:rs.length=xs.length)(xz:∀ x∈xs,Sz 18 x)(rz:∀ r∈rs,Sz 19 r)(kz:∀ n∈ks,n < xs.length)(c:Int):∃ d,za8 [.lst (rs.map fr),zaT ks,.lst (xs.map fr),.int c]=.ok d/\Th d:=by
 obtain⟨vs,hv,V⟩:=Cod.draws_ok c [14,360360,360360,5,1000000000000000000,30,2,16] (by decide) (by decide);have hvl:vs.length=8:=V.len;obtain⟨d0,g0,b0,i0⟩:=V.ix 0 0 rfl rfl;obtain⟨d1,g1,b1,i1⟩:=V.ix 1 1 rfl rfl;obtain⟨d2,g2,b2,i2⟩:=V.ix 2 2 rfl rfl;obtain⟨d3,g3,b3,i3⟩:=V.ix 3 3 rfl rfl;obtain⟨d4,g4,b4,i4⟩:=V.ix 4 4 rfl rfl;obtain⟨d5,g5,b5,i5⟩:=V.ix 5 5 rfl rfl;obtain⟨d6,g6,b6,i6⟩:=V.ix 6 6 rfl rfl;obtain⟨d7,g7,b7,i7⟩:=V.ix 7 7 rfl rfl;have hcut:=zFQ (x:=3) (y:=6) (i:=3) (by decide) (by decide) g3 g4 g5;have hv':Cod.zaH [.int c,.lst [.int 14,.int 360360,.int 360360,.int 5,.int 1000000000000000000,.int 30,.int 2,.int 16]]=.ok (.lst (vs.map D.int)):=hv;have hmt:zcP []=.ok (.lst []):=rfl;have hxe:∀ e∈xs.map fr,El e:=fun e he=>by
  obtain⟨x,hx,rfl⟩:=saG.mp he;exact zp7 (xz x hx) (by decide)
 have hne:=zyT (xs:=xs);have heq:=zoN (xs:=xs);have hone:xs≠[]->∃ ds,zbW [.lst (rs.map fr),zaT ks,.lst (xs.map fr),.lst (vs.map D.int)]=.ok (.lst ds)/\(∀ e∈ds,El e)/\ds.length=xs.length:=fun hx=>by
  have hp:0 < xs.length:=List.length_pos_iff.mpr hx;have f1:=zde (a:=d1) (b:=(xs.length:Int)) (by omega);have f2:=zde (a:=d2) (b:=(xs.length:Int)) (by omega);obtain⟨one,ho,so,_⟩:=zq5 b3 b4 b5;exact zDv (k:=(d1.fmod (xs.length:Int)).toNat) (j:=(d2.fmod (xs.length:Int)).toNat) (one:=one) (s:=1-2*d6) (d0:=d0) (d5:=d5) (d7:=d7) ⟨by omega,by omega,rl,xz,rz,kz,so,by omega,i0,i5,i7,b5,b7⟩ h14 i1 i2 i6 b6 (by omega) (by omega) hcut ho rfl
 generalize hVd:vs.map D.int=Vd at *;cases c0:(d0==0) with
 | true =>
  refine⟨.lst (xs.map fr),?_,zmJ hxe⟩;open_line with[za8,zbJ,zf1,hv',i0,c0]
 | false =>
  cases c1:(d0==1) with
  | true =>
   have f3:=zde (a:=d1) (b:=3) (by decide);have hm3:=zhy (a:=d1) (b:=3) (by decide);have hrep:=zoy (x:=.tup [.int 0,.int 1]) (k:=1+d1.fmod 3) (by rw[decide_eq_true (by omega),decide_eq_true (by omega)];rfl);have hadd:=zf0 (ds:=xs.map fr) (es:=sat (1+d1.fmod 3).toNat (.tup [.int 0,.int 1])) (decide_eq_true (by rw[sab,sbw];omega));refine⟨.lst (xs.map fr++sat (1+d1.fmod 3).toNat (.tup [.int 0,.int 1])),?_,zmJ fun e he=>?_⟩
   .generalize sat (1+d1.fmod 3).toNat (D.tup [.int 0,.int 1])=Rp at *
    open_line with[za8,zbJ,zf1,hv',i0,c0,c1,i1,hm3,hrep,hadd]
   .rcases saQ.mp he with he | he
    .exact hxe e he
    .rw[(List.mem_replicate.mp he).2]
     exact zBI (x:=(0,1)) (by decide) (by decide)
  | false =>
   cases c2:(d0==2) with
   | true =>
    have c3:(d0==3)=false:=by have:=eq_of_beq c2;exact beq_eq_false_iff_ne.mpr (by omega)
    cases hx:xs with
    | nil =>
     subst hx;have hne':dNe (.lst []) (.lst [])=.ok (.bl false):=rfl;have heq':dEq (.lst []) (.lst [])=.ok (.bl true):=rfl;refine⟨.lst [],?_,zmJ fun e he=>(nomatch he)⟩;rw[sbA];open_line with[za8,zbJ,zf1,hv',i0,c0,c1,c2,c3,hmt,hne',heq']
    | cons a r =>
     have hie:xs.isEmpty=false:=by rw[hx];rfl
     rw[hie] at hne;rw[← hx];have hn0:(xs.length:Int)≠0:=by rw[hx,sar];omega
     have hm:=zhy (a:=d1) hn0;refine⟨.lst (zmA (xs.map fr) none (some (d1.fmod (xs.length:Int)))),?_,zmJ fun e he=>hxe e (zBW he)⟩;open_line with[za8,zbJ,zf1,hv',i0,c0,c1,c2,hmt,hne,i1,sab,hm]
   | false =>
    cases c3:(d0==3) with
    | true =>
     have f7:=zde (a:=d1) (b:=7) (by decide);have hm7:=zhy (a:=d1) (b:=7) (by decide);have htu:zxv (.lst (xs.map fr))=.ok (.tup (xs.map fr)):=rfl;have hdi:zBT (.lst (xs.map fr))=.ok (.ob (.dint (zfk (xs.map fr).length)) (xs.map fr)):=rfl;obtain⟨d,hd,hm⟩:=K35.ix_mem (ds:=[.tup (xs.map fr),.non,.dic [] [],.str "flow",.int 7,.bl true,.ob (.dint (zfk (xs.map fr).length)) (xs.map fr)]) (v:=d1.fmod 7) f7.1 (by show _ < 7;exact f7.2);refine⟨d,?_,?_⟩
     .generalize D.ob (.dint (zfk (xs.map fr).length)) (xs.map fr)=O at *
      generalize D.tup (xs.map fr)=Tp at *;open_line with[za8,zbJ,zf1,hv',i0,c0,c1,c2,c3,htu,hdi,i1,hm7,hd]
     .simp only[sas,sa3,or_false] at hm
      rcases hm with rfl | rfl | rfl | rfl | rfl | rfl | rfl
      .exact⟨zDD,.inl rfl⟩
      .exact⟨rfl,.inl rfl⟩
      .exact⟨rfl,.inl rfl⟩
      .exact⟨rfl,.inl rfl⟩
      .exact⟨rfl,.inl rfl⟩
      .exact⟨rfl,.inl rfl⟩
      .exact⟨zA2,.inl rfl⟩
    | false =>
     cases hx:xs with
     | nil =>
      subst hx;have heq':dEq (.lst []) (.lst [])=.ok (.bl true):=rfl;refine⟨.lst [],?_,zmJ fun e he=>(nomatch he)⟩;rw[sbA];open_line with[za8,zbJ,zf1,hv',i0,c0,c1,c2,c3,hmt,heq']
     | cons a r =>
      have hie:xs.isEmpty=false:=by rw[hx];rfl
      rw[hie] at heq;obtain⟨ds,hds,hel,_⟩:=hone (by rw[hx];simp);rw[← hx];refine⟨.lst ds,?_,zmJ hel⟩;open_line with[za8,zbJ,zf1,hv',i0,c0,c1,c2,c3,hmt,heq,hds]
end
theorem zD4 {ρ:Ev}:zCu ρ=.ok (.lst (fSz.map D.int)):=rfl
theorem zCW {w:Web}(W:zha w):zha { w with ps:=w.ps.reverse }:=⟨by rw[scD];exact W.n2,by rw[scD];exact W.n7,⟨List.pairwise_reverse.mpr (W.nm.nd.imp fun h=>saW h),fun z hz=>W.nm.nm z (sct.mp hz)⟩,W.t14,fun t ht=>let h:=W.ts t ht;⟨sct.mpr h.a,sct.mpr h.b,h.ne,h.w,h.l,h.l0,h.o⟩,sct.mpr W.fi,sct.mpr W.la,W.ne⟩
theorem zvF {w:Web}{rs:List Fra}{ks:List Nat}:dNe (.tup [zbi w,.lst (rs.map fr),zaT ks]) (.tup [zbi w,.lst (rs.map fr),zaT ks])=.ok (.bl false):=by
 have h1:zbb 39 (zbi w)=true:=by
  have a1:zbb 38 (.lst (w.ps.map D.str))=true:=zkQ;have a2:zbb 38 (.lst (w.ts.map zbA))=true:=saE.mpr fun d hd=>by
   obtain⟨t,_,rfl⟩:=saG.mp hd;exact zyr
  show(zbb 38 (.lst (w.ps.map D.str))&&(zbb 38 (.lst (w.ts.map zbA))&&(zbb 38 (.str w.fi)&&(zbb 38 (.str w.la)&&true))))=true;rw[a1,a2];rfl
 have h2:zbb 39 (.lst (rs.map fr))=true:=zys rs;have h3:zbb 39 (zaT ks)=true:=Wex.shal_nums;have h:zbb 40 (.tup [zbi w,.lst (rs.map fr),zaT ks])=true:=by
  show(zbb 39 (zbi w)&&(zbb 39 (.lst (rs.map fr))&&(zbb 39 (zaT ks)&&true)))=true;rw[h1,h2,h3];rfl
 unfold dNe;rw[if_pos ⟨h,h⟩,zdS 40 _ h];rfl
theorem zyW (ns:List Int)(hn:ns.length<=63):zvJ [.lst (ns.map D.int)]=.ok (.bl true):=by
 obtain⟨w0,c1,c2,hcells,hc2,htl,hw0,W0⟩:=Cod.web_cells hn;have h14:=W0.t14;have hadd0:zca (.lst (c2.map D.int)) (.lst [.int 0])=.ok (.lst ((c2++[0]).map D.int)):=by
  rw[zf0 (decide_eq_true (by rw[sab];simp;omega)),saU];rfl
 obtain⟨q0,hq0⟩:∃ q0,dIx (.lst ((c2++[0]).map D.int)) (.int 0)=.ok (.int q0):=by
  cases c2 with
  | nil=>exact⟨0,rfl⟩
  | cons a r=>exact⟨a,zlt⟩
 obtain⟨vs,hv,V⟩:=Cod.draws_ok q0 fSz (by decide) (by decide);obtain⟨v27,_,_,i27⟩:=V.ix 27 27 rfl rfl;obtain⟨v28,_,_,i28⟩:=V.ix 28 28 rfl rfl;obtain⟨w,W,hwts,hif⟩:∃ w:Web,zha w/\w.ts=w0.ts/\∀ a2 a4 a5 a6 a7 a8 a9 a10 a11 a12:Sl,wIf [.sh (.lst (ns.map D.int)),.sh (zbi w0),a2,.sh (.lst (vs.map D.int)),a4,a5,a6,a7,a8,a9,a10,a11,a12]=.ok (.nx [.sh (.lst (ns.map D.int)),.sh (zbi w),a2,.sh (.lst (vs.map D.int)),a4,a5,a6,a7,a8,a9,a10,a11,a12]):=by
  have j0:dIx (zbi w0) (.int 0)=.ok (.lst (w0.ps.map D.str)):=rfl;have j1:dIx (zbi w0) (.int 1)=.ok (.lst (w0.ts.map zbA)):=rfl;have j2:dIx (zbi w0) (.int 2)=.ok (.str w0.fi):=rfl;have j3:dIx (zbi w0) (.int 3)=.ok (.str w0.la):=rfl;have jr:zFO (.lst (w0.ps.map D.str))=.ok (.lst (w0.ps.reverse.map D.str)):=by
   show Res.ok (D.lst (w0.ps.map D.str).reverse)=_;rw[List.map_reverse]
  have jt:zcZ [.lst (w0.ps.reverse.map D.str),.lst (w0.ts.map zbA),.str w0.fi,.str w0.la]=.ok (zbi { w0 with ps:=w0.ps.reverse }):=rfl;generalize vs.map D.int=Vd at *;cases c:(v28==1) with
  | false =>
   refine⟨w0,W0,rfl,fun a2 a4 a5 a6 a7 a8 a9 a10 a11 a12=>?_⟩;unfold wIf;open_line with[i28,c]
  | true =>
   refine⟨{ w0 with ps:=w0.ps.reverse },zCW W0,rfl,fun a2 a4 a5 a6 a7 a8 a9 a10 a11 a12=>?_⟩;unfold wIf;open_line with[i28,c,j0,j1,j2,j3,jr]
   rfl
 have h14w:=W.t14;obtain⟨M,Z,xs,zs,hfl,hM,hF,hB⟩:=zBd W V;have hxl:=hF.lx;have xz:∀ x∈xs,Sz 18 x:=fun x hm=>by
  obtain⟨k,e⟩:=scx hm;have hk:k < xs.length:=(sad.mp e).1;exact(hF.at_ k x (zs[k]'(by rw[hF.lz,← hF.lx];exact hk)) e (saa _)).1
 obtain⟨ks,htk,T,hk0⟩:=zEX W hxl v27;obtain⟨ms,hms,hml,hm1⟩:=zyx hcells (by omega);have hlm:xs.length=ms.length:=by rw[hxl,hwts,htl,hml]
 obtain⟨rs,hrl,hro,x7,x8,hrm⟩:=zAB (xs:=xs) (ms:=ms) (a0:=.sh (.lst (ns.map D.int))) (a1:=.sh (zbi w)) (a2:=.sh (.lst (fSz.map D.int))) (a3:=.sh (.lst (vs.map D.int))) (a4:=.sh (.lst (xs.map fr))) (a5:=.sh (zaT ks)) (a9:=.no) (a10:=.no) (a11:=.no) (a12:=.no) hlm (by omega) xz hm1;have rro:∀ r∈rs,Sz 19 r/\0<=r.1:=fun r hm=>by
  obtain⟨k,e⟩:=scx hm;have hk:k < rs.length:=(sad.mp e).1;have:=hro k (xs[k]'(by omega)) r (saa _) e;exact⟨this.s,this.n⟩
 have S:Su w rs ks:=⟨W,T,by omega,fun r hm=>⟨(rro r hm).1.fin (by decide),(rro r hm).2⟩⟩
 have hlook:=zBe S hM hF hB hk0 hro;have hfirst:zb7 [zbi w,.lst (rs.map fr),zaT ks,.lst (xs.map fr),.non]=.ok (.bl true):=zuJ (by rw[hlook];exact .ok);have kz:∀ n∈ks,n < xs.length:=fun n hn=>by rw[hxl];exact T.lt n hn
 have hnh:=zvF (w:=w) (rs:=rs) (ks:=ks);obtain⟨ms2,hcut,hml2⟩:=Cod.cut_any (ns:=c2) (lo:=some 1) (hi:=none);have hadd:zca (.lst (ms2.map D.int)) (.lst [.int 7])=.ok (.lst ((ms2++[7]).map D.int)):=by
  rw[zf0 (decide_eq_true (by rw[sab];simp;omega)),saU];rfl
 have h0:dIx (.tup [zbi w,.lst (rs.map fr),zaT ks]) (.int 0)=.ok (zbi w):=rfl;have h1:dIx (.tup [zbi w,.lst (rs.map fr),zaT ks]) (.int 1)=.ok (.lst (rs.map fr)):=rfl;have h2:dIx (.tup [zbi w,.lst (rs.map fr),zaT ks]) (.int 2)=.ok (zaT ks):=rfl;have htup:zcZ [zbi w,.lst (rs.map fr),zaT ks]=.ok (.tup [zbi w,.lst (rs.map fr),zaT ks]):=rfl;obtain⟨ρ',hl,x10,x11,x12,rfl⟩:=zwb (tg:=zea 10) (body:=zA4) (fun ρ=>∃ x10 x11 x12,ρ=[.sh (.lst (ns.map D.int)),.sh (zbi w),.sh (.lst (fSz.map D.int)),.sh (.lst (vs.map D.int)),.sh (.lst (xs.map fr)),.sh (zaT ks),.sh (.lst (rs.map fr)),x7,x8,.sh (.tup [zbi w,.lst (rs.map fr),zaT ks]),x10,x11,x12]) (ds:=(ms2++[7]).map D.int) (fun d hd ρ ⟨x10,x11,x12,hρ⟩=>by
  subst hρ;obtain⟨c,_,rfl⟩:=saG.mp hd;obtain⟨d,hsp,hth⟩:=zuX (rs:=rs) (xs:=xs) (ks:=ks) (by omega) hrl xz (fun r hm=>(rro r hm).1) kz c;obtain⟨due,hdue,hans⟩:∃ due,zbh [zbi w,.lst (rs.map fr),zaT ks,d]=.ok due/\Ans due (zaI [zbi w,.lst (rs.map fr),zaT ks,d]):=by
   rcases hth.h with h | ⟨ds,rfl,hds⟩
   .exact zA0 S h
   .by_cases c:ds.length=w.ts.length
    .exact zFV S c hds
    .exact zDB S c
  have ht:=zuJ hans;have hne:=hth.ne;refine⟨_,[.sh (.lst (ns.map D.int)),.sh (zbi w),.sh (.lst (fSz.map D.int)),.sh (.lst (vs.map D.int)),.sh (.lst (xs.map fr)),.sh (zaT ks),.sh (.lst (rs.map fr)),x7,x8,.sh (.tup [zbi w,.lst (rs.map fr),zaT ks]),.sh (.int c),.sh d,.sh due],rfl,?_,_,_,_,rfl⟩;generalize zbi w=Wd at *;generalize zaT ks=Kd at *;generalize D.lst (rs.map fr)=Rd_ at *;generalize D.lst (xs.map fr)=Xd at *;generalize D.lst (vs.map D.int)=Vd at *;generalize D.lst (fSz.map D.int)=Fd at *;unfold zA4;show(zam _ _) [.sh (.lst (ns.map D.int)),.sh Wd,.sh Fd,.sh Vd,.sh Xd,.sh Kd,.sh Rd_,x7,x8,.sh (.tup [Wd,Rd_,Kd]),.sh (.int c),x11,x12]=_;open_line with[hsp,hdue,ht,hne,hnh]) [.sh (.lst (ns.map D.int)),.sh (zbi w),.sh (.lst (fSz.map D.int)),.sh (.lst (vs.map D.int)),.sh (.lst (xs.map fr)),.sh (zaT ks),.sh (.lst (rs.map fr)),x7,x8,.sh (.tup [zbi w,.lst (rs.map fr),zaT ks]),.no,.no,.no] ⟨_,_,_,rfl⟩
 have kl:zih (zaT ks)=.ok (zaT ks):=rfl;have hmt:zcP []=.ok (.lst []):=rfl;have hz:∀ ρ:Ev,ρ[0]?=some (.sh (.lst (ns.map D.int)))->K36.srcZK (zak (zad (zag 0) zar) zdy) ρ (.lst (xs.map fr))=.ok (zbx (xs.map fr) (ms.map fr)):=fun ρ h=>K36.ev_srcZ1 (by open_line with[h,hms]);have hz':=fun(a1 a2 a3 a4 a5 a6 a7 a8 a9 a10 a11 a12:Sl)=>hz [.sh (.lst (ns.map D.int)),a1,a2,a3,a4,a5,a6,a7,a8,a9,a10,a11,a12] rfl;have hWd:zbi w=.tup [.lst (w.ps.map D.str),.lst (w.ts.map zbA),.str w.fi,.str w.la]:=rfl;simp only[hWd] at hif hfl htk hrm hfirst hl;generalize zaT ks=Kd at *;open_line with[zvJ,zEx,zFI,hw0,zD4,zxi,hcells,hadd0,hq0,zf1,hv,hif,hmt,hfl,i27,htk,K36.ev_srcZ,hz',hrm,kl,hfirst,hcut,hadd,hl]
end K34
namespace K34
open PySem L2 DL
def top (i:Nat):Stmt:=PySem.Challenge.pw_farthestcut_k34_what_is_a_flow.main.body.getD i (.Pass ⟨0,0,0,0⟩)
abbrev zgC:Stmt:=top 56
abbrev zgz:Stmt:=top 59
abbrev zgD:Stmt:=top 61
abbrev zjh:Stmt:=top 57
abbrev zd5:Stmt:=top 58
abbrev zjf:Stmt:=top 60
abbrev zjd:Stmt:=top 62
abbrev zhY:Stmt:=top 64
abbrev zje:Stmt:=top 65
abbrev zh0:Stmt:=top 66
abbrev zfz:Stmt:=top 72
abbrev zgy:Stmt:=top 63
abbrev zkW:Stmt:=top 14
abbrev zdB:Stmt:=top 38
abbrev zi9:Stmt:=top 12
abbrev zdC:Stmt:=top 8
abbrev zja:Stmt:=top 13
abbrev zhU:Stmt:=top 33
abbrev zi8:Stmt:=top 34
abbrev znZ:Stmt:=top 32
abbrev zeI:Stmt:=top 39
abbrev zjb:Stmt:=top 40
abbrev zfw:Stmt:=top 37
abbrev zfy:Stmt:=top 36
abbrev zd3:Stmt:=top 48
abbrev zd4:Stmt:=top 35
abbrev zdA:Stmt:=top 46
abbrev zkX:Stmt:=top 17
abbrev zhV:Stmt:=top 51
abbrev zdi:Stmt:=top 50
abbrev zd2:Stmt:=top 43
abbrev zjc:Stmt:=top 44
abbrev zeH:Stmt:=top 42
abbrev zhW:Stmt:=top 54
abbrev zfx:Stmt:=top 53
abbrev zdh:Stmt:=top 52
abbrev zeJ:Stmt:=top 49
abbrev zgx:Stmt:=top 68
abbrev zhX:Stmt:=top 76
abbrev zjg:Stmt:=top 73
abbrev zdj:Stmt:=top 74
abbrev zfA:Stmt:=top 75
abbrev zc2:Stmt:=top 69
abbrev zhZ:Stmt:=top 70
abbrev zgA:Stmt:=top 67
abbrev zgB:Stmt:=top 71
abbrev znY:Stmt:=top 77
theorem zbF:zay ["_law_cell","_law_tops","_law_found","_law_left","_law_mixed","_law_k"] ["_law_cell","_law_tops"] (defScope zgC):=⟨rfl,rfl,rfl,by decide +kernel,rfl,by decide +kernel,by decide +kernel⟩
theorem za7:zay ["_law_d","_law_many","_law_some","_law_names_here","_law_k","_law_e","_law_name","_law_at"] ["_law_d","_law_many"] (defScope zgz):=⟨rfl,rfl,rfl,by decide +kernel,rfl,by decide +kernel,by decide +kernel⟩
theorem zdM:zay ["_law_script","_law_d","_law_many"] ["_law_script"] (defScope zgD):=⟨rfl,rfl,rfl,by decide +kernel,rfl,by decide +kernel,by decide +kernel⟩
theorem zd0:zay ["_law_top","_law_bottom","_law_one","_law_other"] ["_law_top","_law_bottom"] (defScope zjh):=⟨rfl,rfl,rfl,by decide +kernel,rfl,by decide +kernel,by decide +kernel⟩
theorem zcJ:zay ["_law_d","_law_top","_law_bottom"] ["_law_d"] (defScope zd5):=⟨rfl,rfl,rfl,by decide +kernel,rfl,by decide +kernel,by decide +kernel⟩
theorem zbK:zay ["_law_cell","_law_k","_law_walk","_law_d","_law_at","_law_other","_law_worth"] ["_law_cell","_law_k","_law_walk"] (defScope zjf):=⟨rfl,rfl,rfl,by decide +kernel,rfl,by decide +kernel,by decide +kernel⟩
theorem zb4:zay ["_law_script","_law_d","_law_places","_law_first","_law_last","_law_amid","_law_walk","_law_ties"] ["_law_script"] (defScope zjd):=⟨rfl,rfl,rfl,by decide +kernel,rfl,by decide +kernel,by decide +kernel⟩
theorem zjN:zay ["_law_one","_law_other","_law_sign"] ["_law_one","_law_other","_law_sign"] (defScope zhY):=⟨rfl,rfl,rfl,by decide +kernel,rfl,by decide +kernel,by decide +kernel⟩
theorem zbr:zay ["_law_web_here","_law_taken","_law_d","_law_place","_law_been","_law_steps","_law_ways","_law_k","_law_tie_here","_law_sign"] ["_law_web_here","_law_taken","_law_d"] (defScope zje):=⟨rfl,rfl,rfl,by decide +kernel,rfl,by decide +kernel,by decide +kernel⟩
theorem zb0:zay ["_law_web_here","_law_taken","_law_d","_law_flow_here","_law_turn","_law_e","_law_amount","_law_k","_law_sign"] ["_law_web_here","_law_taken","_law_d"] (defScope zh0):=⟨rfl,rfl,rfl,by decide +kernel,rfl,by decide +kernel,by decide +kernel⟩
theorem zcG:zay ["_law_web_here","_law_flow_here","_law_bits","_law_found","_law_k","_law_tie_here"] ["_law_web_here","_law_flow_here","_law_bits"] (defScope zfz):=⟨rfl,rfl,rfl,by decide +kernel,rfl,by decide +kernel,by decide +kernel⟩
theorem zfv:zay ["_law_script","_law_tops"] ["_law_script"] (defScope zgy):=⟨rfl,rfl,rfl,by decide +kernel,rfl,by decide +kernel,by decide +kernel⟩
theorem zmM:zay ["thing"] ["thing"] (defScope zkW):=⟨rfl,rfl,rfl,by decide +kernel,rfl,by decide +kernel,by decide +kernel⟩
theorem zcx:zay ["places","number","place"] ["places"] (defScope zdB):=⟨rfl,rfl,rfl,by decide +kernel,rfl,by decide +kernel,by decide +kernel⟩
theorem zkS:zay ["thing"] ["thing"] (defScope zi9):=⟨rfl,rfl,rfl,by decide +kernel,rfl,by decide +kernel,by decide +kernel⟩
theorem zbd:zay ["one","other","larger","smaller","rest"] ["one","other"] (defScope zdC):=⟨rfl,rfl,rfl,by decide +kernel,rfl,by decide +kernel,by decide +kernel⟩
theorem zkT:zay ["thing"] ["thing"] (defScope zja):=⟨rfl,rfl,rfl,by decide +kernel,rfl,by decide +kernel,by decide +kernel⟩
theorem zjL:zay ["thing"] ["thing"] (defScope zhU):=⟨rfl,rfl,rfl,by decide +kernel,rfl,by decide +kernel,by decide +kernel⟩
theorem zkR:zay ["thing"] ["thing"] (defScope zi8):=⟨rfl,rfl,rfl,by decide +kernel,rfl,by decide +kernel,by decide +kernel⟩
theorem zpz:zay ["thing"] ["thing"] (defScope znZ):=⟨rfl,rfl,rfl,by decide +kernel,rfl,by decide +kernel,by decide +kernel⟩
theorem zc1:zay ["ties","places","number","tie"] ["ties","places"] (defScope zeI):=⟨rfl,rfl,rfl,by decide +kernel,rfl,by decide +kernel,by decide +kernel⟩
theorem zkU:zay ["thing","places"] ["thing","places"] (defScope zjb):=⟨rfl,rfl,rfl,by decide +kernel,rfl,by decide +kernel,by decide +kernel⟩
theorem zht:zay ["thing"] ["thing"] (defScope zfw):=⟨rfl,rfl,rfl,by decide +kernel,rfl,by decide +kernel,by decide +kernel⟩
theorem zhu:zay ["web","thing"] ["web","thing"] (defScope zfy):=⟨rfl,rfl,rfl,by decide +kernel,rfl,by decide +kernel,by decide +kernel⟩
theorem zgc:zay ["web","thing"] ["web","thing"] (defScope zd3):=⟨rfl,rfl,rfl,by decide +kernel,rfl,by decide +kernel,by decide +kernel⟩
theorem zgd:zay ["web","thing"] ["web","thing"] (defScope zd4):=⟨rfl,rfl,rfl,by decide +kernel,rfl,by decide +kernel,by decide +kernel⟩
theorem zbS:zay ["web","thing","ahead","number"] ["web","thing"] (defScope zdA):=⟨rfl,rfl,rfl,by decide +kernel,rfl,by decide +kernel,by decide +kernel⟩
theorem zmN:zay ["one","other"] ["one","other"] (defScope zkX):=⟨rfl,rfl,rfl,by decide +kernel,rfl,by decide +kernel,by decide +kernel⟩
theorem zjM:zay ["tie","room","thing"] ["tie","room","thing"] (defScope zhV):=⟨rfl,rfl,rfl,by decide +kernel,rfl,by decide +kernel,by decide +kernel⟩
theorem zbE:zay ["web","rooms","taken","thing","number","amount","room"] ["web","rooms","taken","thing"] (defScope zdi):=⟨rfl,rfl,rfl,by decide +kernel,rfl,by decide +kernel,by decide +kernel⟩
theorem zcb:zay ["some","bottom","one"] ["some"] (defScope zd2):=⟨rfl,rfl,rfl,by decide +kernel,rfl,by decide +kernel,by decide +kernel⟩
theorem zkV:zay ["one","bottom"] ["one","bottom"] (defScope zjc):=⟨rfl,rfl,rfl,by decide +kernel,rfl,by decide +kernel,by decide +kernel⟩
theorem zdY:zay ["some","bottom"] ["some"] (defScope zeH):=⟨rfl,rfl,rfl,by decide +kernel,rfl,by decide +kernel,by decide +kernel⟩
theorem zck:zay ["web","sizes","place","more","tie","size"] ["web","sizes","place"] (defScope zhW):=⟨rfl,rfl,rfl,by decide +kernel,rfl,by decide +kernel,by decide +kernel⟩
theorem zeF:zay ["web","sizes","place","more"] ["web","sizes","place"] (defScope zfx):=⟨rfl,rfl,rfl,by decide +kernel,rfl,by decide +kernel,by decide +kernel⟩
theorem zch:zay ["web","flow","sizes","place"] ["web","flow"] (defScope zdh):=⟨rfl,rfl,rfl,by decide +kernel,rfl,by decide +kernel,by decide +kernel⟩
theorem zgw:zay ["web","rooms","taking","thing"] ["web","rooms","taking","thing"] (defScope zeJ):=⟨rfl,rfl,rfl,by decide +kernel,rfl,by decide +kernel,by decide +kernel⟩
theorem zis:zay ["_law_thing"] ["_law_thing"] (defScope zgx):=⟨rfl,rfl,rfl,by decide +kernel,rfl,by decide +kernel,by decide +kernel⟩
theorem zcl:zay ["_law_web_here","_law_rooms_here","_law_taking_here","_law_thing","_law_due","_law_caught","_law_found","_law_e"] ["_law_web_here","_law_rooms_here","_law_taking_here","_law_thing","_law_due"] (defScope zhX):=⟨rfl,rfl,rfl,by decide +kernel,rfl,by decide +kernel,by decide +kernel⟩
theorem zdg:zay ["_law_one","_law_way_here","_law_top","_law_bottom","_law_things"] ["_law_one","_law_way_here"] (defScope zjg):=⟨rfl,rfl,rfl,by decide +kernel,rfl,by decide +kernel,by decide +kernel⟩
theorem zaQ:zay ["_law_rooms_here","_law_taking_here","_law_flow_here","_law_d","_law_made","_law_k","_law_j","_law_one","_law_sign","_law_more"] ["_law_rooms_here","_law_taking_here","_law_flow_here","_law_d"] (defScope zdj):=⟨rfl,rfl,rfl,by decide +kernel,rfl,by decide +kernel,by decide +kernel⟩
theorem zeG:zay ["_law_rooms_here","_law_taking_here","_law_flow_here","_law_cell","_law_d"] ["_law_rooms_here","_law_taking_here","_law_flow_here","_law_cell"] (defScope zfA):=⟨rfl,rfl,rfl,by decide +kernel,rfl,by decide +kernel,by decide +kernel⟩
theorem zd1:zay ["_law_thing"] ["_law_thing"] (defScope zc2):=⟨rfl,rfl,rfl,by decide +kernel,rfl,by decide +kernel,by decide +kernel⟩
theorem zjO:zay ["_law_one","_law_other"] ["_law_one","_law_other"] (defScope zhZ):=⟨rfl,rfl,rfl,by decide +kernel,rfl,by decide +kernel,by decide +kernel⟩
theorem zb5:zay ["_law_web_here","_law_flow_here","_law_place","_law_found","_law_k","_law_tie_here"] ["_law_web_here","_law_flow_here","_law_place"] (defScope zgA):=⟨rfl,rfl,rfl,by decide +kernel,rfl,by decide +kernel,by decide +kernel⟩
theorem zcy:zay ["_law_web_here","_law_rooms_here","_law_taken","_law_thing","_law_k","_law_tie_here","_law_place","_law_more"] ["_law_web_here","_law_rooms_here","_law_taken","_law_thing"] (defScope zgB):=⟨rfl,rfl,rfl,by decide +kernel,rfl,by decide +kernel,by decide +kernel⟩
theorem zdZ:zay ["_law_script","_law_web_here","_law_tops","_law_d","_law_flow_here","_law_taking_here","_law_rooms_here","_law_amount","_law_more","_law_handed","_law_cell","_law_thing","_law_due"] ["_law_script"] (defScope znY):=⟨rfl,rfl,rfl,by decide +kernel,rfl,by decide +kernel,by decide +kernel⟩
abbrev ze8:Stmt:=zv3 (top 5) 0
theorem ztB:zay ["self","at"] ["self","at"] (defScope ze8):=⟨rfl,rfl,rfl,by decide +kernel,rfl,by decide +kernel,by decide +kernel⟩
abbrev zcw:Stmt:=zv3 (top 6) 0
theorem zmq:zay ["self","place"] ["self","place"] (defScope zcw):=⟨rfl,rfl,rfl,by decide +kernel,rfl,by decide +kernel,by decide +kernel⟩
set_option genInjectivity false in
set_option genSizeOfSpec false in
structure Adr where
 zcI:Addr
 zlh:FuncData
 zbg:Addr
 zfG:FuncData
 zaS:Addr
 zaw:Addr
 zal:Addr
 zkn:Addr
 zkc:FuncData
 zkk:Addr
 zj9:FuncData
 zko:Addr
 zkd:FuncData
 znH:Addr
 znp:FuncData
 zg8:Addr
 zgX:FuncData
 znF:Addr
 znn:FuncData
 znD:Addr
 znl:FuncData
 zl2:Addr
 zlF:FuncData
 znE:Addr
 znm:FuncData
 zl4:Addr
 zlH:FuncData
 zi4:Addr
 ziP:FuncData
 zkj:Addr
 zj8:FuncData
 zqs:Addr
 zqb:FuncData
 zgq:Addr
 zgl:FuncData
 znz:Addr
 znh:FuncData
 zgr:Addr
 zgm:FuncData
 znA:Addr
 zni:FuncData
 zlY:Addr
 zlB:FuncData
 zny:Addr
 zng:FuncData
 ztc:Addr
 zs2:FuncData
 zhP:Addr
 zhI:FuncData
 znB:Addr
 znj:FuncData
 zi1:Addr
 ziM:FuncData
 zi3:Addr
 ziO:FuncData
 zg6:Addr
 zgV:FuncData
 zg7:Addr
 zgW:FuncData
 zgp:Addr
 zgk:FuncData
 zqt:Addr
 zqc:FuncData
 zlZ:Addr
 zlC:FuncData
 zfs:Addr
 zfn:FuncData
 zg5:Addr
 zgU:FuncData
 znC:Addr
 znk:FuncData
 zhO:Addr
 zhH:FuncData
 zl0:Addr
 zlD:FuncData
 zi2:Addr
 ziN:FuncData
 zfr:Addr
 zfm:FuncData
 zhQ:Addr
 zhJ:FuncData
 zki:Addr
 zj7:FuncData
 zl1:Addr
 zlE:FuncData
 znG:Addr
 zno:FuncData
 zft:Addr
 zfo:FuncData
 zi5:Addr
 ziQ:FuncData
 zeE:Addr
 zeB:FuncData
 zl3:Addr
 zlG:FuncData
 zkl:Addr
 zka:FuncData
 zkm:Addr
 zkb:FuncData
 zun:Addr
 zxu:FuncData
set_option genInjectivity false in
set_option genSizeOfSpec false in
structure Txt (K:saj) (mg:Str->Option Value) (t:Adr):Prop where
 zct:FT K mg "_law_draws" zgC ["_law_cell","_law_tops"] t.zkn t.zkc
 zj0:FT K mg "_law_names" zgz ["_law_d","_law_many"] t.zkk t.zj9
 zdz:FT K mg "_law_cells" zgD ["_law_script"] t.zko t.zkd
 zhl:FT K mg "_law_low" zjh ["_law_top","_law_bottom"] t.znH t.znp
 zbX:FT K mg "_law_fraction" zd5 ["_law_d"] t.zg8 t.zgX
 zna:FT K mg "_law_tie" zjf ["_law_cell","_law_k","_law_walk"] t.znF t.znn
 zm8:FT K mg "_law_web" zjd ["_law_script"] t.znD t.znl
 zb9:FT K mg "_law_plus" zhY ["_law_one","_law_other","_law_sign"] t.zl2 t.zlF
 zm9:FT K mg "_law_way" zje ["_law_web_here","_law_taken","_law_d"] t.znE t.znm
 zlr:FT K mg "_law_flow" zh0 ["_law_web_here","_law_taken","_law_d"] t.zl4 t.zlH
 ziG:FT K mg "_law_taking" zfz ["_law_web_here","_law_flow_here","_law_bits"] t.zi4 t.ziP
 zjZ:FT K mg "_law_rooms" zgy ["_law_script"] t.zkj t.zj8
 zgK:FT K mg "is_name" zkW ["thing"] t.zqs t.zqb
 zgg:FT K mg "look_at_places" zdB ["places"] t.zgq t.zgl
 zhj:FT K mg "is_whole" zi9 ["thing"] t.znz t.znh
 zdI:FT K mg "common_divisor" zdC ["one","other"] t.zgr t.zgm
 zhk:FT K mg "is_ratio" zja ["thing"] t.znA t.zni
 zh7:FT K mg "is_length" zhU ["thing"] t.zlY t.zlB
 zm6:FT K mg "is_worth" zi8 ["thing"] t.zny t.zng
 zsR:FT K mg "is_tie" znZ ["thing"] t.ztc t.zs2
 zhE:FT K mg "look_at_ties" zeI ["ties","places"] t.zhP t.zhI
 zjq:FT K mg "is_place" zjb ["thing","places"] t.znB t.znj
 zfH:FT K mg "look_at_web" zfw ["thing"] t.zi1 t.ziM
 ziF:FT K mg "has_lengths" zfy ["web","thing"] t.zi3 t.ziO
 zgI:FT K mg "look_at_rooms" zd3 ["web","thing"] t.zg6 t.zgV
 zgJ:FT K mg "is_tie_number" zd4 ["web","thing"] t.zg7 t.zgW
 zgf:FT K mg "look_at_taking" zdA ["web","thing"] t.zgp t.zgk
 zpZ:FT K mg "is_less" zkX ["one","other"] t.zqt t.zqc
 zlp:FT K mg "is_amount" zhV ["tie","room","thing"] t.zlZ t.zlC
 zfh:FT K mg "look_at_amounts" zdi ["web","rooms","taken","thing"] t.zfs t.zfn
 zgH:FT K mg "shared_bottom" zd2 ["some"] t.zg5 t.zgU
 zm7:FT K mg "as_whole" zjc ["one","bottom"] t.znC t.znk
 zhD:FT K mg "on_one_scale" zeH ["some"] t.zhO t.zhH
 zlq:FT K mg "goes_from" zhW ["web","sizes","place"] t.zl0 t.zlD
 ziE:FT K mg "is_balanced" zfx ["web","sizes","place"] t.zi2 t.ziN
 zfg:FT K mg "look_at_balance" zdh ["web","flow"] t.zfr t.zfm
 zhF:FT K mg "look_at_flow" zeJ ["web","rooms","taking","thing"] t.zhQ t.zhJ
 zey:FT K mg "_law_whole" zgx ["_law_thing"] t.zki t.zj7
 zh8:FT K mg "_law_told" zhX ["_law_web_here","_law_rooms_here","_law_taking_here","_law_thing","_law_due"] t.zl1 t.zlE
 znb:FT K mg "_law_odd" zjg ["_law_one","_law_way_here"] t.znG t.zno
 zfi:FT K mg "_law_one_spoilt" zdj ["_law_rooms_here","_law_taking_here","_law_flow_here","_law_d"] t.zft t.zfo
 zfI:FT K mg "_law_spoilt" zfA ["_law_rooms_here","_law_taking_here","_law_flow_here","_law_cell"] t.zi5 t.ziQ
 zez:FT K mg "_law_is_fraction" zc2 ["_law_thing"] t.zeE t.zeB
 zh9:FT K mg "_law_less" zhZ ["_law_one","_law_other"] t.zl3 t.zlG
 zj1:FT K mg "_law_going" zgA ["_law_web_here","_law_flow_here","_law_place"] t.zkl t.zka
 zj2:FT K mg "_law_fault" zgB ["_law_web_here","_law_rooms_here","_law_taken","_law_thing"] t.zkm t.zkb
 zD3:FT K mg "law" znY ["_law_script"] t.zun t.zxu
 n_ValueError:mg "ValueError"=none
 n_abs:mg "abs"=none
 n_all:mg "all"=none
 n_bool:mg "bool"=none
 n_dict:mg "dict"=none
 n_enumerate:mg "enumerate"=none
 n_int:mg "int"=none
 n_isinstance:mg "isinstance"=none
 n_len:mg "len"=none
 n_list:mg "list"=none
 n_min:mg "min"=none
 n_range:mg "range"=none
 n_str:mg "str"=none
 n_tuple:mg "tuple"=none
 n_zip:mg "zip"=none
 zjn:mg "CutError"=some (.ref t.zaS)
 zm4:zuu K "CutError" t.zaS
 zkD:mg "NoFlow"=some (.ref t.zaw)
 zsK:zuu K "NoFlow" t.zaw
 zgG:mg "Unbalanced"=some (.ref t.zal)
 zjY:zuu K "Unbalanced" t.zal
 zdt:zzt K "NoFlow" t.zaw
 zbD:zzt K "Unbalanced" t.zal
 zxX:Fun K "__init__" "NoFlow.__init__" ze8 t.zcI t.zlh
 ziU:zkz K t.zlh ["self","at"] []
 zpo:XIn K t.zaw t.zcI
 zil:XSt K t.zaw ["at"]
 zpq:W.isFn K (.ref t.zcI)=true
 zpd:Fun K "__init__" "Unbalanced.__init__" zcw t.zbg t.zfG
 zf8:zkz K t.zfG ["self","place"] []
 znL:XIn K t.zal t.zbg
 zfu:XSt K t.zal ["place"]
 znM:W.isFn K (.ref t.zbg)=true
 zkN:zB4 K t.zaS
 zdk:sa0 K (.ref t.zaw) (.ref t.zaS)=some true
 zd7:sa0 K (.ref t.zaw) (.ref t.zaw)=some true
 zcN:sa0 K (.ref t.zaw) (.ref t.zal)=some false
 zcn:sa0 K (.ref t.zal) (.ref t.zaS)=some true
 zcM:sa0 K (.ref t.zal) (.ref t.zaw)=some false
 zb6:sa0 K (.ref t.zal) (.ref t.zal)=some true
 zej:Kon K mg "FEWEST_PLACES" (.int 2)
 zlT:Kon K mg "FIRST" (.int 2)
 zqh:Kon K mg "LAST" (.int 3)
 zo6:Kon K mg "LENGTH" (.int 3)
 zlS:Kon K mg "LETTERS" (.str "abcdefghijklmnopqrstuvwxyz")
 ze6:Kon K mg "LONGEST_NAME" (.int 8)
 zf7:Kon K mg "MOST_PLACES" (.int 7)
 zij:Kon K mg "MOST_TIES" (.int 14)
 zo5:Kon K mg "NOUGHT" (.tup [(.int 0),(.int 1)])
 zuh:Kon K mg "ONE" (.int 0)
 zjE:Kon K mg "OTHER" (.int 1)
 zf6:Kon K mg "PLACES" (.int 0)
 ziT:Kon K mg "TIES" (.int 1)
 zqg:Kon K mg "WORD" (.int 2)
 zrX:Kon K mg "WORDS" (.tup [(.str "one"),(.str "both")])
 zo4:Kon K mg "WORTH" (.int 4)
section
variable {P:Program}{w:World}{K:saj}{mg:Str->Option Value}{base:Heap}{t:Adr}
theorem zli (T:Txt K mg t):∀ x C,zpX zdn x=true->XC K x C->W.exmOne K (.ref C) (.ref t.zaS)=some true :=
 zy3 fun q hq=>by
  unfold zdn at hq;simp only[sas,sa3,or_false] at hq;rcases hq with rfl | rfl
  .exact⟨t.zaw,T.zdt.xc,T.zm4.exm T.zdk⟩
  .exact⟨t.zal,T.zbD.xc,T.zm4.exm T.zcn⟩
theorem zyl (T:Txt K mg t):zr2 K zym (.type "ValueError") :=
 zdX (p:=fun _ C b=>sdg K (.ref C) (.type "ValueError")=some b) fun q hq=>by
  simp only[sas,sa3,or_false] at hq;rcases hq with rfl | rfl
  .exact⟨t.zaw,T.zdt.xc,zvM zm1 T.zdt.ve⟩
  .exact⟨t.zal,T.zbD.xc,zvM zm1 T.zbD.ve⟩
theorem zsi (T:Txt K mg t):zr2 K zuN (.ref t.zaw) :=
 zdX (p:=fun _ C b=>sdg K (.ref C) (.ref t.zaw)=some b) fun q hq=>by
  simp only[sas,sa3,or_false] at hq;rcases hq with rfl | rfl
  .exact⟨t.zaw,T.zdt.xc,T.zsK.kit T.zdt.self T.zd7⟩
  .exact⟨t.zal,T.zbD.xc,T.zsK.kit T.zbD.self T.zcM⟩
theorem zsh (T:Txt K mg t):zr2 K zuM (.ref t.zal) :=
 zdX (p:=fun _ C b=>sdg K (.ref C) (.ref t.zal)=some b) fun q hq=>by
  simp only[sas,sa3,or_false] at hq;rcases hq with rfl | rfl
  .exact⟨t.zaw,T.zdt.xc,T.zjY.kit T.zdt.self T.zcN⟩
  .exact⟨t.zal,T.zbD.xc,T.zjY.kit T.zbD.self T.zb6⟩
theorem zos (T:Txt K mg t):zB8 K zv9 "at" :=
 zdX (p:=fun _ C _=>scc K C=true/\zhS K C "at") fun q hq=>by
  simp only[sas,sa3,or_false] at hq;rcases hq with rfl
  .exact⟨t.zaw,T.zdt.xc,T.zil.hd,T.zil.no _ (by decide)⟩
theorem zq4 (T:Txt K mg t):zB8 K zor "place" :=
 zdX (p:=fun _ C _=>scc K C=true/\zhS K C "place") fun q hq=>by
  simp only[sas,sa3,or_false] at hq;rcases hq with rfl
  .exact⟨t.zal,T.zbD.xc,T.zfu.hd,T.zfu.no _ (by decide)⟩
theorem zlg (T:Txt K mg t):zcB P w K mg base CX0 1 t.zcI t.zlh ["self","at"] (zCN K ["at"]) :=
 zDZ T.zxX ztB rfl (by decide) fun cdv A outer s0 H E=>(zCn (i:=1) T.zkN rfl T.zjn (zqI (i:=1) rfl (sap rfl) zzJ) rfl rfl (sap rfl) (sap rfl) zzx)
theorem zlf (T:Txt K mg t):zcB P w K mg base CX0 1 t.zbg t.zfG ["self","place"] (zCN K ["place"]) :=
 zDZ T.zpd zmq rfl (by decide) fun cdv A outer s0 H E=>(zCn (i:=1) T.zkN rfl T.zjn (zqI (i:=1) rfl (sap rfl) zzJ) rfl rfl (sap rfl) (sap rfl) zzx)
theorem zcz (T:Txt K mg t):zcB P w K mg base CX0 1 t.zkn t.zkc ["_law_cell","_law_tops"] (spD K 2 zaH) :=
 zas T.zct.F zbF fun cdv A outer s0 H Ha E hr=>(
 (zab (zj3 (i:=2) zbF.nd rfl (sap rfl) (zgT zai))
 (zab (zaA (i:=3) zbF.nd rfl (sap rfl) (zaE zf5 zlQ rfl T.n_abs PyProof.Rows.Boot.«abs» (zaa (dv 0) zai)))
 (zab (zaA (i:=4) zbF.nd rfl (sap rfl) (zbY (zb2 (zbY (dv 0) zae) zae) zae))
 (zab (zrV saM rfl rfl T.n_range (zaE zaU zbP rfl T.n_len PyProof.Rows.Boot.«len» (zaa (dv 1) zai)) (zcE (i:=5) zbF.nd rfl (sap rfl)) zdv
 (zab (za1 (zat zyP (zco fun _ _ _ _=>rb _) (zaE zf5 zlQ rfl T.n_abs PyProof.Rows.Boot.«abs» (zaa (dv 0) zai)) (zj5 zae zae) nm)
 (zab (zda (i:=2) rfl (sap rfl) (zbY (dv 3) (zaf (dv 1) (dv 5))))
 (zab (zaA (i:=3) zbF.nd rfl (sap rfl) (zqa (dv 3) (zaf (dv 1) (dv 5))))
 zah))
 (zab (zaA (i:=4) zbF.nd rfl (sap rfl) (zbY (zba (zba (zba (zb2 (dv 4) (dv 4)) (zb2 zae (dv 4))) (zb2 zae (dv 5))) zae) zae))
 (zab (zda (i:=2) rfl (sap rfl) (zbY (zbY (zb2 (dv 4) zae) zae) (zaf (dv 1) (dv 5))))
 zah)))
 zah))
 (zab (zaC (dv 2))
 zah))))))
theorem zn9 (T:Txt K mg t):zcB P w K mg base CX0 1 t.zkk t.zj9 ["_law_d","_law_many"] (spD K 2 zcr) :=
 zas T.zj0.F za7 fun cdv A outer s0 H Ha E hr=>(
 (zab (zaA (i:=2) za7.nd rfl (sdy rfl) zeh)
 (zab (zj3 (i:=3) za7.nd rfl (sap rfl) (zgT zai))
 (zab (zrV saM rfl rfl T.n_range (dv 1) (zcE (i:=4) za7.nd rfl (sap rfl)) zdv
 (zab (zaA (i:=5) za7.nd rfl (sdy rfl) (zbt (dv 0) (zby (zb2 zae (dv 4))) (zby (zba (zb2 zae (dv 4)) zae))))
 (zab (zaA (i:=6) za7.nd rfl (sap rfl) (zBN zeh (zaa (zub (zx0 ["_law_j","_law_some","_law_e"] 1 [2,5] rfl (zxo rfl T.n_range (zba zae (zaf (dv 5) zae))) (zeu (by decide)) (fun s H C fp pn=>⟨fun He H0e=>(zcE (i:=0) (show sbZ (["_law_j","_law_some","_law_e"]:List Str) from by decide) rfl (sap rfl)),zgS,(zaf (dv 1) (zaf (dv 2) (zba zae (dv 0))))⟩) ⟨rfl,rfl⟩ rfl rfl rfl rfl)) zai)))
 (zab (za1 (DW.dt (zdL (zat zvv (zco fun _ _ _ _=>rb _) (dv 4) zae nm) (zbC (zat (za0 hr.units) zbL (zaf (dv 5) zae) zae nm))))
 (zab (zBK (i:=6) za7.nd rfl (sap rfl) (zba (zbt (zaf (dv 3) (znf (dv 4) zae)) zgQ (zby (zaf (dv 5) zae))) (zaf (dv 2) (zaf (dv 5) zae))))
 zah)
 zah)
 (zab (zaA (i:=7) za7.nd rfl (sap rfl) (zaf (dv 5) zae))
 (zab (zkI _ saM (zat (ztO hr.units) ztS (dv 6) (dv 3) rfl)
 (zab (zaA (i:=7) za7.nd rfl (sap rfl) (zba (dv 7) zae))
 (zab (zaA (i:=6) za7.nd rfl (sap rfl) (zba (zbt (dv 6) zgQ (zby (zj6 zae))) (zaf (dv 2) (zbY (dv 7) zae))))
 zah)))
 (zab (zda (i:=3) rfl (sap rfl) (dv 6))
 zah)))))))
 (zab (zaC (dv 3))
 zah)))))
theorem zdO (T:Txt K mg t):zcB P w K mg base CX0 2 t.zko t.zkd ["_law_script"] (spD K 1 za6) :=
 zas T.zdz.F zdM fun cdv A outer s0 H Ha E hr=>(
 (zab (zaA (i:=1) zdM.nd rfl (sap rfl) (qc ((zcz T).mono (by decide:1<=1)) hr T.zct zaP (zaa (zaf (zba (dv 0) (zbu (zaa zae zai))) zae) (zaa (zba (zba (zbu (zaa zae (zaa zae (zaa zae zai)))) (zlA (zxp (zbu (zaa zae (zaa zae zai))) (zlA (zgT (zaa zae zai)) zae)) zae)) (zbu (zaa zae zai))) zai)) al2))
 (zab (zaA (i:=2) zdM.nd rfl (sap rfl) (zaE (zxF rfl) zEv rfl T.n_min PyProof.Rows.Boot.«min» (zaa zae (zaa (zaf (dv 1) zae) zai))))
 (zab (zaC (za2 (zaa (zbt (dv 0) (zby zae) (zby (zba zae (dv 2)))) (zaa (zbt (dv 0) (zby (zba zae (dv 2))) (zby zae)) zai))))
 zah))))
theorem zh4 (T:Txt K mg t):zcB P w K mg base CX0 1 t.znH t.znp ["_law_top","_law_bottom"] (spD K 2 zbe) :=
 zas T.zhl.F zd0 fun cdv A outer s0 H Ha E hr=>(
 (zab (zaA (i:=2) zd0.nd rfl (sap rfl) (zaE zf5 zlQ rfl T.n_abs PyProof.Rows.Boot.«abs» (zaa (dv 0) zai)))
 (zab (zaA (i:=3) zd0.nd rfl (sap rfl) (dv 1))
 (zab (zkI _ saM (zat (zdw hr.units) zgs (dv 3) zae nm)
 (zab (zEj (i:=2) (j:=3) rfl zd0.nd rfl rfl (by decide) rfl rfl (zaa (dv 3) (zaa (zbY (dv 2) (dv 3)) zai)) rfl)
 zah))
 (zab (zaC (za2 (zaa (zqa (dv 0) (dv 2)) (zaa (zqa (dv 1) (dv 2)) zai))))
 zah)))))
theorem zcc (T:Txt K mg t):zcB P w K mg base CX0 2 t.zg8 t.zgX ["_law_d"] (spD K 1 zax) :=
 zas T.zbX.F zcJ fun cdv A outer s0 H Ha E hr=>(
 (zab (zaA (i:=1) zcJ.nd rfl (sap rfl) (zaf (zbu (zaa zae (zaa (zbY (zaf (dv 0) zae) zae) (zaa (zbY (zaf (dv 0) zae) zae) (zaa (zaf (dv 0) zae) (zaa (zbY (zaf (dv 0) zae) zae) zai)))))) (zaf (dv 0) zae)))
 (zab (zaA (i:=2) zcJ.nd rfl (sap rfl) (zaf (zbu (zaa zae (zaa zae (zaa (zba zae (zaf (dv 0) zae)) (zaa zae (zaa (zba zae (zbY (zaf (dv 0) zae) zae)) zai)))))) (zaf (dv 0) zae)))
 (zab (zaC (qc ((zh4 T).mono (by decide:1<=1)) hr T.zhl zaP (zaa (dv 1) (zaa (dv 2) zai)) al2))
 zah))))
theorem zqU (T:Txt K mg t):zcB P w K mg base CX0 3 t.znF t.znn ["_law_cell","_law_k","_law_walk"] (spD K 3 zbj) :=
 zas T.zna.F zbK fun cdv A outer s0 H Ha E hr=>(
 (zab (zaA (i:=3) zbK.nd rfl (sap rfl) (qc ((zcz T).mono (by decide:1<=2)) hr T.zct zaP (zaa (dv 0) (zaa (zbu (zaa zae (zaa zae (zaa zae (zaa zae (zaa (zj5 zae zae) (zaa zae (zaa zae (zaa zae (zaa (zj5 zae zae) (zaa zae (zaa zae zai)))))))))))) zai)) al2))
 (zab (zaA (i:=4) zbK.nd rfl (sap rfl) (zbY (zaf (dv 3) zae) (zaE zaU zbP rfl T.n_len PyProof.Rows.Boot.«len» (zaa (dv 2) zai))))
 (zab (zaA (i:=5) zbK.nd rfl (sap rfl) (zbY (zba (zba (dv 4) zae) (zbY (zaf (dv 3) zae) (znf (zaE zaU zbP rfl T.n_len PyProof.Rows.Boot.«len» (zaa (dv 2) zai)) zae))) (zaE zaU zbP rfl T.n_len PyProof.Rows.Boot.«len» (zaa (dv 2) zai))))
 (zab (za1 (zat (za0 hr.units) zbL (zaf (dv 3) zae) zae nm)
 (zab (zaA (i:=4) zbK.nd rfl (sap rfl) (zbY (dv 1) (znf (zaE zaU zbP rfl T.n_len PyProof.Rows.Boot.«len» (zaa (dv 2) zai)) zae)))
 (zab (zaA (i:=5) zbK.nd rfl (sap rfl) (zba (dv 4) zae))
 zah))
 zah)
 (zab (zaA (i:=6) zbK.nd rfl (sap rfl) zdc)
 (zab (za1 (zat zvv (zco fun _ _ _ _=>rb _) (zaf (dv 3) zae) zae nm)
 (zab (zaA (i:=6) zbK.nd rfl (sap rfl) (qc ((zcc T).mono (by decide:2<=2)) hr T.zbX zaP (zaa (zbt (dv 3) (zby zae) (zby zae)) zai) al1))
 (zab (za1 (zat (za0 hr.units) zbL (zaf (dv 6) zae) zae nm)
 (zab (zaA (i:=6) zbK.nd rfl (sap rfl) (za2 (zaa zae (zaa zae zai))))
 zah)
 zah)
 zah))
 zah)
 (zab (zaC (za2 (zaa (zaf (dv 2) (dv 4)) (zaa (zaf (dv 2) (dv 5)) (zaa (zaf (zbu (zaa zeh (zaa zeh zai))) (zaf (dv 3) zae)) (zaa (qc ((zcc T).mono (by decide:2<=2)) hr T.zbX zaP (zaa (zbt (dv 3) (zby zae) (zby zae)) zai) al1) (zaa (dv 6) zai)))))))
 zah))))))))
theorem zqS (T:Txt K mg t):zcB P w K mg base CX0 4 t.znD t.znl ["_law_script"] (spD K 1 zcU) :=
 zas T.zm8.F zb4 fun cdv A outer s0 H Ha E hr=>(
 (zab (zaA (i:=1) zb4.nd rfl (sap rfl) (qc ((zcz T).mono (by decide:1<=3)) hr T.zct zaP (zaa (zaf (zba (dv 0) (zbu (zaa zae zai))) zae) (zaa (zba (zbu (zaa zae (zaa zae (zaa zae zai)))) (zlA (zxp (zbu (zaa zae (zaa zae zai))) (zlA (zgT (zaa zae zai)) zae)) zae)) zai)) al2))
 (zab (zaA (i:=2) zb4.nd rfl (sap rfl) (qc ((zn9 T).mono (by decide:1<=3)) hr T.zj0 zaP (zaa (zbt (dv 1) (zby zae) zgQ) (zaa (zba zae (zaf (dv 1) zae)) zai)) al2))
 (zab (zaA (i:=3) zb4.nd rfl (sdy rfl) (zbY (zaf (dv 1) zae) (zaE zaU zbP rfl T.n_len PyProof.Rows.Boot.«len» (zaa (dv 2) zai))))
 (zab (zaA (i:=4) zb4.nd rfl (sdy rfl) (zbY (zba (zba (dv 3) zae) (zbY (zaf (dv 1) zae) (znf (zaE zaU zbP rfl T.n_len PyProof.Rows.Boot.«len» (zaa (dv 2) zai)) zae))) (zaE zaU zbP rfl T.n_len PyProof.Rows.Boot.«len» (zaa (dv 2) zai))))
 (zab (zxj (i:=5) zb4.nd rfl rfl zlK (zx0 ["_law_k","_law_place","_law_first","_law_last"] 2 [3,4] rfl (zf3 rfl T.n_enumerate (dv 2)) (zsg (by decide)) (fun s H C fp pn=>⟨fun He H0e=>(zgj rfl (zaR (i:=0) (show sbZ (["_law_k","_law_place","_law_first","_law_last"]:List Str) from by decide) rfl (sap rfl) (zaR (i:=1) (show sbZ (["_law_k","_law_place","_law_first","_law_last"]:List Str) from by decide) rfl (sap rfl) zdb))),(zxn (zat (zdN hr.units) zdP (dv 0) (za2 (zaa (dv 2) (zaa (dv 3) zai))) rfl)),(dv 1)⟩) ⟨rfl,rfl⟩ rfl rfl rfl rfl))
 (zab (zaA (i:=6) zb4.nd rfl (sdy rfl) (zba (zba (zbu (zaa (zaf (dv 2) (dv 3)) zai)) (dv 5)) (zbu (zaa (zaf (dv 2) (dv 4)) zai))))
 (zab (zxj (i:=7) zb4.nd rfl rfl zlK (zx0 ["_law_k","_law_cell","_law_walk"] 2 [6] rfl (zf3 rfl T.n_enumerate (zaf (qc ((zdO T).mono (by decide:2<=3)) hr T.zdz zaP (zaa (dv 0) zai) al1) zae)) (zsg (by decide)) (fun s H C fp pn=>⟨fun He H0e=>(zgj rfl (zaR (i:=0) (show sbZ (["_law_k","_law_cell","_law_walk"]:List Str) from by decide) rfl (sap rfl) (zaR (i:=1) (show sbZ (["_law_k","_law_cell","_law_walk"]:List Str) from by decide) rfl (sap rfl) zdb))),zgS,(qc ((zqU T).mono (by decide:3<=3)) hr T.zna zaP (zaa (dv 1) (zaa (dv 0) (zaa (dv 2) zai))) al3)⟩) ⟨rfl,rfl⟩ rfl rfl rfl rfl))
 (zab (zaC (za2 (zaa (dv 2) (zaa (dv 7) (zaa (zaf (dv 2) (dv 3)) (zaa (zaf (dv 2) (dv 4)) zai))))))
 zah)))))))))
theorem zb1 (T:Txt K mg t):zcB P w K mg base CX0 2 t.zl2 t.zlF ["_law_one","_law_other","_law_sign"] (spD K 3 zaK) :=
 zas T.zb9.F zjN fun cdv A outer s0 H Ha E hr=>(
 (zab (zaC (qc ((zh4 T).mono (by decide:1<=1)) hr T.zhl zaP (zaa (zba (zb2 (zaf (dv 0) zae) (zaf (dv 1) zae)) (zb2 (zb2 (dv 2) (zaf (dv 1) zae)) (zaf (dv 0) zae))) (zaa (zb2 (zaf (dv 0) zae) (zaf (dv 1) zae)) zai)) al2))
 zah))
theorem zqT (T:Txt K mg t):zcB P w K mg base CX0 1 t.znE t.znm ["_law_web_here","_law_taken","_law_d"] (spD K 3 zhg) :=
 zas T.zm9.F zbr fun cdv A outer s0 H Ha E hr=>(
 (zab (zaA (i:=3) zbr.nd rfl (sap rfl) (zaf (dv 0) zae))
 (zab (zj3 (i:=4) zbr.nd rfl (sap rfl) (zgT (zaa (dv 3) zai)))
 (zab (zj3 (i:=5) zbr.nd rfl (sap rfl) (zgT zai))
 (zab (zkI _ saM (zat (zdw hr.units) zgs (dv 3) (zaf (dv 0) zae) nm)
 (zab (zj3 (i:=6) zbr.nd rfl (sap rfl) (zgT zai))
 (zab (zf2 saM rfl (zf3 rfl T.n_enumerate (zaf (dv 0) zae)) (zgj rfl (zaR (i:=7) zbr.nd rfl (sap rfl) (zaR (i:=8) zbr.nd rfl (sap rfl) zdb))) zcF
 (zab (za1 (DW.dt (zdL (zat (zdN hr.units) zdP (dv 7) (dv 1) rfl) (zdL (zat (za0 hr.units) zbL (zaf (dv 8) zae) (dv 3) nm) (zbC (zat (zdN hr.units) zdP (zaf (dv 8) zae) (dv 4) rfl)))))
 (zab (zda (i:=6) rfl (sap rfl) (za2 (zaa (dv 7) (zaa zae (zaa (zaf (dv 8) zae) zai)))))
 zah)
 zah)
 (zab (za1 (DW.dt (zdL (zat (zdN hr.units) zdP (dv 7) (dv 1) rfl) (zdL (zat (za0 hr.units) zbL (zaf (dv 8) zae) zeh nm) (zdL (zat (za0 hr.units) zbL (zaf (dv 8) zae) (dv 3) nm) (zbC (zat (zdN hr.units) zdP (zaf (dv 8) zae) (dv 4) rfl))))))
 (zab (zda (i:=6) rfl (sap rfl) (za2 (zaa (dv 7) (zaa (zj6 zae) (zaa (zaf (dv 8) zae) zai)))))
 zah)
 zah)
 zah)))
 (zab (znd 6 (za1 (zat (za0 hr.units) zbL (dv 6) (zbu zai) nm)
 (zab (zaC (zbu zai))
 zah)
 zah))
 (zab (znd 6 (zBJ rfl (zaf (dv 6) (zbY (zaf (dv 2) (zaE zaU zbP rfl T.n_len PyProof.Rows.Boot.«len» (zaa (dv 5) zai))) (zaE zaU zbP rfl T.n_len PyProof.Rows.Boot.«len» (zaa (dv 6) zai)))) (zaR (i:=7) zbr.nd rfl (sap rfl) (zaR (i:=9) zbr.nd rfl (sap rfl) (zaR (i:=3) zbr.nd rfl (sap rfl) zdb)))))
 (zab (zda (i:=5) rfl (sap rfl) (za2 (zaa (dv 7) (zaa (dv 9) zai))))
 (zab (zda (i:=4) rfl (sap rfl) (dv 3))
 zah)))))))
 (zab (zaC (dv 5))
 zah))))))
theorem zpN (T:Txt K mg t):zcB P w K mg base CX0 3 t.zl4 t.zlH ["_law_web_here","_law_taken","_law_d"] (spD K 3 zfE) :=
 zas T.zlr.F zb0 fun cdv A outer s0 H Ha E hr=>(
 (zab (zxl (i:=3) zb0.nd rfl rfl (zx0 ["_law_tie_here"] 1 [] rfl (zjA (zaf (dv 0) zae)) (zeu (by decide)) (fun s H C fp pn=>⟨fun He H0e=>(zcE (i:=0) (show sbZ (["_law_tie_here"]:List Str) from by decide) rfl (sap rfl)),zgS,(za2 (zaa zae (zaa zae zai)))⟩) ⟨rfl,rfl⟩ rfl rfl rfl rfl))
 (zab (zrV saM rfl rfl T.n_range zae (zcE (i:=4) zb0.nd rfl (sap rfl)) zdv
 (zab (zaA (i:=5) zb0.nd rfl (sap rfl) (zbt (dv 2) (zby (zb2 zae (dv 4))) (zby (zba (zb2 zae (dv 4)) zae))))
 (zab (zaA (i:=6) zb0.nd rfl (sap rfl) (qc ((zcc T).mono (by decide:2<=2)) hr T.zbX zaP (zaa (zbt (dv 5) (zby zae) zgQ) zai) al1))
 (zab (zne saM rfl (qc ((zqT T).mono (by decide:1<=2)) hr T.zm9 zaP (zaa (dv 0) (zaa (dv 1) (zaa (dv 5) zai))) al3) (zgj rfl (zaR (i:=7) zb0.nd rfl (sap rfl) (zaR (i:=8) zb0.nd rfl (sap rfl) zdb))) zcF
 (zab (zxk (i:=3) rfl (sap rfl) (qc ((zb1 T).mono (by decide:2<=2)) hr T.zb9 zaP (zaa (zaf (dv 3) (dv 7)) (zaa (dv 6) (zaa (dv 8) zai))) al3) (dv 7))
 zah))
 zah))))
 (zab (zaC (dv 3))
 zah))))
theorem zmu (T:Txt K mg t):zcB P w K mg base CX0 1 t.zi4 t.ziP ["_law_web_here","_law_flow_here","_law_bits"] (spD K 3 zdR) :=
 zas T.ziG.F zcG fun cdv A outer s0 H Ha E hr=>(
 (zab (zj3 (i:=3) zcG.nd rfl (sap rfl) (zgT zai))
 (zab (zf2 saM rfl (zf3 rfl T.n_enumerate (zaf (dv 0) zae)) (zgj rfl (zaR (i:=4) zcG.nd rfl (sap rfl) (zaR (i:=5) zcG.nd rfl (sap rfl) zdb))) zcF
 (zab (za1 (DW.dt (zdL (zat zvs zvz (zaf (dv 5) zae) zdc nm) (zdL (zat (za0 hr.units) zbL (zaf (zaf (dv 1) (dv 4)) zae) zae nm) (zbC (zat (za0 hr.units) zbL (zBQ (zEo (dv 2) (dv 4)) zae) zae nm)))))
 (zab (zda (i:=3) rfl (sap rfl) (dv 4))
 zah)
 zah)
 zah))
 (zab (zaC (dv 3))
 zah))))
theorem zn8 (T:Txt K mg t):zcB P w K mg base CX0 3 t.zkj t.zj8 ["_law_script"] (spD K 1 zdy) :=
 zas T.zjZ.F zfv fun cdv A outer s0 H Ha E hr=>(
 (zab (zaA (i:=1) zfv.nd rfl (sdy rfl) (zbu (zaa zae (zaa zae (zaa zae (zaa zae (zaa (zj5 zae zae) (zaa zae (zaa zae (zaa zae (zaa (zj5 zae zae) (zaa zae (zaa zae (zaa zae (zaa (zj5 zae zae) (zaa zae zai))))))))))))))))
 (zab (zaC (zub (zx0 ["_law_cell","_law_tops"] 1 [1] rfl (zjA (zaf (qc ((zdO T).mono (by decide:2<=2)) hr T.zdz zaP (zaa (dv 0) zai) al1) zae)) (zeu (by decide)) (fun s H C fp pn=>⟨fun He H0e=>(zcE (i:=0) (show sbZ (["_law_cell","_law_tops"]:List Str) from by decide) rfl (sap rfl)),zgS,(qc ((zcc T).mono (by decide:2<=2)) hr T.zbX zaP (zaa (zbt (qc ((zcz T).mono (by decide:1<=2)) hr T.zct zaP (zaa (dv 0) (zaa (dv 1) zai)) al2) (zby zae) zgQ) zai) al1)⟩) ⟨rfl,rfl⟩ rfl rfl rfl rfl)))
 zah)))
theorem zhe (T:Txt K mg t):zcB P w K mg base CX0 1 t.zqs t.zqb ["thing"] (spD K 1 zcH) :=
 zas T.zgK.F zmM fun cdv A outer s0 H Ha E hr=>(
 (zab (za1 (DW.dt (zdq (zbl (zbk (zbp zmZ rfl T.n_isinstance rfl T.n_str PyProof.Rows.Boot.«str» (dv 0)))) (zaO (zbl (zs0 ztN ztN (ze9 fun _ _ _ _=>rb _) (ze9 fun _ _ _ _=>rb _) zfe zfe zae (zaE zaU zbP rfl T.n_len PyProof.Rows.Boot.«len» (zaa (dv 0) zai)) (za9 T.ze6 rfl))))))
 (zab (zaC zer)
 zah)
 zah)
 (zab (zaC (zaE (zs7 rfl) zz3 rfl T.n_all PyProof.Rows.Boot.«all» (zaa (zub (zx0 ["sign"] 1 [] rfl (zEm (dv 0)) (zeu (by decide)) (fun s H C fp pn=>⟨fun He H0e=>(zcE (i:=0) (show sbZ (["sign"]:List Str) from by decide) rfl (sap rfl)),zgS,(zdd (ztO hr.units) ztS (dv 0) (za9 T.zlS rfl) rfl)⟩) ⟨rfl,rfl⟩ rfl rfl rfl rfl)) zai)))
 zah)))
theorem zjk (T:Txt K mg t):zcB P w K mg base CX0 2 t.zgq t.zgl ["places"] (spD K 1 zbB) :=
 zas T.zgg.F zcx fun cdv A outer s0 H Ha E hr=>(
 (zab (za1 (DW.dt (zdq (zbl (zbk (zbp zdp rfl T.n_isinstance rfl T.n_list PyProof.Rows.Boot.«list» (dv 0)))) (zaO (zbl (zs0 ztN ztN (ze9 fun _ _ _ _=>rb _) (ze9 fun _ _ _ _=>rb _) zfe zfe (za9 T.zej rfl) (zaE zaU zbP rfl T.n_len PyProof.Rows.Boot.«len» (zaa (dv 0) zai)) (za9 T.zf7 rfl))))))
 (zab zc9
 zah)
 zah)
 (zab (zf2 saM rfl (zf3 rfl T.n_enumerate (dv 0)) (zgj rfl (zaR (i:=1) zcx.nd rfl (sap rfl) (zaR (i:=2) zcx.nd rfl (sap rfl) zdb))) zcF
 (zab (za1 (DW.dt (zdq (zbl (zbk (qc ((zhe T).mono (by decide:1<=1)) hr T.zgK zaP (zaa (dv 2) zai) al1))) (zaO (zat (ztO hr.units) ztS (dv 2) (zbt (dv 0) zgQ (zby (dv 1))) rfl))))
 (zab zc9
 zah)
 zah)
 zah))
 zah)))
theorem zh2 (T:Txt K mg t):zcB P w K mg base CX0 1 t.znz t.znh ["thing"] (spD K 1 zbV) :=
 zas T.zhj.F zkS fun cdv A outer s0 H Ha E hr=>(
 (zab (zaC (zfl (zbp zm0 rfl T.n_isinstance rfl T.n_int PyProof.Rows.Boot.«int» (dv 0)) (zei (zxq (zbp zlc rfl T.n_isinstance rfl T.n_bool PyProof.Rows.Boot.«bool» (dv 0))))))
 zah))
theorem zfb (T:Txt K mg t):zcB P w K mg base CX0 1 t.zgr t.zgm ["one","other"] (spD K 2 za3) :=
 zas T.zdI.F zbd fun cdv A outer s0 H Ha E hr=>(
 (zab (zaA (i:=2) zbd.nd rfl (sap rfl) (zaE zf5 zlQ rfl T.n_abs PyProof.Rows.Boot.«abs» (zaa (dv 0) zai)))
 (zab (zaA (i:=3) zbd.nd rfl (sap rfl) (zaE zf5 zlQ rfl T.n_abs PyProof.Rows.Boot.«abs» (zaa (dv 1) zai)))
 (zab (zkI _ saM (zat (zdw hr.units) zgs (dv 3) zae nm)
 (zab (zaA (i:=4) zbd.nd rfl (sap rfl) (zbY (dv 2) (dv 3)))
 (zab (zaA (i:=2) zbd.nd rfl (sap rfl) (dv 3))
 (zab (zaA (i:=3) zbd.nd rfl (sap rfl) (dv 4))
 zah))))
 (zab (zaC (dv 2))
 zah)))))
theorem zh3 (T:Txt K mg t):zcB P w K mg base CX0 2 t.znA t.zni ["thing"] (spD K 1 zcT) :=
 zas T.zhk.F zkT fun cdv A outer s0 H Ha E hr=>(
 (zab (za1 (DW.dt (zdq (zbl (zbk (zbp zew rfl T.n_isinstance rfl T.n_tuple PyProof.Rows.Boot.«tuple» (dv 0)))) (zaO (zat (zdw hr.units) zgs (zaE zaU zbP rfl T.n_len PyProof.Rows.Boot.«len» (zaa (dv 0) zai)) zae nm))))
 (zab (zaC zer)
 zah)
 zah)
 (zab (za1 (DW.dt (zdq (zbl (zbk (qc ((zh2 T).mono (by decide:1<=1)) hr T.zhj zaP (zaa (zaf (dv 0) zae) zai) al1))) (zaO (zbl (zbk (qc ((zh2 T).mono (by decide:1<=1)) hr T.zhj zaP (zaa (zaf (dv 0) zae) zai) al1))))))
 (zab (zaC zer)
 zah)
 zah)
 (zab (zaC (zfl (zdd zyP (zco fun _ _ _ _=>rb _) (zaf (dv 0) zae) zae nm) (zei (zdd (za0 hr.units) zbL (qc ((zfb T).mono (by decide:1<=1)) hr T.zdI zaP (zaa (zaf (dv 0) zae) (zaa (zaf (dv 0) zae) zai)) al2) zae nm))))
 zah))))
theorem zjQ (T:Txt K mg t):zcB P w K mg base CX0 3 t.zlY t.zlB ["thing"] (spD K 1 zcp) :=
 zas T.zh7.F zjL fun cdv A outer s0 H Ha E hr=>(
 (zab (zaC (zfl (qc ((zh3 T).mono (by decide:2<=2)) hr T.zhk zaP (zaa (dv 0) zai) al1) (zei (zdd zyP (zco fun _ _ _ _=>rb _) (zaf (dv 0) zae) zae nm))))
 zah))
theorem zqQ (T:Txt K mg t):zcB P w K mg base CX0 3 t.zny t.zng ["thing"] (spD K 1 zdV) :=
 zas T.zm6.F zkR fun cdv A outer s0 H Ha E hr=>(
 (zab (zaC (zEq (zdd zjP zjT (dv 0) zdc nm) (zei (zfl (qc ((zh3 T).mono (by decide:2<=2)) hr T.zhk zaP (zaa (dv 0) zai) al1) (zei (zdd zvv (zco fun _ _ _ _=>rb _) (zaf (dv 0) zae) zae nm))))))
 zah))
theorem zvx (T:Txt K mg t):zcB P w K mg base CX0 4 t.ztc t.zs2 ["thing"] (spD K 1 zfD) :=
 zas T.zsR.F zpz fun cdv A outer s0 H Ha E hr=>(
 (zab (za1 (DW.dt (zdq (zbl (zbk (zbp zew rfl T.n_isinstance rfl T.n_tuple PyProof.Rows.Boot.«tuple» (dv 0)))) (zaO (zat (zdw hr.units) zgs (zaE zaU zbP rfl T.n_len PyProof.Rows.Boot.«len» (zaa (dv 0) zai)) zae nm))))
 (zab (zaC zer)
 zah)
 zah)
 (zab (za1 (DW.dt (zdq (zbl (zbk (qc ((zhe T).mono (by decide:1<=3)) hr T.zgK zaP (zaa (zaf (dv 0) (za9 T.zuh rfl)) zai) al1))) (zdq (zbl (zbk (qc ((zhe T).mono (by decide:1<=3)) hr T.zgK zaP (zaa (zaf (dv 0) (za9 T.zjE rfl)) zai) al1))) (zaO (zat (za0 hr.units) zbL (zaf (dv 0) (za9 T.zuh rfl)) (zaf (dv 0) (za9 T.zjE rfl)) nm)))))
 (zab (zaC zer)
 zah)
 zah)
 (zab (za1 (DW.dt (zdq (zbl (zbk (zbp zmZ rfl T.n_isinstance rfl T.n_str PyProof.Rows.Boot.«str» (zaf (dv 0) (za9 T.zqg rfl))))) (zaO (zat (zdN hr.units) zdP (zaf (dv 0) (za9 T.zqg rfl)) (za9 T.zrX rfl) rfl))))
 (zab (zaC zer)
 zah)
 zah)
 (zab (zaC (zfl (qc ((zjQ T).mono (by decide:3<=3)) hr T.zh7 zaP (zaa (zaf (dv 0) (za9 T.zo6 rfl)) zai) al1) (zei (qc ((zqQ T).mono (by decide:3<=3)) hr T.zm6 zaP (zaa (zaf (dv 0) (za9 T.zo4 rfl)) zai) al1))))
 zah)))))
theorem zk2 (T:Txt K mg t):zcB P w K mg base CX0 5 t.zhP t.zhI ["ties","places"] (spD K 2 zcd) :=
 zas T.zhE.F zc1 fun cdv A outer s0 H Ha E hr=>(
 (zab (za1 (DW.dt (zdq (zbl (zbk (zbp zdp rfl T.n_isinstance rfl T.n_list PyProof.Rows.Boot.«list» (dv 0)))) (zaO (zat zvv (zco fun _ _ _ _=>rb _) (zaE zaU zbP rfl T.n_len PyProof.Rows.Boot.«len» (zaa (dv 0) zai)) (za9 T.zij rfl) nm))))
 (zab zc9
 zah)
 zah)
 (zab (zf2 saM rfl (zf3 rfl T.n_enumerate (dv 0)) (zgj rfl (zaR (i:=2) zc1.nd rfl (sap rfl) (zaR (i:=3) zc1.nd rfl (sap rfl) zdb))) zcF
 (zab (za1 (DW.dt (zdq (zbl (zbk (qc ((zvx T).mono (by decide:4<=4)) hr T.zsR zaP (zaa (dv 3) zai) al1))) (zdq (zat (zdN hr.units) zdP (zaf (dv 3) (za9 T.zuh rfl)) (dv 1) rfl) (zaO (zat (zdN hr.units) zdP (zaf (dv 3) (za9 T.zjE rfl)) (dv 1) rfl)))))
 (zab zc9
 zah)
 zah)
 zah))
 zah)))
theorem zk4 (T:Txt K mg t):zcB P w K mg base CX0 2 t.znB t.znj ["thing","places"] (spD K 2 zdl) :=
 zas T.zjq.F zkU fun cdv A outer s0 H Ha E hr=>(
 (zab (zaC (zfl (qc ((zhe T).mono (by decide:1<=1)) hr T.zgK zaP (zaa (dv 0) zai) al1) (zei (zdd (ztO hr.units) ztS (dv 0) (dv 1) rfl))))
 zah))
theorem zhv (T:Txt K mg t):zcB P w K mg base CX0 6 t.zi1 t.ziM ["thing"] (spD K 1 zbq) :=
 zas T.zfH.F zht fun cdv A outer s0 H Ha E hr=>(
 (zab (za1 (DW.dt (zdq (zbl (zbk (zbp zew rfl T.n_isinstance rfl T.n_tuple PyProof.Rows.Boot.«tuple» (dv 0)))) (zaO (zat (zdw hr.units) zgs (zaE zaU zbP rfl T.n_len PyProof.Rows.Boot.«len» (zaa (dv 0) zai)) zae nm))))
 (zab zc9
 zah)
 zah)
 (zab (zgP (qc ((zjk T).mono (by decide:2<=5)) hr T.zgg zaP (zaa (zaf (dv 0) (za9 T.zf6 rfl)) zai) al1))
 (zab (zgP (qc ((zk2 T).mono (by decide:5<=5)) hr T.zhE zaP (zaa (zaf (dv 0) (za9 T.ziT rfl)) (zaa (zaf (dv 0) (za9 T.zf6 rfl)) zai)) al2))
 (zab (za1 (zbl (zbk (qc ((zk4 T).mono (by decide:2<=5)) hr T.zjq zaP (zaa (zaf (dv 0) (za9 T.zlT rfl)) (zaa (zaf (dv 0) (za9 T.zf6 rfl)) zai)) al2)))
 (zab zc9
 zah)
 zah)
 (zab (za1 (DW.dt (zdq (zbl (zbk (qc ((zk4 T).mono (by decide:2<=5)) hr T.zjq zaP (zaa (zaf (dv 0) (za9 T.zqh rfl)) (zaa (zaf (dv 0) (za9 T.zf6 rfl)) zai)) al2))) (zaO (zat (za0 hr.units) zbL (zaf (dv 0) (za9 T.zqh rfl)) (zaf (dv 0) (za9 T.zlT rfl)) nm))))
 (zab zc9
 zah)
 zah)
 zah))))))
theorem zmt (T:Txt K mg t):zcB P w K mg base CX0 4 t.zi3 t.ziO ["web","thing"] (spD K 2 zdQ) :=
 zas T.ziF.F zhu fun cdv A outer s0 H Ha E hr=>(
 (zab (za1 (DW.dt (zdq (zbl (zbk (zbp zdp rfl T.n_isinstance rfl T.n_list PyProof.Rows.Boot.«list» (dv 1)))) (zaO (zat (zdw hr.units) zgs (zaE zaU zbP rfl T.n_len PyProof.Rows.Boot.«len» (zaa (dv 1) zai)) (zaE zaU zbP rfl T.n_len PyProof.Rows.Boot.«len» (zaa (zaf (dv 0) (za9 T.ziT rfl)) zai)) nm))))
 (zab (zaC zer)
 zah)
 zah)
 (zab (zaC (zaE (zs7 rfl) zz3 rfl T.n_all PyProof.Rows.Boot.«all» (zaa (zub (zx0 ["one"] 1 [] rfl (zjA (dv 1)) (zeu (by decide)) (fun s H C fp pn=>⟨fun He H0e=>(zcE (i:=0) (show sbZ (["one"]:List Str) from by decide) rfl (sap rfl)),zgS,(qc ((zjQ T).mono (by decide:3<=3)) hr T.zh7 zaP (zaa (dv 0) zai) al1)⟩) ⟨rfl,rfl⟩ rfl rfl rfl rfl)) zai)))
 zah)))
theorem zku (T:Txt K mg t):zcB P w K mg base CX0 7 t.zg6 t.zgV ["web","thing"] (spD K 2 zc6) :=
 zas T.zgI.F zgc fun cdv A outer s0 H Ha E hr=>(
 (zab (zgP (qc ((zhv T).mono (by decide:6<=6)) hr T.zfH zaP (zaa (dv 0) zai) al1))
 (zab (za1 (zbl (zbk (qc ((zmt T).mono (by decide:4<=6)) hr T.ziF zaP (zaa (dv 0) (zaa (dv 1) zai)) al2)))
 (zab zc9
 zah)
 zah)
 zah)))
theorem zkv (T:Txt K mg t):zcB P w K mg base CX0 2 t.zg7 t.zgW ["web","thing"] (spD K 2 zbs) :=
 zas T.zgJ.F zgd fun cdv A outer s0 H Ha E hr=>(
 (zab (zaC (zfl (qc ((zh2 T).mono (by decide:1<=1)) hr T.zhj zaP (zaa (dv 1) zai) al1) (zei (zzm ztN ztM (ze9 fun _ _ _ _=>rb _) (ze9 fun _ _ _ _=>rb _) zfe zfe zae (dv 1) (zaE zaU zbP rfl T.n_len PyProof.Rows.Boot.«len» (zaa (zaf (dv 0) (za9 T.ziT rfl)) zai))))))
 zah))
theorem zjj (T:Txt K mg t):zcB P w K mg base CX0 7 t.zgp t.zgk ["web","thing"] (spD K 2 zbc) :=
 zas T.zgf.F zbS fun cdv A outer s0 H Ha E hr=>(
 (zab (zgP (qc ((zhv T).mono (by decide:6<=6)) hr T.zfH zaP (zaa (dv 0) zai) al1))
 (zab (za1 (zbl (zbk (zbp zdp rfl T.n_isinstance rfl T.n_list PyProof.Rows.Boot.«list» (dv 1))))
 (zab zc9
 zah)
 zah)
 (zab (zaA (i:=2) zbS.nd rfl (sap rfl) (zj6 zae))
 (zab (zne saM rfl (dv 1) (zcE (i:=3) zbS.nd rfl (sap rfl)) zdv
 (zab (za1 (DW.dt (zdq (zbl (zbk (qc ((zkv T).mono (by decide:2<=6)) hr T.zgJ zaP (zaa (dv 0) (zaa (dv 3) zai)) al2))) (zaO (zat ztN (zco fun _ _ _ _=>rb _) (dv 3) (dv 2) nm))))
 (zab zc9
 zah)
 zah)
 (zab (za1 (zat zjP zjT (zaf (zaf (zaf (dv 0) (za9 T.ziT rfl)) (dv 3)) (za9 T.zo4 rfl)) zdc nm)
 (zab zc9
 zah)
 zah)
 (zab (zaA (i:=2) zbS.nd rfl (sap rfl) (dv 3))
 zah))))
 zah)))))
theorem ztQ (T:Txt K mg t):zcB P w K mg base CX0 1 t.zqt t.zqc ["one","other"] (spD K 2 zdx) :=
 zas T.zpZ.F zmN fun cdv A outer s0 H Ha E hr=>(
 (zab (zaC (zdd ztM (zco fun _ _ _ _=>rb _) (zb2 (zaf (dv 0) zae) (zaf (dv 1) zae)) (zb2 (zaf (dv 1) zae) (zaf (dv 0) zae)) nm))
 zah))
theorem zpL (T:Txt K mg t):zcB P w K mg base CX0 3 t.zlZ t.zlC ["tie","room","thing"] (spD K 3 zcO) :=
 zas T.zlp.F zjM fun cdv A outer s0 H Ha E hr=>(
 (zab (za1 (DW.dt (zdq (zbl (zbk (qc ((zh3 T).mono (by decide:2<=2)) hr T.zhk zaP (zaa (dv 2) zai) al1))) (zaO (DW.dt (zdL (zat ztM (zco fun _ _ _ _=>rb _) (zaf (dv 2) zae) zae nm) (zbC (zat (za0 hr.units) zbL (zaf (dv 0) (za9 T.zqg rfl)) zeh nm)))))))
 (zab (zaC zer)
 zah)
 zah)
 (zab (zaC (zxq (qc ((ztQ T).mono (by decide:1<=2)) hr T.zpZ zaP (zaa (dv 1) (zaa (za2 (zaa (zaE zf5 zlQ rfl T.n_abs PyProof.Rows.Boot.«abs» (zaa (zaf (dv 2) zae) zai)) (zaa (zaf (dv 2) zae) zai))) zai)) al2)))
 zah)))
theorem ziy (T:Txt K mg t):zcB P w K mg base (CXE P w) 4 t.zfs t.zfn ["web","rooms","taken","thing"] (spD K 4 zaG) :=
 zjp T.zfh.F zbE fun cdv A outer s0 H Ha E hr=>(
 (zab (za1 (DW.dt (zdq (zbl (zbk (zbp zdp rfl T.n_isinstance rfl T.n_list PyProof.Rows.Boot.«list» (dv 3)))) (zaO (zat (zdw hr.units) zgs (zaE zaU zbP rfl T.n_len PyProof.Rows.Boot.«len» (zaa (dv 3) zai)) (zaE zaU zbP rfl T.n_len PyProof.Rows.Boot.«len» (zaa (zaf (dv 0) (za9 T.ziT rfl)) zai)) nm))))
 (zab (zly T.zdt.xc T.zpo T.zil T.zpq ((zlg T).mono (by decide:1<=2)) T.ziU (by decide) (by decide) hr T.zkD hr.hd rfl (zaa zdc zai))
 zah)
 zah)
 (zab (zf2 PassesOwn.leaving rfl (zf3 rfl T.n_enumerate (dv 3)) (zgj rfl (zaR (i:=4) zbE.nd rfl (sap rfl) (zaR (i:=5) zbE.nd rfl (sap rfl) zdb))) zcF
 (zab (zaA (i:=6) zbE.nd rfl (sap rfl) (zoR (zat (ztO hr.units) ztS (dv 4) (dv 2) rfl) (za9 T.zo5 rfl) (zaf (dv 1) (dv 4))))
 (zab (za1 (zbl (zbk (qc ((zpL T).mono (by decide:3<=3)) hr T.zlp zpI (zaa (zaf (zaf (dv 0) (za9 T.ziT rfl)) (dv 4)) (zaa (dv 6) (zaa (dv 5) zai))) al3)))
 (zab (zly T.zdt.xc T.zpo T.zil T.zpq ((zlg T).mono (by decide:1<=2)) T.ziU (by decide) (by decide) hr T.zkD hr.hd rfl (zaa (dv 4) zai))
 zah)
 zah)
 zah)))
 zah)))
theorem zkt (T:Txt K mg t):zcB P w K mg base CX0 2 t.zg5 t.zgU ["some"] (spD K 1 zbU) :=
 zas T.zgH.F zcb fun cdv A outer s0 H Ha E hr=>(
 (zab (zaA (i:=1) zcb.nd rfl (sap rfl) zae)
 (zab (zne saM rfl (dv 0) (zcE (i:=2) zcb.nd rfl (sap rfl)) zdv
 (zab (zaA (i:=1) zcb.nd rfl (sap rfl) (zb2 (zqa (dv 1) (qc ((zfb T).mono (by decide:1<=1)) hr T.zdI zaP (zaa (dv 1) (zaa (zaf (dv 2) zae) zai)) al2)) (zaf (dv 2) zae)))
 zah))
 (zab (zaC (dv 1))
 zah))))
theorem zqR (T:Txt K mg t):zcB P w K mg base CX0 1 t.znC t.znk ["one","bottom"] (spD K 2 zdm) :=
 zas T.zm7.F zkV fun cdv A outer s0 H Ha E hr=>(
 (zab (zaC (zb2 (zaf (dv 0) zae) (zqa (dv 1) (zaf (dv 0) zae))))
 zah))
theorem zk1 (T:Txt K mg t):zcB P w K mg base CX0 3 t.zhO t.zhH ["some"] (spD K 1 zbf) :=
 zas T.zhD.F zdY fun cdv A outer s0 H Ha E hr=>(
 (zab (zaA (i:=1) zdY.nd rfl (sdy rfl) (qc ((zkt T).mono (by decide:2<=2)) hr T.zgH zaP (zaa (zub (zx0 ["one"] 1 [] rfl (zjA (dv 0)) (zeu (by decide)) (fun s H C fp pn=>⟨fun He H0e=>(zcE (i:=0) (show sbZ (["one"]:List Str) from by decide) rfl (sap rfl)),(zxn (zat zvs zvz (dv 0) zdc nm)),(dv 0)⟩) ⟨rfl,rfl⟩ rfl rfl rfl rfl)) zai) al1))
 (zab (zaC (za2 (zaa (zub (zx0 ["one","bottom"] 1 [1] rfl (zjA (dv 0)) (zeu (by decide)) (fun s H C fp pn=>⟨fun He H0e=>(zcE (i:=0) (show sbZ (["one","bottom"]:List Str) from by decide) rfl (sap rfl)),zgS,(zoR (zat zjP zjT (dv 0) zdc nm) zdc (qc ((zqR T).mono (by decide:1<=2)) hr T.zm7 zaP (zaa (dv 0) (zaa (dv 1) zai)) al2))⟩) ⟨rfl,rfl⟩ rfl rfl rfl rfl)) (zaa (dv 1) zai))))
 zah)))
theorem zpM (T:Txt K mg t):zcB P w K mg base CX0 1 t.zl0 t.zlD ["web","sizes","place"] (spD K 3 zcq) :=
 zas T.zlq.F zck fun cdv A outer s0 H Ha E hr=>(
 (zab (zaA (i:=3) zck.nd rfl (sap rfl) zae)
 (zab (zf2 saM rfl (zzY rfl T.n_zip (zaf (dv 0) (za9 T.ziT rfl)) (dv 1)) (zgj rfl (zaR (i:=4) zck.nd rfl (sap rfl) (zaR (i:=5) zck.nd rfl (sap rfl) zdb))) zcF
 (zab (za1 (zat (za0 hr.units) zbL (zaf (dv 4) (za9 T.zuh rfl)) (dv 2) nm)
 (zab (zaA (i:=3) zck.nd rfl (sap rfl) (zba (dv 3) (dv 5)))
 zah)
 zah)
 (zab (za1 (zat (za0 hr.units) zbL (zaf (dv 4) (za9 T.zjE rfl)) (dv 2) nm)
 (zab (zaA (i:=3) zck.nd rfl (sap rfl) (znf (dv 3) (dv 5)))
 zah)
 zah)
 zah)))
 (zab (zaC (dv 3))
 zah))))
theorem zms (T:Txt K mg t):zcB P w K mg base CX0 2 t.zi2 t.ziN ["web","sizes","place"] (spD K 3 zc7) :=
 zas T.ziE.F zeF fun cdv A outer s0 H Ha E hr=>(
 (zab (zaA (i:=3) zeF.nd rfl (sap rfl) (qc ((zpM T).mono (by decide:1<=1)) hr T.zlq zaP (zaa (dv 0) (zaa (dv 1) (zaa (dv 2) zai))) al3))
 (zab (zaC (zoR (zat (za0 hr.units) zbL (dv 2) (zaf (dv 0) (za9 T.zlT rfl)) nm) (zdd zyP (zco fun _ _ _ _=>rb _) (dv 3) zae nm) (zdd (za0 hr.units) zbL (dv 3) zae nm)))
 zah)))
theorem zix (T:Txt K mg t):zcB P w K mg base (CXE P w) 4 t.zfr t.zfm ["web","flow"] (spD K 2 za5) :=
 zjp T.zfg.F zch fun cdv A outer s0 H Ha E hr=>(
 (zab (zaA (i:=2) zch.nd rfl (sap rfl) (zaf (qc ((zk1 T).mono (by decide:3<=3)) hr T.zhD zpI (zaa (dv 1) zai) al1) zae))
 (zab (zne PassesOwn.leaving rfl (zaf (dv 0) (za9 T.zf6 rfl)) (zcE (i:=3) zch.nd rfl (sap rfl)) zdv
 (zab (za1 (DW.dt (zdL (zat (zdw hr.units) zgs (dv 3) (zaf (dv 0) (za9 T.zqh rfl)) nm) (zbC (zbl (zbk (qc ((zms T).mono (by decide:2<=3)) hr T.ziE zpI (zaa (dv 0) (zaa (dv 2) (zaa (dv 3) zai))) al3))))))
 (zab (zly T.zbD.xc T.znL T.zfu T.znM ((zlf T).mono (by decide:1<=2)) T.zf8 (by decide) (by decide) hr T.zgG hr.hd rfl (zaa (dv 3) zai))
 zah)
 zah)
 zah))
 zah)))
theorem zk3 (T:Txt K mg t):zcB P w K mg base (CXE P w) 8 t.zhQ t.zhJ ["web","rooms","taking","thing"] (spD K 4 zaI) :=
 zjp T.zhF.F zgw fun cdv A outer s0 H Ha E hr=>(
 (zab (zgP (qc ((zku T).mono (by decide:7<=7)) hr T.zgI zpI (zaa (dv 0) (zaa (dv 1) zai)) al2))
 (zab (zgP (qc ((zjj T).mono (by decide:7<=7)) hr T.zgf zpI (zaa (dv 0) (zaa (dv 2) zai)) al2))
 (zab (zgP (qc ((ziy T).mono (by decide:4<=7)) hr T.zfh zvp (zaa (dv 0) (zaa (dv 1) (zaa (dv 2) (zaa (dv 3) zai)))) al4))
 (zab (zgP (qc ((zix T).mono (by decide:4<=7)) hr T.zfg zvp (zaa (dv 0) (zaa (dv 3) zai)) al2))
 zah)))))
theorem zfB (T:Txt K mg t):zcB P w K mg base CX0 1 t.zki t.zj7 ["_law_thing"] (spD K 1 zbI) :=
 zas T.zey.F zis fun cdv A outer s0 H Ha E hr=>(
 (zab (zaC (zfl (zbp zm0 rfl T.n_isinstance rfl T.n_int PyProof.Rows.Boot.«int» (dv 0)) (zei (zxq (zbp zlc rfl T.n_isinstance rfl T.n_bool PyProof.Rows.Boot.«bool» (dv 0))))))
 zah))
theorem zjR (T:Txt K mg t):zcB P w K mg base CX0 9 t.zl1 t.zlE ["_law_web_here","_law_rooms_here","_law_taking_here","_law_thing","_law_due"] (spD K 5 zb7) :=
 zas T.zh8.F zcl fun cdv A outer s0 H Ha E hr=>(
 (zab (zaA (i:=5) zcl.nd rfl (sap rfl) zdc)
 (zab (zaA (i:=6) zcl.nd rfl (sap rfl) zer)
 (zab (zEi ⟨rfl,rfl⟩ (qt (i:=6) zcl.nd rfl (sap rfl) ((zk3 T).mono (by decide:8<=8)) hr T.zhF (zaa (dv 0) (zaa (dv 1) (zaa (dv 2) (zaa (dv 3) zai)))) al4) rfl T.zjn (zli T) zcl.nd rfl rfl (fun ea=>(zab (zaA (i:=5) zcl.nd rfl (sap rfl) (dv 7))
 zah)))
 (zab (za1 (zat zjP zjT (dv 4) zdc nm)
 (zab (zaC (zfl (zdd zjP zjT (dv 5) zdc nm) (zei (zdd zjP zjT (dv 6) zdc nm))))
 zah)
 zah)
 (zab (za1 (zbl (zbk (zxr rfl T.n_ValueError PyProof.Rows.Boot.«ValueError» (zyl T) rfl T.n_isinstance (dv 5))))
 (zab (zaC zer)
 zah)
 zah)
 (zab (za1 (zat (za0 hr.units) zbL (ziL rfl T.zkD (zsi T) rfl T.n_isinstance (dv 5)) (ziL rfl T.zgG (zsh T) rfl T.n_isinstance (dv 5)) nm)
 (zab (zaC zer)
 zah)
 zah)
 (zab (za1 (zat (za0 hr.units) zbL (zaf (dv 4) zae) zeh nm)
 (zab (zaC (zfl (ziL rfl T.zgG (zsh T) rfl T.n_isinstance (dv 5)) (zei (zdd (za0 hr.units) zbL (zoS (zq4 T) (dv 5)) (zaf (dv 4) zae) nm))))
 zah)
 zah)
 (zab (za1 (zbl (zbk (ziL rfl T.zkD (zsi T) rfl T.n_isinstance (dv 5))))
 (zab (zaC zer)
 zah)
 zah)
 (zab (zaC (zEq (zfl (zdd zjP zjT (zaf (dv 4) zae) zdc nm) (zei (zdd zjP zjT (zoS (zos T) (dv 5)) zdc nm))) (zei (zfl (qc ((zfB T).mono (by decide:1<=8)) hr T.zey zaP (zaa (zoS (zos T) (dv 5)) zai) al1) (zei (zdd (za0 hr.units) zbL (zoS (zos T) (dv 5)) (zaf (dv 4) zae) nm))))))
 zah))))))))))
theorem zqV (T:Txt K mg t):zcB P w K mg base CX0 1 t.znG t.zno ["_law_one","_law_way_here"] (spD K 2 zhh) :=
 zas T.znb.F zdg fun cdv A outer s0 H Ha E hr=>(
 (zab (zEh rfl (dv 0) (zaR (i:=2) zdg.nd rfl (sap rfl) (zaR (i:=3) zdg.nd rfl (sap rfl) zdb)))
 (zab (zaA (i:=4) zdg.nd rfl (sap rfl) (zbu (zaa zer (zaa zae (zaa zeh (zaa zdc (zaa (za2 (zaa zae (zaa zae zai))) (zaa (za2 (zaa zae (zaa zae zai))) (zaa (zbu (zaa zae (zaa zae zai))) (zaa (za2 (zaa zae (zaa zae (zaa zae zai)))) zai))))))))))
 (zab (zaA (i:=4) zdg.nd rfl (sap rfl) (zba (dv 4) (zbu (zaa (za2 (zaa (zb2 (dv 2) zae) (zaa (zb2 (dv 3) zae) zai))) (zaa (za2 (zaa (dv 2) (zaa (zj6 (dv 3)) zai))) (zaa (za2 (zaa zer (zaa zae zai))) zai))))))
 (zab (zaC (zaf (zba (dv 4) (zbu (zaa (za2 (zaa (dv 2) zai)) (zaa (za2 (zaa (zeA zqf zEu rfl T.n_str PyProof.Rows.Boot.«str» (zaa (dv 2) zai)) (zaa (dv 3) zai))) (zaa (za2 (zaa zae (zaa zer zai))) (zaa zae (zaa zxs zai))))))) (dv 1)))
 zah)))))
theorem ziz (T:Txt K mg t):zcB P w K mg base CX0 3 t.zft t.zfo ["_law_rooms_here","_law_taking_here","_law_flow_here","_law_d"] (spD K 4 zbW) :=
 zas T.zfi.F zaQ fun cdv A outer s0 H Ha E hr=>(
 (zab (zj3 (i:=4) zaQ.nd rfl (sap rfl) (zBM rfl T.n_list (zaa (dv 2) zai)))
 (zab (zaA (i:=5) zaQ.nd rfl (sap rfl) (zbY (zaf (dv 3) zae) (zaE zaU zbP rfl T.n_len PyProof.Rows.Boot.«len» (zaa (dv 2) zai))))
 (zab (zaA (i:=6) zaQ.nd rfl (sap rfl) (zbY (zaf (dv 3) zae) (zaE zaU zbP rfl T.n_len PyProof.Rows.Boot.«len» (zaa (dv 2) zai))))
 (zab (zaA (i:=7) zaQ.nd rfl (sap rfl) (qc ((zcc T).mono (by decide:2<=2)) hr T.zbX zaP (zaa (zbt (dv 3) (zby zae) (zby zae)) zai) al1))
 (zab (zaA (i:=8) zaQ.nd rfl (sap rfl) (znf zae (zb2 zae (zaf (dv 3) zae))))
 (zab (za1 (zat (za0 hr.units) zbL (zaf (dv 3) zae) zae nm)
 (zab (ziK (i:=4) rfl (sap rfl) (za2 (zaa (zb2 (dv 8) (zaf (dv 7) zae)) (zaa (zaf (dv 7) zae) zai))) (dv 5))
 zah)
 zah)
 (zab (za1 (zat (za0 hr.units) zbL (zaf (dv 3) zae) zae nm)
 (zab (zaA (i:=9) zaQ.nd rfl (sap rfl) (qc ((zb1 T).mono (by decide:2<=2)) hr T.zb9 zaP (zaa (zaf (dv 0) (dv 5)) (zaa (za2 (zaa zae (zaa (zba zae (zaf (dv 3) zae)) zai))) (zaa zae zai))) al3))
 (zab (ziK (i:=4) rfl (sap rfl) (za2 (zaa (zb2 (dv 8) (zaf (dv 9) zae)) (zaa (zaf (dv 9) zae) zai))) (dv 5))
 zah))
 zah)
 (zab (za1 (zat (za0 hr.units) zbL (zaf (dv 3) zae) zae nm)
 (zab (ziK (i:=4) rfl (sap rfl) (za2 (zaa (zb2 (dv 8) (zaf (zaf (dv 0) (dv 5)) zae)) (zaa (zaf (zaf (dv 0) (dv 5)) zae) zai))) (dv 5))
 zah)
 zah)
 (zab (za1 (DW.dt (zdq (zat (za0 hr.units) zbL (zaf (dv 3) zae) zae nm) (zaO (zat (za0 hr.units) zbL (zaf (dv 3) zae) zae nm))))
 (zab (ziK (i:=4) rfl (sap rfl) (qc ((zqV T).mono (by decide:1<=2)) hr T.znb zaP (zaa (dv 7) (zaa (zaf (dv 3) zae) zai)) al2) (dv 5))
 zah)
 zah)
 (zab (za1 (zat (za0 hr.units) zbL (zaf (dv 3) zae) zae nm)
 (zab (zxl (i:=4) zaQ.nd rfl rfl (zx0 ["_law_amount"] 1 [] rfl (zjA (dv 2)) (zeu (by decide)) (fun s H C fp pn=>⟨fun He H0e=>(zcE (i:=0) (show sbZ (["_law_amount"]:List Str) from by decide) rfl (sap rfl)),zgS,(za2 (zaa (zj6 (zaf (dv 0) zae)) (zaa (zaf (dv 0) zae) zai)))⟩) ⟨rfl,rfl⟩ rfl rfl rfl rfl))
 zah)
 zah)
 (zab (za1 (zat (za0 hr.units) zbL (zaf (dv 3) zae) zae nm)
 (zab (ziK (i:=4) rfl (sap rfl) (zaf (dv 2) (dv 6)) (dv 5))
 (zab (ziK (i:=4) rfl (sap rfl) (zaf (dv 2) (dv 5)) (dv 6))
 zah))
 zah)
 (zab (za1 (DW.dt (zdq (zat (za0 hr.units) zbL (zaf (dv 3) zae) zae nm) (zaO (zat (za0 hr.units) zbL (zaf (dv 3) zae) zae nm))))
 (zab (ziK (i:=4) rfl (sap rfl) (qc ((zb1 T).mono (by decide:2<=2)) hr T.zb9 zaP (zaa (zaf (dv 2) (dv 6)) (zaa (dv 7) (zaa (dv 8) zai))) al3) (dv 6))
 zah)
 zah)
 (zab (za1 (zat (za0 hr.units) zbL (zaf (dv 3) zae) zae nm)
 (zab (ziK (i:=4) rfl (sap rfl) (qc ((zb1 T).mono (by decide:2<=2)) hr T.zb9 zaP (zaa (zaf (dv 2) (dv 5)) (zaa (za2 (zaa zae (zaa (zba zae (zaf (dv 3) zae)) zai))) (zaa (dv 8) zai))) al3) (dv 5))
 (zab (zxk (i:=4) rfl (sap rfl) (qc ((zb1 T).mono (by decide:2<=2)) hr T.zb9 zaP (zaa (zaf (dv 4) (dv 6)) (zaa (za2 (zaa zae (zaa (zba zae (zaf (dv 3) zae)) zai))) (zaa (zj6 (dv 8)) zai))) al3) (dv 6))
 zah))
 zah)
 (zab (za1 (DW.dt (zdL (zat (za0 hr.units) zbL (zaf (dv 3) zae) zae nm) (zbC (zat (zdw hr.units) zgs (dv 1) (zbu zai) nm))))
 (zab (ziK (i:=4) rfl (sap rfl) (za2 (zaa (zb2 (dv 8) (zaf (dv 7) zae)) (zaa (zaf (dv 7) zae) zai))) (zaf (dv 1) (zbY (dv 5) (zaE zaU zbP rfl T.n_len PyProof.Rows.Boot.«len» (zaa (dv 1) zai)))))
 zah)
 zah)
 (zab (zaC (dv 4))
 zah))))))))))))))))
theorem zhw (T:Txt K mg t):zcB P w K mg base CX0 4 t.zi5 t.ziQ ["_law_rooms_here","_law_taking_here","_law_flow_here","_law_cell"] (spD K 4 za8) :=
 zas T.zfI.F zeG fun cdv A outer s0 H Ha E hr=>(
 (zab (zaA (i:=4) zeG.nd rfl (sap rfl) (qc ((zcz T).mono (by decide:1<=3)) hr T.zct zaP (zaa (dv 3) (zaa (zbu (zaa zae (zaa zae (zaa zae (zaa zae (zaa (zj5 zae zae) (zaa zae (zaa zae (zaa zae zai))))))))) zai)) al2))
 (zab (za1 (zat (za0 hr.units) zbL (zaf (dv 4) zae) zae nm)
 (zab (zaC (zeA zcu zjD rfl T.n_list PyProof.Rows.Boot.«list» (zaa (dv 2) zai)))
 zah)
 zah)
 (zab (za1 (zat (za0 hr.units) zbL (zaf (dv 4) zae) zae nm)
 (zab (zaC (zba (dv 2) (zlA (zgT (zaa (za2 (zaa zae (zaa zae zai))) zai)) (zba zae (zbY (zaf (dv 4) zae) zae)))))
 zah)
 zah)
 (zab (za1 (DW.dt (zdL (zat (za0 hr.units) zbL (zaf (dv 4) zae) zae nm) (zbC (zat (zdw hr.units) zgs (dv 2) (zbu zai) nm))))
 (zab (zaC (zbt (dv 2) zgQ (zby (zbY (zaf (dv 4) zae) (zaE zaU zbP rfl T.n_len PyProof.Rows.Boot.«len» (zaa (dv 2) zai))))))
 zah)
 zah)
 (zab (za1 (zat (za0 hr.units) zbL (zaf (dv 4) zae) zae nm)
 (zab (zaC (zaf (zbu (zaa (zeA zo3 zzo rfl T.n_tuple PyProof.Rows.Boot.«tuple» (zaa (dv 2) zai)) (zaa zdc (zaa zxs (zaa zeh (zaa zae (zaa zer (zaa (zrW rfl rfl T.n_dict rfl T.n_enumerate (dv 2)) zai)))))))) (zbY (zaf (dv 4) zae) zae)))
 zah)
 zah)
 (zab (za1 (zat (za0 hr.units) zbL (dv 2) (zbu zai) nm)
 (zab (zaC (zbu zai))
 zah)
 zah)
 (zab (zaC (qc ((ziz T).mono (by decide:3<=3)) hr T.zfi zaP (zaa (dv 0) (zaa (dv 1) (zaa (dv 2) (zaa (dv 4) zai)))) al4))
 zah))))))))
theorem zh5 (T:Txt K mg t):zcB P w K mg base CX0 2 t.zeE t.zeB ["_law_thing"] (spD K 1 zaZ) :=
 zas T.zez.F zd1 fun cdv A outer s0 H Ha E hr=>(
 (zab (za1 (DW.dt (zdq (zbl (zbk (zbp zew rfl T.n_isinstance rfl T.n_tuple PyProof.Rows.Boot.«tuple» (dv 0)))) (zaO (zat (zdw hr.units) zgs (zaE zaU zbP rfl T.n_len PyProof.Rows.Boot.«len» (zaa (dv 0) zai)) zae nm))))
 (zab (zaC zer)
 zah)
 zah)
 (zab (za1 (DW.dt (zdq (zbl (zbk (qc ((zfB T).mono (by decide:1<=1)) hr T.zey zaP (zaa (zaf (dv 0) zae) zai) al1))) (zaO (zbl (zbk (qc ((zfB T).mono (by decide:1<=1)) hr T.zey zaP (zaa (zaf (dv 0) zae) zai) al1))))))
 (zab (zaC zer)
 zah)
 zah)
 (zab (zaC (zfl (zdd zvv (zco fun _ _ _ _=>rb _) (zaf (dv 0) zae) zae nm) (zei (zdd (za0 hr.units) zbL (qc ((zh4 T).mono (by decide:1<=1)) hr T.zhl zaP (zaa (zaf (dv 0) zae) (zaa (zaf (dv 0) zae) zai)) al2) (dv 0) nm))))
 zah))))
theorem zjS (T:Txt K mg t):zcB P w K mg base CX0 1 t.zl3 t.zlG ["_law_one","_law_other"] (spD K 2 zd8) :=
 zas T.zh9.F zjO fun cdv A outer s0 H Ha E hr=>(
 (zab (zaC (zdd ztM (zco fun _ _ _ _=>rb _) (zb2 (zaf (dv 0) zae) (zaf (dv 1) zae)) (zb2 (zaf (dv 1) zae) (zaf (dv 0) zae)) nm))
 zah))
theorem zoa (T:Txt K mg t):zcB P w K mg base CX0 3 t.zkl t.zka ["_law_web_here","_law_flow_here","_law_place"] (spD K 3 zcs) :=
 zas T.zj1.F zb5 fun cdv A outer s0 H Ha E hr=>(
 (zab (zaA (i:=3) zb5.nd rfl (sap rfl) (za2 (zaa zae (zaa zae zai))))
 (zab (zf2 saM rfl (zf3 rfl T.n_enumerate (zaf (dv 0) zae)) (zgj rfl (zaR (i:=4) zb5.nd rfl (sap rfl) (zaR (i:=5) zb5.nd rfl (sap rfl) zdb))) zcF
 (zab (za1 (zat (za0 hr.units) zbL (zaf (dv 5) zae) (dv 2) nm)
 (zab (zaA (i:=3) zb5.nd rfl (sap rfl) (qc ((zb1 T).mono (by decide:2<=2)) hr T.zb9 zaP (zaa (dv 3) (zaa (zaf (dv 1) (dv 4)) (zaa zae zai))) al3))
 zah)
 zah)
 (zab (za1 (zat (za0 hr.units) zbL (zaf (dv 5) zae) (dv 2) nm)
 (zab (zaA (i:=3) zb5.nd rfl (sap rfl) (qc ((zb1 T).mono (by decide:2<=2)) hr T.zb9 zaP (zaa (dv 3) (zaa (zaf (dv 1) (dv 4)) (zaa (zj6 zae) zai))) al3))
 zah)
 zah)
 zah)))
 (zab (zaC (dv 3))
 zah))))
theorem zob (T:Txt K mg t):zcB P w K mg base CX0 4 t.zkm t.zkb ["_law_web_here","_law_rooms_here","_law_taken","_law_thing"] (spD K 4 zbh) :=
 zas T.zj2.F zcy fun cdv A outer s0 H Ha E hr=>(
 (zab (za1 (DW.dt (zdq (zbl (zbk (zbp zdp rfl T.n_isinstance rfl T.n_list PyProof.Rows.Boot.«list» (dv 3)))) (zaO (zat (zdw hr.units) zgs (zaE zaU zbP rfl T.n_len PyProof.Rows.Boot.«len» (zaa (dv 3) zai)) (zaE zaU zbP rfl T.n_len PyProof.Rows.Boot.«len» (zaa (zaf (dv 0) zae) zai)) nm))))
 (zab (zaC (za2 (zaa zeh (zaa zdc zai))))
 zah)
 zah)
 (zab (zf2 saM rfl (zf3 rfl T.n_enumerate (zaf (dv 0) zae)) (zgj rfl (zaR (i:=4) zcy.nd rfl (sap rfl) (zaR (i:=5) zcy.nd rfl (sap rfl) zdb))) zcF
 (zab (za1 (DW.dt (zdq (zbl (zbk (qc ((zh5 T).mono (by decide:2<=3)) hr T.zez zaP (zaa (zaf (dv 3) (dv 4)) zai) al1))) (zaO (DW.dt (zdL (zat (ztO hr.units) ztS (dv 4) (dv 2) rfl) (zbC (zat (zdw hr.units) zgs (zaf (zaf (dv 3) (dv 4)) zae) zae nm)))))))
 (zab (zaC (za2 (zaa zeh (zaa (dv 4) zai))))
 zah)
 zah)
 (zab (za1 (DW.dt (zdq (zbk (qc ((zjS T).mono (by decide:1<=3)) hr T.zh9 zaP (zaa (zaf (dv 1) (dv 4)) (zaa (zaf (dv 3) (dv 4)) zai)) al2)) (zaO (zbk (qc ((zjS T).mono (by decide:1<=3)) hr T.zh9 zaP (zaa (zaf (dv 1) (dv 4)) (zaa (za2 (zaa (zj6 (zaf (zaf (dv 3) (dv 4)) zae)) (zaa (zaf (zaf (dv 3) (dv 4)) zae) zai))) zai)) al2)))))
 (zab (zaC (za2 (zaa zeh (zaa (dv 4) zai))))
 zah)
 zah)
 (zab (za1 (DW.dt (zdL (zat (za0 hr.units) zbL (zaf (dv 5) zae) zeh nm) (zbC (zat ztM (zco fun _ _ _ _=>rb _) (zaf (zaf (dv 3) (dv 4)) zae) zae nm))))
 (zab (zaC (za2 (zaa zeh (zaa (dv 4) zai))))
 zah)
 zah)
 zah))))
 (zab (zne saM rfl (zaf (dv 0) zae) (zcE (i:=6) zcy.nd rfl (sap rfl)) zdv
 (zab (zaA (i:=7) zcy.nd rfl (sap rfl) (zaf (qc ((zoa T).mono (by decide:3<=3)) hr T.zj1 zaP (zaa (dv 0) (zaa (dv 3) (zaa (dv 6) zai))) al3) zae))
 (zab (za1 (DW.dt (zdq (DW.dt (zdL (zat (za0 hr.units) zbL (dv 6) (zaf (dv 0) zae) nm) (zbC (zat ztM (zco fun _ _ _ _=>rb _) (dv 7) zae nm)))) (zaO (DW.dt (zdL (zat (zdN hr.units) zdP (dv 6) (za2 (zaa (zaf (dv 0) zae) (zaa (zaf (dv 0) zae) zai))) rfl) (zbC (zat (zdw hr.units) zgs (dv 7) zae nm)))))))
 (zab (zaC (za2 (zaa zeh (zaa (dv 6) zai))))
 zah)
 zah)
 zah)))
 (zab (zaC zdc)
 zah)))))
theorem zDw (T:Txt K mg t):zcB P w K mg base CX0 10 t.zun t.zxu ["_law_script"] (spD K 1 zvJ) :=
 zas T.zD3.F zdZ fun cdv A outer s0 H Ha E hr=>(
 (zab (zaA (i:=1) zdZ.nd rfl (sap rfl) (qc ((zqS T).mono (by decide:4<=9)) hr T.zm8 zaP (zaa (dv 0) zai) al1))
 (zab (zaA (i:=2) zdZ.nd rfl (sap rfl) (zba (zlA (zxp (zlA (zgT (zaa zae zai)) zae) (zbu (zaa zae (zaa (zj5 zae zae) (zaa zae zai))))) zae) (zbu (zaa zae (zaa zae zai)))))
 (zab (zaA (i:=3) zdZ.nd rfl (sap rfl) (qc ((zcz T).mono (by decide:1<=9)) hr T.zct zaP (zaa (zaf (zba (zaf (qc ((zdO T).mono (by decide:2<=9)) hr T.zdz zaP (zaa (dv 0) zai) al1) zae) (zbu (zaa zae zai))) zae) (zaa (dv 2) zai)) al2))
 (zab (za1 (zat (za0 hr.units) zbL (zaf (dv 3) zae) zae nm)
 (zab (zaA (i:=1) zdZ.nd rfl (sap rfl) (za2 (zaa (zEp (zaf (dv 1) zae)) (zaa (zaf (dv 1) zae) (zaa (zaf (dv 1) zae) (zaa (zaf (dv 1) zae) zai))))))
 zah)
 zah)
 (zab (zaA (i:=4) zdZ.nd rfl (sap rfl) (qc ((zpN T).mono (by decide:3<=9)) hr T.zlr zaP (zaa (dv 1) (zaa (zbu zai) (zaa (dv 3) zai))) al3))
 (zab (zaA (i:=5) zdZ.nd rfl (sap rfl) (qc ((zmu T).mono (by decide:1<=9)) hr T.ziG zaP (zaa (dv 1) (zaa (dv 4) (zaa (zaf (dv 3) zae) zai))) al3))
 (zab (zj3 (i:=6) zdZ.nd rfl (sap rfl) (zgT zai))
 (zab (zf2 saM rfl (zzY rfl T.n_zip (dv 4) (qc ((zn8 T).mono (by decide:3<=9)) hr T.zjZ zaP (zaa (dv 0) zai) al1)) (zgj rfl (zaR (i:=7) zdZ.nd rfl (sap rfl) (zaR (i:=8) zdZ.nd rfl (sap rfl) zdb))) zcF
 (zab (zda (i:=6) rfl (sap rfl) (qc ((zb1 T).mono (by decide:2<=9)) hr T.zb9 zaP (zaa (za2 (zaa (zaE zf5 zlQ rfl T.n_abs PyProof.Rows.Boot.«abs» (zaa (zaf (dv 7) zae) zai)) (zaa (zaf (dv 7) zae) zai))) (zaa (dv 8) (zaa zae zai))) al3))
 zah))
 (zab (znd 6 (zaA (i:=9) zdZ.nd rfl (sap rfl) (za2 (zaa (za2 (zaa (zeA zcu zjD rfl T.n_list PyProof.Rows.Boot.«list» (zaa (zaf (dv 1) zae) zai)) (zaa (zeA zcu zjD rfl T.n_list PyProof.Rows.Boot.«list» (zaa (zaf (dv 1) zae) zai)) (zaa (zaf (dv 1) zae) (zaa (zaf (dv 1) zae) zai))))) (zaa (zeA zcu zjD rfl T.n_list PyProof.Rows.Boot.«list» (zaa (dv 6) zai)) (zaa (zeA zcu zjD rfl T.n_list PyProof.Rows.Boot.«list» (zaa (dv 5) zai)) zai))))))
 (zab (za1 (zbl (zbk (qc ((zjR T).mono (by decide:9<=9)) hr T.zh8 zaP (zaa (zaf (dv 9) zae) (zaa (zaf (dv 9) zae) (zaa (zaf (dv 9) zae) (zaa (zeA zcu zjD rfl T.n_list PyProof.Rows.Boot.«list» (zaa (dv 4) zai)) (zaa zdc zai))))) al5)))
 (zab (zaC zer)
 zah)
 zah)
 (zab (zne saM rfl (zba (zbt (zaf (qc ((zdO T).mono (by decide:2<=9)) hr T.zdz zaP (zaa (dv 0) zai) al1) zae) (zby zae) zgQ) (zbu (zaa zae zai))) (zcE (i:=10) zdZ.nd rfl (sap rfl)) zdv
 (zab (znd 6 (zaA (i:=11) zdZ.nd rfl (sap rfl) (qc ((zhw T).mono (by decide:4<=9)) hr T.zfI zaP (zaa (dv 6) (zaa (dv 5) (zaa (dv 4) (zaa (dv 10) zai)))) al4)))
 (zab (znd 6 (zaA (i:=12) zdZ.nd rfl (sap rfl) (qc ((zob T).mono (by decide:4<=9)) hr T.zj2 zaP (zaa (dv 1) (zaa (dv 6) (zaa (dv 5) (zaa (dv 11) zai)))) al4)))
 (zab (za1 (zbl (zbk (qc ((zjR T).mono (by decide:9<=9)) hr T.zh8 zaP (zaa (zaf (dv 9) zae) (zaa (zaf (dv 9) zae) (zaa (zaf (dv 9) zae) (zaa (dv 11) (zaa (dv 12) zai))))) al5)))
 (zab (zaC zer)
 zah)
 zah)
 (zab (znd 6 (za1 (DW.dt (zdq (zat (zDo hr.units) zDy (dv 11) (qc ((zhw T).mono (by decide:4<=9)) hr T.zfI zaP (zaa (dv 6) (zaa (dv 5) (zaa (dv 4) (zaa (dv 10) zai)))) al4) nm) (zaO (zat (zdw hr.units) zgs (dv 9) (za2 (zaa (dv 1) (zaa (dv 6) (zaa (dv 5) zai)))) nm))))
 (zab (zaC zer)
 zah)
 zah))
 zah)))))
 (zab (zaC zer)
 zah)))))))))))))
end
theorem txt_mk {K:saj}{h:Heap}{mg:Str->Option Value}(X:K.In h)(G:h.Ns mainGlobals mg){zcI:Addr}{zbg:Addr}{zaS:Addr}{zaw:Addr}{zal:Addr}{a_0:Addr}{a_1:Addr}{a_2:Addr}{a_3:Addr}{a_4:Addr}{a_5:Addr}{a_6:Addr}{a_7:Addr}{a_8:Addr}{a_9:Addr}{a_10:Addr}{a_11:Addr}{a_12:Addr}{a_13:Addr}{a_14:Addr}{a_15:Addr}{a_16:Addr}{a_17:Addr}{a_18:Addr}{a_19:Addr}{a_20:Addr}{a_21:Addr}{a_22:Addr}{a_23:Addr}{a_24:Addr}{a_25:Addr}{a_26:Addr}{a_27:Addr}{a_28:Addr}{a_29:Addr}{a_30:Addr}{a_31:Addr}{a_32:Addr}{a_33:Addr}{a_34:Addr}{a_35:Addr}{a_36:Addr}{a_37:Addr}{a_38:Addr}{a_39:Addr}{a_40:Addr}{a_41:Addr}{a_42:Addr}{a_43:Addr}{a_44:Addr}{a_45:Addr}{a_46:Addr}(q_0:QA K "_law_draws" zgC a_0)(q_1:QA K "_law_names" zgz a_1)(q_2:QA K "_law_cells" zgD a_2)(q_3:QA K "_law_low" zjh a_3)(q_4:QA K "_law_fraction" zd5 a_4)(q_5:QA K "_law_tie" zjf a_5)(q_6:QA K "_law_web" zjd a_6)(q_7:QA K "_law_plus" zhY a_7)(q_8:QA K "_law_way" zje a_8)(q_9:QA K "_law_flow" zh0 a_9)(q_10:QA K "_law_taking" zfz a_10)(q_11:QA K "_law_rooms" zgy a_11)(q_12:QA K "is_name" zkW a_12)(q_13:QA K "look_at_places" zdB a_13)(q_14:QA K "is_whole" zi9 a_14)(q_15:QA K "common_divisor" zdC a_15)(q_16:QA K "is_ratio" zja a_16)(q_17:QA K "is_length" zhU a_17)(q_18:QA K "is_worth" zi8 a_18)(q_19:QA K "is_tie" znZ a_19)(q_20:QA K "look_at_ties" zeI a_20)(q_21:QA K "is_place" zjb a_21)(q_22:QA K "look_at_web" zfw a_22)(q_23:QA K "has_lengths" zfy a_23)(q_24:QA K "look_at_rooms" zd3 a_24)(q_25:QA K "is_tie_number" zd4 a_25)(q_26:QA K "look_at_taking" zdA a_26)(q_27:QA K "is_less" zkX a_27)(q_28:QA K "is_amount" zhV a_28)(q_29:QA K "look_at_amounts" zdi a_29)(q_30:QA K "shared_bottom" zd2 a_30)(q_31:QA K "as_whole" zjc a_31)(q_32:QA K "on_one_scale" zeH a_32)(q_33:QA K "goes_from" zhW a_33)(q_34:QA K "is_balanced" zfx a_34)(q_35:QA K "look_at_balance" zdh a_35)(q_36:QA K "look_at_flow" zeJ a_36)(q_37:QA K "_law_whole" zgx a_37)(q_38:QA K "_law_told" zhX a_38)(q_39:QA K "_law_odd" zjg a_39)(q_40:QA K "_law_one_spoilt" zdj a_40)(q_41:QA K "_law_spoilt" zfA a_41)(q_42:QA K "_law_is_fraction" zc2 a_42)(q_43:QA K "_law_less" zhZ a_43)(q_44:QA K "_law_going" zgA a_44)(q_45:QA K "_law_fault" zgB a_45)(q_46:QA K "law" znY a_46)
  (z_ValueError:sbh K mainGlobals "ValueError"=some none)
  (z_abs:sbh K mainGlobals "abs"=some none)
  (z_all:sbh K mainGlobals "all"=some none)
  (z_bool:sbh K mainGlobals "bool"=some none)
  (z_dict:sbh K mainGlobals "dict"=some none)
  (z_enumerate:sbh K mainGlobals "enumerate"=some none)
  (z_int:sbh K mainGlobals "int"=some none)
  (z_isinstance:sbh K mainGlobals "isinstance"=some none)
  (z_len:sbh K mainGlobals "len"=some none)
  (z_list:sbh K mainGlobals "list"=some none)
  (z_min:sbh K mainGlobals "min"=some none)
  (z_range:sbh K mainGlobals "range"=some none)
  (z_str:sbh K mainGlobals "str"=some none)
  (z_tuple:sbh K mainGlobals "tuple"=some none)
  (z_zip:sbh K mainGlobals "zip"=some none)
  (zjW:sbh K mainGlobals "CutError"=some (some (.ref zaS)))(zpS:W.typeIn K (.ref zaS)=some (.type "type"))(zpT:W.mroIn K zaS (.type "object")=some true)(zpU:sa0 K (.ref zaS) (.type "BaseException")=some true)
  (zjm:sbh K mainGlobals "NoFlow"=some (some (.ref zaw)))(zmX:W.typeIn K (.ref zaw)=some (.type "type"))(zmY:W.mroIn K zaw (.type "object")=some true)(zm2:sa0 K (.ref zaw) (.type "BaseException")=some true)
  (zeL:sbh K mainGlobals "Unbalanced"=some (some (.ref zal)))(zhA:W.typeIn K (.ref zal)=some (.type "type"))(zhB:W.mroIn K zal (.type "object")=some true)(zhC:sa0 K (.ref zal) (.type "BaseException")=some true)
  (zqC:sbF K (.ref zaw) "__class__"=some (some (.builtin "object.__class__")))(ztr:sbF K (.ref zaw) "__getattribute__"=some (some (.builtin "BaseException.__getattribute__")))(ztq:sbF K (.ref zaw) "__getattr__"=some none)(ztn:sa0 K (.ref zaw) (.type "NoneType")=some false)(ztm:sa0 K (.ref zaw) (.type "bool")=some false)(ztl:sa0 K (.ref zaw) (.type "int")=some false)(ztk:sa0 K (.ref zaw) (.type "str")=some false)(ztj:sa0 K (.ref zaw) (.type "tuple")=some false)(zti:sa0 K (.ref zaw) (.type "list")=some false)(zth:sa0 K (.ref zaw) (.type "dict")=some false)(ztg:sa0 K (.ref zaw) (.type "ValueError")=some true)(zpj:sa0 K (.ref zaw) (.ref zaw)=some true)
  (zkM:sbF K (.ref zal) "__class__"=some (some (.builtin "object.__class__")))(zmn:sbF K (.ref zal) "__getattribute__"=some (some (.builtin "BaseException.__getattribute__")))(zmm:sbF K (.ref zal) "__getattr__"=some none)(zmj:sa0 K (.ref zal) (.type "NoneType")=some false)(zmi:sa0 K (.ref zal) (.type "bool")=some false)(zmh:sa0 K (.ref zal) (.type "int")=some false)(zmg:sa0 K (.ref zal) (.type "str")=some false)(zmf:sa0 K (.ref zal) (.type "tuple")=some false)(zme:sa0 K (.ref zal) (.type "list")=some false)(zmd:sa0 K (.ref zal) (.type "dict")=some false)(zmc:sa0 K (.ref zal) (.type "ValueError")=some true)(zkp:sa0 K (.ref zal) (.ref zal)=some true)
  {ztT zt0 zuc ztG znr zud:Value}{ztR zul:Option Addr}{ztA:Array (Option Value)}
  {zvE zu9:Str}{zof:Addr}{zxG zuS:List Value}{zv4 zxQ:Bool}{zuY:List Str}{zuf:Option Bool}{zxt zxm:Option Addr}{zvS zvR zvQ zvP zvO:Option Value}{zxC:Value}{zp3:Array DictEntry}{zxg:Nat}{zuU:Array (Option Value)}
  (zpm:K.lookup zaw=some (excClassObj zvE zu9 zaw zof zxG [.ref zaS,.type "ValueError",.type "Exception",.type "BaseException",.type "object"] zv4 zuY zuS zxQ zuf zxt zvS zvR zvQ zvP zvO "ValueError.__new__")) (zpl:K.lookup zof=some ⟨zxC,zxm,.dict zp3 zxg,zuU⟩) (zpn:zp3.toList.all zAZ=true) (zph:sbh K zof "__init__"=some (some (.ref zcI)))
  (zu8:W.isFn K (.ref zcI)=true) (zpE:K.lookup zcI=some ⟨ztT,ztR,.func (sb9 "__init__" "NoFlow.__init__" (defArgs ze8) (defBody ze8) (defScope ze8) .none zt0 zuc ztG zul znr zud),ztA⟩) (zpD:sdF K znr "NoFlow.__init__"=true) (zpC:scU K (.ref zcI)=true)
  (zto:sbF K (.ref zaw) "__setattr__"=some (some (.builtin "object.__setattr__"))) (ztp:scc K zaw=true) (znK:sbF K (.ref zaw) "at"=some none)
  {zmw zmx zmz zmr zhL zmB:Value}{zmv zmG:Option Addr}{zmp:Array (Option Value)}
  {zoe zn3:Str}{zgE:Addr}{zo7 znR:List Value}{zoo zpa:Bool}{znT:List Str}{zmD:Option Bool}{zoT zoQ:Option Addr}{zon zom zol zok zoj:Option Value}{zoY:Value}{ziI:Array DictEntry}{zoO:Nat}{znS:Array (Option Value)}
  (zin:K.lookup zal=some (excClassObj zoe zn3 zal zgE zo7 [.ref zaS,.type "ValueError",.type "Exception",.type "BaseException",.type "object"] zoo znT znR zpa zmD zoT zon zom zol zok zoj "ValueError.__new__")) (zim:K.lookup zgE=some ⟨zoY,zoQ,.dict ziI zoO,znS⟩) (zio:ziI.toList.all zAZ=true) (zik:sbh K zgE "__init__"=some (some (.ref zbg)))
  (zn2:W.isFn K (.ref zbg)=true) (ziv:K.lookup zbg=some ⟨zmw,zmv,.func (sb9 "__init__" "Unbalanced.__init__" (defArgs zcw) (defBody zcw) (defScope zcw) .none zmx zmz zmr zmG zhL zmB),zmp⟩) (ziu:sdF K zhL "Unbalanced.__init__"=true) (zit:scU K (.ref zbg)=true)
  (zmk:sbF K (.ref zal) "__setattr__"=some (some (.builtin "object.__setattr__"))) (zml:scc K zal=true) (zhp:sbF K (.ref zal) "place"=some none)
  (zet:W.excIn K zaS [.type "ValueError",.type "Exception",.type "BaseException",.type "object"] "ValueError.__new__"=true) (zpk:W.readsIn K zaS (.type "type")=true) (zpp:W.findCls K (.ref zaS) (.type "type") "__init__"=some (.val (.builtin "ValueError.__init__"))) (zpi:W.specialIn K (.ref zaS) "__getattribute__"=some (some (.builtin "type.__getattribute__")))
  (zdk:sa0 K (.ref zaw) (.ref zaS)=some true)
  (zd7:sa0 K (.ref zaw) (.ref zaw)=some true)
  (zcN:sa0 K (.ref zaw) (.ref zal)=some false)
  (zcn:sa0 K (.ref zal) (.ref zaS)=some true)
  (zcM:sa0 K (.ref zal) (.ref zaw)=some false)
  (zb6:sa0 K (.ref zal) (.ref zal)=some true)
  {zkO:Tok}(zkL:sbh K mainGlobals "FEWEST_PLACES"=some (some (.int 2 zkO)))
  {zAs:Tok}(zAa:sbh K mainGlobals "FIRST"=some (some (.int 2 zAs)))
  {zCA:Tok}(zCk:sbh K mainGlobals "LAST"=some (some (.int 3 zCA)))
  {zyo:Tok}(zx4:sbh K mainGlobals "LENGTH"=some (some (.int 3 zyo)))
  {zuO:Tok}(zuv:sbh K mainGlobals "LETTERS"=some (some (.str "abcdefghijklmnopqrstuvwxyz" zuO)))
  {zmo:Tok}(zmb:sbh K mainGlobals "LONGEST_NAME"=some (some (.int 8 zmo)))
  {znP:Tok}(znJ:sbh K mainGlobals "MOST_PLACES"=some (some (.int 7 znP)))
  {zqF:Tok}(zqB:sbh K mainGlobals "MOST_TIES"=some (some (.int 14 zqF)))
  {zsu:Addr}{zsB:Obj}(zx3:sbh K mainGlobals "NOUGHT"=some (some (.ref zsu))) (zya:K.lookup zsu=some zsB) (zyf:∃ od its n sl vs,zsB=⟨.type "tuple",od,.seq its n,sl⟩/\zbM vs its.toList/\its.size<=sizeLine/\∀ H,Reps K H [.int 0,.int 1] vs)
  {zEY:Tok}(zES:sbh K mainGlobals "ONE"=some (some (.int 0 zEY)))
  {zAr:Tok}(zz9:sbh K mainGlobals "OTHER"=some (some (.int 1 zAr)))
  {zyn:Tok}(zx2:sbh K mainGlobals "PLACES"=some (some (.int 0 zyn)))
  {zCz:Tok}(zCj:sbh K mainGlobals "TIES"=some (some (.int 1 zCz)))
  {zCy:Tok}(zCi:sbh K mainGlobals "WORD"=some (some (.int 2 zCy)))
  {zva:Addr}{zvA:Obj}(zz8:sbh K mainGlobals "WORDS"=some (some (.ref zva))) (zAj:K.lookup zva=some zvA) (zAn:∃ od its n sl vs,zvA=⟨.type "tuple",od,.seq its n,sl⟩/\zbM vs its.toList/\its.size<=sizeLine/\∀ H,Reps K H [.str "one",.str "both"] vs)
  {zAq:Tok}(zz7:sbh K mainGlobals "WORTH"=some (some (.int 4 zAq))) :
  ∃ t:Adr,Txt K mg t/\t.zun=a_46/\∃ kV doc pm an cdv ct,t.zxu=sb9 "law" "law" (defArgs znY) (defBody znY) (defScope znY) .none kV doc pm an cdv ct:=by
 obtain⟨d_0,T_0,_⟩:=ft2 X G q_0 zbF;obtain⟨d_1,T_1,_⟩:=ft2 X G q_1 za7;obtain⟨d_2,T_2,_⟩:=ft1 X G q_2 zdM;obtain⟨d_3,T_3,_⟩:=ft2 X G q_3 zd0;obtain⟨d_4,T_4,_⟩:=ft1 X G q_4 zcJ;obtain⟨d_5,T_5,_⟩:=ft3 X G q_5 zbK;obtain⟨d_6,T_6,_⟩:=ft1 X G q_6 zb4;obtain⟨d_7,T_7,_⟩:=ft3 X G q_7 zjN;obtain⟨d_8,T_8,_⟩:=ft3 X G q_8 zbr;obtain⟨d_9,T_9,_⟩:=ft3 X G q_9 zb0;obtain⟨d_10,T_10,_⟩:=ft3 X G q_10 zcG;obtain⟨d_11,T_11,_⟩:=ft1 X G q_11 zfv;obtain⟨d_12,T_12,_⟩:=ft1 X G q_12 zmM;obtain⟨d_13,T_13,_⟩:=ft1 X G q_13 zcx;obtain⟨d_14,T_14,_⟩:=ft1 X G q_14 zkS;obtain⟨d_15,T_15,_⟩:=ft2 X G q_15 zbd;obtain⟨d_16,T_16,_⟩:=ft1 X G q_16 zkT;obtain⟨d_17,T_17,_⟩:=ft1 X G q_17 zjL;obtain⟨d_18,T_18,_⟩:=ft1 X G q_18 zkR;obtain⟨d_19,T_19,_⟩:=ft1 X G q_19 zpz;obtain⟨d_20,T_20,_⟩:=ft2 X G q_20 zc1;obtain⟨d_21,T_21,_⟩:=ft2 X G q_21 zkU;obtain⟨d_22,T_22,_⟩:=ft1 X G q_22 zht;obtain⟨d_23,T_23,_⟩:=ft2 X G q_23 zhu;obtain⟨d_24,T_24,_⟩:=ft2 X G q_24 zgc;obtain⟨d_25,T_25,_⟩:=ft2 X G q_25 zgd;obtain⟨d_26,T_26,_⟩:=ft2 X G q_26 zbS;obtain⟨d_27,T_27,_⟩:=ft2 X G q_27 zmN;obtain⟨d_28,T_28,_⟩:=ft3 X G q_28 zjM;obtain⟨d_29,T_29,_⟩:=ft4 X G q_29 zbE;obtain⟨d_30,T_30,_⟩:=ft1 X G q_30 zcb;obtain⟨d_31,T_31,_⟩:=ft2 X G q_31 zkV;obtain⟨d_32,T_32,_⟩:=ft1 X G q_32 zdY;obtain⟨d_33,T_33,_⟩:=ft3 X G q_33 zck;obtain⟨d_34,T_34,_⟩:=ft3 X G q_34 zeF;obtain⟨d_35,T_35,_⟩:=ft2 X G q_35 zch;obtain⟨d_36,T_36,_⟩:=ft4 X G q_36 zgw;obtain⟨d_37,T_37,_⟩:=ft1 X G q_37 zis;obtain⟨d_38,T_38,_⟩:=ft5 X G q_38 zcl;obtain⟨d_39,T_39,_⟩:=ft2 X G q_39 zdg;obtain⟨d_40,T_40,_⟩:=ft4 X G q_40 zaQ;obtain⟨d_41,T_41,_⟩:=ft4 X G q_41 zeG;obtain⟨d_42,T_42,_⟩:=ft1 X G q_42 zd1;obtain⟨d_43,T_43,_⟩:=ft2 X G q_43 zjO;obtain⟨d_44,T_44,_⟩:=ft3 X G q_44 zb5;obtain⟨d_45,T_45,_⟩:=ft4 X G q_45 zcy;obtain⟨d_46,T_46,zFY⟩:=ft1 X G q_46 zdZ;refine⟨⟨zcI,_,zbg,_,zaS,zaw,zal,a_0,d_0,a_1,d_1,a_2,d_2,a_3,d_3,a_4,d_4,a_5,d_5,a_6,d_6,a_7,d_7,a_8,d_8,a_9,d_9,a_10,d_10,a_11,d_11,a_12,d_12,a_13,d_13,a_14,d_14,a_15,d_15,a_16,d_16,a_17,d_17,a_18,d_18,a_19,d_19,a_20,d_20,a_21,d_21,a_22,d_22,a_23,d_23,a_24,d_24,a_25,d_25,a_26,d_26,a_27,d_27,a_28,d_28,a_29,d_29,a_30,d_30,a_31,d_31,a_32,d_32,a_33,d_33,a_34,d_34,a_35,d_35,a_36,d_36,a_37,d_37,a_38,d_38,a_39,d_39,a_40,d_40,a_41,d_41,a_42,d_42,a_43,d_43,a_44,d_44,a_45,d_45,a_46,d_46⟩,⟨T_0,T_1,T_2,T_3,T_4,T_5,T_6,T_7,T_8,T_9,T_10,T_11,T_12,T_13,T_14,T_15,T_16,T_17,T_18,T_19,T_20,T_21,T_22,T_23,T_24,T_25,T_26,T_27,T_28,T_29,T_30,T_31,T_32,T_33,T_34,T_35,T_36,T_37,T_38,T_39,T_40,T_41,T_42,T_43,T_44,T_45,T_46,sbf X G z_ValueError,sbf X G z_abs,sbf X G z_all,sbf X G z_bool,sbf X G z_dict,sbf X G z_enumerate,sbf X G z_int,sbf X G z_isinstance,sbf X G z_len,sbf X G z_list,sbf X G z_min,sbf X G z_range,sbf X G z_str,sbf X G z_tuple,sbf X G z_zip,sb1 X G zjW,⟨zjW,zpS,zpT,zpU⟩,sb1 X G zjm,⟨zjm,zmX,zmY,zm2⟩,sb1 X G zeL,⟨zeL,zhA,zhB,zhC⟩,⟨⟨zjm,zmX,zmY,zm2⟩,zqC,ztr,ztq,ztn,ztm,ztl,ztk,ztj,zti,zth,ztg,zpj⟩,⟨⟨zeL,zhA,zhB,zhC⟩,zkM,zmn,zmm,zmj,zmi,zmh,zmg,zmf,zme,zmd,zmc,zkp⟩,zm5 zpE zpD zpC,?ziU,zsc zpm zpl zpn zph zet,zzw (zsc zpm zpl zpn zph zet) zto ztp (zsE znK (zvB)),zu8,zm5 ziv ziu zit,?zf8,zsc zin zim zio zik zet,zzw (zsc zin zim zio zik zet) zmk zml (zsE zhp (zvB)),zn2,⟨zpk,zpp,zpi⟩,zdk,zd7,zcN,zcn,zcM,zb6,?zej,?zlT,?zqh,?zo6,?zlS,?ze6,?zf7,?zij,?zo5,?zuh,?zjE,?zf6,?ziT,?zqg,?zrX,?zo4⟩,rfl,zFY⟩
 case ziU=>exact(zm5 (st:=ze8) zpE zpD zpC).binds fun _ _ _ _ _ _ us hl=>by obtain⟨_,_,rfl⟩:=ln2 hl;rfl
 case zf8=>exact(zm5 (st:=zcw) ziv ziu zit).binds fun _ _ _ _ _ _ us hl=>by obtain⟨_,_,rfl⟩:=ln2 hl;rfl
 case zej=>exact zdo (sb1 X G zkL)
 case zlT=>exact zdo (sb1 X G zAa)
 case zqh=>exact zdo (sb1 X G zCk)
 case zo6=>exact zdo (sb1 X G zx4)
 case zlS=>exact zA6 (sb1 X G zuv)
 case ze6=>exact zdo (sb1 X G zmb)
 case zf7=>exact zdo (sb1 X G znJ)
 case zij=>exact zdo (sb1 X G zqB)
 case zo5 =>
  obtain⟨od,its,n,sl,vs,rfl,h1,h2,h3⟩:=zyf;exact zvL (sb1 X G zx3) zya h1 h2 h3
 case zuh=>exact zdo (sb1 X G zES)
 case zjE=>exact zdo (sb1 X G zz9)
 case zf6=>exact zdo (sb1 X G zx2)
 case ziT=>exact zdo (sb1 X G zCj)
 case zqg=>exact zdo (sb1 X G zCi)
 case zrX =>
  obtain⟨od,its,n,sl,vs,rfl,h1,h2,h3⟩:=zAn;exact zvL (sb1 X G zz8) zAj h1 h2 h3
 case zo4=>exact zdo (sb1 X G zz7)
theorem txt_wr {K:saj}{mg:Str->Option Value}{a:Addr}{R:Adr->Prop}(h:∃ t:Adr,Txt K mg t/\t.zun=a/\R t):∃ t:Adr,Txt K mg t/\mg "law"=some (.ref t.zun)/\R t:=h.elim fun t ⟨T,_,r⟩=>⟨t,T,T.zD3.g,r⟩
theorem zCM (K:saj)(H:Hp)(a:Addr)(ns:List Int)(hl:ns.length<=63)(hS:SqL K H a (ns.map V.int)):spD K 1 zvJ [.ref a] H (fun v _=>v=.bl true) fun _ _ _=>False:=by
 refine⟨rfl,H,[.lst (ns.map D.int)],zaM.refl _,Reps.cons (zao.mpr ⟨a,_,rfl,hS,zqu ns⟩) Reps.nil,?_⟩;rw[zyW ns hl];exact fun v H' Ha' _ r=>zaq.mp r
end K34
namespace PySem.W.Fast
def tw4424347801139269189:=0
def tw5903284847883239673:=0
def tw3889466686950925444:=0
def tw11987680160192712143:=0
def tw435800873090121371:=0
def tw9327729998910079771:=0
def tw421682107984584006:=0
def tw6383342824278918199:=0
def tw17049314385455257600:=0
def tw18330451754828051543:=0
def tw11946576726452851942:=0
def tw1708297050230917917:=0
def tw8532752145502499994:=0
def tw16427642131659789127:=0
def tw14952200125151030997:=0
def tw15603638717182085064:=0
def tw10080873934876750812:=0
def tw7717094425283601749:=0
def tw16181693024698225406:=0
def tw15808394038880888116:=0
def tw12610865952039171183:=0
def tw1819369577166903448:=0
def tw13140444166060105864:=0
def tw14238768852326379856:=0
def tw11818380550523119:=0
def tw17698058928563551088:=0
def tw10963727735704930460:=0
def tw17629903393710117564:=0
def tw5987082910815108112:=0
def tw5960540547650546032:=0
def tw14569637756471741051:=0
def tw18186191894251853446:=0
def tw6789710228997666869:=0
def tw11779282848853628644:=0
def tw1616903533720433947:=0
def tw8166632063291211321:=0
def tw5903789866385259286:=0
def tw5267009456182699489:=0
def tw18404307080843854406:=0
def tw11419042024458828413:=0
def tw10407918736729276968:=0
def tw3671774805275922812:=0
end PySem.W.Fast
open PySem PySem.W PyProof.Rows
set_option maxRecDepth 100000 in
set_option maxHeartbeats 0 in
theorem PySem.Challenge.cw_farthestcut_k34_what_is_a_flow_holds : PySem.Challenge.rw_farthestcut_k34_what_is_a_flow.Holds := by
 w_on;o_law;k_head;(case hw=>w_witness2)
 k_fill
 refine L2.walk_ofK (l:=PySem.Challenge.rw_farthestcut_k34_what_is_a_flow) (n:=63) (k:=10) (x:="_law_script") (CX:=L2.CX0) (sp:=fun K=>DL.spD K 1 K34.zvJ) rfl (by decide) rfl ⟨rfl,by decide,by decide⟩ (fun w h Y=>W.kIn_of Y) ?F ?S ?C
 case S=>exact fun K H a ns hl _ hS=>K34.zCM K H a ns hl hS
 case C=>exact fun _ _ _ _ h=>h
 case F =>
  intro w mg fa h KX G hmg;have T:∃ t:K34.Adr,K34.Txt (L2.KOf KX) mg t/\mg "law"=some (.ref t.zun)/\∃ kV doc pm an cdv ct,t.zxu=sb9 "law" "law" (L2.defArgs K34.znY) (L2.defBody K34.znY) (L2.defScope K34.znY) .none kV doc pm an cdv ct:=by
   dsimp only[L2.KOf];refine' K34.txt_wr (K34.txt_mk KX G ?_ ?_ ?_ ?_ ?_ ?_ ?_ ?_ ?_ ?_ ?_ ?_ ?_ ?_ ?_ ?_ ?_ ?_ ?_ ?_ ?_ ?_ ?_ ?_ ?_ ?_ ?_ ?_ ?_ ?_ ?_ ?_ ?_ ?_ ?_ ?_ ?_ ?_ ?_ ?_ ?_ ?_ ?_ ?_ ?_ ?_ ?_ ?_ ?_ ?_ ?_ ?_ ?_ ?_ ?_ ?_ ?_ ?_ ?_ ?_ ?_ ?_ ?_ ?_ ?_ ?_ ?_ ?_ ?_ ?_ ?_ ?_ ?_ ?_ ?_ ?_ ?_ ?_ ?_ ?_ ?_ ?_ ?_ ?_ ?_ ?_ ?_ ?_ ?_ ?_ ?_ ?_ ?_ ?_ ?_ ?_ ?_ ?_ ?_ ?_ ?_ ?_ ?_ ?_ ?_ ?_ ?_ ?_ ?_ ?_ ?_ ?_ ?_ ?_ ?_ ?_ ?_ ?_ ?_ ?_ ?_ ?_ ?_ ?_ ?_ ?_ ?_ ?_ ?_ ?_ ?_ ?_ ?_ ?_ ?_ ?_ ?_ ?_ ?_ ?_ ?_ ?_ ?_ ?_ ?_ ?_ ?_ ?_ ?_ ?_)
   all_goals try first | (unfold DL.QA;exact⟨by k_is,by k_is,_,_,_,_,_,_,_,_,_,by k_is,by k_is⟩) | k_is | k_exc | rfl
   exact⟨_,_,_,_,[.int 0,.int 1],rfl,.cons ⟨_,rfl⟩ (.cons ⟨_,rfl⟩ (.nil)),by decide,fun H=>DL.Reps.cons (DL.ri _) (DL.Reps.cons (DL.ri _) (DL.Reps.nil))⟩;exact⟨_,_,_,_,[.str "one",.str "both"],rfl,.cons ⟨_,rfl⟩ (.cons ⟨_,rfl⟩ (.nil)),by decide,fun H=>DL.Reps.cons (DL.Rep.str_iff.mpr rfl) (DL.Reps.cons (DL.Rep.str_iff.mpr rfl) (DL.Reps.nil))⟩
  obtain⟨t,T,e0,kV,doc,pm,an,cdv,ct,ed⟩:=T;have e1:=hmg.symm.trans e0;cases e1;refine⟨t.zxu,fun s u=>?_,fun base kb nb=>K34.zDw T⟩;rw[ed];exact .of_eq rfl
