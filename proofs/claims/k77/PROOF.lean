import PyProof.Rows.All
import Wide.All
import OpenK.AllK
import Wide.FinOn
import PyProof.EqAt
import PyProof.EqKinds
import PyProof.NeKinds
import PyProof.TupleCall
import PyProof.StrWalks
import PyProof.EnumMake
import PyProof.WalksEnum
import PyProof.ZipIter
import PyProof.Rows.ZipGen
import PyProof.Rows.SortWalk
import KE.KSortedM
import PyProof.StrLawsIdx
import PyProof.ExcInit
import PyProof.InstStoreFacts
import PyProof.AttrMissHeap
import PyProof.FactsAll.enumerate
import PyProof.FactsAll.dict_1
import KE.KDictOf
import KE.KItemsList
import PyProof.ReprRoads
import PyProof.StrLawsNeg
import PyProof.FitsInt
import PyProof.TupleIter
import PyProof.WalksMore
import PyProof.ExcClass2
import PyProof.Rows.MatchSeqLen
import PyProof.AttrMissSeq
import PyProof.FactsAll.zip_1
import KE.LcSums
import KE.KRevIter
import PyProof.DictWalks
import PyProof.DictItemsLoops
import KE.KPairComp
import KE.KDictText
import PySem.Challenge.RW_farthestcut_k77_whole_texts_row_by_row
open PySem renaming Value->Pd,Addr->Pg,Str->Pj,Shared->Pm,starEach->Po,wpAny_bind->Pp,Heap->PF,mainGlobals->PK,model->PN,wpAny_pure->PX,wpAny->PZ,Expr->Qe,Program->Qi,FuncData->Qo,Around->Qp,World->Qv,backTo->Qy,wpAny_mono->QC,compareOp->QF,swapsWith->QK,Env->QL,attributeBase->QN,Stmt->QQ,wpAny_truthy_bool->Q4,wpAny_loadPart_at->Q5,NameKind->Q6,keywordEach->Rc,mem_of_lookup->Rk,Keyword->Rp,Within->Ru,wpAny_holding->Rz,intText?->RA,codeAny->RO,backToKw->R0,Scope->Sk,typeLookup->Sm,cLine->S0,Result->Tf,DictEntry->TR,sysModules->T4,holding->Uw,getAttr->Ux,intBits_le_iff->U1
open List renaming length_map->Ph,getElem?_eq_getElem->Pu,mem_cons_of_mem->Pw,getElem?_set_ne->PD,replicate->PH,getElem?_eq_some_iff->PJ,mem_cons->PL,length_cons->PU,getElem?_append_left->PY,mem_cons_self->P0,length_append->P1,size_toArray->P6,getElem?_map->P7,getElem?_append_right->Qa,cons_append->Qc,mem_singleton->Qd,all_eq_true->Qf,nil_append->Qj,getElem?_replicate->Qk,map_cons->Qr,mem_of_getElem?->Qs,mem_map->Qt,getElem?_set_self->Qw,map_append->Qx,replicate_succ->QB,drop_eq_getElem_cons->QD,mem_append_right->QH,getElem?_cons_succ->QP,not_mem_nil->QT,length_replicate->QV,range->Q0,lookup_cons->Q2,length_eq_zero_iff->Q3,nodup_cons->Q8,mem_append->Q9,length_take->Ro,append_nil->Rr,flatten_cons->Rv,append_assoc->Rx,getElem_mem->RC,lookup->RG,zip_cons_cons->RI,map_map->RJ,length_nil->RL,mem_append_left->RQ,length->RT,filterMap_cons->RZ,all_cons->R4,getElem?_set_self'->Sa,getElem?_cons_zero->Sd,mem_nil_iff->So,length_drop->Sq,Nodup->Sr,nodup_nil->SD,drop_zero->SE,getElem?_take_of_lt->SO,isEmpty_iff->SS,filter_cons_of_pos->SU,filter_cons_of_neg->SV,take_of_length_le->SW,map_nil->SX,all_map->SY,mem_filter->S1,eq_nil_or_concat->S4,concat_eq_append->S5,replicate_zero->Ta,set_cons_zero->Th,set_cons_succ->Ti,mem_filterMap->Tj,drop_length->TN,range'->TX,map_id->TY,of_mem_zip->T1,mem_range->T9,eq_of_mem_replicate->Um,any_cons->Uo,zipWith->UJ,range_succ_eq_map->UK,drop_of_length_le->UL,mem_iff_getElem?->UR,mem_of_mem_take->U2
open Bool renaming false_and->Pk,and_eq_true->Pr,true_and->Pt,not_false->Px,not_true->PC,and_false->PR,eq_iff_iff->QJ,false_ne_true->QR,not_eq_true'->QU,and_true->Rb,or_eq_true->S2,and_eq_false_iff->S6,false_or->Tc,false_eq_true->Tq,eq_false_iff->TJ,and_self->Up
open PySem.W renaming Frag->Pl,nsIn->QM,findIn->QW,mg_none_of->QX,kia_one->Q1,emptyDict->Q7,subIn->Ra,mg_of->Rh,hasDictIn->RF,fnOf->RY,keepIn->R1,Looks->Su,instObj->Sw,specialIn->SI,looks_clsIn->Tb,plainGet->Td,exmOne->Ts,plainOver->TU,kitx_dict->TV,codeIn->T5,any_some->T6,InstAt->T7,takesIn->Uq,hideAll->Ur,mroIn->Uy,isNs_of_in->Uz,excIn->UA,set_plain->UT,methodObj->UU,lookIn->UW,kitx_list->UX,kitOne->UY
open PySem.Heap renaming get?_push_of_some->Pq,lt_size->PM,get?_push_size->Qm,get?_update_other->Rm,get?_update_self->Rq,FlyingW->RK,SameBut->Sh,get?_none_of_le->Ss,size_push->Ub,MadeExcOf->Uc,NotedW->U3,get?_update_ne->U4
open Nat renaming lt_of_lt_of_le->Py,le_trans->PB,le_refl->P9,ne_of_lt->Qg,pow_le_pow_right->Rg,lt_succ_self->RB,lt_irrefl->R3,mod_lt->Sz,lt_of_le_of_lt->SA,zero_le->S8,zero_add->Tw,toDigits->Tx,sub_zero->Tz,le_of_lt->TC,le_of_eq->UH,add_zero->UI
open Or renaming inl->Pz,inr->T8
open PySem.SeqAt renaming RcNeAt->P4,EqAt->P8,RcAt->Qb,ne_of_list_tuple->UC
open PySem.Value renaming ref->Qh,none->QY,bool->QZ,str->Ri,int->Rj,builtin->RN,float->UZ
open PySem.Txt renaming slice->Ql,partition->Qu,split->QO,join->Rt,startswith->Se,slice_le->Tt
open Int renaming gcd->Qn,toNat_natCast->Ry,eq_ofNat_of_zero_le->RD,fmod_nonneg_of_pos->Sg,natCast_nonneg->SG,fmod_lt_of_pos->Tn,fmod_eq_emod_of_nonneg->Ua,natAbs_ediv_le_natAbs->Ug
open Ne renaming symm->Qq
open PySem.Str renaming ofString->Qz,length_append->Sf,empty->Sn,join->SQ
open False renaming elim->QE
open Option renaming some->QG,getD_some->RW,map_some->R8,isSome_iff_exists->SN,bind_eq_some_iff->Uv
open Option.some renaming inj->QI,injEq->RP
open Array renaming length_toList->Rl,getElem?_eq_some_iff->RU,append_assoc->Tr,getElem?_setIfInBounds_ne->TM
open PySem.NameKind renaming free->Rn
open PySem.Builtin.Str renaming occurrences->RE
open True renaming intro->RH
open PySem.Builtin renaming divisionGoesByPylong->RM
open PySem.Builtin.Slice renaming slicePlaces->RX,sliceAdjust->SH,sliceApplied->Ue
open PySem.Builtin.Tuple renaming tupleExact->R5
open PySem.Builtin.List renaming listTooLong->R6
open PySem.PassesOwn renaming never->R7,leaving->Tv
open ForInStep renaming yield->R9
open PyProof.Rows renaming slot_tuple_getitem->Si,callWith_type1->Sv,mem_iff_at->Uu
open PySem.StrLaws renaming glued_eq_join->Sj,join_split->Sx,partsFrom_ne->S7,partsBetween_eq->Us,partition_sum->UO,occ_length_le->UP,sliceText_to->U0
open PySem.F renaming excBase_ValueError->Sy,attr_ValueError->SM,plainAttrs_list->SR,args_str_split_2->To,entry_str_split->TH,slot_str_split->TQ,type_list_append->Uj,slot_list_append->Uk,args_tuple_add_2->Ul,entry_tuple_add->Ut,slot_tuple_add->UD,plainAttrs_str->UE,typeOf_object_class->US
open Sum renaming inr->SJ,inl->SK
open PySem.Calls renaming evalArgs_plain->S9,Name_function_global->Ud,callWith_builtin->UN
open PySem.SeqAt.EqAt renaming of_refs->Te,same->TZ
open PySem.Obj renaming data_mapFields->Tg,isFreed_of_fields->UQ
open PySem.Code renaming quiet_builtin->Tp,isFrame->UM
open PySem.Within renaming cons->Tu
open Function renaming comp_def->TF
open PySem.Around renaming under->TK
open List.cons renaming injEq->T2
open Iff renaming rfl->T3
open Classical renaming byContradiction->Uh
open PySem.SeqAt.RcAt renaming lists_lengths->Ui
open PySem.W.Looks renaming here->UB
open Nat.succ renaming inj->UG
open PySem.EntryCells renaming newEntry->U5
set_option compiler.extract_closed false
set_option bootstrap.genMatcherCode false
set_option Elab.async false
set_option linter.all false
set_option maxRecDepth 100000
set_option maxHeartbeats 4000000
noncomputable section
abbrev bv:=List Pj
abbrev ci:=List Nat
namespace L2
open PySem PySem.Spec PyProof.Rows
abbrev uZ:=Sum Int Pj
def Iq:uZ->Pd->Bool
 |.inl k,v=>Value.isInt k v
 |.inr x,v=>Value.isStrOf x v
def Ob(w:Qv):uZ->Int
 |.inl k=>hashInt k
 |.inr x=>hashStr w x
theorem de:∀{k:uZ}{v:Pd},Iq k v=true->(∃i t,k=SK i/\v=Rj i t)∨(∃x t,k=SJ x/\v=Ri x t)
 |.inl i,v,h=>by
  obtain⟨t,e⟩:=Value.isInt_shape (k:=i) (v:=v) h;exact .inl ⟨i,t,rfl,e⟩
 |.inr x,v,h=>by
  obtain⟨t,e⟩:=Value.isStrOf_shape (x:=x) (v:=v) h;exact .inr ⟨x,t,rfl,e⟩
def Ka(a b:Int):decide ((SK a:uZ)=SK b)=(a==b):=by
 by_cases e:a=b
 .subst e;simp
 .have h:¬(SK a:uZ)=SK b:=λq=>e (SK.inj q)
  rw[decide_eq_false h];exact(beq_eq_false_iff_ne.mpr e).symm
def J6(a b:Pj):decide ((SJ a:uZ)=SJ b)=decide (a=b):=by
 by_cases e:a=b
 .subst e;simp
 .have h:¬(SJ a:uZ)=SJ b:=λq=>e (SJ.inj q)
  rw[decide_eq_false h,decide_eq_false e]
def J8(a:Int)(b:Pj):decide ((SK a:uZ)=SJ b)=false:=decide_eq_false (λq=>nomatch q)
def J7(a:Pj)(b:Int):decide ((SJ a:uZ)=SK b)=false:=decide_eq_false (λq=>nomatch q)
noncomputable def zd(prog:Qi) (w:Qv):PySem.KeyKind prog w uZ where
 is:=Iq
 hash:=Ob w
 inj:=λv a b ha hb=>by
  rcases de ha with⟨i,t,rfl,rfl⟩|⟨x,t,rfl,rfl⟩
  .rcases de hb with⟨j,u,rfl,e⟩|⟨y,u,rfl,e⟩
   .injection e with e1 _;rw[e1]
   .exact nomatch e
  .rcases de hb with⟨j,u,rfl,e⟩|⟨y,u,rfl,e⟩
   .exact nomatch e
   .injection e with e1 _;rw[e1]
 byValue:=λk v h=>by
  rcases de h with⟨i,t,rfl,rfl⟩|⟨x,t,rfl,rfl⟩<;>rfl
 pyHash:=λhv h=>by
  rcases de hv with⟨i,t,rfl,rfl⟩|⟨x,t,rfl,rfl⟩
  .exact wpAny_pyHash_int h
  .exact wpAny_pyHash_str h
 eqBool:=λhu hv h=>by
  rcases de hu with⟨i,t,rfl,rfl⟩|⟨x,t,rfl,rfl⟩
  .rcases de hv with⟨j,u,rfl,rfl⟩|⟨y,u,rfl,rfl⟩
   .rw[Ka]at h;exact wpAny_eqBool_int h
   .rw[J8]at h;exact P8.int_str i t y u _ _ _ _ h
  .rcases de hv with⟨j,u,rfl,rfl⟩|⟨y,u,rfl,rfl⟩
   .rw[J7]at h;exact P8.str_int x t j u _ _ _ _ h
   .rw[J6]at h;exact wpAny_eqBool_str h
 «strs»:=λk x t v h=>by
  rcases de h with⟨i,u,rfl,e⟩|⟨y,u,rfl,e⟩
  .exact nomatch e
  .injection e with e1 _
   subst e1;cases v<;>rfl
inductive V where
 |non|bl (b:Bool)|int (i:Int)|str (x:Pj)|byt (b:Array UInt8)|flt (b:UInt64)|ref (a:Pg)|ty (n:String)
 deriving DecidableEq
abbrev al:=List V
noncomputable def bS:V->Pd->Prop
 |.non,u=>u=QY
 |.bl b,u=>u=QZ b
 |.int i,u=>∃t,u=Rj i t
 |.str x,u=>∃t,u=Ri x t
 |.byt b,u=>∃t,u=Value.bytes b t
 |.flt b,u=>∃t,u=UZ b t
 |.ref a,u=>u=Qh a
 |.ty n,u=>u=Value.type n
abbrev bM:al->List Pd->Prop:=Paired bS
def bM.length{xs:al}{us:List Pd}(r:bM xs us):xs.length=us.length:=Paired.length r
theorem bM.get:∀{xs:al}{us:List Pd}{i:Nat}{x:V},bM xs us->xs[i]?=some x->∃u,us[i]?=some u/\bS x u
 |_,_,_,_,.nil,e=>by simp at e
 |_,_,0,_,.cons r _,e=>by simp at e;subst e;exact⟨_,rfl,r⟩
 |_,_,i+1,x,.cons _ t,e=>by
  obtain⟨u,h1,h2⟩:=bM.get (i:=i) (x:=x) t (by simpa using e);exact⟨u,by simpa using h1,h2⟩
theorem bM.append:∀{xs ys:al}{us ws:List Pd},bM xs us->bM ys ws->bM (xs++ys) (us++ws)
 |_,_,_,_,.nil,s=>s
 |_,_,_,_,.cons r t,s=>.cons r (bM.append t s)
theorem bM.take:∀{xs:al}{us:List Pd}(n:Nat),bM xs us->bM (xs.take n) (us.take n)
 |_,_,0,_=>.nil
 |_,_,_+1,.nil=>.nil
 |_,_,n+1,.cons r t=>.cons r (bM.take n t)
theorem bM.drop:∀{xs:al}{us:List Pd}(n:Nat),bM xs us->bM (xs.drop n) (us.drop n)
 |_,_,0,r=>r
 |_,_,_+1,.nil=>.nil
 |_,_,n+1,.cons _ t=>bM.drop n t
def yx:Option V->Option Pd->Prop
 |some v,some u=>bS v u
 |none,none=>True
 |_,_=>False
def KV{κ:Type}:List (κ×V)->List (κ×Pd)->Prop:=Paired λ(p:κ×V) (q:κ×Pd)=>p.1=q.1/\bS p.2 q.2
def kV:uZ->V
 |.inl i=>.int i
 |.inr x=>.str x
inductive HO where
 |lst (xs:al)
 |tup (xs:al)
 |dK (kvs:List (uZ×V))|dT (kvs:List (List uZ×V))
 |set (S:Int->Bool) (n:Nat)
 |ins (C dx:Pg) (fs:List (Pj×V))
 |own (x:Pg)
 |xd (fs:List (Pj×V))
 |met (f x:Pg)
 |rng (lo hi:Int)
 |frz (o:Obj) (u:HO)
 |tbl (ps:Array Pd)
 |ext (φ:PF->Prop)
abbrev Hp:=Pg->Option HO
def upd(H:Hp)(a:Pg)(o:HO):Hp:=λb=>if b=a then some o else H b
def ay{H:Hp}{a:Pg}{o:HO}:upd H a o a=some o:=by unfold upd;rw[if_pos rfl]
def ax{H:Hp}{a b:Pg}{o:HO}(h:b≠a):upd H a o b=H b:=by unfold upd;rw[if_neg h]
def bj{H:Hp}{a b:Pg}{o:HO}(h:H a=some o)(h':H b=none):a≠b:=by
 intro e;subst e;rw[h]at h';cases h'
section
variable (P:Qi) (w:Qv)
noncomputable def c7(H:Hp) (h:PF) (a:Pg):HO->Prop
 |.lst xs=>xs.length<=sizeLine/\∃(its:List Pd) (n:Nat),bM xs its/\h.get? a=some { cls:=.type "list",data:=.seq its.toArray n }
 |.tup xs=>xs.length<=sizeLine/\∃its:List Pd,bM xs its/\IsTup h a its.toArray
 |.dK kvs=>kvs.length<=sizeLine/\(a==T4)=false/\∃vs,KV kvs vs/\h.DictOf (zd P w) a vs
 |.dT kvs=>kvs.length<=sizeLine/\(a==T4)=false/\∃xs:List (List uZ×Pg×Pd),
   Paired (λ(p:List uZ×V) (q:List uZ×Pg×Pd)=>p.1=q.1/\H q.2.1=some (.tup (p.1.map kV))/\bS p.2 q.2.2) kvs xs /\
   ∃o es ep,h.get? a=some o/\o.ExactDict/\o.data=.dict es ep/\es.toList=xs.map (entryOfKey (tupleKind (zd P w)))/\(xs.map (·.1)).Nodup
 |.set S n=>h.SetOf (intKind P w) a S n
 |.ins C dx fs=>H dx=some (.own a)/\fs.length<=1000/\dx≠a/\h.get? a=some (Sw C dx) /\
   ∃mA,h.Ns1 dx mA/\(∀f,yx (fs.lookup f) (mA f))/\Ru mA (fs.map (·.1))
 |.own _=>∃o,h.get? a=some o
 |.xd fs=>∃mA,h.Ns1 a mA/\∀f,yx (fs.lookup f) (mA f)
 |.rng lo hi=>∃t u v,h.get? a=some { cls:=.type "range",data:=.fields #[.int lo t,.int hi u,.int 1 v] }
 |.frz o u=>h.get? a=some o/\c7 H h a u
 |.tbl ps=>h.get? a=some { cls:=.none,data:=.fields ps }
 |.met f x=>h.get? a=some (UU (.ref f) (.ref x))
 |.ext φ=>φ h/\(∃o,h.get? a=some o)/\∀h1 h2:PF,φ h1->(∀o,h1.get? a=some o->h2.get? a=some o)->φ h2
def gO(H:Hp)(h:PF):Prop:=∀a o,H a=some o->c7 P w H h a o
end
section
variable {P:Qi}{w:Qv}{H H':Hp}{h h':PF}{a:Pg}{o:HO}
def c7.lt(x:c7 P w H h a o):a<h.objs.size:=by
 cases o with|lst xs=>obtain⟨_,_,_,_,e⟩:=x;exact PM e|tup xs=>obtain⟨_,_,_,p⟩:=x;exact p.lt|dK kvs|dT kvs=>obtain⟨_,_,_,_,o,_,_,e,_⟩:=x;exact PM e|set S n=>obtain⟨o,_,_,_,e,_⟩:=x;exact PM e|ins C dx fs=>obtain⟨_,_,_,e,_⟩:=x;exact PM e|own y=>obtain⟨_,e⟩:=x;exact PM e|xd fs=>obtain⟨_,⟨_,_,_,e,_⟩,_⟩:=x;exact PM e|rng lo hi=>obtain⟨_,_,_,e⟩:=x;exact PM e|frz ob u=>obtain⟨e,_⟩:=x;exact PM e|tbl ps|met f y=>exact PM (show h.get? a=some _ from x)|ext φ=>obtain⟨_,⟨_,e⟩,_⟩:=x;exact PM e
theorem oi{α β:Type}{F G:α->β->Prop}:∀{lc:List α}{lf:List β},Paired F lc lf->(∀a b,F a b->G a b)->Paired G lc lf
 |_,_,.nil,_=>.nil
 |_,_,.cons r t,f=>.cons (f _ _ r) (oi t f)
def c7.stay(x:c7 P w H h a o)(k:∀b u,(b=a∨H b=some (.own a))->h.get? b=some u->h'.get? b=some u)
  (ho:∀b,H b=some (.own a)->H' b=some (.own a))(ht:∀b xs,H b=some (.tup xs)->H' b=some (.tup xs)):c7 P w H' h' a o:=by
 induction o with
 |lst xs=>obtain⟨z,its,n,r,e⟩:=x;exact⟨z,its,n,r,k _ _ (.inl rfl) e⟩|tup xs=>obtain⟨z,its,r,ob,e,c⟩:=x;exact⟨z,its,r,ob,k _ _ (.inl rfl) e,c⟩|dK kvs=>obtain⟨z,y,vs,r,ob,es,ep,e,c⟩:=x;exact⟨z,y,vs,r,ob,es,ep,k _ _ (.inl rfl) e,c⟩
 |dT kvs=>
  obtain⟨z,y,xs,r,ob,es,ep,e,c⟩:=x;exact⟨z,y,xs,oi r λp q z=>⟨z.1,ht _ _ z.2.1,z.2.2⟩,ob,es,ep,k _ _ (.inl rfl) e,c⟩
 |set S n=>obtain⟨ob,es,ep,t,e,c⟩:=x;exact⟨ob,es,ep,t,k _ _ (.inl rfl) e,c⟩
 |ins C dx fs=>
  obtain⟨d,z,ne,e,mA,⟨od,es,ep,e2,c⟩,r⟩:=x;exact⟨ho _ d,z,ne,k _ _ (.inl rfl) e,mA,⟨od,es,ep,k _ _ (.inr d) e2,c⟩,r⟩
 |own y=>obtain⟨ob,e⟩:=x;exact⟨ob,k _ _ (.inl rfl) e⟩|xd fs=>obtain⟨mA,⟨od,es,ep,e,c⟩,r⟩:=x;exact⟨mA,⟨od,es,ep,k _ _ (.inl rfl) e,c⟩,r⟩|rng lo hi=>obtain⟨t,u,v,e⟩:=x;exact⟨t,u,v,k _ _ (.inl rfl) e⟩|frz ob u ih=>obtain⟨e,q⟩:=x;exact⟨k _ _ (.inl rfl) e,ih q⟩
 |tbl ps=>
  have e:h.get? a=some { cls:=.none,data:=.fields ps }:=x;show h'.get? a=some { cls:=.none,data:=.fields ps };exact k a _ (.inl rfl) e
 |met f y=>
  have e:h.get? a=some (UU (.ref f) (.ref y)):=x;show h'.get? a=some (UU (.ref f) (.ref y));exact k a _ (.inl rfl) e
 |ext φ=>obtain⟨p,⟨o,e⟩,st⟩:=x;exact⟨st _ _ p λo q=>k _ _ (.inl rfl) q,⟨o,k _ _ (.inl rfl) e⟩,st⟩
def gO.lt(x:gO P w H h)(e:H a=some o):a<h.objs.size:=(x a o e).lt
def gO.fresh(x:gO P w H h)(e:h.objs.size<=a):H a=none:=by
 cases q:H a with|none=>rfl|some u=>exact absurd (Py (x.lt q) e) (R3 _)
def gO.kept(x:gO P w H h)(k:∀b u,h.get? b=some u->h'.get? b=some u):gO P w H h':=λa o e=>
 (x a o e).stay (λb u _ q=>k b u q) (λ_ q=>q) λ_ _ q=>q
def gO.laid(x:gO P w H h)(k:∀b u,h.get? b=some u->h'.get? b=some u)(hp:h.objs.size<=a)(new:c7 P w (upd H a o) h' a o):gO P w (upd H a o) h':=λb u e=>by
 have hn:=x.fresh hp
 by_cases hb:b=a
 .subst hb;rw[ay]at e;cases e;exact new
 .rw[ax hb]at e
  exact(x b u e).stay (λc v _ q=>k c v q) (λc q=>by rw[ax (bj q hn)];exact q) λc xs q=>by rw[ax (bj q hn)];exact q
end
def Rd(H:Hp)(a:Pg)(u:HO):Prop:=H a=some u∨∃o,H a=some (.frz o u)
def Rd.ok{P:Qi}{w:Qv}{H:Hp}{h:PF}{a:Pg}{u:HO}(r:Rd H a u)(x:gO P w H h):c7 P w H h a u:=by
 rcases r with r|⟨o,r⟩
 .exact x a u r
 .obtain⟨_,q⟩:=x a _ r
  exact q
def Lq:Option HO->Prop
 |some (.lst _)=>True
 |some (.dK _)=>True
 |some (.dT _)=>True
 |some (.set _ _)=>True
 |some (.ins _ _ _)=>True
 |some (.ext _)=>True
 |_=>False
section
variable {P:Qi}{w:Qv}{H:Hp}{h h':PF}{x e:Pg}{o':HO}
def gO.write(ok:gO P w H h)(mu:Lq (H x))(he:e=x∨H e=some (.own x))(k:∀b u,b≠e->h.get? b=some u->h'.get? b=some u)(heo:∃u,h'.get? e=some u)
  (new:c7 P w (upd H x o') h' x o'):gO P w (upd H x o') h':=λb u q=>by
 have nown:∀c y,H c=some (.own y)->c≠x:=λc y r z=>by subst z;rw[r]at mu;exact mu
 have ntup:∀c xs,H c=some (.tup xs)->c≠x:=λc xs r z=>by subst z;rw[r]at mu;exact mu
 by_cases hb:b=x
 .subst hb;rw[ay]at q;cases q;exact new
 .rw[ax hb]at q
  by_cases hbe:b=e
  .have q':H b=some (.own x):=by
    rcases he with z|z
    .exact absurd (hbe.trans z) hb
    .rw[hbe];exact z
   rw[q]at q';cases q';obtain⟨v,hv⟩:=heo;exact⟨v,by rw[hbe];exact hv⟩
  .refine(ok b u q).stay (λc v hc r=>k c v ?_ r) (λc r=>by rw[ax (nown c b r)];exact r) λc xs r=>by rw[ax (ntup c xs r)];exact r
   rcases hc with rfl|hc
   .exact hbe
   .rintro rfl
    rcases he with z|z
    .exact nown c b hc z
    .rw[hc]at z;cases z;exact hb rfl
end
structure Un (fs ex:List Pg) (H H':Hp) (h h':PF):Prop where
 keep:∀b o,h.get? b=some o->H b=none->b∉fs->b∉ex->h'.get? b=some o
 slot:∀b o,h.get? b=some o->H b=none->b∈fs->b∉ex->∃sl,h'.get? b=some { o with slots:=sl }
 free:∀b o,h.get? b=some o->H b=none->b∉ex->H' b=none
 there:∀b o,h.get? b=some o->b∉ex->∃o',h'.get? b=some o'
 tups:∀b xs,H b=some (.tup xs)->H' b=some (.tup xs)
 frzs:∀b o u,H b=some (.frz o u)->H' b=some (.frz o u)
 tbls:∀b ps,H b=some (.tbl ps)->∃more,H' b=some (.tbl (ps++more))
section
variable {fs fs' ex ex':List Pg}{H H1 H2:Hp}{h h1 h2 h':PF}{a x e:Pg}{o:HO}
def Un.any(u:Un fs ex H H1 h h1){b:Pg}{ob:Obj}(q:h.get? b=some ob)(n:H b=none)(hx:b∉ex):∃sl,h1.get? b=some { ob with slots:=sl }:=by
 by_cases hb:b∈fs
 .exact u.slot b ob q n hb hx
 .exact⟨ob.slots,u.keep b ob q n hb hx⟩
def Un.trans(a:Un fs ex H H1 h h1)(b:Un fs ex H1 H2 h1 h2):Un fs ex H H2 h h2 where
 keep:=λc ob q n hc hx=>b.keep c ob (a.keep c ob q n hc hx) (a.free c ob q n hx) hc hx
 slot:=λc ob q n hc hx=>by
  obtain⟨sl,e1⟩:=a.slot c ob q n hc hx;obtain⟨sl',e2⟩:=b.slot c _ e1 (a.free c ob q n hx) hc hx;exact⟨sl',e2⟩
 free:=λc ob q n hx=>by
  obtain⟨o',e1⟩:=a.there c ob q hx;exact b.free c o' e1 (a.free c ob q n hx) hx
 there:=λc ob q hx=>by
  obtain⟨o',e1⟩:=a.there c ob q hx;exact b.there c o' e1 hx
 tups:=λc xs q=>b.tups c xs (a.tups c xs q)
 frzs:=λc ob xs q=>b.frzs c ob xs (a.frzs c ob xs q)
 tbls:=λc ps q=>by
  obtain⟨m1,e1⟩:=a.tbls c ps q;obtain⟨m2,e2⟩:=b.tbls c _ e1;exact⟨m1++m2,by rw[e2,Tr]⟩
def Un.kept(k:∀b u,h.get? b=some u->h'.get? b=some u):Un fs ex H H h h' :=
 ⟨λb ob q _ _ _=>k b ob q,λb ob q _ _ _=>⟨ob.slots,k b ob q⟩,λ_ _ _ n _=>n,λb ob q _=>⟨ob,k b ob q⟩,λ_ _ q=>q,λ_ _ _ q=>q,λ_ ps q=>⟨#[],by rw[q];simp⟩⟩
def Un.refl:Un fs ex H H h h:=Un.kept λ_ _ q=>q
def Un.laid(k:∀b u,h.get? b=some u->h'.get? b=some u)(hp:h.objs.size<=a)(hn:H a=none):Un fs ex H (upd H a o) h h' where
 keep:=λb u q _ _ _=>k b u q
 slot:=λb u q _ _ _=>⟨u.slots,k b u q⟩
 free:=λb u q n _=>by rw[ax (Qg (Py (PM q) hp))];exact n
 there:=λb u q _=>⟨u,k b u q⟩
 tups:=λb xs q=>by rw[ax (bj q hn)];exact q
 frzs:=λb u xs q=>by rw[ax (bj q hn)];exact q
 tbls:=λb ps q=>⟨#[],by rw[ax (bj q hn),q];simp⟩
def Un.write(mu:Lq (H x))(he:e=x∨H e=some (.own x))(k:∀b u,b≠e->h.get? b=some u->h'.get? b=some u)(heo:∃u,h'.get? e=some u):Un fs ex H (upd H x o) h h':=by
 have hx:∀b,H b=none->b≠x:=λb n z=>by subst z;rw[n]at mu;exact mu
 have hb:∀b,H b=none->b≠e:=λb n z=>by
  subst z;rcases he with r|r
  .exact hx b n r
  .rw[n]at r;cases r
 have hm:∀b u,H b=some u->¬Lq (some u)->b≠x:=λb u q nm z=>by subst z;rw[q]at mu;exact nm mu
 refine⟨λb u q n _ _=>k b u (hb b n) q,λb u q n _ _=>⟨u.slots,k b u (hb b n) q⟩,λb u q n _=>by rw[ax (hx b n)];exact n,λb u q _=>?_,
  λb xs q=>by rw[ax (hm b _ q λz=>z)];exact q,λb u xs q=>by rw[ax (hm b _ q λz=>z)];exact q,λb ps q=>⟨#[],by rw[ax (hm b _ q λz=>z),q];simp⟩⟩
 by_cases hbe:b=e
 .subst hbe;exact heo
 .exact⟨u,k b u hbe q⟩
end
def Nt(h:PF)(H:Hp):List Pg:=(Q0 h.objs.size).filter λa=>(H a).isSome
def uH(h:PF)(H:Hp):PF:=Ur h (Nt h H)
def A4(h:PF)(H:Hp):(uH h H).objs.size=h.objs.size:=W.hideAll_size _ _
def Dn{h:PF}{H:Hp}{b:Pg}{o:Obj}(e:h.get? b=some o)(n:H b=none):(uH h H).get? b=some o :=
 W.hideAll_get _ e λhm=>by
  have q:(H b).isSome=true:=(S1.mp hm).2;rw[n]at q;simp at q
def F3{h:PF}{H:Hp}{b:Pg}{o:Obj}(e:(uH h H).get? b=some o):h.get? b=some o/\H b=none:=by
 have e':h.get? b=some o:=W.of_hideAll (Nt h H) e;refine⟨e',?_⟩;cases q:H b with
 |none=>rfl
 |some x=>
  have hm:b∈Nt h H:=S1.mpr ⟨T9.mpr (PM e'),by simp[q]⟩;have z:(uH h H).get? b=none:=W.hideAll_none (Nt h H) hm;rw[z]at e;cases e
structure Mod (K:Pl) (mg:Pj->Option Pd) (base:PF):Prop where
 kin:K.In base
 glob:base.Ns PK mg
 blt:∃mb,base.Ns builtinsNs mb/\∀x:Pj,x≠"__name__"->mb x=bootBuiltins x
 nolimit:base.NoLimit
 sm:∃mm,base.Ns T4 mm
structure Cx where
 prog:Qi
 w:Qv
 K:Pl
 mg:Pj->Option Pd
 base:PF
 A:Qp
 N:bv
 sf:Pm
 Ha:Hp
 env:Env
 outer:List Env
 stack:List Env
 ex:List Pg
 fn:Pj->Bool
 calm:Bool
 pn:List (Pg×Obj)
 xe:Pd->Pm->Prop
def ip(l:List Env):List Pg:=l.filterMap (·.frame)
abbrev Cx.fs(X:Cx):List Pg:=ip X.outer
def wJ(sc:Sk)(x:Pj):Prop:=sc.names.lookup x=some .local ∨ sc.names.lookup x=some .cell∨sc.names.lookup x=some .free
def zT(sc:Sk)(x:Pj):Prop:=sc.names.lookup x=some .local ∨ sc.names.lookup x=some .cell
def Nl(env:Env)(h:PF)(m:Pj->Option Pd)(x:Pj)(u:Pd):Prop :=
 (env.kindOf x=some .local /\ m x=some u)∨((env.kindOf x=some .cell∨env.kindOf x=some .free)/\∃c,env.cells.lookup x=some c/\h.IsCell c (some u))
structure Cx.Ok (X:Cx):Prop where
 mod:Mod X.K X.mg X.base
 kind:X.env.scope.kind=.function
 glob:X.env.globals=PK
 blt:X.env.builtins=builtinsNs
 above:X.sf.heap.objs.size<=X.env.locals
 inj:∀x y c,X.env.cells.lookup x=some c->X.env.cells.lookup y=some c->x=y
 has:∀x,(X.env.kindOf x=some .cell∨X.env.kindOf x=some .free)->∃c,X.env.cells.lookup x=some c
 cab:∀x c,X.fn x=true->X.env.cells.lookup x=some c->X.sf.heap.objs.size<=c
 hd:X.calm=true->X.A.handled=none
 frames:X.A.frames=some X.stack
 stk:X.stack=X.outer∨(X.stack=X.env::X.outer/\X.env.frame=some X.env.locals)
 exf:∀b∈X.ex,b≠X.env.locals/\∀x c,X.env.cells.lookup x=some c->c≠b
 bs:∀b o,X.base.get? b=some o->X.sf.heap.get? b=some o/\X.Ha b=none
 bsz:X.base.objs.size<=X.sf.heap.objs.size
 noex:∀b o,X.base.get? b=some o->b∉X.ex
 exfs:∀b∈X.ex,b∉X.fs
 funs:X.sf.heap.FunFrames X.base X.outer
 frf:∀b∈X.fs,X.Ha b=none
structure Inv (X:Cx) (π:List (Pg×Obj)) (σ:List (Option V)) (H:Hp) (s:Pm):Prop where
 ok:X.Ok
 os:s.os=X.sf.os
 bare:AllBare s.gens
 base:Un X.fs X.ex X.Ha H X.sf.heap s.heap
 loc:∃m,s.heap.Ns X.env.locals m/\∀(i:Nat) (x:Pj) (v:V),X.N[i]?=some x->σ[i]?=some (some v)->wJ X.env.scope x->∃u,bS v u/\Nl X.env s.heap m x u
 cell:∀x c,X.env.cells.lookup x=some c->∃v,s.heap.IsCell c v
 free:H X.env.locals=none
 freeC:∀x c,X.env.cells.lookup x=some c->H c=none
 pin:∀p∈X.pn++π,s.heap.get? p.1=some p.2/\H p.1=none/\p.1≠X.env.locals/\p.1∉X.fs/\∀v,p.2.data≠.cell v
 hok:gO X.prog X.w H s.heap
 len:σ.length=X.N.length
section
variable {X:Cx}{π:List (Pg×Obj)}{σ:List (Option V)}{H H':Hp}{s:Pm}{h':PF}
def Cx.Ok.nofr(ok:X.Ok){b:Pg}{o:Obj}(e:X.base.get? b=some o):b∉X.fs:=λhb=>by
 have:=(ok.funs.mem hb).1;rw[e]at this;cases this
def Inv.bs(I:Inv X π σ H s):∀b o,X.base.get? b=some o->s.heap.get? b=some o/\H b=none:=λb o e=>
 ⟨I.base.keep b o (I.ok.bs b o e).1 (I.ok.bs b o e).2 (I.ok.nofr e) (I.ok.noex b o e),I.base.free b o (I.ok.bs b o e).1 (I.ok.bs b o e).2 (I.ok.noex b o e)⟩
def Inv.bk(I:Inv X π σ H s):∀b o,X.base.get? b=some o->s.heap.get? b=some o:=λb o e=>(I.bs b o e).1
def Inv.mod(I:Inv X π σ H s):Mod X.K X.mg X.base:=I.ok.mod
def Inv.kIn(I:Inv X π σ H s):X.K.In s.heap:=I.ok.mod.kin.keeps I.bk
def Inv.lt(I:Inv X π σ H s):X.env.locals<s.heap.objs.size:=let ⟨_,hn,_⟩:=I.loc;hn.lt
def Inv.sz(I:Inv X π σ H s):X.sf.heap.objs.size<=s.heap.objs.size:=PB I.ok.above (TC I.lt)
def Inv.nofs(I:Inv X π σ H s){a:Pg}(h:s.heap.objs.size<=a):a∉X.fs:=λhb=>by
 obtain⟨_,o,ho,_⟩:=I.ok.funs.mem hb;exact absurd (Py (PM ho) (PB I.sz h)) (R3 _)
def Inv.cne(I:Inv X π σ H s):∀x c,X.env.cells.lookup x=some c->c≠X.env.locals:=λx c e z=>by
 obtain⟨v,o,ho,hd⟩:=I.cell x c e;obtain⟨m,⟨o',es,ep,ho',hd',_⟩,_⟩:=I.loc;rw[z,ho']at ho;cases ho;rw[hd']at hd;cases hd
def Inv.funs(I:Inv X π σ H s):s.heap.FunFrames X.base X.outer:=by
 have all:∀(l:List Env),(∀b∈ip l,b∈X.fs)->X.sf.heap.FunFrames X.base l->s.heap.FunFrames X.base l:=by
  intro l
  induction l with
  |nil=>intro _ _;trivial
  |cons env r ih=>
   intro hs hl;obtain⟨hk,⟨L,o,hf,hn,ho,hd⟩,hr⟩:=hl;have hL:L∈X.fs:=hs L (by unfold ip;rw[RZ,hf];exact P0);obtain⟨sl,e⟩:=I.base.slot L o ho (I.ok.frf L hL) hL λz=>I.ok.exfs L z hL;exact⟨hk,⟨L,_,hf,hn,e,hd⟩,ih (λb hb=>hs b (by unfold ip;rw[RZ,hf];exact Pw _ hb)) hr⟩
 exact all X.outer (λ_ hb=>hb) I.ok.funs
def Inv.stack(I:Inv X π σ H s):s.heap.FunFrames X.base X.stack:=by
 rcases I.ok.stk with e|⟨e,hf⟩
 .rw[e];exact I.funs
 .rw[e]
  obtain⟨m,hn,_⟩:=I.loc;refine .cons (by rw[I.ok.kind];decide) hf hn ?_ I.funs;exact Ss (PB I.ok.bsz I.ok.above)
def Inv.stkSub(I:Inv X π σ H s):∀b∈ip X.stack,b∈X.env.locals::X.fs:=λb hb=>by
 rcases I.ok.stk with e|⟨e,hf⟩
 .rw[e]at hb;exact Pw _ hb
 .rw[e]at hb
  unfold ip at hb;rw[RZ,hf]at hb;exact hb
def Inv.stkFree(I:Inv X π σ H s):∀b∈ip X.stack,H b=none:=λb hb=>by
 rcases PL.mp (I.stkSub b hb) with e|hb
 .rw[e];exact I.free
 .obtain⟨_,o,ho,_⟩:=I.ok.funs.mem hb
  exact I.base.free b o ho (I.ok.frf b hb) λz=>I.ok.exfs b z hb
def Inv.step{g':Array GenState}{t':Nat}{d':Drawn}{ch:List Pg}(I:Inv X π σ H s)
  (hch:∀b∈ch,(b∈X.ex∨X.sf.heap.objs.size<=b)/\b≠X.env.locals/\(∀x c,X.env.cells.lookup x=some c->c≠b)/\∀p∈X.pn++π,p.1≠b)
  (keep:∀b o,b≠X.env.locals->b∉X.fs->b∉ch->s.heap.get? b=some o->H b=none->h'.get? b=some o)
  (slot:∀b o,b≠X.env.locals->b∈X.fs->b∉ch->s.heap.get? b=some o->H b=none->∃sl,h'.get? b=some { o with slots:=sl })(free:∀b o,b∉ch->s.heap.get? b=some o->H b=none->H' b=none)
  (there:∀b o,b∉ch->s.heap.get? b=some o->∃o',h'.get? b=some o')
  (tups:∀b xs,H b=some (.tup xs)->H' b=some (.tup xs))(frzs:∀b o u,H b=some (.frz o u)->H' b=some (.frz o u))(tbls:∀b ps,H b=some (.tbl ps)->∃more,H' b=some (.tbl (ps++more)))
  (ns:∀m,s.heap.Ns X.env.locals m->h'.Ns X.env.locals m)(hok:gO X.prog X.w H' h')(hg:AllBare g') :
  Inv X π σ H' { s with heap:=h',gens:=g',drawn:=d',toks:=t' }:=by
 have neL:∀b o,X.sf.heap.get? b=some o->b≠X.env.locals:=λb o e=>Qg (Py (PM e) I.ok.above);have neC:∀b o,X.sf.heap.get? b=some o->b∉X.ex->b∉ch:=λb o e hx hb=>by
  rcases(hch b hb).1 with z|z
  .exact hx z
  .exact absurd (Py (PM e) z) (R3 _)
 have cellK:∀x c,X.env.cells.lookup x=some c->∀v,s.heap.IsCell c v->h'.IsCell c v:=λx c e v z9=>by
  obtain⟨o,ho,hd⟩:=z9;have nch:c∉ch:=λz=>(hch c z).2.2.1 x c e rfl
  by_cases hc:c∈X.fs
  .obtain⟨sl,q⟩:=slot c o (I.cne x c e) hc nch ho (I.freeC x c e)
   exact⟨_,q,hd⟩
  .exact⟨o,keep c o (I.cne x c e) hc nch ho (I.freeC x c e),hd⟩
 refine⟨I.ok,I.os,hg,⟨λb o e n hb hx=>?_,λb o e n hb hx=>?_,λb o e n hx=>?_,λb o e hx=>?_,λb xs e=>tups b xs (I.base.tups b xs e),λb o xs e=>frzs b o xs (I.base.frzs b o xs e),λb ps e=>?_⟩,?_,λx c e=>?_,?_,λx c e=>?_,λp hp=>?_,hok,I.len⟩
 .exact keep b o (neL b o e) hb (neC b o e hx) (I.base.keep b o e n hb hx) (I.base.free b o e n hx)
 .obtain⟨sl,e1⟩:=I.base.slot b o e n hb hx
  obtain⟨sl',e2⟩:=slot b _ (neL b o e) hb (neC b o e hx) e1 (I.base.free b o e n hx);exact⟨sl',e2⟩
 .obtain⟨o',e1⟩:=I.base.there b o e hx
  exact free b o' (neC b o e hx) e1 (I.base.free b o e n hx)
 .obtain⟨o',e1⟩:=I.base.there b o e hx
  exact there b o' (neC b o e hx) e1
 .obtain⟨m1,e1⟩:=I.base.tbls b ps e
  obtain⟨m2,e2⟩:=tbls b _ e1;exact⟨m1++m2,by rw[e2,Tr]⟩
 .obtain⟨m,hn,hl⟩:=I.loc
  refine⟨m,ns m hn,λi x v e1 e2 e3=>?_⟩;obtain⟨u,r,l⟩:=hl i x v e1 e2 e3;refine⟨u,r,?_⟩;rcases l with l|⟨k,c,e,z⟩
  .exact .inl l
  .exact .inr ⟨k,c,e,cellK x c e _ z⟩
 .obtain⟨v,z⟩:=I.cell x c e
  exact⟨v,cellK x c e v z⟩
 .obtain⟨m,⟨o,_,_,ho,_⟩,_⟩:=I.loc
  exact free _ o (λz=>(hch _ z).2.1 rfl) ho I.free
 .obtain⟨v,o,ho,hd⟩:=I.cell x c e
  exact free c o (λz=>(hch c z).2.2.1 x c e rfl) ho (I.freeC x c e)
 .obtain⟨e,n,ne,nf,d⟩:=I.pin p hp
  have nch:p.1∉ch:=λz=>(hch p.1 z).2.2.2 p hp rfl;exact⟨keep p.1 p.2 ne nf nch e n,free p.1 p.2 nch e n,ne,nf,d⟩
def Inv.un{t':Nat}(I:Inv X π σ H s)(u:Un X.fs [] H H' s.heap h')(hok:gO X.prog X.w H' h'):Inv X π σ H' { s with heap:=h',toks:=t' }:=by
 obtain⟨m,⟨o,es,ep,ho,r⟩,_⟩:=id I.loc;obtain⟨sl,hL⟩:=u.any ho I.free (by simp);exact I.step (g':=s.gens) (d':=s.drawn) (ch:=[]) (λ_ z=>nomatch z) (λb o _ hb _ e n=>u.keep b o e n hb (by simp)) (λb o _ hb _ e n=>u.slot b o e n hb (by simp)) (λb o _ e n=>u.free b o e n (by simp)) (λb o _ e=>u.there b o e (by simp)) u.tups u.frzs u.tbls (λm' hm=>by
  obtain⟨o',es',ep',ho',r'⟩:=hm;rw[ho]at ho';cases ho';exact⟨_,es',ep',hL,r'⟩) hok I.bare
def Inv.call{g':Array GenState}{t':Nat}{d':Drawn}{ch:List Pg}(I:Inv X π σ H s)(u:Un (ip X.stack) ch H H' s.heap h')(hok:gO X.prog X.w H' h')(hg:AllBare g')
  (hch:∀b∈ch,(b∈X.ex∨X.sf.heap.objs.size<=b)/\b≠X.env.locals/\(∀x c,X.env.cells.lookup x=some c->c≠b)/\∀p∈X.pn++π,p.1≠b) :
  Inv X π σ H' { s with heap:=h',gens:=g',drawn:=d',toks:=t' }:=by
 obtain⟨m,⟨o,es,ep,ho,r⟩,_⟩:=id I.loc;obtain⟨sl,hL⟩:=u.any ho I.free λz=>(hch _ z).2.1 rfl;exact I.step (ch:=ch) hch (λb o hL hb hc e n=>u.keep b o e n (λz=>(PL.mp (I.stkSub b z)).elim hL hb) hc) (λb o _ _ hc e n=>u.any e n hc) (λb o hc e n=>u.free b o e n hc) (λb o hc e=>u.there b o e hc) u.tups u.frzs u.tbls (λm' hm=>by
  obtain⟨o',es',ep',ho',r'⟩:=hm;rw[ho]at ho';cases ho';exact⟨_,es',ep',hL,r'⟩) hok hg
def Inv.turned{t':Nat}{it:Pg}(I:Inv X π σ H s)(k:∀b o,b≠it->s.heap.get? b=some o->h'.get? b=some o)(hn:H it=none)(hL:it≠X.env.locals)
  (h1:it∈X.ex∨X.sf.heap.objs.size<=it)(h2:∀x c,X.env.cells.lookup x=some c->c≠it)(h3:∀p∈X.pn++π,p.1≠it):Inv X π σ H { s with heap:=h',toks:=t' }:=by
 have nit:∀b u,H b=some u->b≠it:=λb u e z=>by rw[z,hn]at e;cases e
 refine I.step (g':=s.gens) (d':=s.drawn) (ch:=[it]) (λb hb=>?_) (λb o _ _ hc e _=>k b o (λz=>hc (by simp[z])) e) (λb o _ _ hc e _=>⟨o.slots,k b o (λz=>hc (by simp[z])) e⟩) (λ_ _ _ _ n=>n)
  (λb o hc e=>⟨o,k b o (λz=>hc (by simp[z])) e⟩) (λ_ _ e=>e) (λ_ _ _ e=>e) (λb ps e=>⟨#[],by rw[e];simp⟩) (λm hm=>?_) (λb u e=>?_) I.bare
 .have e:b=it:=by simpa using hb
  subst e;exact⟨h1,hL,h2,h3⟩
 .obtain⟨o,es,ep,ho,r⟩:=hm
  exact⟨o,es,ep,k _ o (Qq hL) ho,r⟩
 .refine(I.hok b u e).stay (λc v hc q=>k c v ?_ q) (λ_ q=>q) λ_ _ q=>q
  rcases hc with z|z
  .rw[z];exact nit b u e
  .exact nit c _ z
def Inv.tok(I:Inv X π σ H s)(t:Nat):Inv X π σ H { s with toks:=t }:=I.un (h':=s.heap) (t':=t) Un.refl I.hok
def Inv.kept{t':Nat}(I:Inv X π σ H s)(k:∀b u,s.heap.get? b=some u->h'.get? b=some u):Inv X π σ H { s with heap:=h',toks:=t' }:=I.un (Un.kept k) (I.hok.kept k)
def Inv.laid{a:Pg}{o:HO}{t':Nat}(I:Inv X π σ H s)(k:∀b u,s.heap.get? b=some u->h'.get? b=some u)(hp:s.heap.objs.size<=a)(new:c7 X.prog X.w (upd H a o) h' a o) :
  Inv X π σ (upd H a o) { s with heap:=h',toks:=t' }:=I.un (Un.laid k hp (I.hok.fresh hp)) (I.hok.laid k hp new)
def Inv.write{x e:Pg}{o:HO}{t':Nat}(I:Inv X π σ H s)(mu:Lq (H x))(he:e=x∨H e=some (.own x))(k:∀b u,b≠e->s.heap.get? b=some u->h'.get? b=some u)(heo:∃u,h'.get? e=some u)
  (new:c7 X.prog X.w (upd H x o) h' x o):Inv X π σ (upd H x o) { s with heap:=h',toks:=t' }:=I.un (Un.write mu he k heo) (I.hok.write mu he k heo new)
def Inv.pins_of{pins':List (Pg×Obj)}(I:Inv X π σ H s)(h:∀p∈pins',s.heap.get? p.1=some p.2/\H p.1=none/\p.1≠X.env.locals/\p.1∉X.fs/\∀v,p.2.data≠.cell v):Inv X pins' σ H s :=
 ⟨I.ok,I.os,I.bare,I.base,I.loc,I.cell,I.free,I.freeC,λp hp=>(Q9.mp hp).elim (λz=>I.pin p (RQ _ z)) (h p),I.hok,I.len⟩
def pW{N:bv}(hN:N.Nodup){i j:Nat}{x:Pj}(a:N[i]?=some x)(b:N[j]?=some x):i=j:=by
 obtain⟨h1,e1⟩:=PJ.mp a;obtain⟨h2,e2⟩:=PJ.mp b;exact(List.getElem_inj hN).mp (e1.trans e2.symm)
def rY{M:Model}{A:Qp}{E:Pd->Pm->Prop}{i:Nat}{x:Pj}{v:V}{u:Pd}{Q:Unit->Pm->Prop}(I:Inv X π σ H s)(hN:X.N.Nodup)(hi:X.N[i]?=some x)(hx:zT X.env.scope x)(r:bS v u)
  (h:∀s',Inv X π (σ.set i (some v)) H s'->(∃a,Sh a s.heap s'.heap/\(a=X.env.locals∨X.env.cells.lookup x=some a))->Q () s')(hf:X.fn x=true∨X.env.scope.names.lookup x=some .local := by first|exact .inl rfl|exact .inr rfl|assumption):PZ M A (storeName X.env x u) Q E s:=by
 obtain⟨m,hn,hl⟩:=id I.loc;have hcls:(X.env.scope.kind==.class||(X.env.scope.kind==.module&&X.env.locals != X.env.globals))=false:=by rw[I.ok.kind];rfl
 have hiσ:i<σ.length:=by rw[I.len];exact(PJ.mp hi).1
 have cne:=I.cne;have tracked:∀{a:Pg}{h':PF},(∃o,s.heap.get? a=some o/\H a=none)->Sh a s.heap h'->gO X.prog X.w H h':=λ{a h'} ha hs b ob e=>by
  obtain⟨_,_,hfree⟩:=ha;refine(I.hok b ob e).stay (λc w' hc q=>(hs.2 c ?_).trans q) (λ_ q=>q) λ_ _ q=>q;rintro rfl;rcases hc with rfl|hc
  .rw[hfree]at e;cases e
  .rw[hfree]at hc;cases hc
 rcases hx with hk|hk
 .refine wpAny_storeName_local hk hn (λh' hn' hs=>?_) hcls
  obtain⟨oL,_,_,hoL,_⟩:=id hn;refine h _ ⟨I.ok,I.os,I.bare,⟨λb o e n hb hx=>?_,λb o e n hb hx=>?_,I.base.free,λb o e hx=>?_,I.base.tups,I.base.frzs,I.base.tbls⟩,⟨_,hn',λj y v' e1 e2 e3=>?_⟩,λy c e=>?_,I.free,I.freeC,λp hp=>?_,tracked ⟨oL,hoL,I.free⟩ hs,by simpa using I.len⟩ ⟨_,hs,.inl rfl⟩
  .exact(hs.2 b (Qg (Py (PM e) I.ok.above))).trans (I.base.keep b o e n hb hx)
  .obtain⟨sl,e1⟩:=I.base.slot b o e n hb hx
   exact⟨sl,(hs.2 b (Qg (Py (PM e) I.ok.above))).trans e1⟩
  .obtain⟨o',e1⟩:=I.base.there b o e hx
   exact⟨o',(hs.2 b (Qg (Py (PM e) I.ok.above))).trans e1⟩
  .by_cases hj:j=i
   .subst hj
    rw[hi]at e1;cases e1;rw[Qw hiσ]at e2;cases e2;exact⟨u,r,.inl ⟨hk,by simp⟩⟩
   .rw[PD (Qq hj)]at e2
    obtain⟨u',r',q⟩:=hl j y v' e1 e2 e3;refine⟨u',r',?_⟩;rcases q with⟨k,e⟩|⟨k,c,e,z⟩
    .refine .inl ⟨k,?_⟩
     have:y≠x:=λe=>hj (pW hN e1 (e▸hi));simp[this,e]
    .exact .inr ⟨k,c,e,z.sameBut hs (cne y c e)⟩
  .obtain⟨w',z⟩:=I.cell y c e
   exact⟨w',z.sameBut hs (cne y c e)⟩
  .obtain⟨e,n,ne,nf,d⟩:=I.pin p hp
   exact⟨(hs.2 p.1 ne).trans e,n,ne,nf,d⟩
 .have hfn:X.fn x=true:=by
   rcases hf with z|z
   .exact z
   .rw[z]at hk;cases hk
  obtain⟨c,hc⟩:=I.ok.has x (.inl hk);obtain⟨w',z⟩:=I.cell x c hc;refine wpAny_storeName_cell I.ok.kind hk hc z (λh' hc' hs=>?_);obtain⟨oc,hoc,hocd⟩:=id z;refine h { s with heap:=h' } ⟨I.ok,I.os,I.bare,⟨λb o e n hb hx=>?_,λb o e n hb hx=>?_,I.base.free,λb o e hx=>?_,I.base.tups,I.base.frzs,I.base.tbls⟩,⟨m,hn.sameBut hs (Qq (cne x c hc)),λj y v' e1 e2 e3=>?_⟩,λy c' e=>?_,I.free,I.freeC,λp hp=>?_,tracked ⟨oc,hoc,I.freeC x c hc⟩ hs,by simpa using I.len⟩ ⟨c,hs,.inr hc⟩
  .exact(hs.2 b (Qg (Py (PM e) (I.ok.cab x c hfn hc)))).trans (I.base.keep b o e n hb hx)
  .obtain⟨sl,e1⟩:=I.base.slot b o e n hb hx
   exact⟨sl,(hs.2 b (Qg (Py (PM e) (I.ok.cab x c hfn hc)))).trans e1⟩
  .obtain⟨o',e1⟩:=I.base.there b o e hx
   exact⟨o',(hs.2 b (Qg (Py (PM e) (I.ok.cab x c hfn hc)))).trans e1⟩
  .by_cases hj:j=i
   .subst hj
    rw[hi]at e1;cases e1;rw[Qw hiσ]at e2;cases e2;exact⟨u,r,.inr ⟨.inl hk,c,hc,hc'⟩⟩
   .rw[PD (Qq hj)]at e2
    obtain⟨u',r',q⟩:=hl j y v' e1 e2 e3;refine⟨u',r',?_⟩;rcases q with q|⟨k,c',e,z'⟩
    .exact .inl q
    .refine .inr ⟨k,c',e,z'.sameBut hs ?_⟩
     rintro rfl;exact hj (pW hN e1 (I.ok.inj _ _ _ e hc▸hi))
  .by_cases hcc:c'=c
   .subst hcc;exact⟨_,hc'⟩
   .obtain⟨w2,z2⟩:=I.cell y c' e
    exact⟨w2,z2.sameBut hs hcc⟩
  .obtain⟨e,n,ne,nf,d⟩:=I.pin p hp
   refine⟨(hs.2 p.1 ?_).trans e,n,ne,nf,d⟩;intro q;rw[q,hoc]at e;have q':oc=p.2:=QI e;exact d w' (by rw[←q'];exact hocd)
def gS{M:Model}{A:Qp}{E:Pd->Pm->Prop}{i:Nat}{x:Pj}{v:V}{u:Pd}{Q:Unit->Pm->Prop}(I:Inv X π σ H s)(hN:X.N.Nodup)(hi:X.N[i]?=some x)(hx:zT X.env.scope x)(r:bS v u)
  (h:∀s',Inv X π (σ.set i (some v)) H s'->Q () s')(hf:X.fn x=true∨X.env.scope.names.lookup x=some .local := by first|exact .inl rfl|exact .inr rfl|assumption):PZ M A (storeName X.env x u) Q E s :=
 rY I hN hi hx r (λs' I' _=>h s' I') hf
def Inv.call'{s':Pm}{ch:List Pg}(I:Inv X π σ H s)(ho:s'.os=s.os)(u:Un (ip X.stack) ch H H' s.heap s'.heap)(hok:gO X.prog X.w H' s'.heap)(hg:AllBare s'.gens)
  (hch:∀b∈ch,(b∈X.ex∨X.sf.heap.objs.size<=b)/\b≠X.env.locals/\(∀x c,X.env.cells.lookup x=some c->c≠b)/\∀p∈X.pn++π,p.1≠b):Inv X π σ H' s':=by
 obtain⟨h',g',d',t',o'⟩:=s';have e:o'=s.os:=ho;subst e;exact I.call (g':=g') (t':=t') (d':=d') u hok hg hch
end
abbrev XK:=Pd->Option Pg->Hp->Prop
abbrev St:=List (Option V)
abbrev VK:=V->Hp->Prop
abbrev TE:=St->Hp->VK->Prop
abbrev TT:=St->Hp->(Bool->Hp->Prop)->Prop
abbrev TA:=St->Hp->(al->Hp->Prop)->Prop
structure gI where
 nx:St->Hp->Prop
 rt:VK
 bk:St->Hp->Prop:=λ_ _=>False
 ct:St->Hp->Prop:=λ_ _=>False
abbrev TS:=gI->St->Hp->Prop
def EP(X:Cx)(π:List (Pg×Obj))(σ:St)(Q:VK)(u:Pd)(s':Pm):Prop:=∃v H',Inv X π σ H' s'/\bS v u/\Q v H'
def TP(X:Cx)(π:List (Pg×Obj))(σ:St)(Q:Bool->Hp->Prop)(b:Bool)(s':Pm):Prop:=∃H',Inv X π σ H' s'/\Q b H'
def AP(X:Cx)(π:List (Pg×Obj))(σ:St)(Q:al->Hp->Prop)(us:List Pd)(s':Pm):Prop:=∃vs H',Inv X π σ H' s'/\bM vs us/\Q vs H'
noncomputable def SP(X:Cx) (π:List (Pg×Obj)) (D:gI) (f:Flow) (s':Pm):Prop :=
 match f with
 |.next=>∃σ' H',Inv X π σ' H' s'/\D.nx σ' H'
 |.brk=>∃σ' H',Inv X π σ' H' s'/\D.bk σ' H'
 |.cont=>∃σ' H',Inv X π σ' H' s'/\D.ct σ' H'
 |.ret u=>∃v σ' H',Inv X π σ' H' s'/\bS v u/\D.rt v H'
def PE(X:Cx)(e:Qe)(t:TE):Prop :=
 ∀(π:List (Pg×Obj)) (s:Pm) (σ:St) (H:Hp) (Q:VK),Inv X π σ H s->t σ H Q->PZ (PN X.prog X.w) X.A (eval e X.env) (EP X π σ Q) X.xe s
def PT(X:Cx)(e:Qe)(t:TT):Prop :=
 ∀(π:List (Pg×Obj)) (s:Pm) (σ:St) (H:Hp) (Q:Bool->Hp->Prop),Inv X π σ H s->t σ H Q->PZ (PN X.prog X.w) X.A (isTrue e X.env (eval e X.env)) (TP X π σ Q) X.xe s
def PW(X:Cx)(e:Qe)(t:TT):Prop :=
 ∀(whole:Sem Pd) (π:List (Pg×Obj)) (s:Pm) (σ:St) (H:Hp) (Q:Bool->Hp->Prop),Inv X π σ H s->t σ H Q->PZ (PN X.prog X.w) X.A (isTrue e X.env whole) (TP X π σ Q) X.xe s
def PW.pt{X:Cx}{e:Qe}{t:TT}(h:PW X e t):PT X e t:=h _
def PA(X:Cx)(es:List Qe)(t:TA):Prop :=
 ∀(pos:Pos) (π:List (Pg×Obj)) (s:Pm) (σ:St) (H:Hp) (Q:al->Hp->Prop),Inv X π σ H s->t σ H Q->PZ (PN X.prog X.w) X.A (spliced (Qy pos (Po es X.env))) (AP X π σ Q) X.xe s
def PS(X:Cx)(st:QQ)(t:TS):Prop :=
 ∀(π:List (Pg×Obj)) (s:Pm) (σ:St) (H:Hp) (D:gI),Inv X π σ H s->t D σ H->PZ (PN X.prog X.w) X.A (exec st X.env) (SP X π D) X.xe s
def rP(X:Cx)(st:List QQ)(t:TS):Prop :=
 ∀(π:List (Pg×Obj)) (s:Pm) (σ:St) (H:Hp) (D:gI),Inv X π σ H s->t D σ H->PZ (PN X.prog X.w) X.A (execs st X.env) (SP X π D) X.xe s
def dw{α:Type}{t:Sem α}{Q Q':α->Pm->Prop}{M:Model}{A:Qp}{E:Pd->Pm->Prop}{s:Pm}(h:PZ M A t Q E s)(hQ:∀a s,Q a s->Q' a s):PZ M A t Q' E s:=QC h hQ λ_ _ x=>x
section
variable {X:Cx}
def LK(i:Nat):TE:=λσ H Q=>∃v,σ[i]?=some (some v)/\Q v H
def tC(v:V):TE:=λ_ H Q=>Q v H
def gE{i:Nat}{x:Pj}{pos:Pos}(hN:X.N[i]?=some x)(hv:wJ X.env.scope x)(hd:(x==("__debug__" : Pj))=false:=by decide)(hcd:(x==("__classdict__" : Pj))=false:=by decide):PE X (.Name x pos) (LK i):=by
 intro π s σ H Q I h;obtain⟨v,e,h⟩:=h;obtain⟨m,hn,hl⟩:=I.loc;obtain⟨u,r,l⟩:=hl i x v hN e hv;have fin:EP X π σ Q u s:=⟨v,H,I,r,h⟩
 rcases l with⟨hk,hm⟩|⟨hk,c,hc,hcell⟩
 .exact wpAny_Name (wpAny_loadName_local I.ok.kind hk hn hm fin) hd
 .rcases hk with hk|hk
  .exact wpAny_Name (wpAny_loadName_cell I.ok.kind hk hc hcell fin) hd
  .exact wpAny_Name (wpAny_loadName_free I.ok.kind hk hc hcell fin hcd) hd
def uh{i j pos}:PE X (.Constant (.int i) j pos) (tC (.int i)):=λ_ _ _ H _ I h=>wpAny_Constant_int ⟨.int i,H,I.tok _,⟨_,rfl⟩,h⟩
def Mq{b j pos}:PE X (.Constant (.bool b) j pos) (tC (.bl b)):=λ_ _ _ H _ I h=>Constant_bool ⟨.bl b,H,I,rfl,h⟩
def xE{j pos}:PE X (.Constant .none j pos) (tC .non):=λ_ _ _ H _ I h=>Constant_none ⟨.non,H,I,rfl,h⟩
def JW{x j pos}:PE X (.Constant (.str x) j pos) (tC (.str x)):=λ_ _ _ H _ I h=>Calls.Constant_str ⟨.str x,H,I.tok _,⟨_,rfl⟩,h⟩
def Gl(X:Cx)(x:Pj):Prop:=X.env.kindOf x=some .globalImplicit
def iu{E:Pd->Pm->Prop}{π:List (Pg×Obj)}{s:Pm}{σ:St}{H:Hp}{x:Pj}{u:Pd}{pos:Pos}{Q:Pd->Pm->Prop}(I:Inv X π σ H s)(hg:Gl X x)(hm:X.mg x=some u)(h:Q u s)
  (hd:(x==("__debug__" : Pj))=false:=by decide):PZ (PN X.prog X.w) X.A (eval (.Name x pos) X.env) Q E s :=
 Ud I.ok.kind hg (Calls.loadGlobal_global (by rw[I.ok.glob];exact I.mod.glob.keeps I.bk) hm h) hd
def pZ{E:Pd->Pm->Prop}{π:List (Pg×Obj)}{s:Pm}{σ:St}{H:Hp}{x:Pj}{u:Pd}{pos:Pos}{Q:Pd->Pm->Prop}(I:Inv X π σ H s)(hg:Gl X x)(hm:X.mg x=none)(hv:bootBuiltins x=some u)(h:Q u s)
  (hn:x≠"__name__":=by decide)(hd:(x==("__debug__" : Pj))=false:=by decide):PZ (PN X.prog X.w) X.A (eval (.Name x pos) X.env) Q E s:=by
 obtain⟨mb,h1,h2⟩:=I.mod.blt;exact Ud I.ok.kind hg (Calls.loadGlobal_builtin (by rw[I.ok.glob];exact I.mod.glob.keeps I.bk) hm (by rw[I.ok.blt];exact h1.keeps I.bk) ((h2 x hn).trans hv) h) hd
def yW{x:Pj}{v:V}{u:Pd}{pos:Pos}(hg:Gl X x)(hm:X.mg x=some u)(r:bS v u)(hd:(x==("__debug__" : Pj))=false:=by decide):PE X (.Name x pos) (tC v) :=
 λ_ _ _ H _ I h=>iu I hg hm ⟨v,H,I,r,h⟩ hd
def yY{x:Pj}{v:V}{u:Pd}{pos:Pos}(hg:Gl X x)(hm:X.mg x=none)(hv:bootBuiltins x=some u)(r:bS v u)(hn:x≠"__name__":=by decide)(hd:(x==("__debug__" : Pj))=false:=by decide):PE X (.Name x pos) (tC v) :=
 λ_ _ _ H _ I h=>pZ I hg hm hv ⟨v,H,I,r,h⟩ hn hd
variable {a b:Qe}{ta tb:TE}{pos:Pos}
def CQ(b:Qe){op:CmpOp}(h:op≠.In)(h2:op≠.NotIn):behindInMarks op b=false:=by
 have e1:(op==CmpOp.In)=false:=by cases op<;>first|rfl|exact absurd rfl h
 have e2:(op==CmpOp.NotIn)=false:=by cases op<;>first|rfl|exact absurd rfl h2
 cases b<;>simp[behindInMarks,e1,e2]
def tB(t:TE):TT:=λσ H Q=>t σ H λx H1=>∃c,x=.bl c/\Q c H1
def Cs{e:Qe}{t:TE}(h:PE X e t)(he:∀whole,isTrue e X.env whole=(do let v ←whole;standAt e.pos;Uw [v] (truthy v)):=by intro _;rfl):PT X e (tB t):=by
 intro π s σ H Q I hw;refine isTrue_plain (dw (h π s σ H _ I hw) λv s1 z9=>?_) (he _);obtain⟨x,H1,I1,r1,q1⟩:=z9;obtain⟨d,rfl,q⟩:=q1;cases r1;exact Q4 ⟨H1,I1,q⟩
variable {tA tB':TT}{rest:List Qe}
def NX(t u:TT):TT:=λσ H Q=>t σ H λc H1=>if c=true then u σ H1 Q else Q false H1
def OR(t u:TT):TT:=λσ H Q=>t σ H λc H1=>if c=true then Q true H1 else u σ H1 Q
def NM(t:TT):TT:=λσ H Q=>t σ H λc H1=>Q (!c) H1
def FF(ha:PT X a tA):PW X (.BoolOp .And [a] pos) tA:=by
 intro wh π s σ H Q I h;refine isTrue_and (dw (ha π s σ H Q I h) λc s1 e=>?_);cases c with|true=>exact isTrue_and_nil e|false=>exact e
def JL(ha:PT X a tA):PW X (.BoolOp .Or [a] pos) tA:=by
 intro wh π s σ H Q I h;refine isTrue_or (dw (ha π s σ H Q I h) λc s1 e=>?_);cases c with|false=>exact isTrue_or_nil e|true=>exact e
def JM(ha:PT X a tA)(hb:PW X (.BoolOp .And (b::rest) pos) tB'):PW X (.BoolOp .And (a::b::rest) pos) (NX tA tB'):=by
 intro wh π s σ H Q I h;refine isTrue_and (dw (ha π s σ H _ I h) λc s1 z9=>?_);obtain⟨H1,I1,q1⟩:=z9;cases c with|true=>exact hb wh π s1 σ H1 Q I1 q1|false=>exact⟨H1,I1,q1⟩
def Mi(ha:PT X a tA)(hb:PW X (.BoolOp .Or (b::rest) pos) tB'):PW X (.BoolOp .Or (a::b::rest) pos) (OR tA tB'):=by
 intro wh π s σ H Q I h;refine isTrue_or (dw (ha π s σ H _ I h) λc s1 z9=>?_);obtain⟨H1,I1,q1⟩:=z9;cases c with|true=>exact⟨H1,I1,q1⟩|false=>exact hb wh π s1 σ H1 Q I1 q1
def Ct(ha:PT X a tA):PT X (.UnaryOp .Not a pos) (NM tA):=by
 intro π s σ H Q I h;exact isTrue_not (ha π s σ H (λc H1=>Q (!c) H1) I h)
def LX(ta tb:TE):TE:=λσ H Q=>ta σ H λx H1=>∃c,x=.bl c/\if c=true then tb σ H1 Q else Q (.bl false) H1
def NL(ta tb:TE):TE:=λσ H Q=>ta σ H λx H1=>∃c,x=.bl c/\if c=true then Q (.bl true) H1 else tb σ H1 Q
def LN(ta:TE):TE:=λσ H Q=>ta σ H λx H1=>∃c,x=.bl c/\Q (.bl (!c)) H1
def CC{op}{t:TE}(h:PE X a t):PE X (.BoolOp op [a] pos) t:=λπ s σ H Q I hw=>BoolOp_one (h π s σ H Q I hw)
def CI(ha:PE X a ta)(hb:PE X (.BoolOp .And (b::rest) pos) tb):PE X (.BoolOp .And (a::b::rest) pos) (LX ta tb):=by
 intro π s σ H Q I h;refine BoolOp_and (dw (ha π s σ H _ I h) λv s1 ⟨x,H1,I1,r1,q1⟩=>?_);obtain⟨c,rfl,q1⟩:=q1;cases r1;refine Q4 ?_;cases c with|true=>exact hb π s1 σ H1 Q I1 q1|false=>exact⟨.bl false,H1,I1,rfl,q1⟩
def Mp(ha:PE X a ta)(hb:PE X (.BoolOp .Or (b::rest) pos) tb):PE X (.BoolOp .Or (a::b::rest) pos) (NL ta tb):=by
 intro π s σ H Q I h;refine BoolOp_or (dw (ha π s σ H _ I h) λv s1 ⟨x,H1,I1,r1,q1⟩=>?_);obtain⟨c,rfl,q1⟩:=q1;cases r1;refine Q4 ?_;cases c with|false=>exact hb π s1 σ H1 Q I1 q1|true=>exact⟨.bl true,H1,I1,rfl,q1⟩
def JY(ha:PE X a ta):PE X (.UnaryOp .Not a pos) (LN ta):=by
 intro π s σ H Q I h;refine UnaryOp_ (dw (ha π s σ H _ I h) λv s1 z9=>?_);obtain⟨x,H1,I1,r1,q1⟩:=z9;obtain⟨c,rfl,q1⟩:=q1;cases r1;exact not_of (Q4 ⟨.bl (!c),H1,I1,rfl,q1⟩)
def OS(t:TT)(ta tb:TE):TE:=λσ H Q=>t σ H λc H1=>if c=true then ta σ H1 Q else tb σ H1 Q
def CF{c:Qe}(hc:PT X c tA)(ha:PE X a ta)(hb:PE X b tb):PE X (.IfExp c a b pos) (OS tA ta tb):=by
 intro π s σ H Q I h;refine wpAny_IfExp (dw (hc π s σ H _ I h) λd s1 z9=>?_);obtain⟨H1,I1,q1⟩:=z9;cases d with|true=>exact ha π s1 σ H1 Q I1 q1|false=>exact hb π s1 σ H1 Q I1 q1
end
def gJ(K:Pl)(H:Hp)(a:Pg)(xs:al):Prop :=
 Rd H a (.lst xs) ∨
  ∃(o:Obj) (its:Array Pd) (n:Nat),K.lookup a=some o/\o.cls=.type "list"/\o.dict=none/\o.data=.seq its n/\its.size<=sizeLine/\bM xs its.toList
def lT(K:Pl)(H:Hp)(a:Pg)(xs:al):Prop :=
 Rd H a (.tup xs) ∨
  ∃(o:Obj) (its:Array Pd) (n:Nat),K.lookup a=some o/\o.cls=.type "tuple"/\o.data=.seq its n/\its.size<=sizeLine/\bM xs its.toList
def Oo:Pd->Option V
 |.none=>some .non
 |.bool b=>some (.bl b)
 |.int i _=>some (.int i)
 |.str x _=>some (.str x)
 |.bytes b _=>some (.byt b)
 |.float b _=>some (.flt b)
 |.ref a=>some (.ref a)
 |.type n=>some (.ty n)
 |_=>none
def bS.abs{x:V}{u:Pd}(r:bS x u):Oo u=some x:=by
 cases x with|non|bl _=>cases r;rfl|int _|str _|byt _|flt _=>obtain⟨t,rfl⟩:=r;rfl|ref _|ty _=>cases r;rfl
def bS.inj{x y:V}{u:Pd}(r:bS x u)(q:bS y u):x=y:=QI (r.abs.symm.trans q.abs)
theorem bM.inj:∀{xs ys:al}{us:List Pd},bM xs us->bM ys us->xs=ys
 |_,_,_,.nil,.nil=>rfl
 |_,_,_,.cons r t,.cons r' t'=>by rw[r.inj r',bM.inj t t']
section
variable {X:Cx}{π:List (Pg×Obj)}{σ:St}{H:Hp}{s:Pm}{a:Pg}{xs ys:al}
def gJ.of{K:Pl}(h:H a=some (.lst xs)):gJ K H a xs:=.inl (.inl h)
def lT.of{K:Pl}(h:H a=some (.tup xs)):lT K H a xs:=.inl (.inl h)
def Inv.list(I:Inv X π σ H s)(h:gJ X.K H a xs):∃its:List Pd,bM xs its/\PlainL s.heap a its.toArray/\xs.length<=sizeLine:=by
 rcases h with h|⟨o,its,n,hk,hc,hd,hs,hz,r⟩
 .obtain⟨z,its,n,r,e⟩:=h.ok I.hok
  exact⟨its,r,⟨_,n,e,rfl,rfl,rfl⟩,z⟩
 .refine⟨its.toList,r,⟨o,n,I.kIn a o hk,hc,hd,by simpa using hs⟩,?_⟩
  have e:=r.length;simp only[Rl]at e;omega
def Inv.tuple(I:Inv X π σ H s)(h:lT X.K H a xs):∃its:List Pd,bM xs its/\IsTup s.heap a its.toArray/\xs.length<=sizeLine:=by
 rcases h with h|⟨o,its,n,hk,hc,hs,hz,r⟩
 .obtain⟨z,its,r,p⟩:=h.ok I.hok
  exact⟨its,r,p,z⟩
 .refine⟨its.toList,r,⟨o,I.kIn a o hk,hc,n,by simpa using hs⟩,?_⟩
  have e:=r.length;simp only[Rl]at e;omega
def Inv.list_inj(I:Inv X π σ H s)(h:gJ X.K H a xs)(h':gJ X.K H a ys):xs=ys:=by
 obtain⟨its,r,⟨o,n,e,_,_,d⟩,_⟩:=I.list h;obtain⟨its',r',⟨o',n',e',_,_,d'⟩,_⟩:=I.list h';rw[e]at e';cases e';rw[d]at d';injection d' with d1 _;have:its=its':=by simpa using congrArg Array.toList d1
 subst this;exact r.inj r'
def Inv.tuple_inj(I:Inv X π σ H s)(h:lT X.K H a xs)(h':lT X.K H a ys):xs=ys:=by
 obtain⟨its,r,⟨o,e,_,n,d⟩,_⟩:=I.tuple h;obtain⟨its',r',⟨o',e',_,n',d'⟩,_⟩:=I.tuple h';rw[e]at e';cases e';rw[d]at d';injection d' with d1 _;have:its=its':=by simpa using congrArg Array.toList d1
 subst this;exact r.inj r'
end
abbrev Cx.wish(X:Cx)(E:Pd->Pm->Prop):Cx:={ X with xe:=E }
abbrev Cx.nox(X:Cx):Cx:=X.wish λ_ _=>False
def Cx.Ok.wish{X:Cx}(ok:X.Ok)(E:Pd->Pm->Prop):(X.wish E).Ok :=
 ⟨ok.mod,ok.kind,ok.glob,ok.blt,ok.above,ok.inj,ok.has,ok.cab,ok.hd,ok.frames,ok.stk,ok.exf,ok.bs,ok.bsz,ok.noex,ok.exfs,ok.funs,ok.frf⟩
def Cx.Ok.unwish{X:Cx}{E:Pd->Pm->Prop}(ok:(X.wish E).Ok):X.Ok :=
 ⟨ok.mod,ok.kind,ok.glob,ok.blt,ok.above,ok.inj,ok.has,ok.cab,ok.hd,ok.frames,ok.stk,ok.exf,ok.bs,ok.bsz,ok.noex,ok.exfs,ok.funs,ok.frf⟩
section
variable {X:Cx}{π:List (Pg×Obj)}{σ:St}{H:Hp}{s:Pm}{E:Pd->Pm->Prop}
def Inv.wish(I:Inv X π σ H s)(E:Pd->Pm->Prop):Inv (X.wish E) π σ H s:=⟨I.ok.wish E,I.os,I.bare,I.base,I.loc,I.cell,I.free,I.freeC,I.pin,I.hok,I.len⟩
def Inv.unwish(I:Inv (X.wish E) π σ H s):Inv X π σ H s:=⟨I.ok.unwish,I.os,I.bare,I.base,I.loc,I.cell,I.free,I.freeC,I.pin,I.hok,I.len⟩
def SP.unwish{D:gI}{f:Flow}{s':Pm}(h:SP (X.wish E) π D f s'):SP X π D f s':=by
 cases f with|next|brk|cont=>obtain⟨σ',H',I,q⟩:=h;exact⟨σ',H',I.unwish,q⟩|ret u=>obtain⟨v,σ',H',I,r,q⟩:=h;exact⟨v,σ',H',I.unwish,r,q⟩
def rP.nox{st:List QQ}{t:TS}(h:rP X.nox st t):rP X st t:=λπ s σ H D I hw=>
 QC (h π s σ H D (I.wish _) hw) (λ_ _ q=>q.unwish) λ_ _ z=>QE z
end
section
variable {X:Cx}{st:QQ}{rest:List QQ}{t u:TS}{e:Qe}{te:TE}{pos:Pos}
def LP:TS:=λD σ H=>D.nx σ H
def NI(t u:TS):TS:=λD σ H=>t { D with nx:=u D } σ H
def kG:rP X [] LP:=λ_ _ σ H _ I h=>wpAny_execs_nil ⟨σ,H,I,h⟩
def eD(h1:PS X st t)(h2:rP X rest u):rP X (st::rest) (NI t u):=by
 intro π s σ H D I h;refine wpAny_execs_cons (dw (h1 π s σ H { D with nx:=u D } I h) λf s1 q=>?_);cases f with
 |next=>
  obtain⟨σ',H',I',q⟩:=q;exact h2 π s1 σ' H' D I' q
 |ret v|brk|cont=>exact q
def Inv.quiet{π:List (Pg×Obj)}{σ:St}{H:Hp}{s:Pm}(I:Inv X π σ H s):interactive X.env=false:=by simp[interactive,I.ok.kind]
def LU(te:TE):TS:=λD σ H=>te σ H λ_ H1=>D.nx σ H1
def l7(he:PE X e te)(hs:QK e none pos.line X.env=pure false:=by rfl):PS X (.Expr e pos) (LU te):=by
 intro π s σ H D I h;exact wpAny_Expr_any (dw (he π s σ H _ I h) λv s1 ⟨x,H1,I1,r1,q1⟩=>⟨σ,H1,I1,q1⟩) I.quiet hs
def NJ(te:TE):TS:=λD σ H=>te σ H D.rt
def mW(he:PE X e te):PS X (.Return (some e) pos) (NJ te):=by
 intro π s σ H D I h;exact wpAny_Return_some (dw (he π s σ H _ I h) λv s1 ⟨x,H1,I1,r1,q1⟩=>⟨x,σ,H1,I1,r1,q1⟩)
def NP(c:TT)(t u:TS):TS:=λD σ H=>c σ H λb H1=>if b=true then t D σ H1 else u D σ H1
def Cw{c:Qe}{a b:List QQ}{tc:TT}(hc:PT X c tc)(ha:rP X a t)(hb:rP X b u):PS X (.If c a b pos) (NP tc t u):=by
 intro π s σ H D I h;refine wpAny_If (dw (hc π s σ H _ I h) λd s1 z9=>?_);obtain⟨H1,I1,q1⟩:=z9;cases d with|true=>exact ha π s1 σ H1 D I1 q1|false=>exact hb π s1 σ H1 D I1 q1
end
abbrev TG:=V->St->Hp->(St->Hp->Prop)->Prop
abbrev EJ:=al->St->Hp->(St->Hp->Prop)->Prop
noncomputable def PG(X:Cx) (target:Qe) (t:TG):Prop :=
 ∀(π:List (Pg×Obj)) (s:Pm) (σ:St) (H:Hp) (v:V) (u:Pd) (Q:St->Hp->Prop),Inv X π σ H s->bS v u->t v σ H Q ->
  PZ (PN X.prog X.w) X.A (assign target X.env u) (λ_ s'=>∃σ' H',Inv X π σ' H' s'/\Q σ' H') X.xe s
noncomputable def Bt(X:Cx) (ts:List Qe) (t:EJ):Prop :=
 ∀(π:List (Pg×Obj)) (s:Pm) (σ:St) (H:Hp) (vs:al) (us:List Pd) (Q:St->Hp->Prop),Inv X π σ H s->bM vs us->t vs σ H Q ->
  PZ (PN X.prog X.w) X.A (assignInOrder ((assignEach ts X.env).map (·.2)) us) (λ_ s'=>∃σ' H',Inv X π σ' H' s'/\Q σ' H') X.xe s
section
variable {X:Cx}{pos:Pos}
def Ds(i:Nat):TG:=λv σ H Q=>Q (σ.set i (some v)) H
def yU{i:Nat}{x:Pj}(hN:X.N.Nodup)(hi:X.N[i]?=some x)(hx:zT X.env.scope x)(hf:X.fn x=true∨X.env.scope.names.lookup x=some .local := by first|exact .inl rfl|exact .inr rfl|assumption):PG X (.Name x pos) (Ds i):=by
 intro π s σ H v u Q I r h;exact wpAny_assign_Name (gS I hN hi hx r (λs' I'=>⟨_,H,I',h⟩) hf)
def Oi:EJ:=λvs σ H Q=>vs=[]/\Q σ H
def MI(t:TG)(u:EJ):EJ:=λvs σ H Q=>∃v r,vs=v::r/\t v σ H λσ' H'=>u r σ' H' Q
def FO:Bt X [] Oi:=by
 intro π s σ H vs us Q I r h;obtain⟨e,h⟩:=h;subst e;cases r;exact assignInOrder_nil ⟨σ,H,I,h⟩
def Cz{e:Qe}{es:List Qe}{t:TG}{u:EJ}(h1:PG X e t)(h2:Bt X es u)
  (hs:(assignEach (e::es) X.env).map (·.2)=assign e X.env::(assignEach es X.env).map (·.2):=by rfl):Bt X (e::es) (MI t u):=by
 intro π s σ H vs us Q I r h;obtain⟨v,vr,e1,h⟩:=h;subst e1;cases r with
 |cons r rr=>
  rw[hs];refine assignInOrder_cons (dw (h1 π s σ H _ _ _ I r h) λ_ s1 z9=>?_);obtain⟨σ1,H1,I1,q1⟩:=z9;exact h2 π s1 σ1 H1 _ _ Q I1 rr q1
def Oh(K:Pl)(n:Nat)(t:EJ):TG:=λv σ H Q=>∃a xs,v=.ref a/\lT K H a xs/\xs.length=n/\t xs σ H Q
def JV{es:List Qe}{k:Nat}{t:EJ}{n:Nat}(hc:X.calm=true)(h:Bt X es t)
  (hn:(assignEach es X.env).length=n:=by rfl)(hst:(assignEach es X.env).findIdx? (·.1)=none:=by rfl):PG X (.Tuple es k pos) (Oh X.K n t):=by
 intro π s σ H v u Q I r hw;obtain⟨a,xs,e1,hq,hl,hw⟩:=hw;subst e1;cases r;obtain⟨its,rv,ht,hz⟩:=I.tuple hq;refine assign_Tuple_tuple (I.ok.hd hc) ht (by simp[hn,←hl,rv.length]) hst λh' hx=>?_;have I1:Inv X π σ H { s with heap:=h' }:=I.kept (t':=s.toks) λb o e=>hx b o (Qg (PM e)) e;exact h π _ σ H xs _ Q I1 (by simpa using rv) hw
def Jr(te:TE)(g:TG):TS:=λD σ H=>te σ H λx H1=>g x σ H1 D.nx
def JO{tg e:Qe}{te:TE}{g:TG}(he:PE X e te)(hg:PG X tg g)(hs:swapsWithSole [tg] e pos.line X.env=pure false:=by rfl)(hw:swappedStores [tg] e X.env=pure none:=by rfl)
  (h1:(assignEach [tg] X.env).map (·.2)=[assign tg X.env]:=by rfl):PS X (.Assign [tg] e pos) (Jr te g):=by
 intro π s σ H D I h;refine wpAny_Assign_stores (dw (he π s σ H _ I h) λv s1 z9=>?_) hs hw;obtain⟨x,H1,I1,r1,q1⟩:=z9;rw[h1];exact dw (hg π s1 σ H1 x v _ I1 r1 q1) λ_ s2 q=>q
def ud{i:Nat}{x:Pj}{e:Qe}{te:TE}{pos':Pos}(hN:X.N.Nodup)(hi:X.N[i]?=some x)(hx:zT X.env.scope x)(he:PE X e te)(hs:QK e (some (.Name x pos')) pos.line X.env=pure false:=by rfl)(hf:X.fn x=true∨X.env.scope.names.lookup x=some .local := by first|exact .inl rfl|exact .inr rfl|assumption) :
  PS X (.Assign [.Name x pos'] e pos) (Jr te (Ds i)):=by
 intro π s σ H D I h;refine wpAny_Assign_Name (dw (he π s σ H _ I h) λv s1 z9=>?_) hs;obtain⟨y,H1,I1,r1,q1⟩:=z9;exact gS I1 hN hi hx r1 (λs2 I2=>⟨_,H1,I2,q1⟩) hf
def NK(i j:Nat)(ta:TA):TS:=λD σ H=>ta σ H λvs H1=>∃v w,vs=[v,w]/\D.nx ((σ.set i (some v)).set j (some w)) H1
def JN{i j:Nat}{x y:Pj}{a b:Qe}{ta:TA}{px py pt:Pos}{kt k2 pt2}(hc:X.calm=true)(hN:X.N.Nodup)(hi:X.N[i]?=some x)(hj:X.N[j]?=some y)(hij:i≠j)
  (hx:X.env.scope.names.lookup x=some .local)(hy:X.env.scope.names.lookup y=some .local)(ha:PA X [a,b] ta)
  (hw:swappedStores [.Tuple [.Name x px,.Name y py] kt pt] (.Tuple [a,b] k2 pt2) X.env=pure (some [x,y]))
  (hs:swapsWithSole [.Tuple [.Name x px,.Name y py] kt pt] (.Tuple [a,b] k2 pt2) pos.line X.env=pure false:=by rfl) :
  PS X (.Assign [.Tuple [.Name x px,.Name y py] kt pt] (.Tuple [a,b] k2 pt2) pos) (NK i j ta):=by
 intro π s σ H D I h;rw[exec_Assign_arm];refine Pp (wpAny_standAt ?_);rw[hs];refine Pp (PX ?_);rw[if_neg (by decide)];refine Pp (Tuple_ (dw (ha _ π s σ H _ I h) λus s1 z9=>?_));obtain⟨vs,H1,I1,r1,q1⟩:=z9;obtain⟨v,w,e1,q1⟩:=q1;subst e1;obtain⟨u1,u2,rfl,rv,rw'⟩:∃u1 u2,us=[u1,u2]/\bS v u1/\bS w u2:=by
  cases r1 with
  |cons p q=>
   cases q with
   |cons p' q'=>
    cases q';exact⟨_,_,rfl,p,p'⟩
 refine wpAny_newObj_type ?_ (by show 2<=sizeLine;decide);have I2:Inv X π σ H1 { s1 with heap:=s1.heap.push { cls:=.type "tuple",data:=.seq [u1,u2].toArray } }:=I1.kept (t':=s1.toks) λb o e=>Pq _ e;rw[hw];refine Pp (PX ?_);show PZ (PN X.prog X.w) X.A (do rule "assign.swapped-stores";let items ←unpackItems (.ref s1.heap.objs.size) 2 none;assignInOrder [λv=>bindName X.env y v,λv=>bindName X.env x v] items.reverse;pure Flow.next) _ _ _;refine Pp (wpAny_rule (Pp (unpackItems_tuple (items:=#[u1,u2]) (I.ok.hd hc) (IsTup.new s1.heap _) λh' hx'=>?_)));have I3:=I2.kept (h':=h') (t':=s1.toks) λb o e=>hx' b o (Qg (PM e)) e;show PZ _ _ (assignInOrder [λv=>bindName X.env y v,λv=>bindName X.env x v] [u2,u1] >>= λ_=>pure Flow.next) _ _ _;refine Pp (assignInOrder_cons (wpAny_bindName (gS I3 hN hj (.inl hy) rw' (λs2 I4=>?_) (.inr hy))));refine assignInOrder_cons (wpAny_bindName (gS I4 hN hi (.inl hx) rv (λs3 I5=>assignInOrder_nil (PX ?_)) (.inr hx)));rw[List.set_comm _ _ (Qq hij)]at I5;exact⟨_,H1,I5,q1⟩
end
section
variable {X:Cx}{pos:Pos}
def Jq(c:TT)(tb:TS):TS:=λD σ H=>∃W:Nat->St->Hp->Prop,(∃m,W m σ H)/\∀m σ H,W m σ H ->
 c σ H λb H1=>if b=true then ∃N:St->Hp->Prop,(∀σ' H',N σ' H'->∃m',m' < m/\W m' σ' H')/\tb { D with nx:=N,ct:=N,bk:=D.nx } σ H1 else D.nx σ H1
def Cv{c:Qe}{body:List QQ}{tc:TT}{tb:TS}(hp:PassesOwn (PN X.prog X.w) X.A X.env X.xe)(hc:PT X c tc)(hb:rP X body tb):PS X (.While c body [] pos) (Jq tc tb):=by
 intro π s σ H D I h;obtain⟨W,⟨m0,w0⟩,turn⟩:=h;refine wpAny_While (codeAny_whileLoop (λn s'=>∃σ' H',Inv X π σ' H' s'/\W n σ' H') ?_ m0 ⟨σ,H,I,w0⟩);rintro n s1 ⟨σ1,H1,I1,w1⟩;refine wpAny_passesOwn hp (dw (hc π s1 σ1 H1 _ I1 (turn n σ1 H1 w1)) λb s2 z9=>?_);obtain⟨H2,I2,q2⟩:=z9;cases b with
 |true=>
  obtain⟨N,hN,q2⟩:=q2;rw[if_pos rfl];refine wpAny_passesOwn hp (dw (hb π s2 σ1 H2 _ I2 q2) λf s3 q3=>?_);cases f with
  |next=>
   obtain⟨σ3,H3,I3,n3⟩:=q3;obtain⟨m',hm,w3⟩:=hN σ3 H3 n3;exact⟨m',hm,σ3,H3,I3,w3⟩
  |cont=>
   obtain⟨σ3,H3,I3,n3⟩:=q3;obtain⟨m',hm,w3⟩:=hN σ3 H3 n3;exact⟨m',hm,σ3,H3,I3,w3⟩
  |brk|ret v=>exact q3
 |false=>
  rw[if_neg QR];exact wpAny_execs_nil ⟨σ1,H2,I2,q2⟩
end
structure It where
 go:Nat->Hp->Prop
 yld:Nat->Hp->V->Hp->Prop
 stop:Nat->Hp->Prop
def nE(X:Cx)(π:List (Pg×Obj))(H:Hp)(b:Pg):Prop :=
 H b=none/\b≠X.env.locals/\b∉X.fs/\(b∈X.ex∨X.sf.heap.objs.size<=b)/\(∀x c,X.env.cells.lookup x=some c->c≠b)/\∀p∈X.pn++π,p.1≠b
def Inv.fpOk{X:Cx}{π:List (Pg×Obj)}{σ:St}{H H':Hp}{s:Pm}{b:Pg}(I:Inv X π σ H s)(hb:s.heap.objs.size<=b)(hn:H' b=none):nE X π H' b:=by
 refine⟨hn,Nat.ne_of_gt (Py I.lt hb),I.nofs hb,.inr (PB I.sz hb),λx c e z=>?_,λp hp z=>?_⟩
 .obtain⟨v,q⟩:=I.cell x c e
  exact absurd (Py q.lt (by rw[z];exact hb)) (R3 _)
 .exact absurd (Py (PM (I.pin p hp).1) (by rw[z];exact hb)) (R3 _)
structure Bq (P:Qi) (w:Qv) (K:Pl) (tg:Qe) (J:It) (fp:List Pg) (it:Pg) (tn:Nat->PF->Prop):Prop where
 mem:it∈fp
 obj:∀i h,tn i h->∀b∈fp,∃o,h.get? b=some o/\∀v,o.data≠.cell v
 keep:∀i h h',tn i h->(∀b∈fp,∀o,h.get? b=some o->h'.get? b=some o)->tn i h'
 item:∀(X:Cx),X.prog=P->X.w=w->X.K=K->X.calm=true->∀(i:Nat) (π:List (Pg×Obj)) (s:Pm) (σ:St) (H:Hp) (E:Pd->Pm->Prop),Inv X π σ H s->(∀b∈fp,nE X π H b)->tn i s.heap->J.go i H ->
  PZ (PN P w) X.A (pyNext (.ref it)) (λr s1=>∃u,r=some u /\
   PZ (PN P w) X.A (letOwnedTupleGo tg (.ref it) u) (λ_ s2=>∃x H',Inv X π σ H' s2/\bS x u/\J.yld i H x H'/\tn (i+1) s2.heap/\∀b∈fp,H' b=none) E s1) E s
 done:∀(X:Cx),X.prog=P->X.w=w->X.K=K->X.calm=true->∀(i:Nat) (π:List (Pg×Obj)) (s:Pm) (σ:St) (H:Hp) (E:Pd->Pm->Prop),Inv X π σ H s->(∀b∈fp,nE X π H b)->tn i s.heap->J.stop i H ->
  PZ (PN P w) X.A (pyNext (.ref it)) (λr s1=>r=none/\Inv X π σ H s1) E s
 self:∀(A:Qp) (i:Nat) (s:Pm) (Q:Pd->Pm->Prop) (E:Pd->Pm->Prop),tn i s.heap->Q (.ref it) s->PZ (PN P w) A (pyIter (.ref it)) Q E s
abbrev TI:=St->Hp->(It->Hp->Prop)->Prop
noncomputable def Ow(X:Cx) (π:List (Pg×Obj)) (σ:St) (tg:Qe) (R:It->Hp->Prop) (itv:Pd) (s2:Pm):Prop :=
 ∃(it:Pg) (fp:List Pg) (tn:Nat->PF->Prop) (J:It) (H':Hp),itv=.ref it/\Inv X π σ H' s2/\Bq X.prog X.w X.K tg J fp it tn/\tn 0 s2.heap/\(∀b∈fp,nE X π H' b)/\R J H'
noncomputable def PI(X:Cx) (tg iter:Qe) (wi:TI):Prop :=
 ∀(π:List (Pg×Obj)) (s:Pm) (σ:St) (H:Hp) (R:It->Hp->Prop),Inv X π σ H s->wi σ H R ->
  PZ (PN X.prog X.w) X.A (eval iter X.env) (λv s1=>PZ (PN X.prog X.w) X.A (pyIter v) (Ow X π σ tg R) X.xe s1) X.xe s
def zp{M:Model}{A:Qp}{E:Pd->Pm->Prop}{s:Pm}{tg:Qe}{it:Pg}{u:Pd}{o:Obj}{n:String}{vs:Array Pd}{Q:Unit->Pm->Prop}(ho:s.heap.get? it=some o)(hc:o.cls=.type n)(hd:o.data=.fields vs)
  (hn:["enumerate","zip","dict_itemiterator","dict_reverseitemiterator","odict_iterator","itertools.zip_longest","itertools.pairwise"].contains n=false)(hQ:Q () s):PZ M A (letOwnedTupleGo tg (.ref it) u) Q E s:=by
 unfold letOwnedTupleGo;cases tg<;>first
  |exact PX hQ
  |(cases u<;>first
    |exact PX hQ
    |(refine Pp (wpAny_load ho ?_);rw[hc,hd];show PZ M A (if(["enumerate","zip","dict_itemiterator","dict_reverseitemiterator","odict_iterator","itertools.zip_longest","itertools.pairwise"].contains n&&vs[0]?==some (rawInt _))=true then _ else _) Q E s;rw[if_neg (by intro h;rw[hn,Pk]at h;cases h)];exact PX hQ))
def OL(K:Pl)(a:Pg):It :=
 ⟨λi H=>∃xs x,gJ K H a xs/\xs[i]?=some x,λi H x H'=>H'=H/\∀xs,gJ K H a xs->xs[i]?=some x,λi H=>∃xs,gJ K H a xs/\xs.length<=i⟩
def Li(lo:Int)(n:Nat):It:=⟨λi _=>i<n,λi H x H'=>H'=H/\x=.int (lo+i),λi _=>n<=i⟩
def z7{P:Qi}{w:Qv}{K:Pl}{tg:Qe}(a it:Pg):Bq P w K tg (OL K a) [it] it (λi h=>h.IsListIter it a i) where
 mem:=by simp
 obj:=λi h st b hb=>by
  have e:b=it:=by simpa using hb
  subst e;obtain⟨o,e,c,d⟩:=st;exact⟨o,e,λv z=>by rw[d]at z;cases z⟩
 keep:=λi h h' st k=>st.at λo e=>k it (by simp) o e
 item:=by
  intro X hP hw hK hc i π s σ H E I hf st hg;subst hP hw hK;obtain⟨xs,x,hq,hx⟩:=hg;obtain⟨its,rv,p,hz⟩:=I.list hq;obtain⟨u,hu,ru⟩:=rv.get hx;obtain⟨f0,f1,f2,f3,f4,f5⟩:=hf it (by simp);refine wpAny_pyNext_list_item st p.isList (x:=u) (by simpa using hu) λh' st' sb=>?_;have I1:Inv X π σ H { s with heap:=h' }:=I.turned (t':=s.toks) (λb o hb e=>(sb.2 b hb).trans e) f0 f1 f3 f4 f5;obtain⟨o,e,c,d⟩:=id st';exact⟨u,rfl,zp (s:={ s with heap:=h' }) e c d (by decide) ⟨x,H,I1,ru,⟨rfl,λys hy=>by rw[I.list_inj hy hq];exact hx⟩,st',λb hb=>(hf b hb).1⟩⟩
 done:=by
  intro X hP hw hK hc i π s σ H E I hf st hg;subst hP hw hK;obtain⟨xs,hq,hx⟩:=hg;obtain⟨its,rv,p,hz⟩:=I.list hq;obtain⟨f0,f1,f2,f3,f4,f5⟩:=hf it (by simp);have hl:=rv.length;exact wpAny_pyNext_list_end (I.ok.hd hc) st p.isList (by simp;omega) λh' eb=>⟨rfl,I.turned (t':=s.toks) (λb o hb e=>eb b o hb e) f0 f1 f3 f4 f5⟩
 self:=λ_ _ _ _ _ st h=>wpAny_pyIter_listiter st h
def xa{P:Qi}{w:Qv}{K:Pl}{tg:Qe}(it:Pg)(lo:Int)(n:Nat):Bq P w K tg (Li lo n) [it] it (λi h=>IsRangeIter h it (lo+(i:Nat)*1) ((n:Int)-(i:Nat)) 1) where
 mem:=by simp
 obj:=λi h st b hb=>by
  have e:b=it:=by simpa using hb
  subst e;exact⟨_,st,λv z=>by
   have z':Data.fields _=Data.cell v:=z;cases z'⟩
 keep:=λi h h' st k=>k it (by simp) _ st
 item:=by
  intro X hP hw hK hc i π s σ H E I hf st hg;subst hP hw hK;obtain⟨f0,f1,f2,f3,f4,f5⟩:=hf it (by simp);have W:=Walks.range (prog:=X.prog) (w:=X.w) (I.ok.hd hc) it lo 1 n;refine W.item i s _ _ hg st λv h' tk hv st' kk=>?_;obtain⟨t,rfl⟩:=hv;have I1:Inv X π σ H { s with heap:=h',toks:=tk }:=I.turned (λb o hb e=>kk b o (by simpa using hb) e) f0 f1 f3 f4 f5;refine⟨_,rfl,zp (s:={ s with heap:=h',toks:=tk }) (n:="range_iterator") st' rfl rfl (by decide) ⟨.int (lo+i),H,I1,⟨t,?_⟩,⟨rfl,rfl⟩,st',λb hb=>(hf b hb).1⟩⟩;rw[Int.mul_one]
 done:=by
  intro X hP hw hK hc i π s σ H E I hf st hg;subst hP hw hK;obtain⟨f0,f1,f2,f3,f4,f5⟩:=hf it (by simp);exact wpAny_pyNext_range_end (I.ok.hd hc) st (by have:n<=i:=hg;omega) λh' eb=>⟨rfl,I.turned (t':=s.toks) (λb o hb e=>eb b o hb e) f0 f1 f3 f4 f5⟩
 self:=λ_ _ _ _ _ st h=>wpAny_pyIter_rangeiter st h
section
variable {X:Cx}{tg:Qe}
def MF(K:Pl)(tl:TE):TI:=λσ H R=>tl σ H λx H1=>∃a,x=.ref a/\(∃xs,gJ K H1 a xs)/\R (OL K a) H1
def FL{l:Qe}{tl:TE}(hl:PE X l tl):PI X tg l (MF X.K tl):=by
 intro π s σ H R I h;refine dw (hl π s σ H _ I h) λv s1 ⟨x,H1,I1,r1,q1⟩=>?_;obtain⟨a,e,⟨xs,hq⟩,q⟩:=q1;subst e;cases r1;obtain⟨its,rv,p,hz⟩:=I1.list hq;refine wpAny_pyIter_list p.isList ?_;refine⟨s1.heap.objs.size,[s1.heap.objs.size],_,_,H1,rfl,I1.kept (t':=s1.toks) λb o e=>Pq _ e,z7 a _,⟨_,Qm _ rfl,rfl,rfl⟩,λb hb=>?_,q⟩;have e:b=s1.heap.objs.size:=by simpa using hb
 subst e;exact I1.fpOk (P9 _) (I1.hok.fresh (P9 _))
def Cj{π:List (Pg×Obj)}{σ:St}{H:Hp}{s:Pm}{R:It->Hp->Prop}{E:Pd->Pm->Prop}{lo hi:Int}{t u v:Tok}{tk:Nat}(I:Inv X π σ H s)(h1:-(2 ^ 62)<=lo)(h2:lo<2 ^ 62)(h3:-(2 ^ 62)<=hi)(h4:hi<2 ^ 62)
  (q:R (Li lo (hi-lo).toNat) H):PZ (PN X.prog X.w) X.A (pyIter (.ref s.heap.objs.size)) (Ow X π σ tg R) E { s with heap:=s.heap.push { cls:=.type "range",data:=.fields #[.int lo t,.int hi u,.int 1 v] },toks:=tk }:=by
 refine wpAny_pyIter_range (IsRange.new ..) (small_one h1 h2 h3 h4) ?_;have I1:Inv X π σ H { s with heap:=s.heap.push { cls:=.type "range",data:=.fields #[.int lo t,.int hi u,.int 1 v] },toks:=tk }:=I.kept λb o e=>Pq _ e;refine⟨(s.heap.push { cls:=.type "range",data:=.fields #[.int lo t,.int hi u,.int 1 v] }).objs.size,[(s.heap.push { cls:=.type "range",data:=.fields #[.int lo t,.int hi u,.int 1 v] }).objs.size],_,_,H,rfl,
  I1.kept (t':=tk) λb o e=>Pq _ e,xa _ lo (hi-lo).toNat,?_,λb hb=>?_,q⟩
 .have e1:lo+((0:Nat):Int)*1=lo:=by simp
  have e2:(((hi-lo).toNat:Nat):Int)-((0:Nat):Int)=Builtin.Range.rangeSize lo hi 1:=by rw[rangeSize_one];split<;>omega
  show IsRangeIter _ _ (lo+((0:Nat):Int)*1) ((((hi-lo).toNat:Nat):Int)-((0:Nat):Int)) 1;rw[e1,e2];exact Qm _ rfl
 .have e:b=(s.heap.push { cls:=.type "range",data:=.fields #[.int lo t,.int hi u,.int 1 v] }).objs.size:=by simpa using hb
  subst e;exact I1.fpOk (P9 _) (I1.hok.fresh (P9 _))
def ME(ta:TA):TI:=λσ H R=>ta σ H λvs H1=>∃j:Int,vs=[.int j]/\-(2 ^ 62)<=j/\j<2 ^ 62/\R (Li 0 j.toNat) H1
def sD{a:Qe}{ta:TA}{p pos:Pos}(hg:Gl X "range")(hm:X.mg "range"=none)(ha:PA X [a] ta)(hs:Po [a] X.env=[(false,eval a X.env)]:=by rfl):PI X tg (.Call (.Name "range" p) [a] [] pos) (ME ta):=by
 intro π s σ H R I h;refine Call_ (pZ I hg hm boot_range (Sv (dw (ha pos π s σ H _ I h) λus s1 z9=>?_) hs rfl));obtain⟨vs,H1,I1,r1,q1⟩:=z9;obtain⟨j,e,q1,q2,q⟩:=q1;subst e;cases r1 with
 |cons r rr=>
  cases rr;obtain⟨t,rfl⟩:=r;exact call_range_1 (Cj I1 (by omega) (by omega) q1 q2 (by simpa using q))
noncomputable def NU(wi:TI) (g:TG) (tb:TS):TS:=λD σ H=>wi σ H λJ H1=>∃W:Nat->Nat->St->Hp->Prop,(∃m,W 0 m σ H1)/\∀i m σ H,W i m σ H ->
 (J.stop i H/\D.nx σ H)∨(J.go i H/\∃N:St->Hp->Prop,(∀σ' H',N σ' H'->∃m',m' < m/\W (i+1) m' σ' H')/\∀x H',J.yld i H x H'->g x σ H' λσ2 H2=>tb { D with nx:=N,ct:=N,bk:=D.nx } σ2 H2)
def pO(fp:List Pg)(h:PF):List (Pg×Obj):=fp.filterMap λb=>(h.get? b).map λo=>(b,o)
def ji{fp:List Pg}{h:PF}{b:Pg}{o:Obj}(hb:b∈fp)(e:h.get? b=some o):(b,o)∈pO fp h:=Tj.mpr ⟨b,hb,by rw[e];rfl⟩
def AM{fp:List Pg}{h:PF}{p:Pg×Obj}(hp:p∈pO fp h):p.1∈fp/\h.get? p.1=some p.2:=by
 obtain⟨b,hb,e⟩:=Tj.mp hp;cases q:h.get? b with
 |none=>rw[q]at e;cases e
 |some o=>
  rw[q]at e;have e':(b,o)=p:=QI e;subst e';exact⟨hb,q⟩
def Inv.pinned{π:List (Pg×Obj)}{σ:St}{H:Hp}{s:Pm}{fp:List Pg}(I:Inv X π σ H s)(hf:∀b∈fp,nE X π H b)(ho:∀b∈fp,∃o,s.heap.get? b=some o/\∀v,o.data≠.cell v):Inv X (π++pO fp s.heap) σ H s :=
 I.pins_of λp hp=>(Q9.mp hp).elim (λz=>I.pin p (QH _ z)) λz=>by
  obtain⟨hb,e⟩:=AM z;obtain⟨f0,f1,f2,_⟩:=hf p.1 hb;obtain⟨o,e',d⟩:=ho p.1 hb;rw[e]at e';cases e';exact⟨e,f0,f1,f2,d⟩
def Inv.unpinned{π pl:List (Pg×Obj)}{σ:St}{H:Hp}{s:Pm}(I:Inv X (π++pl) σ H s):Inv X π σ H s:=I.pins_of λp hp=>I.pin p (QH _ (RQ _ hp))
def xA{iter:Qe}{body:List QQ}{wi:TI}{g:TG}{tb:TS}{pos:Pos}(hp:PassesOwn (PN X.prog X.w) X.A X.env X.xe)(hc:X.calm=true)(hi:PI X tg iter wi)(hg:PG X tg g)(hb:rP X body tb)
  (hs:∀x,foldedSetIterable iter X.env x=pure x:=by intro _;rfl):PS X (.For tg iter body [] pos) (NU wi g tb):=by
 intro π s σ H D I h;refine wpAny_For (dw (hi π s σ H _ I h) λv s1 h1=>dw h1 λitv s2 h2=>?_) hs;obtain⟨it,fp,tn,J,H2,e,I2,T,st2,f2,W,⟨m0,w0⟩,turn⟩:=h2;subst e;have stat:∀{H':Hp},(∀b∈fp,H' b=none)->∀b∈fp,nE X π H' b:=λhn b hb=>⟨hn b hb,(f2 b hb).2⟩
 refine codeAny_forLoop_any (λn s'=>∃i σ' H',Inv X π σ' H' s'/\tn i s'.heap/\(∀b∈fp,H' b=none)/\W i n σ' H') ?_ m0 ⟨0,σ,H2,I2,st2,λb hb=>(f2 b hb).1,w0⟩;rintro n s3 ⟨i,σ3,H3,I3,st3,fr3,w3⟩;rcases turn i n σ3 H3 w3 with⟨stop,qn⟩|⟨go,N,hN,step⟩
 .refine wpAny_passesOwn hp (dw (T.done X rfl rfl rfl hc i π s3 σ3 H3 X.xe I3 (stat fr3) st3 stop) λr s4 ⟨hr,I4⟩=>?_)
  subst hr;exact wpAny_execs_nil ⟨σ3,H3,I4,qn⟩
 .refine wpAny_passesOwn hp (dw (T.item X rfl rfl rfl hc i π s3 σ3 H3 X.xe I3 (stat fr3) st3 go) λr s4 ⟨u,hr,h4⟩=>?_)
  subst hr;refine wpAny_passesOwn hp (dw h4 λ_ s5 ⟨x,H5,I5,r5,y5,st5,fr5⟩=>?_);have I5':=I5.pinned (stat fr5) (T.obj _ _ st5);refine wpAny_passesOwn hp (dw (hg _ s5 σ3 H5 x u _ I5' r5 (step x H5 y5)) λ_ s6 ⟨σ6,H6,I6,q6⟩=>?_);refine wpAny_passesOwn hp (dw (hb _ s6 σ6 H6 _ I6 q6) λf s7 q7=>?_);have again:∀{σ7:St}{H7:Hp},Inv X (π++pO fp s5.heap) σ7 H7 s7->N σ7 H7->∃m,m<n/\∃i σ' H',Inv X π σ' H' s7/\tn i s7.heap/\(∀b∈fp,H' b=none)/\W i m σ' H':=λ{σ7 H7} I7 n7=>by
   obtain⟨m',hm,w7⟩:=hN σ7 H7 n7;refine⟨m',hm,i+1,σ7,H7,I7.unpinned,T.keep _ _ _ st5 λb hb o e=>(I7.pin (b,o) (QH _ (QH _ (ji hb e)))).1,λb hb=>?_,w7⟩;obtain⟨o,e,d⟩:=T.obj _ _ st5 b hb;exact(I7.pin (b,o) (QH _ (QH _ (ji hb e)))).2.1
  cases f with|next|cont=>obtain⟨σ7,H7,I7,n7⟩:=q7;exact again I7 n7|brk=>obtain⟨σ7,H7,I7,q7⟩:=q7;exact⟨σ7,H7,I7.unpinned,q7⟩|ret v=>obtain⟨x7,σ7,H7,I7,r7,q7⟩:=q7;exact⟨x7,σ7,H7,I7.unpinned,r7,q7⟩
end
def A6{lo:Int}{n:Nat}{g:TG}{tb:TS}{D:gI}{σ:St}{H:Hp}(Pv:Nat->St->Hp->Prop)(h0:Pv 0 σ H)
  (hs:∀i σ H,i<n->Pv i σ H->g (.int (lo+i)) σ H λσ2 H2=>tb { D with nx:=Pv (i+1),ct:=Pv (i+1),bk:=D.nx } σ2 H2)(hd:∀σ H,Pv n σ H->D.nx σ H) :
  ∃W:Nat->Nat->St->Hp->Prop,(∃m,W 0 m σ H)/\∀i m σ H,W i m σ H ->
   ((Li lo n).stop i H/\D.nx σ H)∨((Li lo n).go i H/\∃N:St->Hp->Prop,(∀σ' H',N σ' H'->∃m',m' < m/\W (i+1) m' σ' H')/\∀x H',(Li lo n).yld i H x H'->g x σ H' λσ2 H2=>tb { D with nx:=N,ct:=N,bk:=D.nx } σ2 H2):=by
 refine⟨λi m σ H=>m=n-i/\i<=n/\Pv i σ H,⟨n,by simp,S8 _,h0⟩,?_⟩;rintro i m σ H ⟨rfl,hi,p⟩
 by_cases hlt:i<n
 .refine .inr ⟨hlt,Pv (i+1),λσ' H' p'=>⟨n-(i+1),by omega,rfl,hlt,p'⟩,λx H' y=>?_⟩
  obtain⟨e,y⟩:=y;subst e y;exact hs i σ _ hlt p
 .have e:i=n:=by omega
  subst e;exact .inl ⟨P9 _,hd σ H p⟩
abbrev R2:=V->V->Hp->VK->Prop
def gK(X:Cx)(f:Pd->Pd->Sem Pd)(r:R2):Prop :=
 ∀(π:List (Pg×Obj)) (s:Pm) (σ:St) (H:Hp) (x y:V) (v u:Pd) (Q:VK),Inv X π σ H s->bS x v->bS y u->r x y H Q ->
  PZ (PN X.prog X.w) X.A (f v u) (EP X π σ Q) X.xe s
def Ny(X:Cx)(f:Pd->Sem Pd)(r:V->Hp->VK->Prop):Prop :=
 ∀(π:List (Pg×Obj)) (s:Pm) (σ:St) (H:Hp) (x:V) (v:Pd) (Q:VK),Inv X π σ H s->bS x v->r x H Q ->
  PZ (PN X.prog X.w) X.A (f v) (EP X π σ Q) X.xe s
def jc(X:Cx)(f:Pd)(r:al->Hp->VK->Prop):Prop :=
 ∀(π:List (Pg×Obj)) (s:Pm) (σ:St) (H:Hp) (xs:al) (us:List Pd) (Q:VK),Inv X π σ H s->bM xs us->r xs H Q ->
  PZ (PN X.prog X.w) X.A (call f us) (EP X π σ Q) X.xe s
def LM(r:R2)(ta tb:TE):TE:=λσ H Q=>ta σ H λx H1=>tb σ H1 λy H2=>r x y H2 Q
def OQ(r:V->Hp->VK->Prop)(ta:TE):TE:=λσ H Q=>ta σ H λx H1=>r x H1 Q
def rI(C:Int->Int->Prop)(g:Int->Int->V):R2:=λx y H Q=>∃i j,x=.int i/\y=.int j/\C i j/\Q (g i j) H
def EF(g:Int->Int->V):R2:=λx y H Q=>∃i j,x=.int i/\y=.int j/\Q (g i j) H
def rU(g:Int->V):V->Hp->VK->Prop:=λx H Q=>∃i,x=.int i/\Q (g i) H
section
variable {X:Cx}{a b c:Qe}{ta tb tc:TE}{pos:Pos}
def La(ha:PE X a ta)(hb:PE X b tb){π:List (Pg×Obj)}{s:Pm}{σ:St}{H:Hp}{R:V->V->Hp->Prop}(I:Inv X π σ H s)
  (h:ta σ H λx H1=>tb σ H1 λy H2=>R x y H2){Q:Pd->Pm->Prop}{f:Pd->Pd->Sem Pd}
  (hf:∀v u s2 x y H2,Inv X π σ H2 s2->bS x v->bS y u->R x y H2->PZ (PN X.prog X.w) X.A (f v u) Q X.xe s2) :
  PZ (PN X.prog X.w) X.A (eval a X.env) (λv sg=>PZ (PN X.prog X.w) X.A (eval b X.env) (λu si=>PZ (PN X.prog X.w) X.A (f v u) Q X.xe si) X.xe sg) X.xe s:=by
 refine dw (ha π s σ H _ I h) λv s1 ⟨x,H1,I1,r1,q1⟩=>?_;refine dw (hb π s1 σ H1 _ I1 q1) λu s2 ⟨y,H2,I2,r2,q2⟩=>?_;exact hf v u s2 x y H2 I2 r1 r2 q2
def Ih{op:Operator}{r:R2}(ho:gK X (binaryOp op) r)(ha:PE X a ta)(hb:PE X b tb):PE X (.BinOp a op b pos) (LM r ta tb):=by
 intro π s σ H Q I h;exact wpAny_BinOp (La ha hb I h λv u s2 x y H2 I2 rx ry q=>ho π s2 σ H2 x y v u Q I2 rx ry q)
def Mo{op:UnaryOp}{r:V->Hp->VK->Prop}(ho:Ny X (unaryOp op) r)(ha:PE X a ta):PE X (.UnaryOp op a pos) (OQ r ta):=by
 intro π s σ H Q I h;exact UnaryOp_ (dw (ha π s σ H _ I h) λv s1 ⟨x,H1,I1,r1,q1⟩=>ho π s1 σ H1 x v Q I1 r1 q1)
def Nu{f:Pd->Pd->Sem Pd}{C:Int->Int->Prop}{g:Int->Int->Int}
  (rule:∀(i j:Int) (t u:Tok) (s:Pm) (Q:Pd->Pm->Prop) (E:Pd->Pm->Prop),C i j->Q (.int (g i j) s.toks) { s with toks:=s.toks+1 }->PZ (PN X.prog X.w) X.A (f (.int i t) (.int j u)) Q E s) :
  gK X f (rI C λi j=>.int (g i j)):=by
 intro π s σ H x y v u Q I rx ry h;obtain⟨i,j,rfl,rfl,hc,q⟩:=h;obtain⟨t,rfl⟩:=rx;obtain⟨t',rfl⟩:=ry;exact rule i j t t' s _ _ hc ⟨.int (g i j),H,I.tok _,⟨_,rfl⟩,q⟩
def Mt{f:Pd->Pd->Sem Pd}{g:Int->Int->Int}
  (rule:∀(i j:Int) (t u:Tok) (s:Pm) (Q:Pd->Pm->Prop) (E:Pd->Pm->Prop),Q (.int (g i j) s.toks) { s with toks:=s.toks+1 }->PZ (PN X.prog X.w) X.A (f (.int i t) (.int j u)) Q E s) :
  gK X f (EF λi j=>.int (g i j)):=by
 intro π s σ H x y v u Q I rx ry h;obtain⟨i,j,rfl,rfl,q⟩:=h;obtain⟨t,rfl⟩:=rx;obtain⟨t',rfl⟩:=ry;exact rule i j t t' s _ _ ⟨.int (g i j),H,I.tok _,⟨_,rfl⟩,q⟩
def F0{f:Pd->Pd->Sem Pd}{g:Int->Int->Bool}
  (rule:∀(i j:Int) (t u:Tok) (s:Pm) (Q:Pd->Pm->Prop) (E:Pd->Pm->Prop),Q (.bool (g i j)) s->PZ (PN X.prog X.w) X.A (f (.int i t) (.int j u)) Q E s) :
  gK X f (EF λi j=>.bl (g i j)):=by
 intro π s σ H x y v u Q I rx ry h;obtain⟨i,j,rfl,rfl,q⟩:=h;obtain⟨t,rfl⟩:=rx;obtain⟨t',rfl⟩:=ry;exact rule i j t t' s _ _ ⟨.bl (g i j),H,I,rfl,q⟩
def Oz(i j:Int):Prop:=0<=j/\j<=1000000/\i.natAbs<2 ^ 64
def J4:gK X (binaryOp .Add) (EF λi j=>.int (i+j)):=Mt λ_ _ _ _ _ _ _ q=>add_int q
def J0:gK X (binaryOp .Sub) (EF λi j=>.int (i-j)):=Mt λ_ _ _ _ _ _ _ q=>sub_int q
def FW:gK X (binaryOp .Mod) (rI (λ_ j=>j≠0) λi j=>.int (i.fmod j)):=Nu λ_ _ _ _ _ _ _ hc q=>mod_int' hc q
def J2:gK X (binaryOp .Pow) (rI Oz λi j=>.int (i ^ j.toNat)):=Nu λ_ _ _ _ _ _ _ hc q=>pow_int_small hc.1 hc.2.1 hc.2.2 q
def ON{f:Pd->Sem Pd}{g:Int->Int}
  (rule:∀(i:Int) (t:Tok) (s:Pm) (Q:Pd->Pm->Prop) (E:Pd->Pm->Prop),Q (.int (g i) s.toks) { s with toks:=s.toks+1 }->PZ (PN X.prog X.w) X.A (f (.int i t)) Q E s) :
  Ny X f (rU λi=>.int (g i)):=by
 intro π s σ H x v Q I rx h;obtain⟨i,rfl,q⟩:=h;obtain⟨t,rfl⟩:=rx;exact rule i t s _ _ ⟨.int (g i),H,I.tok _,⟨_,rfl⟩,q⟩
def Jh:Ny X (unaryOp .USub) (rU λi=>.int (-i)):=ON λ_ _ _ _ _ q=>neg_int q
end
section
variable {X:Cx}{a b c:Qe}{ta tb tc:TE}{pos:Pos}
def yd{π:List (Pg×Obj)}{σ:St}{H:Hp}{s:Pm}{Q:VK}{k k':Bool}(I:Inv X π σ H s)(q:Q (.bl k) H)(e:k=k'):EP X π σ Q (.bool k') s:=by
 subst e;exact⟨.bl k,H,I,rfl,q⟩
def jV:gK X (QF .Lt) (EF λi j=>.bl (decide (i<j))):=F0 λ_ _ _ _ _ _ _ q=>lt_int q
def l9:gK X (QF .LtE) (EF λi j=>.bl (decide (i<=j))):=F0 λ_ _ _ _ _ _ _ q=>le_int q
def pQ:gK X (QF .Gt) (EF λi j=>.bl (decide (j<i))):=F0 λ_ _ _ _ _ _ _ q=>gt_int q
def y9:gK X (QF .GtE) (EF λi j=>.bl (decide (j<=i))):=F0 λ_ _ _ _ _ _ _ q=>ge_int q
def AL:gK X (QF .In) (λx y H Q=>∃i j,x=.str i/\y=.str j/\Q (.bl (!(RE j i 0 j.length 1).isEmpty)) H):=by
 intro π s σ H x y v u Q I rx ry h;obtain⟨i,j,rfl,rfl,q⟩:=h;obtain⟨t,rfl⟩:=rx;obtain⟨t',rfl⟩:=ry;exact in_str (yd I q rfl)
def lC:gK X (QF .Is) (λx y H Q=>y=.non/\Q (.bl (decide (x=.non))) H):=by
 intro π s σ H x y v u Q I rx ry h;obtain⟨rfl,q⟩:=h;cases ry;refine is_none_gen (yd I q ?_);cases x<;>first
  |(cases rx;rfl)
  |(obtain⟨t,rfl⟩:=rx;rfl)
def y8:gK X (QF .IsNot) (λx y H Q=>y=.non/\Q (.bl (!decide (x=.non))) H):=by
 intro π s σ H x y v u Q I rx ry h;obtain⟨rfl,q⟩:=h;cases ry;refine isnot_none_gen (yd I q ?_);cases x<;>first
  |(cases rx;rfl)
  |(obtain⟨t,rfl⟩:=rx;rfl)
def gK.or{f:Pd->Pd->Sem Pd}{r r':R2}(h:gK X f r)(h':gK X f r'):gK X f (λx y H Q=>r x y H Q∨r' x y H Q):=by
 intro π s σ H x y v u Q I rx ry q;rcases q with q|q
 .exact h π s σ H x y v u Q I rx ry q
 .exact h' π s σ H x y v u Q I rx ry q
def FR{op:CmpOp}{r:R2}(ho:gK X (QF op) r)(ha:PE X a ta)(hb:PE X b tb)(hm:behindInMarks op b=false):PE X (.Compare a [op] [b] pos) (LM r ta tb):=by
 intro π s σ H Q I h;exact wpAny_Compare1 (La ha hb I h λv u s2 x y H2 I2 rx ry q=>ho π s2 σ H2 x y v u Q I2 rx ry q) hm
def Ia(t:TE):TT:=λσ H Q=>t σ H λx H'=>∃k,x=.bl k/\Q k H'
def FG{op:CmpOp}{r:R2}(ho:gK X (QF op) r)(ha:PE X a ta)(hb:PE X b tb)(hm:behindInMarks op b=false):PT X (.Compare a [op] [b] pos) (Ia (LM r ta tb)):=by
 intro π s σ H Q I h;refine wpAny_isTrue_Compare1 (dw (ha π s σ H _ I h) λv s1 ⟨x,H1,I1,r1,q1⟩=>dw (hb π s1 σ H1 _ I1 q1) λu s2 ⟨y,H2,I2,r2,q2⟩ =>
  dw (ho π s2 σ H2 x y v u _ I2 r1 r2 q2) λc s3 ⟨z,H3,I3,r3,k,e,q3⟩=>?_) hm
 subst e;cases r3;exact Q4 ⟨H3,I3,q3⟩
def xj(r r':R2)(ta tb tc:TE):TE:=λσ H Q=>ta σ H λx H1=>tb σ H1 λy H2=>r x y H2 λz H3=>∃k,z=.bl k /\
 (if k=true then tc σ H3 λw' H4=>r' y w' H4 Q else Q (.bl false) H3)
def CH{op op':CmpOp}{r r':R2}(ho:gK X (QF op) r)(ho':gK X (QF op') r')(ha:PE X a ta)(hb:PE X b tb)(hc:PE X c tc)
  (hm:lastMarks [op,op'] [b,c]=false:=by with_unfolding_all rfl):PE X (.Compare a [op,op'] [b,c] pos) (xj r r' ta tb tc):=by
 intro π s σ H Q I h;refine Compare_chain (dw (ha π s σ H _ I h) λv s1 ⟨x,H1,I1,r1,q1⟩=>chain_link (dw (hb π s1 σ H1 _ I1 q1) λu s2 ⟨y,H2,I2,r2,q2⟩ =>
  dw (ho π s2 σ H2 x y v u _ I2 r1 r2 q2) λd s3 ⟨z,H3,I3,r3,k,e,q3⟩=>?_)) hm
 subst e;cases r3;refine Q4 ?_;cases k with|false=>exact ite_ff ⟨.bl false,H3,I3,rfl,q3⟩|true=>exact ite_tt (chain_last (dw (hc π s3 σ H3 _ I3 q3) λw' s4 ⟨z',H4,I4,r4,q4⟩=>ho' π s4 σ H4 y z' u w' Q I4 r2 r4 q4))
def Cu{op op':CmpOp}{r r':R2}(ho:gK X (QF op) r)(ho':gK X (QF op') r')(ha:PE X a ta)(hb:PE X b tb)(hc:PE X c tc)
  (hm:lastMarks [op,op'] [b,c]=false:=by with_unfolding_all rfl):PT X (.Compare a [op,op'] [b,c] pos) (Ia (xj r r' ta tb tc)):=by
 intro π s σ H Q I h;refine isTrue_chain (dw (ha π s σ H _ I h) λv s1 ⟨x,H1,I1,r1,q1⟩=>test_link (dw (hb π s1 σ H1 _ I1 q1) λu s2 ⟨y,H2,I2,r2,q2⟩ =>
  dw (ho π s2 σ H2 x y v u _ I2 r1 r2 q2) λd s3 ⟨z,H3,I3,r3,k,e,q3⟩=>?_)) hm
 subst e;cases r3;refine Q4 ?_;cases k with
 |false=>
  obtain⟨k',e',q'⟩:=q3;cases e';exact ite_ff ⟨H3,I3,q'⟩
 |true=>
  refine ite_tt (test_last (dw (hc π s3 σ H3 _ I3 q3) λw' s4 ⟨z',H4,I4,r4,q4⟩=>dw (ho' π s4 σ H4 y z' u w' _ I4 r2 r4 q4) λd' s5 z9=>?_));obtain⟨z2,H5,I5,r5,k2,e2,q5⟩:=z9;subst e2;cases r5;exact Q4 ⟨H5,I5,q5⟩
def uA:(sizeLine:Nat)<2 ^ 63:=by rw[sizeLine_eq];decide
def xI:gK X (binaryOp .Add) (λx y H Q=>∃i j,x=.str i/\y=.str j/\i.length+j.length<=sizeLine/\Q (.str (i++j)) H):=by
 intro π s σ H x y v u Q I rx ry h;obtain⟨i,j,rfl,rfl,hz,q⟩:=h;obtain⟨t,rfl⟩:=rx;obtain⟨t',rfl⟩:=ry;exact add_str (λt' tk=>⟨.str (i++j),H,I.tok _,⟨_,rfl⟩,q⟩) hz
def rW{x:V}{us:List Pd}(r:bM [x] us):∃u,us=[u]/\bS x u:=by
 cases r with|cons r1 r2=>cases r2;exact⟨_,rfl,r1⟩
def HY{x y:V}{us:List Pd}(r:bM [x,y] us):∃u w',us=[u,w']/\bS x u/\bS y w':=by
 cases r with
 |cons r1 r2=>
  cases r2 with|cons r3 r4=>cases r4;exact⟨_,_,rfl,r1,r3⟩
def qP:jc X (.builtin "abs") (λxs H Q=>∃i,xs=[.int i]/\Q (.int (if i<0 then -i else i)) H):=by
 intro π s σ H xs us Q I r h;obtain⟨i,rfl,q⟩:=h;obtain⟨u,rfl,t,rfl⟩:=rW r;exact call_abs_int λu tk=>⟨.int (if i<0 then -i else i),H,I.tok _,⟨_,rfl⟩,q⟩
def Bk(hc:X.calm=true):jc X (.builtin "max") (λxs H Q=>∃i j,xs=[.int i,.int j]/\Q (.int (if j > i then j else i)) H):=by
 intro π s σ H xs us Q I r h;obtain⟨i,j,rfl,q⟩:=h;obtain⟨u,w',rfl,⟨t,rfl⟩,⟨t',rfl⟩⟩:=HY r;refine max_two_ints (I.ok.hd hc) λh' tk k=>⟨_,H,I.kept k,?_,q⟩
 by_cases hj:j > i
 .rw[if_pos hj,if_pos hj];exact⟨_,rfl⟩
 .rw[if_neg hj,if_neg hj];exact⟨_,rfl⟩
def Bj(hc:X.calm=true):jc X (.builtin "min") (λxs H Q=>∃i j,xs=[.int i,.int j]/\Q (.int (if j<i then j else i)) H):=by
 intro π s σ H xs us Q I r h;obtain⟨i,j,rfl,q⟩:=h;obtain⟨u,w',rfl,⟨t,rfl⟩,⟨t',rfl⟩⟩:=HY r;refine min_two_ints (I.ok.hd hc) λh' tk k=>⟨_,H,I.kept k,?_,q⟩
 by_cases hj:j<i
 .rw[if_pos hj,if_pos hj];exact⟨_,rfl⟩
 .rw[if_neg hj,if_neg hj];exact⟨_,rfl⟩
def Bl:jc X (.type "int") (λxs H Q=>(∃i,xs=[.int i]/\Q (.int i) H)∨∃k,xs=[.bl k]/\Q (.int (if k then 1 else 0)) H):=by
 intro π s σ H xs us Q I r h;rcases h with⟨i,rfl,q⟩|⟨k,rfl,q⟩
 .obtain⟨u,rfl,t,rfl⟩:=rW r
  exact call_int_int ⟨.int i,H,I,⟨_,rfl⟩,q⟩
 .obtain⟨u,rfl,r1⟩:=rW r
  cases r1;exact call_int_bool ⟨.int (if k then 1 else 0),H,I.tok _,⟨_,rfl⟩,q⟩
def eP:jc X (.type "str") (λxs H Q=>∃i,xs=[.int i]/\i.natAbs.log2<1920/\Q (.str (toString i)) H):=by
 intro π s σ H xs us Q I r h;obtain⟨i,rfl,hz,q⟩:=h;obtain⟨u,rfl,t,rfl⟩:=rW r;exact PySem.P.str_of_int hz ⟨.str _,H,I.tok _,⟨_,rfl⟩,q⟩
def Nm(K:Pl)(x:V)(H:Hp)(n:Nat):Prop :=
 match x with
 |.str y=>y.length<=sizeLine/\n=y.length
 |.byt y=>y.size<=sizeLine/\n=y.size
 |.ref p=>(∃xs,gJ K H p xs/\n=xs.length)∨∃xs,lT K H p xs/\n=xs.length
 |_=>False
def aT:jc X (.builtin "len") (λxs H Q=>∃x n,xs=[x]/\Nm X.K x H n/\Q (.int n) H):=by
 intro π s σ H xs us Q I r h;obtain⟨x,n,rfl,e,q⟩:=h;obtain⟨u,rfl,rx⟩:=rW r;have hl:=uA;have hs:sizeLine=16777216:=sizeLine_eq;cases x with
 |str y=>
  obtain⟨t,rfl⟩:=rx;obtain⟨hy,e'⟩:y.length<=sizeLine/\n=y.length:=e;subst e';exact len_str (by omega) ⟨.int _,H,I.tok _,⟨_,rfl⟩,q⟩
 |byt y=>
  obtain⟨t,rfl⟩:=rx;obtain⟨hy,e'⟩:y.size<=sizeLine/\n=y.size:=e;subst e';exact W.len_bytes (by omega) ⟨.int _,H,I.tok _,⟨_,rfl⟩,q⟩
 |ref p=>
  cases rx;have e':(∃xs,gJ X.K H p xs/\n=xs.length)∨∃xs,lT X.K H p xs/\n=xs.length:=e;rcases e' with⟨xs,hx,e'⟩|⟨xs,hx,e'⟩
  .subst e'
   obtain⟨its,r',pl,hz⟩:=I.list hx;have hlen:=r'.length;exact Calls.call_len_list pl.isList (by simp only[P6];omega) ⟨.int xs.length,H,I.tok _,⟨_,by simp only[P6];rw[hlen]⟩,q⟩
  .subst e'
   obtain⟨its,r',pl,hz⟩:=I.tuple hx;have hlen:=r'.length;exact len_tuple pl (by simp only[P6];omega) ⟨.int xs.length,H,I.tok _,⟨_,by simp only[P6];rw[hlen]⟩,q⟩
 |_=>exact(show False from e).elim
end
structure Bu (h:PF) (x dx C:Pg) (mA:Pj->Option Pd):Prop where
 obj:h.get? x=some (Sw C dx)
 ns:h.Ns1 dx mA
 ne:dx≠x
def m5{h:PF}{dx:Pg}{mA:Pj->Option Pd}(n:h.Ns1 dx mA):∃od,h.get? dx=some od/\∀name,UW name od=some (mA name):=by
 obtain⟨o,es,ep,ho,hd,hk,_,hm⟩:=n;refine⟨o,ho,λname=>?_⟩;have e:=hm name;unfold nsFind findBy at e;rw[←Array.find?_toList]at e;unfold UW;rw[hd];dsimp only;split
 .rename_i y q
  rw[q]at e;exact congrArg some e
 .rename_i q
  rw[q]at e;have a:es.toList.any (·.refKey)=false:=by
   rw[List.any_eq_false];intro y hy;obtain⟨z,t,hkey⟩:=hk y (Array.mem_toList_iff.mp hy);simp[DictEntry.refKey,hkey]
  have a':¬es.toList.any (·.refKey)=true:=by rw[a];exact QR
  rw[if_neg a'];exact congrArg some e
def Bu.look{h:PF}{x dx C:Pg}{mA:Pj->Option Pd}(I:Bu h x dx C mA):∃od,T7 h x (Sw C dx) C (some od)/\∀name,UW name od=some (mA name) :=
 let ⟨od,ho,hl⟩:=m5 I.ns
 ⟨od,⟨I.obj,rfl,rfl,ho⟩,hl⟩
section
variable {prog:Qi}{w:Qv}{A:Qp}{E:Pd->Pm->Prop}{s:Pm}{K:Pl}{x dx C f:Pg}{mA:Pj->Option Pd}{name:Pj}{v:Pd}
def Gx{expr:Bool}{Q:Pd->Pm->Prop}(X:K.In s.heap)(I:Bu s.heap x dx C mA)(hg:Td K C name=true)(hh:RF K C=true)
  (ha:QW K (.ref C) name=some none)(hv:mA name=some v)(hv':W.handedIn v=true)(h:Q v { s with toks:=s.toks+1 }) :
  PZ (PN prog w) A (Ux (.ref x) name expr) Q E s:=by
 obtain⟨od,J,hl⟩:=I.look;exact W.get_value X J (W.plainGet_of hg).1 (W.findObj_own hh ha rfl (by rw[hl,hv])) hv' h
def Fu{ns:bv}{Q:Unit->Pm->Prop}(X:K.In s.heap)(I:Bu s.heap x dx C mA)
  (hs:QW K (.ref C) "__setattr__"=some (some (.builtin "object.__setattr__")))(hp:TU K C=true)(ht:W.takerIn K C name=some none)(hh:RF K C=true)
  (hw:Ru mA ns)(hsz:ns.length<=sizeLine)
  (h:∀h',Bu h' x dx C (λy=>if y=name then some v else mA y)->Sh dx s.heap h'->Q () { s with heap:=h',toks:=s.toks+2 }) :
  PZ (PN prog w) A (setAttr (.ref x) name v) Q E s:=by
 obtain⟨od,J,hl⟩:=I.look;refine UT X J hs (W.osa_open (s:={ s with toks:=s.toks+1 }) (r:=none) X J hp ht λb=>?_);obtain⟨cd,hc,hd'⟩:=T6 hh;have hx:s.heap.get? x=some ⟨.ref C,some dx,.plain,#[]⟩:=I.obj;refine Pp (PX (Pp (Pp (wpAny_loadPart hx (Pp (UB (s:={ s with toks:=s.toks+1 }) (Tb X hc) ?_))))));rw[hd'];refine PX (a:=some dx) (Pp (PX (Pp ?_)));refine wpAny_nsSet1 (s:={ s with toks:=s.toks+1 }) I.ns λh' hn2 hs2=>?_;obtain⟨oD,esD,epD,hoD,hdD,hcD⟩:=hn2.count (Tu name v hw);refine Pp (wpAny_lookBehind hoD (by rw[hdD];exact pastItsLine_dict (PB hcD (by rw[PU];omega))) ?_);exact PX (h _ ⟨(hs2.2 _ (Qq I.ne)).trans I.obj,hn2,I.ne⟩ hs2)
def CZ{R:Tf->Pm->Prop}{vs:List Pd}{kw:List (Pj×Pd)}(X:K.In s.heap)(hm:W.makesIn K C=true)
  (hi:QW K (.ref C) "__init__"=some (some (.ref f)))(hf:W.typeIn K (.ref f)=some (.type "function"))
  (h:RO (PN prog w) (A.under (.builtin "type.__call__" ⟨.ref C::vs,kw⟩)) (.call (.ref f) ⟨.ref (s.heap.objs.size+1)::vs,kw⟩) (W.InitBack (s.heap.objs.size+1) R)
   { s with heap:=(s.heap.push Q7).push (Sw C s.heap.objs.size) }) :
  RO (PN prog w) A (.call (.ref C) ⟨vs,kw⟩) R s:=by
 obtain⟨hh,g,d,t,os⟩:=s;exact W.make_core (W.makes_of X hm) (W.looks_findIn X hi) (λself=>W.bind_fn X self hf) (.inl rfl) h
end
def eN(f:Pj)(v:V):List (Pj×V)->List (Pj×V)
 |[]=>[(f,v)]
 |(g,x)::r=>if g=f then(g,v)::r else(g,x)::eN f v r
theorem j7(f g:Pj)(v:V):∀fs:List (Pj×V),(eN f v fs).lookup g=if g=f then some v else fs.lookup g
 |[]=>by
  show RG g [(f,v)]=_
  by_cases h:g=f
  .have hb:(g==f)=true:=beq_iff_eq.mpr h
   simp only[RG,hb,if_pos h]
  .have hb:(g==f)=false:=beq_eq_false_iff_ne.mpr h
   simp only[RG,hb,if_neg h]
 |(k,x)::r=>by
  have ih:=j7 f g v r;rw[show eN f v ((k,x)::r)=(if k=f then(k,v)::r else(k,x)::eN f v r) from rfl]
  by_cases hk:k=f
  .rw[if_pos hk]
   by_cases h:g=k
   .have hb:(g==k)=true:=beq_iff_eq.mpr h
    simp only[RG,hb,if_pos (h.trans hk)]
   .have hb:(g==k)=false:=beq_eq_false_iff_ne.mpr h
    simp only[RG,hb,if_neg (λe:g=f=>h (e.trans hk.symm))]
  .rw[if_neg hk]
   by_cases h:g=k
   .have hb:(g==k)=true:=beq_iff_eq.mpr h
    simp only[RG,hb,if_neg (λe:g=f=>hk (h.symm.trans e))]
   .have hb:(g==k)=false:=beq_eq_false_iff_ne.mpr h
    simp only[RG,hb];exact ih
theorem iW(f:Pj)(v:V):∀fs:List (Pj×V),f∈(eN f v fs).map (·.1)/\∀g,g∈fs.map (·.1)->g∈(eN f v fs).map (·.1)
 |[]=>⟨by simp[eN],λg h=>by simp at h⟩
 |(k,x)::r=>by
  obtain⟨i1,i2⟩:=iW f v r;rw[show eN f v ((k,x)::r)=(if k=f then(k,v)::r else(k,x)::eN f v r) from rfl]
  by_cases hk:k=f
  .rw[if_pos hk]
   subst hk;exact⟨by simp,λg h=>by simpa using h⟩
  .rw[if_neg hk]
   refine⟨?_,λg h=>?_⟩
   .rw[Qr]
    exact Pw _ i1
   .rw[Qr]at h ⊢
    rcases PL.mp h with e|e
    .exact PL.mpr (.inl e)
    .exact Pw _ (i2 g e)
theorem nQ(f:Pj)(v:V):∀fs:List (Pj×V),(eN f v fs).length<=fs.length+1
 |[]=>by simp[eN]
 |(k,x)::r=>by
  have ih:=nQ f v r;rw[show eN f v ((k,x)::r)=(if k=f then(k,v)::r else(k,x)::eN f v r) from rfl]
  by_cases hk:k=f
  .rw[if_pos hk,PU,PU];omega
  .rw[if_neg hk,PU,PU];omega
def mL{v:V}{o:Option Pd}(r:yx (some v) o):∃u,o=some u/\bS v u:=by
 cases o with|none=>exact(show False from r).elim|some u=>exact⟨u,rfl,r⟩
def sQ{v:V}{u:Pd}(r:bS v u):W.handedIn u=true:=by
 cases v with|non=>cases (show u=QY from r);rfl|bl b=>cases (show u=QZ b from r);rfl|int i=>obtain⟨t,e⟩:=(show ∃t,u=Rj i t from r);cases e;rfl|str x=>obtain⟨t,e⟩:=(show ∃t,u=Ri x t from r);cases e;rfl|byt b=>obtain⟨t,e⟩:=(show ∃t,u=Value.bytes b t from r);cases e;rfl|flt b=>obtain⟨t,e⟩:=(show ∃t,u=UZ b t from r);cases e;rfl|ref a=>cases (show u=Qh a from r);rfl|ty n=>cases (show u=Value.type n from r);rfl
section
variable {P:Qi}{w:Qv}{H H':Hp}{h h':PF}{a C dx:Pg}{fs fs':List (Pj×V)}
def oX(hok:gO P w H h)(e:H a=some (.ins C dx fs)):∃mA,Bu h a dx C mA/\(∀f,yx (fs.lookup f) (mA f))/\Ru mA (fs.map (·.1))/\fs.length<=1000/\H dx=some (.own a):=by
 obtain⟨d,z,ne,ob,mA,n,r,q⟩:=(show c7 P w H h a (.ins C dx fs) from hok a _ e)
 exact⟨mA,⟨ob,n,ne⟩,r,q,z,d⟩
end
structure HV (K:Pl) (C:Pg):Prop where
 pg:Td K C Sn=true
 hd:RF K C=true
 po:TU K C=true
 sa:QW K (.ref C) "__setattr__"=some (some (.builtin "object.__setattr__"))
def HV.get{K:Pl}{C:Pg}(c:HV K C)(f:Pj):Td K C f=true:=c.pg
def eh(K:Pl)(C:Pg)(f:Pj):Prop:=QW K (.ref C) f=some none
def eh.taker{K:Pl}{C:Pg}{f:Pj}(n:eh K C f):W.takerIn K C f=some none:=by
 unfold W.takerIn;rw[show QW K (.ref C) f=some none from n];rfl
section
variable {X:Cx}{π:List (Pg×Obj)}{σ:St}{H:Hp}{s:Pm}{a C dx:Pg}{fs:List (Pj×V)}{f:Pj}{v:V}{A:Qp}{E:Pd->Pm->Prop}
def ya{b:Bool}{Q:Pd->Pm->Prop}(I:Inv X π σ H s)(e:H a=some (.ins C dx fs))(c:HV X.K C)(n:eh X.K C f)(l:fs.lookup f=some v)
  (h:∀u s',Inv X π σ H s'->bS v u->Q u s'):PZ (PN X.prog X.w) A (Ux (.ref a) f b) Q E s:=by
 obtain⟨mA,O,r,_,_,_⟩:=oX I.hok e;obtain⟨u,hu,ru⟩:=mL (v:=v) (o:=mA f) (by rw[←l];exact r f);exact Gx I.kIn O (c.get f) c.hd n hu (sQ ru) (h u _ (I.tok _) ru)
def xq{y:V}{u:Pd}{Q:Unit->Pm->Prop}(I:Inv X π σ H s)(e:H a=some (.ins C dx fs))(c:HV X.K C)(n:eh X.K C f)(hl:fs.length<1000)(ry:bS y u)
  (h:∀s',Inv X π σ (upd H a (.ins C dx (eN f y fs))) s'->Q () s'):PZ (PN X.prog X.w) A (setAttr (.ref a) f u) Q E s:=by
 obtain⟨mA,O,r,wi,_,ho⟩:=oX I.hok e;have hz:(fs.map (·.1)).length<=sizeLine:=by rw[Ph,sizeLine_eq];omega
 refine Fu I.kIn O c.sa c.po n.taker c.hd wi hz λh' O' sb=>h _ ?_;have hd:∃o,h'.get? dx=some o:=let ⟨o,_,_,e',_⟩:=O'.ns;⟨o,e'⟩;refine I.write (x:=a) (e:=dx) (by rw[e];exact RH) (.inr ho) (λb q hb z=>(sb.2 b hb).trans z) hd ?_;refine⟨by rw[ax O.ne];exact ho,?_,O.ne,O'.obj,_,O'.ns,λg=>?_,λg hg=>?_⟩
 .have:=nQ f y fs;omega
 .show yx ((eN f y fs).lookup g) (if g=f then some u else mA g)
  rw[j7]
  by_cases q:g=f
  .rw[if_pos q,if_pos q];exact ry
  .rw[if_neg q,if_neg q];exact r g
 .by_cases q:g=f
  .rw[q];exact(iW f y fs).1
  .refine(iW f y fs).2 g (wi g λz=>hg ?_)
   show(if g=f then some u else mA g)=none;rw[if_neg q];exact z
def Ey(I:Inv X π σ H s):Inv X π σ (upd (upd H s.heap.objs.size (.own (s.heap.objs.size+1))) (s.heap.objs.size+1) (.ins C s.heap.objs.size []))
  { s with heap:=(s.heap.push Q7).push (Sw C s.heap.objs.size) }:=by
 have e1:(s.heap.push Q7).get? s.heap.objs.size=some Q7:=Qm s.heap rfl;have e2:((s.heap.push Q7).push (Sw C s.heap.objs.size)).get? (s.heap.objs.size+1)=some (Sw C s.heap.objs.size):=by
  have:=Qm (s.heap.push Q7) (o:=Sw C s.heap.objs.size) rfl
  rwa [Ub]at this
 have e3:(s.heap.push Q7).Ns s.heap.objs.size (λ_=>none):=⟨Q7,#[],_,e1,rfl,(λe he=>absurd he (by simp)),λ_=>rfl⟩
 have I1:=I.laid (a:=s.heap.objs.size) (o:=.own (s.heap.objs.size+1)) (h':=s.heap.push Q7) (t':=s.toks) (λb u q=>Pq _ q) (P9 _) ⟨_,e1⟩;refine I1.laid (a:=s.heap.objs.size+1) (o:=.ins C s.heap.objs.size []) (t':=s.toks) (λb u q=>Pq _ q) (UH (Ub _ _)) ?_;have ne:s.heap.objs.size≠s.heap.objs.size+1:=Qg (RB _);refine⟨by rw[ax ne,ay],S8 _,ne,e2,λ_=>none,(Heap.Ns1.of_empty e3).at λo q=>Pq _ q,λ_=>RH,λy hy=>absurd rfl hy⟩
def zQ{prog:Qi}{w:Qv}{env:Env}{e:Qe}{f:Pj}{pos:Pos}{s:Pm}{Q:Pd->Pm->Prop}(hb:QN e f env (eval e env)=eval e env)
  (h:PZ (PN prog w) A (eval e env) (λo sg=>PZ (PN prog w) A (Ux o f true) Q E sg) E s):PZ (PN prog w) A (eval (.Attribute e f pos) env) Q E s :=
 Attribute_any_ h (by rw[arm_eval_Attribute,hb])
end
def NV(K:Pl)(ta:TE)(f:Pj):TE:=λσ H Q=>ta σ H λx H1=>∃a C dx fs v,x=.ref a/\H1 a=some (.ins C dx fs)/\HV K C/\eh K C f/\fs.lookup f=some v/\Q v H1
def NZ(K:Pl)(ta tv:TE)(f:Pj):TS:=λD σ H=>tv σ H λy H1=>ta σ H1 λx H2=>∃a C dx fs,x=.ref a/\H2 a=some (.ins C dx fs)/\HV K C/\eh K C f/\fs.length<1000 /\
 D.nx σ (upd H2 a (.ins C dx (eN f y fs)))
section
variable {X:Cx}{o e value:Qe}{f:Pj}{pos pos' tpos:Pos}{ta tv:TE}
def CG(he:PE X e ta)(hb:QN e f X.env (eval e X.env)=eval e X.env):PE X (.Attribute e f pos) (NV X.K ta f):=by
 intro π s σ H Q I h;refine zQ hb (dw (he π s σ H _ I h) λu s1 z9=>?_);obtain⟨x,H1,I1,rx,a,C,dx,fs,v,ex,ea,c,n,l,q⟩:=z9;subst ex;obtain rfl:u=Qh a:=rx;exact ya I1 ea c n l λu' s2 I2 ru=>⟨v,H1,I2,ru,q⟩
def xB(ha:PE X o ta)(hv:PE X value tv)(hs:QK value (some (.Attribute o f pos')) pos.line X.env=pure false):PS X (.Assign [.Attribute o f pos'] value pos) (NZ X.K ta tv f):=by
 intro π s σ H D I h;refine plainObj_wpAny_Assign_Attribute (dw (hv π s σ H _ I h) λu s1 ⟨y,H1,I1,ry,q⟩=>dw (ha π s1 σ H1 _ I1 q) λov s2 z9=>?_) hs;obtain⟨x,H2,I2,rx,a,C,dx,fs,ex,ea,c,n,l,q2⟩:=z9;subst ex;obtain rfl:ov=Qh a:=rx;exact xq I2 ea c n l ry λs3 I3=>⟨σ,_,I3,q2⟩
end
section
variable {X:Cx}{π:List (Pg×Obj)}{σ:St}{H:Hp}{s:Pm}{A:Qp}{E:Pd->Pm->Prop}{Q:Pd->Pm->Prop}{c:Pd}{b:Bool}
inductive oB (K:Pl) (H:Hp):V->Pd->Prop where
 |non:oB K H .non (.type "NoneType")
 |bl (x:Bool):oB K H (.bl x) (.type "bool")
 |int (i:Int):oB K H (.int i) (.type "int")
 |str (x:Pj):oB K H (.str x) (.type "str")
 |flt (x:UInt64):oB K H (.flt x) (.type "float")
 |lst {a:Pg}{xs:al}(e:H a=some (.lst xs)):oB K H (.ref a) (.type "list")
 |frz {a:Pg}{o:Obj}{xs:al}(e:H a=some (.frz o (.lst xs))):oB K H (.ref a) (.type "list")
 |tup {a:Pg}{xs:al}(e:H a=some (.tup xs)):oB K H (.ref a) (.type "tuple")
 |dK {a:Pg}{kvs:List (uZ×V)}(e:H a=some (.dK kvs)):oB K H (.ref a) (.type "dict")
 |dT {a:Pg}{kvs:List (List uZ×V)}(e:H a=some (.dT kvs)):oB K H (.ref a) (.type "dict")
 |ins {a C dx:Pg}{fs:List (Pj×V)}(e:H a=some (.ins C dx fs)) (cl:HV K C) (ha:QW K (.ref C) "__class__"=some (some (.builtin "object.__class__")))
   (hn:SI K (.builtin "object.__class__") "__get__"=some (some (.builtin "getset_descriptor.__get__"))) (htk:Uq K (.builtin "object.__class__")=some true)
   (hm:Uy K C (.type "object")=some true):oB K H (.ref a) (.ref C)
def iY{x:V}{u t:Pd}(I:Inv X π σ H s)(rx:bS x u)(ty:oB X.K H x t)(e:UY X.K t c=some b)(h:∀tk,Q (.bool b) { s with toks:=tk }) :
  PZ (PN X.prog X.w) A (call (.builtin "isinstance") [u,c]) Q E s:=by
 cases ty with
 |non=>cases (show u=QY from rx);exact Q1 W.kitx_none I.kIn RH e (λz=>nomatch z) h|bl y=>cases (show u=QZ y from rx);exact Q1 W.kitx_bool I.kIn RH e (λz=>nomatch z) h|int i=>obtain⟨t,q⟩:=(show ∃t,u=Rj i t from rx);cases q;exact Q1 W.kitx_int I.kIn RH e (λz=>nomatch z) h|str y=>obtain⟨t,q⟩:=(show ∃t,u=Ri y t from rx);cases q;exact Q1 W.kitx_str I.kIn RH e (λz=>nomatch z) h|flt y=>obtain⟨t,q⟩:=(show ∃t,u=UZ y t from rx);cases q;exact Q1 W.kitx_float I.kIn RH e (λz=>nomatch z) h
 |@lst a xs ea=>
  cases (show u=Qh a from rx);obtain⟨_,_,n,_,h1⟩:=(show c7 X.prog X.w H s.heap a (.lst xs) from I.hok a _ ea)
  exact Q1 UX I.kIn ⟨_,h1,rfl⟩ e (λz=>nomatch z) h
 |@frz a ob xs ea=>
  cases (show u=Qh a from rx);obtain⟨_,_,_,n,_,h1⟩:=(show c7 X.prog X.w H s.heap a (.frz ob (.lst xs)) from I.hok a _ ea)
  exact Q1 UX I.kIn ⟨_,h1,rfl⟩ e (λz=>nomatch z) h
 |@tup a xs ea=>
  cases (show u=Qh a from rx);obtain⟨_,_,_,p⟩:=(show c7 X.prog X.w H s.heap a (.tup xs) from I.hok a _ ea)
  obtain⟨o,h1,h2,_⟩:=p;exact Q1 W.kitx_tuple I.kIn ⟨o,h1,h2⟩ e (λz=>nomatch z) h
 |@dK a kvs ea=>
  cases (show u=Qh a from rx);obtain⟨_,_,vs,_,p⟩:=(show c7 X.prog X.w H s.heap a (.dK kvs) from I.hok a _ ea)
  obtain⟨o,es,ep,h1,h2,_⟩:=p;exact Q1 TV I.kIn ⟨o,h1,h2.1⟩ e (λz=>nomatch z) h
 |@dT a kvs ea=>
  cases (show u=Qh a from rx);obtain⟨_,_,xs,_,o,es,ep,h1,h2,_⟩:=(show c7 X.prog X.w H s.heap a (.dT kvs) from I.hok a _ ea)
  exact Q1 TV I.kIn ⟨o,h1,h2.1⟩ e (λz=>nomatch z) h
 |@ins a C dx fs ea cl ha hn htk hm=>
  cases (show u=Qh a from rx);obtain⟨mA,O,_⟩:=oX I.hok ea;obtain⟨od,J,_⟩:=O.look;exact Q1 (W.kitx_own (cl.get _) cl.hd ha hn htk hm) I.kIn J e (λz=>nomatch z) h
end
structure dz (k:Nat) (A:Qp):Prop where
 hd:A.handled=none
 dp:A.depth+3*k+5<recursionLimit
 un:A.units+16*k+200<S0
 gd:A.guards=some []
def dz.mono{j k:Nat}{A:Qp}(r:dz k A)(h:j<=k):dz j A:=⟨r.hd,by have:=r.dp;omega,by have:=r.un;omega,r.gd⟩
def dz.deeper{k:Nat}{A:Qp}(r:dz (k+1) A)(env:Env):dz k (A.deeper env) :=
 ⟨r.hd,by have:=r.dp;show A.depth+1+3*k+5<_;omega,by have:=r.un;show A.units+3+16*k+200<_;omega,r.gd⟩
def xP{A:Qp}{C:Pg}{us:List Pd}{kw:List (Pj×Pd)}:(A.under (.builtin "type.__call__" ⟨.ref C::us,kw⟩)).depth=A.depth+1:=by
 first|rfl|simp[TK,Code.weight,Code.isCreation,Code.isGuard,Code.isCaller,Code.frames,UM,guardIds]
def xO{A:Qp}{C:Pg}{us:List Pd}{kw:List (Pj×Pd)}:(A.under (.builtin "type.__call__" ⟨.ref C::us,kw⟩)).units=A.units+1:=by
 first|rfl|simp[TK,Code.cUnits,Code.frames,UM]
def dz.make{k:Nat}{A:Qp}(r:dz (k+1) A)(C:Pg)(us:List Pd)(kw:List (Pj×Pd)):dz k (A.under (.builtin "type.__call__" ⟨.ref C::us,kw⟩)) :=
 ⟨r.hd,by have:=r.dp;rw[xP];omega,by have:=r.un;rw[xO];omega,by have:=r.gd;simp[TK,Code.guards,Code.isGuard,guardIds,pushGuards,this]⟩
def dz.depth{k:Nat}{A:Qp}(r:dz k A):A.depth<recursionLimit:=by have:=r.dp;omega
def dz.units{k:Nat}{A:Qp}(r:dz k A):A.units+64<S0:=by have:=r.un;omega
def LO:TA:=λ_ H Q=>Q [] H
def LV(ta:TE)(tr:TA):TA:=λσ H Q=>ta σ H λx H1=>tr σ H1 λxs H2=>Q (x::xs) H2
section
variable {X:Cx}{e:Qe}{es:List Qe}{te:TE}{t:TA}{pos:Pos}
def dD:PA X [] LO:=λ_ _ _ _ H Q I h=>Calls.spliced_nil ⟨[],H,I,.nil,h⟩
def b8(ha:PE X e te)(hr:PA X es t)(hs:Po (e::es) X.env=(false,eval e X.env)::Po es X.env:=by rfl):PA X (e::es) (LV te t):=by
 intro pos π s σ H Q I h;rw[hs];show PZ _ _ (spliced ((false,eval e X.env)::Qy pos (Po es X.env))) _ _ s;refine Calls.spliced_cons (dw (ha π s σ H _ I h) λu s1 ⟨x,H1,I1,r1,q1⟩=>?_);exact dw (hr pos π s1 σ H1 _ I1 q1) λus s2 ⟨xs,H2,I2,r2,q2⟩=>⟨x::xs,H2,I2,.cons r1 r2,q2⟩
def NH(t:TA):TE:=λσ H Q=>t σ H λxs H1=>xs.length<=sizeLine/\∀p,H1 p=none->Q (.ref p) (upd H1 p (.tup xs))
def NN(t:TA):TE:=λσ H Q=>t σ H λxs H1=>xs.length<=sizeLine/\∀p,H1 p=none->Q (.ref p) (upd H1 p (.lst xs))
def ug{x1}(h:PA X es t):PE X (.Tuple es x1 pos) (NH t):=by
 intro π s σ H Q I hq;refine wpAny_Tuple_spliced (dw (h pos π s σ H _ I hq) λus s1 ⟨xs,H1,I1,r,z,q⟩=>⟨by rw[←r.length];exact z,?_⟩);have hf:H1 s1.heap.objs.size=none:=I1.hok.fresh (P9 _);refine⟨.ref s1.heap.objs.size,upd H1 s1.heap.objs.size (.tup xs),I1.laid (t':=s1.toks) (λb u e=>Pq _ e) (P9 _) ?_,rfl,q _ hf⟩;exact⟨z,us,r,⟨_,Qm _ rfl,rfl,_,rfl⟩⟩
def jT(h:PA X es t):PE X (.List es pos) (NN t):=by
 intro π s σ H Q I hq;refine wpAny_List_spliced (dw (h pos π s σ H _ I hq) λus s1 ⟨xs,H1,I1,r,z,q⟩=>⟨by rw[←r.length];exact z,?_⟩);have hf:H1 s1.heap.objs.size=none:=I1.hok.fresh (P9 _);refine⟨.ref s1.heap.objs.size,upd H1 s1.heap.objs.size (.lst xs),I1.laid (t':=s1.toks) (λb u e=>Pq _ e) (P9 _) ?_,rfl,q _ hf⟩;exact⟨z,us,0,r,Qm _ rfl⟩
end
abbrev Sp:=al->Hp->VK->XK->Prop
abbrev rR:=List Env->Hp->Pm->XK->Pd->Pm->Prop
structure yA (P:Qi) (w:Qv) (K:Pl) (mg:Pj->Option Pd) (base:PF) (A:Qp) (outer:List Env) (s:Pm) (H:Hp):Prop where
 frames:A.frames=some outer
 mod:Mod K mg base
 bs:∀b o,base.get? b=some o->s.heap.get? b=some o/\H b=none
 bsz:base.objs.size<=s.heap.objs.size
 funs:s.heap.FunFrames base outer
 frf:∀b∈ip outer,H b=none
 hok:gO P w H s.heap
 bare:AllBare s.gens
def CE(outer:List Env)(P:Qi)(w:Qv)(H:Hp)(s:Pm)(Q:VK)(u:Pd)(s':Pm):Prop :=
 ∃v H',s'.os=s.os/\AllBare s'.gens/\Un (ip outer) [] H H' s.heap s'.heap/\gO P w H' s'.heap/\bS v u/\Q v H'
def CR(CX:rR)(outer:List Env)(P:Qi)(w:Qv)(H:Hp)(s:Pm)(Q:VK)(E:XK)(r:Tf)(s':Pm):Prop :=
 match r with
 |.ok (.ret u)=>CE outer P w H s Q u s'
 |.ok _=>False
 |.error e=>CX outer H s E e s'
structure FnOk (P:Qi) (w:Qv) (K:Pl) (mg:Pj->Option Pd) (base:PF) (CX:rR) (k:Nat) (f:Pg) (fd:Qo) (ps:bv) (sp:Sp):Prop where
 len:∀vs H Q E,sp vs H Q E->vs.length=ps.length
 run:∀(A:Qp) (outer:List Env) (s:Pm) (H:Hp) (args:Args) (us:List Pd) (vs:al) (Q:VK) (E:XK),dz k A->yA P w K mg base A outer s H->BindsTo s fd args (ps.zip us)->bM vs us->sp vs H Q E ->
  RO (PN P w) A (.call (.ref f) args) (CR CX outer P w H s Q E) s
def FnOk.mono{P:Qi}{w:Qv}{K:Pl}{mg:Pj->Option Pd}{base:PF}{CX:rR}{j k:Nat}{f:Pg}{fd:Qo}{ps:bv}{sp:Sp}(F:FnOk P w K mg base CX j f fd ps sp)(h:j<=k) :
  FnOk P w K mg base CX k f fd ps sp:=⟨F.len,λA outer s H args us vs Q E hr=>F.run A outer s H args us vs Q E (hr.mono h)⟩
def yA.make{P:Qi}{w:Qv}{K:Pl}{mg:Pj->Option Pd}{base:PF}{A:Qp}{outer:List Env}{s:Pm}{H:Hp}(e:yA P w K mg base A outer s H)(C:Pg)(us:List Pd)(kw:List (Pj×Pd)) :
  yA P w K mg base (A.under (.builtin "type.__call__" ⟨.ref C::us,kw⟩)) outer s H:=⟨by first|exact e.frames|(simpa[TK,Code.envs,UM,pushEnvs] using e.frames),e.mod,e.bs,e.bsz,e.funs,e.frf,e.hok,e.bare⟩
section
variable {X:Cx}{π:List (Pg×Obj)}{σ:St}{H:Hp}{s s':Pm}
def Inv.env0(I:Inv X π σ H s):yA X.prog X.w X.K X.mg X.base X.A X.stack s H :=
 ⟨I.ok.frames,I.ok.mod,I.bs,PB I.ok.bsz I.sz,I.stack,I.stkFree,I.hok,I.bare⟩
def Inv.after{Q:VK}{u:Pd}(I:Inv X π σ H s)(h:CE X.stack X.prog X.w H s Q u s'):EP X π σ Q u s':=by
 obtain⟨v,H',os,bare,un,hok,r,q⟩:=h;obtain⟨hh,g,d,t,os'⟩:=s';obtain rfl:os'=s.os:=os;exact⟨v,H',I.call (h':=hh) (g':=g) (d':=d) (t':=t) (ch:=[]) un hok bare (λb z=>absurd z (by simp)),r,q⟩
end
def LW(sp:Sp)(dvs:al)(E:XK)(t:TA):TE:=λσ H Q=>t σ H λvs H1=>sp (vs++dvs) H1 Q E
def LQ(C:Pg)(sp:Sp)(dvs:al)(E:XK)(t:TA):TE:=λσ H Q=>t σ H λvs H1=>∀x dx,H1 x=none->H1 dx=none->dx≠x ->
 sp (.ref x::(vs++dvs)) (upd (upd H1 dx (.own x)) x (.ins C dx [])) (λv H2=>v=.non/\Q (.ref x) H2) E
def fV(K:Pl)(fd:Qo)(ps:bv)(ds:List Pd):Prop :=
 ∀(s:Pm) (us:List Pd),K.In s.heap->(us++ds).length=ps.length->BindsTo s fd ⟨us,[]⟩ (ps.zip (us++ds))
def fV.all{K:Pl}{fd:Qo}{ps:bv}(h:∀us:List Pd,us.length=ps.length->bindArgs fd ⟨us,[]⟩=pure (ps.zip us)):fV K fd ps []:=λs us _ hl=>by
 rw[Rr]at hl ⊢;exact .of_eq (h us hl)
def gH(CX:rR)(X:Cx)(E:XK):Prop:=∀(π:List (Pg×Obj)) (σ:St) (H:Hp) (s:Pm) (e:Pd) (s':Pm),Inv X π σ H s->CX X.stack H s E e s'->X.xe e s'
section
variable {X:Cx}{CX:rR}{k:Nat}{f C:Pg}{fd:Qo}{ps:bv}{sp:Sp}{dvs:al}{ds:List Pd}{E:XK}{x m:Pj}{p pos apos:Pos}{e o:Qe}{es:List Qe}{ta:TE}{t:TA}
def JD{π:List (Pg×Obj)}{σ:St}{H:Hp}{s:Pm}{Q:VK}{us:List Pd}{vs:al}(F:FnOk X.prog X.w X.K X.mg X.base CX k f fd ps sp)(hr:dz k X.A)(hb:fV X.K fd ps ds)(hd:bM dvs ds)(hx:gH CX X E)
  (I:Inv X π σ H s)(r:bM vs us)(h:sp (vs++dvs) H Q E):PZ (PN X.prog X.w) X.A (call (.ref f) us) (EP X π σ Q) X.xe s:=by
 have r2:bM (vs++dvs) (us++ds):=r.append hd;have hl:(us++ds).length=ps.length:=by rw[←r2.length];exact F.len _ _ _ _ h
 refine wpAny_call (codeAny_mono (F.run X.A X.stack s H ⟨us,[]⟩ (us++ds) (vs++dvs) Q E hr I.env0 (hb s us I.kIn hl) r2 h) λr s' hq=>?_);cases r with
 |error e=>exact hx π σ H s e s' I hq
 |ok fl=>
  cases fl with|ret u=>exact I.after hq|next|brk|cont=>exact QE hq
def yX(F:FnOk X.prog X.w X.K X.mg X.base CX k f fd ps sp)(hr:dz k X.A)(hg:Gl X x)(hm:X.mg x=some (.ref f))(hk:R1 X.K (.ref f)=true)(hb:fV X.K fd ps ds)(hd:bM dvs ds)(hx:gH CX X E)
  (ha:PA X (e::es) t)(hdb:(x==("__debug__" : Pj))=false:=by decide)(he:Po (e::es) X.env=(false,eval e X.env)::Po es X.env:=by rfl)(hpl:(Qy pos (Po es X.env)).any (·.1)=false:=by rfl) :
  PE X (.Call (.Name x p) (e::es) [] pos) (LW sp dvs E t):=by
 intro π s σ H Q I h;refine wpAny_Call_Name_kw (iu I hg hm ?_ hdb);refine W.callWith_K (h₀:=X.base) I.ok.mod.kin hk (dw (ha pos π s σ H _ I h) λus s1 z9=>?_) he hpl;obtain⟨vs,H1,I1,r,q⟩:=z9;refine⟨I1.kIn,?_⟩;exact JD F hr hb hd hx I1 r q
structure Mk (K:Pl) (C f:Pg):Prop where
 makes:W.makesIn K C=true
 init:QW K (.ref C) "__init__"=some (some (.ref f))
 fn:W.isFn K (.ref f)=true
 kp:R1 K (.ref C)=true
def Cf{π:List (Pg×Obj)}{σ:St}{H:Hp}{s:Pm}{Q:VK}{us:List Pd}{vs:al}(M:Mk X.K C f)(F:FnOk X.prog X.w X.K X.mg X.base CX k f fd ps sp)(hr:dz (k+1) X.A)(hb:fV X.K fd ps ds)(hd:bM dvs ds)
  (hx:gH CX X E)(I:Inv X π σ H s)(r:bM vs us)
  (h:∀x dx,H x=none->H dx=none->dx≠x->sp (.ref x::(vs++dvs)) (upd (upd H dx (.own x)) x (.ins C dx [])) (λv H2=>v=.non/\Q (.ref x) H2) E) :
  PZ (PN X.prog X.w) X.A (call (.ref C) us) (EP X π σ Q) X.xe s:=by
 have hq:=h (s.heap.objs.size+1) s.heap.objs.size (I.hok.fresh (Nat.le_succ _)) (I.hok.fresh (P9 _)) (Qg (RB _));have I2:=Ey (C:=C) I;have r2:bM (V.ref (s.heap.objs.size+1)::(vs++dvs)) (Qh (s.heap.objs.size+1)::(us++ds)):=.cons rfl (r.append hd);have hl:(Qh (s.heap.objs.size+1)::us++ds).length=ps.length:=by
  have e:=r2.length;rw[F.len _ _ _ _ hq]at e;exact e.symm
 refine wpAny_call (CZ (f:=f) I.kIn M.makes M.init (beq_iff_eq.mp M.fn) (codeAny_mono (F.run _ X.stack _ _ ⟨Qh (s.heap.objs.size+1)::us,[]⟩ (Qh (s.heap.objs.size+1)::(us++ds)) _ _ E (hr.make C us [])
  (I2.env0.make C us []) (hb _ (Qh (s.heap.objs.size+1)::us) I2.kIn hl) r2 hq) λr s' hq'=>?_))
 cases r with
 |error e=>exact hx π σ _ _ e s' I2 hq'
 |ok fl=>
  cases fl with
  |ret u=>
   obtain⟨v,H',I3,rv,ev,q3⟩:=I2.after hq';subst ev;exact⟨rv,⟨V.ref (s.heap.objs.size+1),H',I3,rfl,q3⟩⟩
  |next|brk|cont=>exact QE hq'
def CD(M:Mk X.K C f)(F:FnOk X.prog X.w X.K X.mg X.base CX k f fd ps sp)(hr:dz (k+1) X.A)(hg:Gl X x)(hm:X.mg x=some (.ref C))(hb:fV X.K fd ps ds)(hd:bM dvs ds)(hx:gH CX X E)
  (hdb:(x==("__debug__" : Pj))=false:=by decide):PE X (.Call (.Name x p) [] [] pos) (LQ C sp dvs E LO):=by
 intro π s σ H Q I h;refine wpAny_Call_Name_kw (iu I hg hm ?_ hdb);exact W.callWith_K0 I.kIn M.kp (Cf (us:=[]) M F hr hb hd hx I .nil h)
end
structure eT (N P:bv) (sc:Sk):Prop where
 kind:sc.kind=.function
 co:sc.isCoroutine=false
 gen:sc.isGenerator=false
 nd:N.Nodup
 pre:N.take P.length=P
 par:∀x∈P,sc.names.lookup x=some .local ∨ sc.names.lookup x=some .cell
 nofree:∀y∈sc.names,y.2≠.free
theorem tH{kindOf:Pj->Option Q6}{x:Pj}:∀{binds:List (Pj×Pd)}{m:Pj->Option Pd},(∀v,(x,v)∉binds)->bindL kindOf binds m x=m x
 |[],_,_=>rfl
 |(n,v)::r,m,h=>by
  unfold bindL;rw[tH λw hw=>h w (Pw _ hw)];split
  .have:x≠n:=by rintro rfl;exact h v P0
   simp[this]
  .rfl
theorem tK{kindOf:Pj->Option Q6}{x:Pj}:∀{binds:List (Pj×Pd)}{m:Pj->Option Pd},(∀v,(x,v)∉binds)->bindC kindOf binds m x=m x
 |[],_,_=>rfl
 |(n,v)::r,m,h=>by
  unfold bindC;rw[tK λw hw=>h w (Pw _ hw)];split
  .rfl
  .have:x≠n:=by rintro rfl;exact h v P0
   simp[this]
theorem tI{kindOf:Pj->Option Q6}{x:Pj}{v:Pd}:∀{P:bv}{vs:List Pd}{i:Nat}{m:Pj->Option Pd},P.Nodup->P[i]?=some x->vs[i]?=some v->kindOf x=some .local ->
  bindL kindOf (P.zip vs) m x=some v
 |[],_,_,_,_,h,_,_=>by simp at h
 |_::_,[],_,_,_,_,h,_=>by simp at h
 |p::P,w::vs,0,m,nd,h1,h2,hk=>by
  simp at h1 h2;subst h1;subst h2;show bindL kindOf ((p,w)::P.zip vs) m p=_;unfold bindL;rw[tH λv hv=>(Q8.mp nd).1 (T1 hv).1,if_pos hk];simp
 |p::P,w::vs,i+1,m,nd,h1,h2,hk=>by
  show bindL kindOf ((p,w)::P.zip vs) m x=_;unfold bindL;exact tI (i:=i) (Q8.mp nd).2 (by simpa using h1) (by simpa using h2) hk
theorem tL{kindOf:Pj->Option Q6}{x:Pj}{v:Pd}:∀{P:bv}{vs:List Pd}{i:Nat}{m:Pj->Option Pd},P.Nodup->P[i]?=some x->vs[i]?=some v->kindOf x≠some .local ->
  bindC kindOf (P.zip vs) m x=some v
 |[],_,_,_,_,h,_,_=>by simp at h
 |_::_,[],_,_,_,_,h,_=>by simp at h
 |p::P,w::vs,0,m,nd,h1,h2,hk=>by
  simp at h1 h2;subst h1;subst h2;show bindC kindOf ((p,w)::P.zip vs) m p=_;unfold bindC;rw[tK λv hv=>(Q8.mp nd).1 (T1 hv).1,if_neg hk];simp
 |p::P,w::vs,i+1,m,nd,h1,h2,hk=>by
  show bindC kindOf ((p,w)::P.zip vs) m x=_;unfold bindC;exact tL (i:=i) (Q8.mp nd).2 (by simpa using h1) (by simpa using h2) hk
def start(N:bv)(vs:al):St:=vs.map some++PH (N.length-vs.length) none
noncomputable def fy(CX:rR) (P:Qi) (w:Qv) (K:Pl) (mg:Pj->Option Pd) (base:PF) (N:bv) (qual:Pj) (scope:Sk) (f:Pg) (cd:Pd) (A:Qp) (outer:List Env) (s:Pm) (H:Hp) (E:XK):Cx where
 prog:=P
 w:=w
 K:=K
 mg:=mg
 base:=base
 A:=A.deeper (envOfC qual scope s.heap.objs.size f cd)
 N:=N
 sf:=s
 Ha:=H
 env:=envOfC qual scope s.heap.objs.size f cd
 outer:=outer
 stack:=envOfC qual scope s.heap.objs.size f cd::outer
 ex:=[]
 calm:=true
 fn:=λ_=>true
 pn:=[]
 xe:=λe s'=>PZ (PN P w) (A.deeper (envOfC qual scope s.heap.objs.size f cd)) (leaving (envOfC qual scope s.heap.objs.size f cd) e) (λ_ s''=>CX outer H s E e s'') (λe' s''=>CX outer H s E e' s'') s'
def wD{sc:Sk}{n:Nat}{x:Pj}(h:sc.names.lookup x=some .cell):∃c,(cellsFrom n sc.names []).lookup x=some c:=by
 have q:=W.cellsFrom_some sc.names n [] (.inl h);exact SN.mp q
def A3{CX:rR}{P:Qi}{w:Qv}{K:Pl}{mg:Pj->Option Pd}{base:PF}{N ps:bv}{qual:Pj}{scope:Sk}{f:Pg}{cd:Pd}{A:Qp}{outer:List Env}{s s1:Pm}{H:Hp}{E:XK}{us:List Pd}{vs:al}
  (S:eT N ps scope)(hd:A.handled=none)(e0:yA P w K mg base A outer s H)(hl:vs.length=ps.length)(r:bM vs us)
  (x:InCallC s s.heap.objs.size (bindL (envOfC qual scope s.heap.objs.size f cd).kindOf (ps.zip us) λ_=>none) (cellsFrom (s.heap.objs.size+1) scope.names []) (bindC (envOfC qual scope s.heap.objs.size f cd).kindOf (ps.zip us) λ_=>none) s1) :
  Inv (fy CX P w K mg base N qual scope f cd A outer s H E) [] (start N vs) H s1:=by
 have hpl:ps.length<=N.length:=by have:=congrArg RT S.pre;rw[Ro]at this;omega
 obtain⟨h1,tk,rfl,hk⟩:=x.done;have noA:∀b:Pg,b∉(fy CX P w K mg base N qual scope f cd A outer s H E).ex:=λb z=>absurd (show b∈([]:List Pg) from z) (by simp);refine⟨⟨e0.mod,S.kind,rfl,rfl,P9 _,λy z c h1 h2=>?_,λy hy=>?_,λy c _ h=>?_,λ_=>hd,Around.frames_deeper e0.frames,.inr ⟨rfl,rfl⟩,λb z=>absurd z (noA b),e0.bs,e0.bsz,λb _ _=>noA b,λb z=>absurd z (noA b),e0.funs,e0.frf⟩,
  rfl,e0.bare,Un.kept hk,⟨_,x.toInCall.ns,λi y v h1 h2 h3=>?_⟩,λy c h=>⟨_,x.cell y c h⟩,e0.hok.fresh (P9 _),λy c h=>?_,λp hp=>absurd (show p∈([]:List (Pg×Obj)) from hp) (by simp),e0.hok.kept hk,?_⟩
 .exact name_of_addr x.apart (Rk h1) (Rk h2)
 .have hy:scope.names.lookup y=some .cell∨scope.names.lookup y=some .free:=hy
  rcases hy with hy|hy
  .exact wD hy
  .exact absurd rfl (S.nofree _ (Rk hy))
 .exact TC (x.above y c (Rk h))
 .have hi:i<vs.length:=by
   unfold start at h2
   by_cases hi:i<vs.length
   .exact hi
   .rw[Qa (by simpa using hi)]at h2
    rw[Qk]at h2;split at h2<;>cases h2
  have ha:vs[i]?=some v:=by
   unfold start at h2;rw[PY (by simpa using hi),P7]at h2;cases e:vs[i]? with|none=>rw[e]at h2;cases h2|some a=>rw[e]at h2;cases h2;rfl
  obtain⟨u,hu,rv⟩:=r.get ha;have hp:ps[i]?=some y:=by
   rw[←S.pre,SO (by omega)];exact h1
  have ndP:ps.Nodup:=by rw[←S.pre];exact S.nd.sublist (List.take_sublist _ _)
  refine⟨u,rv,?_⟩;rcases S.par y (Qs hp) with k|k
  .exact .inl ⟨k,tI ndP hp hu k⟩
  .obtain⟨c,e⟩:=wD (n:=s.heap.objs.size+1) k
   refine .inr ⟨.inl k,c,e,?_⟩;have q:=x.cell y c e;rw[tL ndP hp hu (by show scope.names.lookup y≠_;rw[k];decide)]at q;exact q
 .exact e0.hok.fresh (TC (x.above y c (Rk h)))
 .unfold start
  show _=N.length;rw[P1,Ph,QV];omega
def IC{CX:rR}{P:Qi}{w:Qv}{K:Pl}{mg:Pj->Option Pd}{base:PF}{k:Nat}{f:Pg}{name qual:Pj}{params:Arguments}{body:List QQ}{scope:Sk}{dV kV doc pm cdv ct oc:Pd}{an od:Option Pg}
  {osl:Array (Option Pd)}{N ps:bv}{sp:Sp}(lk:K.lookup f=some ⟨oc,od,.func (RY name qual params body scope dV kV doc pm an cdv ct),osl⟩) (hcd:T5 K cdv qual=true) (S:eT N ps scope)
  (len:∀vs H Q E,sp vs H Q E->vs.length=ps.length)
  (hbody:∀(A:Qp) (outer:List Env) (s:Pm) (H:Hp) (vs:al) (Q:VK) (E:XK),dz k (A.deeper (envOfC qual scope s.heap.objs.size f cdv))->sp vs H Q E ->
   ∃t,rP (fy CX P w K mg base N qual scope f cdv A outer s H E) body t/\t { nx:=λ_ H'=>Q .non H',rt:=Q } (start N vs) H) :
  FnOk P w K mg base CX (k+1) f (RY name qual params body scope dV kV doc pm an cdv ct) ps sp:=by
 refine⟨len,λA outer s H args us vs Q E hr e0 hb r hsp=>?_⟩;have hl:=len _ _ _ _ hsp;have KX:K.In s.heap:=e0.mod.kin.keeps λb o e=>(e0.bs b o e).1;have lim:s.heap.NoLimit:=e0.mod.nolimit.keeps λb o e=>(e0.bs b o e).1;have hkind:∀y∈ps.zip us,scope.names.lookup y.1=some .local ∨ (scope.names.lookup y.1=some .cell/\((cellsFrom (s.heap.objs.size+1) scope.names []).lookup y.1).isSome=true):=λ⟨n,v⟩ hy=>by
  rcases S.par n (T1 hy).1 with q|q
  .exact .inl q
  .exact .inr ⟨q,W.cellsFrom_some _ _ _ (.inl q)⟩
 refine codeAny_call_function hr.depth (KX _ _ lk) rfl S.co S.gen rfl (W.codeRec_of KX hcd) (hb _ _ _ _ ?_);refine wpAny_newFunctionEnv_cells S.kind hkind λenv he s1 x=>?_;subst he;refine⟨lim.keeps x.toInCall.keep,codeAny_func ?_⟩;obtain⟨t,ht,hq⟩:=hbody A outer s H vs Q E (hr.deeper _) hsp;have I:Inv (fy CX P w K mg base N qual scope f cdv A outer s H E) [] (start N vs) H s1:=A3 S hr.hd e0 hl r x;refine QC (ht [] s1 (start N vs) H _ I hq) (λfl s' hs=>?_) λe s' hs=>hs;have fin:∀{σ':St}{H':Hp}{v:V}{u:Pd},Inv (fy CX P w K mg base N qual scope f cdv A outer s H E) [] σ' H' s'->bS v u->Q v H'->CE outer P w H s Q u s' :=
  λ{σ' H' v u} J rv q=>⟨v,H',J.os,J.bare,J.base,J.hok,rv,q⟩
 cases fl with
 |ret u=>
  obtain⟨v,σ',H',J,rv,q⟩:=hs;exact fin J rv q
 |next=>
  obtain⟨σ',H',J,q⟩:=hs;exact fin (v:=V.non) (u:=QY) J rfl q
 |brk=>
  obtain⟨_,_,_,q⟩:=hs;exact QE q
 |cont=>
  obtain⟨_,_,_,q⟩:=hs;exact QE q
section
variable {X:Cx}{x:Pj}{p pos:Pos}{e:Qe}{es:List Qe}{t:TA}{id T:String}{r:al->Hp->VK->Prop}
def OF(r:al->Hp->VK->Prop)(t:TA):TE:=λσ H Q=>t σ H λvs H1=>r vs H1 Q
def pP(hc:jc X (.builtin id) r)(hg:Gl X x)(hm:X.mg x=none)(hv:bootBuiltins x=some (.builtin id))(ha:PA X (e::es) t)(hn:x≠"__name__":=by decide)(hdb:(x==("__debug__" : Pj))=false:=by decide)
  (he:Po (e::es) X.env=(false,eval e X.env)::Po es X.env:=by rfl)(hpl:(Qy pos (Po es X.env)).any (·.1)=false:=by rfl):PE X (.Call (.Name x p) (e::es) [] pos) (OF r t):=by
 intro π s σ H Q I h;refine wpAny_Call_Name_kw (pZ I hg hm hv ?_ hn hdb);exact PyProof.Rows.callWith_builtin1 (dw (ha pos π s σ H _ I h) λus s1 ⟨vs,H1,I1,r1,q1⟩=>hc π s1 σ H1 vs us Q I1 r1 q1) he hpl
def AJ(hc:jc X (.type T) r)(hg:Gl X x)(hm:X.mg x=none)(hv:bootBuiltins x=some (.type T))(ha:PA X (e::es) t)(hn:x≠"__name__":=by decide)(hdb:(x==("__debug__" : Pj))=false:=by decide)
  (he:Po (e::es) X.env=(false,eval e X.env)::Po es X.env:=by rfl)(hpl:(Qy pos (Po es X.env)).any (·.1)=false:=by rfl):PE X (.Call (.Name x p) (e::es) [] pos) (OF r t):=by
 intro π s σ H Q I h;refine wpAny_Call_Name_kw (pZ I hg hm hv ?_ hn hdb);exact Sv (dw (ha pos π s σ H _ I h) λus s1 ⟨vs,H1,I1,r1,q1⟩=>hc π s1 σ H1 vs us Q I1 r1 q1) he hpl
end
end L2
namespace HT
open PySem PyProof.Rows
section
variable {prog:Qi}{w:Qv}{A:Qp}{E:Pd->Pm->Prop}{s:Pm}
def cat_tup{t b:Pg}{vs ws:List Pd}{Q:Pd->Pm->Prop}(ht:IsTup s.heap t vs.toArray)(hb:IsTup s.heap b ws.toArray)(hv:vs≠[])
  (h1:ws=[]->Q (.ref t) s)(h2:ws≠[]->Q (.ref s.heap.objs.size) { s with heap:=s.heap.push { cls:=.type "tuple",data:=.seq (vs++ws).toArray } })
  (hsz:vs.length+ws.length<=sizeLine):PZ (PN prog w) A (binaryOp .Add (.ref t) (.ref b)) Q E s:=by
 obtain⟨⟨cls,dd,data,sl⟩,ho,hc,n,hd⟩:=id ht;obtain⟨⟨cls2,dd2,data2,sl2⟩,ho2,hc2,n2,hd2⟩:=id hb;simp only at hc hd hc2 hd2;subst hc hd hc2 hd2;have e:vs.toArray++ws.toArray=(vs++ws).toArray:=by simp
 by_cases hw:ws=[]
 .exact concat_meets ⟨_,ho,rfl⟩ ⟨_,ho2,rfl⟩ noFill_tuple_add seq_tuple_add UD Ut (Ul _ _)
   (tuple_addW1 t b vs.toArray ws.toArray n n2 dd dd2 sl sl2 (by simpa using hv) (by simp[hw])) ⟨ho,ho2,h1 hw⟩
 .refine concat_meets ⟨_,ho,rfl⟩ ⟨_,ho2,rfl⟩ noFill_tuple_add seq_tuple_add UD Ut (Ul _ _)
   (tuple_addW2 t b vs.toArray ws.toArray n n2 dd dd2 sl sl2 (by simpa using hv) (by simpa using hw) (by rw[P6,P6];exact hsz)) ⟨ho,ho2,?_⟩
  rw[e];exact h2 hw
def sIx(n d:Nat):Option Int->Nat
 |none=>d
 |some v=>if v<0 then(v+(n:Int)).toNat else min v.toNat n
def sIx_none(n d:Nat):sIx n d none=d:=rfl
def sIx_nat(n d k:Nat):sIx n d (some (k:Int))=min k n:=by
 show(if(k:Int)<0 then((k:Int)+(n:Int)).toNat else min (k:Int).toNat n)=min k n;rw[if_neg (by omega),Ry]
def JA(n d:Nat)(hd:d<=n)(o:Option Int):sIx n d o<=n:=by
 cases o with
 |none=>exact hd
 |some v=>
  show(if v<0 then(v+(n:Int)).toNat else min v.toNat n)<=n
  by_cases hv:v<0
  .rw[if_pos hv];omega
  .rw[if_neg hv];exact Nat.min_le_right _ _
def zO(v:Int)(n d:Nat):(if v<0 then max (v+(n:Int)) 0 else min v (n:Int))=((sIx n d (some v):Nat):Int):=by
 show(if v<0 then max (v+(n:Int)) 0 else min v (n:Int))=(((if v<0 then(v+(n:Int)).toNat else min v.toNat n):Nat):Int)
 by_cases hv:v<0
 .simp only[if_pos hv];omega
 .simp only[if_neg hv];omega
def yw(lo hi:Option Int)(n:Nat):SH lo hi 1 (n:Int)=(((sIx n 0 lo:Nat):Int),((sIx n n hi:Nat):Int)):=by
 have h1:¬((1:Int)<0):=by omega
 unfold SH;simp only[h1,if_false];refine Prod.ext ?_ ?_
 .cases lo with
  |none=>rfl
  |some v=>exact zO v n 0
 .cases hi with
  |none=>rfl
  |some v=>exact zO v n n
def xD(i j:Nat):RX (i:Int) (j:Int) 1=j-i:=by
 unfold RX;have h1:(1:Int) > 0:=by omega
 simp only[h1,if_true,Int.ediv_one];split<;>omega
def pv{v:Pd}{o:Option Int}{Q:Option Int->Pm->Prop}(p:IsPart v o)(h:Q o s):PZ (PN prog w) A (Builtin.Slice.slicePartIndex v) Q E s:=by
 cases p with|none=>exact slicePart_none h|int i t=>exact slicePart_int h
def mT{sl:Pg}{vl vu:Pd}{lo hi:Option Int}{n:Nat}{Q:Int×Int×Nat->Pm->Prop}(hs:s.heap.IsSliceOf sl vl vu .none)(pl:IsPart vl lo)(pu:IsPart vu hi)
  (h:Q (((sIx n 0 lo:Nat):Int),1,sIx n n hi-sIx n 0 lo) s):PZ (PN prog w) A (Ue (.ref sl) (pure (n:Int))) Q E s:=by
 obtain⟨os,hos,hcs,hds⟩:=id hs;unfold Ue Builtin.Slice.sliceFields;refine Pp (Pp (wpAny_field hos hds (x:=vl) rfl (Pp (wpAny_field hos hds (x:=vu) rfl (Pp (wpAny_field hos hds (x:=.none) rfl (PX ?_)))))));refine Pp (slicePart_none ?_);show PZ _ _ (if((1:Int)==0)=true then _ else _) _ _ s;rw[if_neg (by decide)];refine Pp (pv pl (Pp (pv pu (Pp (PX ?_)))));show PZ _ _ (match SH lo hi 1 (n:Int) with|(lo,hi)=>pure (lo,(1:Int),RX lo hi 1)) _ _ s;rw[yw lo hi n];show PZ _ _ (pure (((sIx n 0 lo:Nat):Int),(1:Int),RX ((sIx n 0 lo:Nat):Int) ((sIx n n hi:Nat):Int) 1)) _ _ s;rw[xD];exact PX h
def Cy(xs:Array Pd)(i k:Nat):((Q0 k).filterMap λ(m:Nat)=>xs[((i:Int)+(m:Int)*1).toNat]?).toArray=((xs.toList.drop i).take k).toArray:=by
 have e:(λ(m:Nat)=>xs[((i:Int)+(m:Int)*1).toNat]?)=λm=>xs[i+m]?:=by
  funext m;have:((i:Int)+(m:Int)*1).toNat=i+m:=by omega
  rw[this]
 rw[e];have:=pick_run xs i k;rw[List.filterMap_map]at this;have e2:((λx=>xs[x]?)∘λx=>i+x)=λm=>xs[i+m]?:=rfl;rw[e2]at this;rw[this]
def getItem_tuple_cut{t sl:Pg}{items:Array Pd}{vl vu:Pd}{lo hi:Option Int}{Q:Pd->Pm->Prop}(ht:IsTup s.heap t items)(hs:s.heap.IsSliceOf sl vl vu .none)(pl:IsPart vl lo)(pu:IsPart vu hi)
  (hw:¬(sIx items.size 0 lo=0/\sIx items.size items.size hi=items.size))
  (h:Q (.ref s.heap.objs.size) { s with heap:=s.heap.push { cls:=.type "tuple",data:=.seq ((items.toList.drop (sIx items.size 0 lo)).take (sIx items.size items.size hi-sIx items.size 0 lo)).toArray } })
  (hsz:items.size<=sizeLine):PZ (PN prog w) A (getItem (.ref t) (.ref sl)) Q E s:=by
 have htake:sizeOk (.seq ((items.toList.drop (sIx items.size 0 lo)).take (sIx items.size items.size hi-sIx items.size 0 lo)).toArray):=by
  show((items.toList.drop (sIx items.size 0 lo)).take (sIx items.size items.size hi-sIx items.size 0 lo)).toArray.size<=sizeLine;rw[P6,Ro,Sq,Rl];omega
 have hj:sIx items.size items.size hi<=items.size:=JA _ _ (P9 _) hi;obtain⟨os,hos,hcs,hds⟩:=id hs;have hTs:s.TypeIs (.ref sl) "slice":=⟨os,hos,hcs⟩
 unfold getItem
 try with_reducible refine Rz ?_
 first|refine Pp (PX ?_)|skip
 refine Pp (wpAny_sequenceKey ht.typeIs (by decide) ?_);refine Pp (wpAny_callSpecial?_slot (name:=Qz "__getitem__") ht.typeIs Si
  (wpAny_call_entry Si ht.typeIs entry_tuple_getitem ?_ (args_tuple_getitem _ _)))
 show PZ _ _ (Builtin.Tuple.tupleItemsOf (.ref t) >>= _) _ _ s;refine Pp (tupleItemsOf_ ht ?_);refine Pp (wpAny_typeOf hTs ?_);rw[if_pos (by decide)];refine Pp (mT hs pl pu ?_);have hno:¬((((sIx items.size 0 lo:Nat):Int)==0&&(1:Int)==1&&(sIx items.size items.size hi-sIx items.size 0 lo)==items.size)=true):=by
  intro q;rw[Pr,Pr]at q;have q1:((sIx items.size 0 lo:Nat):Int)=0:=eq_of_beq q.1.1;have q2:sIx items.size items.size hi-sIx items.size 0 lo=items.size:=eq_of_beq q.2;exact hw ⟨by omega,by omega⟩
 show PZ _ _ (if(((sIx items.size 0 lo:Nat):Int)==0&&(1:Int)==1&&(sIx items.size items.size hi-sIx items.size 0 lo)==items.size)=true then _ else _) _ _ s;rw[if_neg hno,Cy]
 first
  |exact Pp (m:=R5 _) (wpAny_newObj_type (PX ⟨_,rfl,PX h⟩) htake)
  |exact Pp (m:=R5 _) (wpAny_newObj_type (Pp (PX (PX ⟨_,rfl,PX h⟩))) htake)
  |exact Pp (Pp (m:=R5 _) (wpAny_newObj_type (PX (PX ⟨_,rfl,PX h⟩)) htake))
  |exact Pp (Pp (m:=R5 _) (wpAny_newObj_type (PX ⟨_,rfl,PX h⟩) htake))
end
end HT
namespace L2
open PySem PySem.Spec PyProof.Rows
abbrev TO:=St->Hp->(Option Int->Hp->Prop)->Prop
def PO(X:Cx)(e:Option Qe)(t:TO):Prop :=
 ∀(π:List (Pg×Obj)) (s:Pm) (σ:St) (H:Hp) (Q:Option Int->Hp->Prop),Inv X π σ H s->t σ H Q ->
  PZ (PN X.prog X.w) X.A (evalPart e X.env) (λu s'=>∃o H',Inv X π σ H' s'/\IsPart u o/\Q o H') X.xe s
def Fp:TO:=λ_ H Q=>Q none H
def LL(t:TE):TO:=λσ H Q=>t σ H λx H1=>∃i,x=.int i/\Q (some i) H1
section
variable {X:Cx}{e:Qe}{te:TE}{lo hi:Option Qe}{tl th:TO}{pos p2:Pos}
def FI:PO X none Fp:=by
 intro π s σ H Q I h;rw[evalPart_none];exact PX ⟨none,H,I,.none,h⟩
def FH(h:PE X e te):PO X (some e) (LL te):=by
 intro π s σ H Q I hw;rw[evalPart_some];refine dw (h π s σ H _ I hw) λu s1 ⟨x,H1,I1,r1,q1⟩=>?_;obtain⟨i,rfl,q⟩:=q1;obtain⟨t,rfl⟩:=r1;exact⟨some i,H1,I1,.int i t,q⟩
noncomputable def EK(X:Cx) (r:V->Option Int->Option Int->Hp->VK->Prop):Prop :=
 ∀(π:List (Pg×Obj)) (s:Pm) (σ:St) (H:Hp) (x:V) (v vl vu:Pd) (lo hi:Option Int) (sl:Pg) (Q:VK),Inv X π σ H s->bS x v->s.heap.IsSliceOf sl vl vu .none->IsPart vl lo->IsPart vu hi->r x lo hi H Q ->
  ∃T id,Sm (.type T) "__getitem__"=pure (some (.builtin id))/\s.TypeIs v T/\PZ (PN X.prog X.w) X.A (getItem v (.ref sl)) (EP X π σ Q) X.xe s
def EK.or{r r':V->Option Int->Option Int->Hp->VK->Prop}(h:EK X r)(h':EK X r'):EK X (λx lo hi H Q=>r x lo hi H Q∨r' x lo hi H Q):=by
 intro π s σ H x v vl vu lo hi sl Q I rx hs pl pu q;rcases q with q|q
 .exact h π s σ H x v vl vu lo hi sl Q I rx hs pl pu q
 .exact h' π s σ H x v vl vu lo hi sl Q I rx hs pl pu q
def OD(r:V->Option Int->Option Int->Hp->VK->Prop)(te:TE)(tl th:TO):TE:=λσ H Q=>te σ H λx H1=>tl σ H1 λl H2=>th σ H2 λu H3=>r x l u H3 Q
def CB{r:V->Option Int->Option Int->Hp->VK->Prop}(hr:EK X r)(he:PE X e te)(hl:PO X lo tl)(hu:PO X hi th):PE X (.Subscript e (.Slice lo hi none p2) pos) (OD r te tl th):=by
 intro π s σ H Q I h;refine Subscript_ (dw (he π s σ H _ I h) λv s1 ⟨x,H1,I1,r1,q1⟩=>?_);refine wpAny_Slice (dw (hl π s1 σ H1 _ I1 q1) λvl s2 ⟨l,H2,I2,pl,q2⟩=>dw (hu π s2 σ H2 _ I2 q2) λvu s3 ⟨u,H3,I3,pu,q3⟩=>?_);rw[evalPart_none];refine PX ?_;have I4:Inv X π σ H3 { s3 with heap:=s3.heap.push { cls:=.type "slice",data:=.fields #[vl,vu,.none] } }:=I3.kept (t':=s3.toks) λb ob q=>Pq _ q;obtain⟨T,id,hT,ht,hg⟩:=hr π { s3 with heap:=s3.heap.push { cls:=.type "slice",data:=.fields #[vl,vu,.none] } } σ H3 x v vl vu l u s3.heap.objs.size Q I4 r1 (Heap.IsSliceOf.new ..) pl pu q3;show PZ (PN X.prog X.w) X.A (subscriptTail e (.Slice lo hi none p2) v (.ref s3.heap.objs.size)) (EP X π σ Q) X.xe { s3 with heap:=s3.heap.push { cls:=.type "slice",data:=.fields #[vl,vu,.none] } };exact tail_any (ops:=[.ref s3.heap.objs.size,v]) ht hT hg (by with_unfolding_all rfl)
def wC(xs:al)(lo hi:Option Int):al:=(xs.drop (HT.sIx xs.length 0 lo)).take (HT.sIx xs.length xs.length hi-HT.sIx xs.length 0 lo)
def nX(xs:al)(lo hi:Option Int):(wC xs lo hi).length<=xs.length:=by
 unfold wC;rw[Ro,Sq];omega
def N0(K:Pl):V->Option Int->Option Int->Hp->VK->Prop:=λx lo hi H Q=>∃a xs,x=.ref a/\lT K H a xs /\
 ¬(HT.sIx xs.length 0 lo=0/\HT.sIx xs.length xs.length hi=xs.length)/\∀p,H p=none->Q (.ref p) (upd H p (.tup (wC xs lo hi)))
def Jw:EK X (N0 X.K):=by
 intro π s σ H x v vl vu lo hi sl Q I rx hs pl pu h;obtain⟨a,xs,rfl,hx,hw,q⟩:=h;cases rx;obtain⟨its,r,ht,hz⟩:=I.tuple hx;have hlen:its.toArray.size=xs.length:=by rw[P6];exact r.length.symm
 refine⟨"tuple",_,Si.lookup,ht.typeIs,?_⟩;refine HT.getItem_tuple_cut ht hs pl pu (by rw[hlen];exact hw) ?_ (by rw[hlen];exact hz);rw[hlen];refine⟨.ref s.heap.objs.size,_,I.laid (t':=s.toks) (o:=.tup (wC xs lo hi)) (λb ob q=>Pq _ q) (P9 _) ?_,rfl,q _ (I.hok.fresh (P9 _))⟩;exact⟨PB (nX xs lo hi) hz,_,(r.drop (HT.sIx xs.length 0 lo)).take (HT.sIx xs.length xs.length hi-HT.sIx xs.length 0 lo),IsTup.new _ _⟩
def Mg(K:Pl):R2:=λx y H Q=>∃a b xs ys,x=.ref a/\y=.ref b/\lT K H a xs/\lT K H b ys/\xs≠[]/\xs.length+ys.length<=sizeLine /\
 (ys=[]->Q (.ref a) H)/\(ys≠[]->∀p,H p=none->Q (.ref p) (upd H p (.tup (xs++ys))))
def bM.nil_iff{xs:al}{us:List Pd}(r:bM xs us):us=[]↔xs=[]:=by
 cases r with|nil|cons _ _=>simp
def FY:gK X (binaryOp .Add) (Mg X.K):=by
 intro π s σ H x y v u Q I rx ry h;obtain⟨a,b,xs,ys,rfl,rfl,ha,hb,hx,hz,q1,q2⟩:=h;cases rx;cases ry;obtain⟨its,r1,p1,_⟩:=I.tuple ha;obtain⟨its2,r2,p2,_⟩:=I.tuple hb;refine HT.cat_tup p1 p2 (λz=>hx (r1.nil_iff.mp z)) (λz=>⟨.ref a,H,I,rfl,q1 (r2.nil_iff.mp z)⟩) (λz=>?_) (by rw[←r1.length,←r2.length];exact hz);refine⟨.ref s.heap.objs.size,_,I.laid (t':=s.toks) (o:=.tup (xs++ys)) (λb ob q=>Pq _ q) (P9 _) ?_,rfl,q2 (λw=>z (r2.nil_iff.mpr w)) _ (I.hok.fresh (P9 _))⟩;exact⟨by rw[P1];exact hz,_,r1.append r2,IsTup.new _ _⟩
end
def Iy(n:Nat)(i:Int):Option Nat:=if 0<=i then(if i<n then some i.toNat else none) else if -(n:Int)<=i then some (i+n).toNat else none
def atI{α:Type}(xs:List α)(i:Int):Option α:=(Iy xs.length i).bind λj=>xs[j]?
def Gq{n:Nat}{i:Int}{j:Nat}(h:Iy n i=some j):seqIndex? i n=some j/\j<n/\-(n:Int)<=i/\i<n:=by
 unfold Iy at h
 by_cases h0:0<=i
 .rw[if_pos h0]at h
  by_cases h1:i<n
  .rw[if_pos h1]at h
   have e:i.toNat=j:=QI h;exact⟨by rw[seqIndex_of h0 h1,e],by omega,by omega,h1⟩
  .rw[if_neg h1]at h;cases h
 .rw[if_neg h0]at h
  by_cases h1:-(n:Int)<=i
  .rw[if_pos h1]at h
   have e:(i+n).toNat=j:=QI h;exact⟨by rw[seqIndex_neg (by omega) h1,e],by omega,h1,by omega⟩
  .rw[if_neg h1]at h;cases h
def uX{α:Type}{xs:List α}{i:Int}{v:α}(h:atI xs i=some v):∃j,seqIndex? i xs.length=some j/\xs[j]?=some v/\j<xs.length/\-(xs.length:Int)<=i/\i<xs.length:=by
 unfold atI at h;cases e:Iy xs.length i with
 |none=>rw[e]at h;cases h
 |some j=>
  rw[e]at h;obtain⟨h1,h2,h3,h4⟩:=Gq e;exact⟨j,h1,h,h2,h3,h4⟩
def bO{α:Type}{xs:List α}{j:Nat}{v:α}(h:xs[j]?=some v):atI xs (j:Int)=some v:=by
 have hj:j<xs.length:=(PJ.mp h).1;have e:Iy xs.length (j:Int)=some j:=by
  unfold Iy;rw[if_pos (by omega),if_pos (by omega)];simp
 unfold atI;rw[e];exact h
def kZ(b:Qe):Prop:=∀o i,subscripted b false o i=operate [o,i] (getItem o i)
noncomputable def EL(X:Cx) (r:R2):Prop :=
 ∀(value slice:Qe) (π:List (Pg×Obj)) (s:Pm) (σ:St) (H:Hp) (x y:V) (v u:Pd) (Q:VK),Inv X π σ H s->bS x v->bS y u->r x y H Q ->
  subscripted slice false v u=operate [v,u] (getItem v u)->PZ (PN X.prog X.w) X.A (subscriptTail value slice v u) (EP X π σ Q) X.xe s
noncomputable def Lr(X:Cx) (id:String) (r:V->al->Hp->VK->Prop):Prop :=
 ∀(π:List (Pg×Obj)) (s:Pm) (σ:St) (H:Hp) (x:V) (xs:al) (v:Pd) (us:List Pd) (Q:VK),Inv X π σ H s->bS x v->bM xs us->r x xs H Q ->
  PZ (PN X.prog X.w) X.A (call (.builtin id) (v::us)) (EP X π σ Q) X.xe s
section
variable {X:Cx}{a b:Qe}{ta tb:TE}{pos:Pos}
def EL.or{r r':R2}(h:EL X r)(h':EL X r'):EL X (λx y H Q=>r x y H Q∨r' x y H Q):=by
 intro value slice π s σ H x y v u Q I rx ry q hs;rcases q with q|q
 .exact h value slice π s σ H x y v u Q I rx ry q hs
 .exact h' value slice π s σ H x y v u Q I rx ry q hs
def yV{r:R2}(hr:EL X r)(ha:PE X a ta)(hb:PE X b tb)(hs:kZ b):PE X (.Subscript a b pos) (LM r ta tb):=by
 intro π s σ H Q I h;exact Subscript_ (La ha hb I h λv u s2 x y H2 I2 rx ry q=>hr a b π s2 σ H2 x y v u Q I2 rx ry q (hs _ _))
def Me(K:Pl):R2:=λx y H Q=>∃p xs i v,x=.ref p/\y=.int i/\gJ K H p xs/\atI xs i=some v/\Q v H
def Mc(K:Pl):R2:=λx y H Q=>∃p xs i v,x=.ref p/\y=.int i/\lT K H p xs/\atI xs i=some v/\Q v H
def Md:R2:=λx y H Q=>∃z i c,x=.str z/\y=.int i/\z.length<=sizeLine/\atI z.cps.toList i=some c/\Q (.str ⟨#[c]⟩) H
def uD:EL X (Me X.K):=by
 intro value slice π s σ H x y v u Q I rx ry h hs;obtain⟨p,xs,i,z,rfl,rfl,hq,he,q⟩:=h;cases rx;obtain⟨t,rfl⟩:=ry;obtain⟨its,r,pl,hz⟩:=I.list hq;obtain⟨j,h1,h2,h3,h4,h5⟩:=uX he;obtain⟨w,ew,rw'⟩:=r.get h2;have hl:=r.length;have hn:=uA;have fin:EP X π σ Q w s:=⟨z,H,I,rw',q⟩
 by_cases h0:0<=i
 .have hj:i.toNat=j:=by
   rw[seqIndex_of h0 h5]at h1;exact QI h1
  exact item_listR pl.isList h0 (by omega) (by rw[hj];simpa using ew) fin hs
 .have hj:(i+(its.toArray.size:Int)).toNat=j:=by
   rw[seqIndex_neg (by omega) h4]at h1;rw[P6,←hl];exact QI h1
  exact subscriptTail_builtinR (x:=w) pl.isList.typeIs slot_list_getitem.lookup
   (wpAny_getItem_list_neg (Q:=λr s'=>r=w/\EP X π σ Q r s') pl.isList (by omega) (by rw[P6]<;>omega) (by omega) (by rw[hj];simpa using ew) ⟨rfl,fin⟩) hs
def Df:EL X (Mc X.K):=by
 intro value slice π s σ H x y v u Q I rx ry h hs;obtain⟨p,xs,i,z,rfl,rfl,hq,he,q⟩:=h;cases rx;obtain⟨t,rfl⟩:=ry;obtain⟨its,r,pl,hz⟩:=I.tuple hq;obtain⟨j,h1,h2,h3,h4,h5⟩:=uX he;obtain⟨w,ew,rw'⟩:=r.get h2;have hl:=r.length;have hn:=uA;have fin:EP X π σ Q w s:=⟨z,H,I,rw',q⟩
 exact subscriptTail_builtinR (x:=w) pl.typeIs slot_tuple_getitem.lookup
  (getItem_tuple (j:=j) (Q:=λr s'=>r=w/\EP X π σ Q r s') pl (by omega) (by omega) (by rw[P6,←hl];exact h1) (by simpa using ew) ⟨rfl,fin⟩) hs
def ix_str:EL X Md:=by
 intro value slice π s σ H x y v u Q I rx ry h hs;obtain⟨z,i,c,rfl,rfl,hz,he,q⟩:=h;obtain⟨t,rfl⟩:=rx;obtain⟨t',rfl⟩:=ry;obtain⟨j,h1,h2,h3,h4,h5⟩:=uX he;have hl:z.cps.toList.length=z.length:=by simp[Str.length]
 rw[hl]at h1 h4 h5;have hn:=uA;exact tail_any (typeIs_str s z t) slot_str_getitem.lookup (getItem_str (c:=c) (by
  have e1:decide (i < -(2 ^ 63:Int))=false:=decide_eq_false (by omega);have e2:decide (i≥2 ^ 63)=false:=decide_eq_false (by omega);rw[e1,e2,Bool.or_false]) (by rw[h1];simpa using h2) ⟨.str ⟨#[c]⟩,H,I.tok _,⟨_,rfl⟩,q⟩) hs
def OG(K:Pl):R2:=λx y H Q=>Me K x y H Q∨Mc K x y H Q∨Md x y H Q
def Kf:EL X (OG X.K):=uD.or (Df.or ix_str)
def tZ(lo hi:Option Int)(n:Nat):(sliceBounds lo hi none n).1=((HT.sIx n 0 lo:Nat):Int)/\(sliceBounds lo hi none n).2.1=((HT.sIx n n hi:Nat):Int)/\(sliceBounds lo hi none n).2.2=1:=by
 refine⟨?_,?_,rfl⟩
 .cases lo with
  |none=>simp[sliceBounds,HT.sIx]
  |some i=>
   simp only[sliceBounds,HT.sIx,Option.getD_none,show(1:Int) > 0 by decide,if_true]
   by_cases h:i<0
   .simp only[h,if_true]<;>omega
   .simp only[h,if_false]<;>omega
 .cases hi with
  |none=>simp[sliceBounds,HT.sIx]
  |some i=>
   simp only[sliceBounds,HT.sIx,Option.getD_none,show(1:Int) > 0 by decide,if_true]
   by_cases h:i<0
   .simp only[h,if_true]<;>omega
   .simp only[h,if_false]<;>omega
def rq(its:List Pd)(lo hi:Option Int):slicePick its.toArray lo hi none=((its.drop (HT.sIx its.length 0 lo)).take (HT.sIx its.length its.length hi-HT.sIx its.length 0 lo)).toArray:=by
 obtain⟨h1,h2,h3⟩:=tZ lo hi its.toArray.size;unfold slicePick;rw[h1,h2,h3];simp only[sliceRange_one,pick_run,P6]<;>rfl
def N2(K:Pl):V->Option Int->Option Int->Hp->VK->Prop:=λx lo hi H Q=>∃a xs,x=.ref a/\gJ K H a xs/\∀p,H p=none->Q (.ref p) (upd H p (.lst (wC xs lo hi)))
def Fq:EK X (N2 X.K):=by
 intro π s σ H x v vl vu lo hi sl Q I rx hs pl pu h;obtain⟨a,xs,rfl,hx,q⟩:=h;cases rx;obtain⟨its,r,ht,hz⟩:=I.list hx;have hlen:=r.length;refine⟨"list",_,slot_list_getitem.lookup,ht.isList.typeIs,?_⟩;refine wpAny_getItem_list_slice ht.isList hs pl pu .none (by simp) ?_ (by rw[P6]<;>omega);rw[rq,←hlen];refine⟨.ref s.heap.objs.size,_,I.laid (t':=s.toks) (o:=.lst (wC xs lo hi)) (λb ob q=>Pq _ q) (P9 _) ?_,rfl,q _ (I.hok.fresh (P9 _))⟩;exact⟨PB (nX xs lo hi) hz,_,0,(r.drop (HT.sIx xs.length 0 lo)).take (HT.sIx xs.length xs.length hi-HT.sIx xs.length 0 lo),Qm _ rfl⟩
def um:gK X (QF .NotIn) (λx y H Q=>∃i j,x=.str i/\y=.str j/\Q (.bl (!(!(RE j i 0 j.length 1).isEmpty))) H):=by
 intro π s σ H x y v u Q I rx ry h;obtain⟨i,j,rfl,rfl,q⟩:=h;obtain⟨t,rfl⟩:=rx;obtain⟨t',rfl⟩:=ry;exact notIn_str ⟨.bl _,H,I,rfl,q⟩
noncomputable def OC(K:Pl) (T:String) (x:V) (H:Hp):Prop:=match x with
 |.str _=>T="str"
 |.int _=>T="int"
 |.ref p=>(T="list"/\∃xs,gJ K H p xs)∨(T="tuple"/\∃o,K.lookup p=some o/\o.cls=.type "tuple"/\o.dict=none) ∨
   (T="dict"/\((∃kvs,H p=some (.dK kvs))∨∃kvs,H p=some (.dT kvs)))∨(T="set"/\∃S n,H p=some (.set S n))
 |_=>False
def Ji{π:List (Pg×Obj)}{σ:St}{H:Hp}{s:Pm}{T:String}{x:V}{v:Pd}(I:Inv X π σ H s)(r:bS x v)(ty:OC X.K T x H) :
  s.TypeIs v T/\∀a,v=.ref a->∃ob,s.heap.get? a=some ob/\ob.dict=none:=by
 cases x with
 |str z=>
  obtain⟨t,rfl⟩:=r;cases (show T="str" from ty);exact⟨typeIs_str s z t,λ_ e=>nomatch e⟩
 |int i=>
  obtain⟨t,rfl⟩:=r;cases (show T="int" from ty);exact⟨typeIs_int s i t,λ_ e=>nomatch e⟩
 |ref p=>
  cases r;rcases ty with⟨rfl,xs,hq⟩|⟨rfl,o,hk,hc,hd⟩|⟨rfl,hk⟩|⟨rfl,S,n,hk⟩
  .obtain⟨its,_,pl,_⟩:=I.list hq
   refine⟨pl.isList.typeIs,λa e=>?_⟩;cases e;obtain⟨o,n,e,c,hd,_⟩:=pl;exact⟨o,e,hd⟩
  .refine⟨⟨o,I.kIn p o hk,hc⟩,λa e=>?_⟩
   cases e;exact⟨o,I.kIn _ o hk,hd⟩
  .have z:∃o,s.heap.get? p=some o/\o.ExactDict:=by
    rcases hk with⟨kvs,hk⟩|⟨kvs,hk⟩
    .obtain⟨_,_,_,_,o,_,_,e,ex,_⟩:=I.hok p _ hk
     exact⟨o,e,ex⟩
    .obtain⟨_,_,_,_,o,_,_,e,ex,_⟩:=I.hok p _ hk
     exact⟨o,e,ex⟩
   obtain⟨o,e,ex⟩:=z;refine⟨⟨o,e,ex.1⟩,λa e2=>?_⟩;cases e2;exact⟨o,e,ex.2.1⟩
  .obtain⟨o,_,_,_,e,ex,_⟩:=I.hok p _ hk
   refine⟨⟨o,e,ex.1⟩,λa e2=>?_⟩;cases e2;exact⟨o,e,ex.2.1⟩
 |_=>exact QE ty
def OU(K:Pl)(T:String)(r:V->al->Hp->VK->Prop)(to:TE)(t:TA):TE:=λσ H Q=>to σ H λx H1=>OC K T x H1/\t σ H1 λxs H2=>r x xs H2 Q
variable {o e:Qe}{es:List Qe}{to:TE}{t:TA}{name:Pj}{apos cpos:Pos}{T id:String}{r:V->al->Hp->VK->Prop}
def vG(pa:PlainAttrs T)(slot:Slot T name id)(hty:typeOf (.builtin id)=pure (.type "method_descriptor"))(hm:Lr X id r)(ho:PE X o to)(ha:PA X (e::es) t)
  (hbase:QN o name X.env (eval o X.env)=eval o X.env:=by rfl)
  (hfew:((Qy cpos (Po (e::es) X.env)).all (λx=>!x.1)&&(R0 cpos (Rc [] X.env)).all (λx=>x.1.isSome)
  &&decide ((e::es).length+([]:List Rp).length+(if([]:List Rp).isEmpty then 0 else 1)<30))=true:=by rfl)
  (hline:(apos.endLine==cpos.line)=true:=by rfl) (hs:Po (e::es) X.env=(false,eval e X.env)::Po es X.env:=by rfl) (hplain:(Qy cpos (Po es X.env)).any (·.1)=false:=by rfl) :
  PE X (.Call (.Attribute o name apos) (e::es) [] cpos) (OU X.K T r to t):=by
 intro π s σ H Q I h;refine wpAny_Call_method_late hbase hfew hline rfl (dw (ho π s σ H _ I h) λv s1 ⟨x,H1,I1,r1,ty,q1⟩=>?_);obtain⟨h1,h2⟩:=Ji I1 r1 ty;refine⟨T,id,pa,slot,hty,h1,h2,?_⟩;have hA:=ha cpos π s1 σ H1 _ I1 q1;rw[hs]at hA ⊢;refine UN (by show(false||(Qy cpos (Po es X.env)).any (·.1))=false;rw[hplain]<;>rfl) (S9 ?_);exact dw hA λus s2 ⟨vs,H2,I2,r2,q2⟩=>hm π s2 σ H2 x vs v us Q I2 r1 r2 q2
end
noncomputable def OK(X:Cx) (id:String) (r:V->al->Hp->VK->Prop):Prop :=
 ∀(π:List (Pg×Obj)) (s:Pm) (σ:St) (H:Hp) (x:V) (xs:al) (v:Pd) (us:List Pd) (Q:VK),Inv X π σ H s->bS x v->bM xs us->r x xs H Q ->
  PZ (PN X.prog X.w) X.A (call (.builtin id) (v::us)) (EP X π σ Q) X.xe s
theorem bM.one:∀{x:V}{us:List Pd},bM [x] us->∃u,us=[u]/\bS x u
 |_,_,.cons r .nil=>⟨_,rfl,r⟩
theorem bM.rep{xs:al}{us:List Pd}(h:bM xs us):∀k:Nat,bM (PH k xs).flatten (PH k us).flatten
 |0=>.nil
 |k+1=>by
  rw[QB,QB,Rv,Rv];exact bM.append h (bM.rep h k)
theorem sR(its:List Pd):∀(k:Nat) (acc:List Pd),
  List.foldl (λx1 x2=>x1++x2) acc.toArray (PH k its.toArray)=(acc++(PH k its).flatten).toArray
 |0,acc=>by simp
 |k+1,acc=>by
  have e:acc.toArray++its.toArray=(acc++its).toArray:=by simp
  have e2:(acc++its)++(PH k its).flatten=acc++(PH (k+1) its).flatten:=by
   rw[QB,Rv,Rx]
  rw[←e2,←sR its k (acc++its),←e,QB,List.foldl_cons]
section
variable {X:Cx}{π:List (Pg×Obj)}{σ:St}{H:Hp}{s:Pm}{l b:Pg}{xs ys zs:al}
def Inv.lset{its its':List Pd}{n:Nat}{f:Array Pd->Array Pd}{t':Nat}(I:Inv X π σ H s)(hH:H l=some (.lst xs))
  (e:s.heap.get? l=some { cls:=.type "list",data:=.seq its.toArray n })(hf:f its.toArray=its'.toArray)(hv:bM ys its')(hz:ys.length<=sizeLine) :
  Inv X π σ (upd H l (.lst ys)) { s with heap:=s.heap.update l (Obj.mapSeq f),toks:=t' }:=by
 have q:=PySem.IsL.update e f;rw[hf]at q;refine I.write (x:=l) (e:=l) (by rw[hH];exact trivial) (.inl rfl) (λb' u hb hu=>(Rm s.heap (Obj.mapSeq f) (Qq hb)).trans hu) ⟨_,q⟩ ?_;exact⟨hz,its',_,hv,q⟩
def Inv.lnew{its:List Pd}{t':Nat}(I:Inv X π σ H s)(hv:bM ys its)(hz:ys.length<=sizeLine) :
  Inv X π σ (upd H s.heap.objs.size (.lst ys)) { s with heap:=s.heap.push { cls:=.type "list",data:=.seq its.toArray },toks:=t' } :=
 I.laid (λ_ _ q=>Pq _ q) (P9 _) ⟨hz,its,0,hv,Qm _ rfl⟩
def Inv.fresh(I:Inv X π σ H s):H s.heap.objs.size=none:=I.hok.fresh (P9 _)
def Inv.lstM(I:Inv X π σ H s)(hH:H l=some (.lst xs)):xs.length<=sizeLine/\∃(its:List Pd) (n:Nat),bM xs its/\xs.length=its.length/\s.heap.get? l=some { cls:=.type "list",data:=.seq its.toArray n }:=by
 obtain⟨z,its,n,r,e⟩:=I.hok l _ hH;exact⟨z,its,n,r,r.length,e⟩
def vP{n:Nat}(h:n<=sizeLine):R6 n=false:=by
 unfold R6;exact decide_eq_false (by omega)
end
section
variable {X:Cx}
def FE:V->al->Hp->VK->Prop:=λx vs H Q=>∃l xs y,x=.ref l/\vs=[y]/\H l=some (.lst xs)/\xs.length<sizeLine/\Q .non (upd H l (.lst (xs++[y])))
def mZ:OK X "list.append" FE:=by
 intro π s σ H x vs v us Q I rx rv h;obtain⟨l,xs,y,rfl,rfl,hH,hz,q⟩:=h;cases rx;obtain⟨u,rfl,ru⟩:=rv.one;obtain⟨z,its,n,r,hl,e⟩:=I.lstM hH;refine call_meets F.slot_list_append ⟨_,e,rfl⟩ F.entry_list_append (F.args_list_append_2 _ _) (PySem.list_append l its.toArray n u (by rw[P6];omega)) ⟨e,?_⟩;refine⟨.non,_,I.lset (its':=its++[u]) hH e (by simp) (r.append (.cons ru .nil)) ?_,rfl,q⟩;rw[P1,List.length_singleton];omega
def FD:V->al->Hp->VK->Prop:=λx vs H Q=>∃l b xs zs,x=.ref l/\vs=[.ref b]/\H l=some (.lst xs)/\H b=some (.lst zs)/\xs.length+zs.length<=sizeLine/\Q .non (upd H l (.lst (xs++zs)))
def AV:OK X "list.extend" FD:=by
 intro π s σ H x vs v us Q I rx rv h;obtain⟨l,b,xs,zs,rfl,rfl,hH,hB,hz,q⟩:=h;cases rx;obtain⟨u,rfl,ru⟩:=rv.one;cases ru;obtain⟨z,its,n,r,hl,e⟩:=I.lstM hH;obtain⟨z2,its2,n2,r2,hl2,e2⟩:=I.lstM hB;have hsz:its.toArray.size+its2.toArray.size<=sizeLine:=by rw[P6,P6];omega
 have hlong:¬(!its.toArray.isEmpty&&R6 (its.toArray.size+its2.toArray.size))=true:=by
  rw[vP hsz,PR];exact QR
 refine call_meets F.slot_list_extend ⟨_,e,rfl⟩ F.entry_list_extend (F.args_list_extend_2 _ _)
  (AutoSeq1.list_extend_list_list_0 l its.toArray n b its2.toArray n2 hlong (by rw[P6];omega) (by omega)) ⟨e,e2,?_⟩
 refine⟨.non,_,I.lset (its':=its++its2) hH e (by simp) (r.append r2) ?_,rfl,q⟩;rw[P1];omega
def N3:R2:=λx y H Q=>∃l k xs,x=.ref l/\y=.int k/\H l=some (.lst xs)/\-(2 ^ 63)<=k/\k<2 ^ 63/\xs.length*k.toNat<=sizeLine /\
 ∀p,H p=none->Q (.ref p) (upd H p (.lst (PH k.toNat xs).flatten))
def Gh{α:Type}(xs:List α)(k:Nat):(PH k xs).flatten.length=k*xs.length:=by
 induction k with|zero=>simp|succ k ih=>rw[QB,Rv,P1,ih,Nat.succ_mul,Nat.add_comm]
def J1:gK X (binaryOp .Mult) N3:=by
 intro π s σ H x y v u Q I rx ry h;obtain⟨l,k,xs,rfl,rfl,hH,h1,h2,hz,q⟩:=h;cases rx;obtain⟨t,rfl⟩:=ry;obtain⟨z,its,n,r,hl,e⟩:=I.lstM hH;have hlen:its.toArray.size*k.toNat<=sizeLine:=by rw[P6,←hl];exact hz
 have hcap:¬its.toArray.size*k.toNat > (2 ^ 63-1) / 8:=by
  have:(sizeLine:Nat)<=(2 ^ 63-1) / 8:=by decide
  omega
 have hfit:¬(!Builtin.List.listFitsIndex k)=true:=by
  rw[fitsIndex_both h1 h2];exact QR
 have hlong:¬R6 (its.toArray.size*k.toNat)=true:=by
  rw[vP hlen];exact QR
 have hnew:List.foldl (λx1 x2=>x1++x2) #[] (PH (if its.toArray.isEmpty=true then 0 else k.toNat) its.toArray)=(PH k.toNat its).flatten.toArray:=by
  have f0:∀m:Nat,List.foldl (λx1 x2=>x1++x2) #[] (PH m its.toArray)=(PH m its).flatten.toArray:=λm=>by
   have:=sR its m [];rw[Qj]at this;exact this
  rw[f0];cases its with|nil=>simp|cons a r'=>rw[if_neg (by simp)]
 refine wpAny_binaryOp_repeat_ref (T:="list") (U:="int") (by decide) ⟨_,e,rfl⟩ (λs'=>typeIs_int s' k t) noFill_list_mul F.fills_int_mul F.slot_int_rmul repeat_list F.slot_int_index.lookup
  (call_meets F.slot_int_rmul (typeIs_int s k t) F.entry_int_rmul (F.args_int_rmul_2 _ _) (int___rmul___int_list k t l its.toArray n)
   ⟨e,rfl,⟨_,e,rfl⟩,call_meets F.slot_list_mul ⟨_,e,rfl⟩ F.entry_list_mul (F.args_list_mul_2 _ _) (AutoListH.list___mul___list_int_3 l its.toArray n k t hfit hcap hlong) ⟨e,?_⟩⟩)
 rw[hnew];exact⟨.ref _,_,I.lnew (t':=s.toks) (r.rep k.toNat) (by rw[Gh,Nat.mul_comm];exact hz),rfl,q _ I.fresh⟩
end
end L2
namespace Att
open PySem PySem.W PySem.Calls PyProof.Rows
def ou{P:Params}{h:PF}:∀(ns:List Int) (vs:List Pd),WellAll P h vs (ns.map WData.int)->IntsAre vs ns:=by
 intro ns
 induction ns with
 |nil=>
  intro vs w;rw[SX]at w;cases w;exact .nil
 |cons n ns ih=>
  intro vs w;rw[Qr]at w;cases w with
  |cons a b=>
   cases a;exact .cons _ _ (ih _ b)
def Af{l:OpenLaw}{n:Nat}(hn:l.most=some n){P:Params}{h:PF}{args:List WData}{vals:List Pd}
  (hpre:l.row.toRowW.claim.pre args=true)(hwl:WellAll P h vals args) :
  ∃a vs ns,vals=[Qh a]/\args=[WData.list (ns.map WData.int)]/\h.get? a=some { cls:=.type "list",data:=.seq vs.toArray }/\IntsAre vs ns/\ns.length<=n:=by
 have hsh:WShape.hasAll [] args [.list .int]=true:=(pre_splitW hpre).1;have hc:l.pre.holds [] { args:=args }=true:=(pre_splitW hpre).2;obtain⟨d,r,rfl,h1,h2⟩:=hasAllW_cons hsh;obtain rfl:=hasAllW_nil h2;obtain⟨xs,rfl,h3⟩:=hasW_list h1;obtain⟨ns,rfl⟩:=items_int h3;have hlen:ns.length<=n:=by
  unfold OpenLaw.pre at hc;have h4:(WTm.not (.lt (.lit (.int (n:Int))) (.len (.arg 0)))).holds [] { args:=[.list (ns.map .int)] }=true:=by
   have h4:=(holds_andW hc).1;rw[hn]at h4;exact h4
  have h5:=condW_of h4 (w_not (w_lt w_lit (w_len_list (w_arg rfl))));rw[Ph]at h5;refine Nat.le_of_not_lt λq=>?_;have q':(n:Int)<((ns.length:Nat):Int):=by omega
  first
   |(rw[decide_eq_true q']at h5;exact absurd h5 (by decide))
   |(simp at h5;omega)
 cases hwl with
 |cons w1 w2=>
  cases w2;cases w1 with|list ho hall=>exact⟨_,_,ns,rfl,rfl,ho,ou ns _ hall,hlen⟩
def AG(l:OpenLaw)(args:List WData):l.row.toRowW.claim.post args (.bool true) args=true :=
 postW_of (r:=l.row.toRowW) (X:=(true==true))
  (show WShape.has [] (.bool true) .bool=true by first|rfl|decide|simp[WShape.has,WShape.arms,WShape.armsAll])
  (show(WTm.eq .res (.lit (.bool true))).value [] { args:=args,res:=some (.bool true),after:=args }=some (.bool (true==true)) from w_eq_bool (w_res rfl) w_lit) rfl
def attach_call{l:OpenLaw}{n:Nat}{q:Qi}{loose:bv}{XP:(Pj->Option Pd)->PF->Prop}{YP:Qv->PF->Prop}{d:DefRec}
  (hn:l.most=some n)(hdf:d.params.defaults=[])
  (call:∀(w:Qv) (sf sg:Pm) (mg mb:Pj->Option Pd) (fa:Pg) (o:Obj) (pm cd doc:Pd) (a:Pg) (vs:List Pd) (ns:List Int),
   Ground q loose [] XP w sf mg mb sg.heap->YP w sg.heap ->
   sg.heap.get? fa=some o->o.data=.func (docDef d.name d.params d.body d.scope pm cd doc)->sg.heap.CodeRec cd d.name->mg d.name=some (.ref fa) ->
   sg.heap.get? a=some { cls:=.type "list",data:=.seq vs.toArray }->IntsAre vs ns->ns.length<=n->sg.gens=#[] ->
   RO (PN l.prog w) callerA (.call (.ref fa) ⟨[.ref a],[]⟩) (λr s'=>r=.ok (.ret (.bool true))/\OldK sg.heap s'.heap/\s'.os=sg.os/\AllBare s'.gens) sg) :
  WalkO q loose XP YP l.row.toRowW d [] (λf vs=>PySem.call f vs):=by
 intro w sf sg mg mb G Y fa o pm cd doc dV kV ho hd hcd hD hmg hg args vals as hpre hlay hrd hwl hlo;obtain rfl:dV=.none:=Dflts.none hD hdf;obtain rfl:kV=.none:=Dflts.noKw hD;obtain⟨a,vs,ns,rfl,rfl,hobj,hints,hlen⟩:=Af hn hpre hwl;refine enter_call (codeAny_mono (call w sf sg mg mb fa o pm cd doc a vs ns G Y ho (fd_plain hd) hcd hmg hobj hints hlen hg) λr s' hq=>?_);obtain⟨rfl,h2,h3,h4⟩:=hq;exact⟨.inl ⟨.bool true,.bool true,[],rfl,λ_=>rfl,.bool true,AG l _,λ_=>⟨List.Pairwise.nil,λ_ hm=>(nomatch hm)⟩⟩,h2,h3,h4⟩
end Att
namespace L2
open PySem PySem.Spec PyProof.Rows
theorem rV:∀{vs:List Pd}{ns:List Int},IntsAre vs ns->bM (ns.map V.int) vs
 |_,_,.nil=>.nil
 |_,_,.cons n t h=>.cons ⟨t,rfl⟩ (rV h)
def HR(H:Hp):Prop:=∀b,H b=none∨∃o xs,H b=some (.frz o (.lst xs))
def C6{P:Qi}{w:Qv}{K:Pl}{mg mb:Pj->Option Pd}{CX:rR}{k:Nat}{fa a:Pg}{fd:Qo}{x:Pj}{sp:Sp}{sg:Pm}{vs:List Pd}{ns:List Int}
  (KX:K.In sg.heap)(hns:sg.heap.Ns PK mg)(hb:sg.heap.Ns builtinsNs mb)(hbb:∀x:Pj,x≠"__name__"->mb x=bootBuiltins x)(hlim:sg.heap.NoLimit)(hsm:∃mm,sg.heap.Ns T4 mm)(hg:sg.gens=#[])
  (ha:sg.heap.get? a=some { cls:=.type "list",data:=.seq vs.toArray })(hi:IntsAre vs ns)(hl:ns.length<=sizeLine)(hr:dz k callerA)
  (F:∀base:PF,K.In base->base.Ns PK mg->FnOk P w K mg base CX k fa fd [x] sp)(hbind:∀(s:Pm) (u:Pd),BindsTo s fd ⟨[u],[]⟩ [(x,u)])
  (hsp:∀H:Hp,HR H->gJ K H a (ns.map V.int)->sp [.ref a] H (λv _=>v=.bl true) λ_ _ _=>False)
  (hCX:∀H e s',CX [] H sg (λ_ _ _=>False) e s'->False) :
  RO (PN P w) callerA (.call (.ref fa) ⟨[.ref a],[]⟩) (λr s'=>r=.ok (.ret (.bool true))/\OldK sg.heap s'.heap/\s'.os=sg.os/\AllBare s'.gens) sg:=by
 have rv:=rV hi;have lenV:=hi.length;have core:∀H:Hp,HR H->gJ K H a (ns.map V.int)->gO P w H sg.heap->(∀b,H b≠none->b=a)->(H a≠none->K.lookup a=none) ->
   RO (PN P w) callerA (.call (.ref fa) ⟨[.ref a],[]⟩) (λr s'=>r=.ok (.ret (.bool true))/\OldK sg.heap s'.heap/\s'.os=sg.os/\AllBare s'.gens) sg:=by
  intro H hO hS hok hA hK;have base_of:∀{b:Pg}{o:Obj},sg.heap.get? b=some o->H b=none->(uH sg.heap H).get? b=some o:=λe n=>Dn e n;have noA:∀{b:Pg}{o:Obj}{es:Array TR}{ep:Nat},sg.heap.get? b=some o->o.data=.dict es ep->H b=none:=λ{b o es ep} e d=>by
   cases q:H b with
   |none=>rfl
   |some u=>
    have e':b=a:=hA b (by rw[q];simp);subst e';rw[ha]at e;cases e;have d':Data.seq vs.toArray _=Data.dict es ep:=d;cases d'
  have nsK:∀{b:Pg}{m:Pj->Option Pd},sg.heap.Ns b m->(uH sg.heap H).Ns b m:=λ{b m} ⟨o,es,ep,e,d,r⟩=>⟨o,es,ep,base_of e (noA e d),d,r⟩
  have hKb:K.In (uH sg.heap H):=λb o e=>base_of (KX b o e) (by
   cases q:H b with
   |none=>rfl
   |some u=>
    have e':b=a:=hA b (by rw[q];simp);subst e';rw[hK (by rw[q];simp)]at e;cases e)
  have hM:Mod K mg (uH sg.heap H):=⟨hKb,nsK hns,⟨mb,nsK hb,hbb⟩,let ⟨mc,h1,h2⟩:=hlim;⟨mc,nsK h1,h2⟩,let ⟨mm,h1⟩:=hsm;⟨mm,nsK h1⟩⟩
  have e0:yA P w K mg (uH sg.heap H) callerA [] sg H:=⟨rfl,hM,λb o e=>F3 e,UH (A4 _ _),trivial,λb hb=>absurd (show b∈([]:List Pg) from hb) (by simp),hok,.of_eq hg⟩
  refine codeAny_mono ((F _ hKb (nsK hns)).run callerA [] sg H ⟨[.ref a],[]⟩ [.ref a] [.ref a] _ _ hr e0 (hbind sg (.ref a)) (.cons rfl .nil) (hsp H hO hS)) λr s' h=>?_;cases r with
  |error e=>exact(hCX H e s' h).elim
  |ok fl=>
   cases fl with
   |next|brk|cont=>exact QE h
   |ret u=>
    obtain⟨v,H',os,bare,un,hok',r',q⟩:=h;have q':v=.bl true:=q;subst q';obtain rfl:u=QZ true:=r';refine⟨rfl,OldK.of_keep λb o e=>?_,os,bare⟩;cases q:H b with
    |none=>exact un.keep b o e q (by intro z;exact absurd (show b∈([]:List Pg) from z) (by simp)) (by simp)
    |some u=>
     rcases hO b with z|⟨ob,xs,z⟩
     .rw[q]at z;cases z
     .have z2:=un.frzs b ob _ z
      obtain⟨e1,_⟩:=hok b _ z;obtain⟨e2,_⟩:=hok' b _ z2;rw[e]at e1;cases e1;exact e2
 cases hk:K.lookup a with
 |some o=>
  have e:=KX a o hk;rw[ha]at e;cases e;refine core (λ_=>none) (λ_=>.inl rfl) (.inr ⟨_,vs.toArray,_,hk,rfl,rfl,rfl,by rw[P6,lenV];exact hl,by simpa using rv⟩) (λb u z=>by have z':(none:Option HO)=some u:=z;cases z') (λb z=>absurd rfl z) λz=>absurd rfl z
 |none=>
  refine core (λb=>if b=a then some (.frz { cls:=.type "list",data:=.seq vs.toArray } (.lst (ns.map V.int))) else none) (λb=>?_) (.inl (.inr ⟨{ cls:=.type "list",data:=.seq vs.toArray },if_pos rfl⟩)) (λb u z=>?_) (λb z=>?_) λ_=>hk
  .by_cases hb:b=a
   .exact .inr ⟨_,_,if_pos hb⟩
   .exact .inl (if_neg hb)
  .by_cases hb:b=a
   .have z':=(if_pos hb).symm.trans z
    cases z';subst hb;exact⟨ha,by rw[Ph];exact hl,vs,_,rv,ha⟩
   .have z':=(if_neg hb).symm.trans z
    cases z'
  .by_cases hb:b=a
   .exact hb
   .exact absurd (if_neg hb) z
abbrev KOf{K:Pl}{h:PF}(_:K.In h):Pl:=K
def E4{l:W.OpenLaw}{n k:Nat}{q:Qi}{loose:bv}{XP:(Pj->Option Pd)->PF->Prop}{YP:Qv->PF->Prop}{d:DefRec}{K:Params->Pl}{CX:Qv->rR}{sp:Qv->Sp}{x:Pj}
  (hi:importsNone q=true)(hn:l.most=some n)(hn2:n<=sizeLine)(hdf:d.params.defaults=[])(hr:dz k callerA)
  (hY:∀(w:Qv) (h:PF),YP w h->(K w.params).In h)
  (F:∀(w:Qv) (mg:Pj->Option Pd) (fa:Pg) (h:PF),(K w.params).In h->h.Ns PK mg->mg d.name=some (.ref fa) ->
   ∃fd:Qo,(∀(s:Pm) (u:Pd),BindsTo s fd ⟨[u],[]⟩ [(x,u)]) /\
    ∀base:PF,(K w.params).In base->base.Ns PK mg->FnOk l.prog w (K w.params) mg base (CX w) k fa fd [x] (sp w))
  (hsp:∀(w:Qv) (H:Hp) (a:Pg) (ns:List Int),ns.length<=n->HR H->gJ (K w.params) H a (ns.map V.int)->sp w [.ref a] H (λv _=>v=.bl true) λ_ _ _=>False)
  (hCX:∀(w:Qv) (H:Hp) (s:Pm) (e:Pd) (s':Pm),CX w [] H s (λ_ _ _=>False) e s'->False) :
  W.WalkO q loose XP YP l.row.toRowW d [] (λf vs=>PySem.call f vs):=by
 refine Att.attach_call hn hdf λw sf sg mg mb fa o pm cd doc a vs ns G Y ho hd hcd hmg hobj hints hlen hg=>?_;have KX:=hY w _ Y;obtain⟨fd,hb,hF⟩:=F w mg fa _ KX G.T.g hmg;exact C6 KX G.T.g G.T.b G.T.builtins G.T.nolimit (let ⟨mm,h1,_⟩:=(G.T.seer hi).mods;⟨mm,h1⟩) hg hobj hints (PB hlen hn2) hr hF hb (λH hO hS=>hsp w H a ns hlen hO hS) λH e s'=>hCX w H sg e s'
def walk_ofK{l:W.OpenLaw}{n k:Nat}{q:Qi}{loose:bv}{XP:(Pj->Option Pd)->PF->Prop}{YP:Qv->PF->Prop}{d:DefRec}{K:Params->Pl}{CX:rR}{sp:Pl->Sp}{x:Pj}
  (hi:importsNone q=true)(hn:l.most=some n)(hn2:n<=sizeLine)(hdf:d.params.defaults=[])(hr:dz k callerA)
  (hY:∀(w:Qv) (h:PF),YP w h->(K w.params).In h)
  (F:∀(w:Qv) (mg:Pj->Option Pd) (fa:Pg) (h:PF),(K w.params).In h->h.Ns PK mg->mg d.name=some (.ref fa) ->
   ∃fd:Qo,(∀(s:Pm) (u:Pd),BindsTo s fd ⟨[u],[]⟩ [(x,u)]) /\
    ∀base:PF,(K w.params).In base->base.Ns PK mg->FnOk l.prog w (K w.params) mg base CX k fa fd [x] (sp (K w.params)))
  (hsp:∀(K:Pl) (H:Hp) (a:Pg) (ns:List Int),ns.length<=n->HR H->gJ K H a (ns.map V.int)->sp K [.ref a] H (λv _=>v=.bl true) λ_ _ _=>False)
  (hCX:∀(H:Hp) (s:Pm) (e:Pd) (s':Pm),CX [] H s (λ_ _ _=>False) e s'->False) :
  W.WalkO q loose XP YP l.row.toRowW d [] (λf vs=>PySem.call f vs) :=
 E4 (K:=K) (CX:=λ_=>CX) (sp:=λw=>sp (K w.params)) hi hn hn2 hdf hr hY F (λw H a ns h1 h2 h3=>hsp (K w.params) H a ns h1 h2 h3) λ_ H s e s'=>hCX H s e s'
def uG(s:QQ)(j:Nat):QQ:=match s with
 |.ClassDef _ _ _ body _ _ _ _ _ _ _=>body.getD j (.Pass ⟨0,0,0,0⟩)
 |_=>.Pass ⟨0,0,0,0⟩
def defArgs(s:QQ):Arguments:=match s with
 |.FunctionDef _ a _ _ _ _ _ _ _ _=>a
 |_=>{ posonlyargs:=[],args:=[],vararg:=none,kwonlyargs:=[],kw_defaults:=[],kwarg:=none,defaults:=[] }
def defBody(s:QQ):List QQ:=match s with
 |.FunctionDef _ _ b _ _ _ _ _ _ _=>b
 |_=>[]
def defScope(s:QQ):Sk:=match s with
 |.FunctionDef _ _ _ _ _ _ sc _ _ _=>sc
 |_=>{ kind:=.function,names:=[],isGenerator:=false,isCoroutine:=false }
abbrev CX0:rR:=λ_ _ _ _ _ _=>False
abbrev E0:XK:=λ_ _ _=>False
def Ij{X:Cx}:gH CX0 X E0:=λ_ _ _ _ _ _ _ h=>h.elim
structure zU (K:Pl) (x qual:Pj) (st:QQ) (f:Pg) (fd:Qo):Prop where
 ex:∃(oc:Pd) (od:Option Pg) (kV doc pm:Pd) (an:Option Pg) (cdv ct:Pd) (osl:Array (Option Pd)),
  fd=RY x qual (defArgs st) (defBody st) (defScope st) .none kV doc pm an cdv ct/\K.lookup f=some ⟨oc,od,.func fd,osl⟩/\T5 K cdv qual=true
 kp:R1 K (.ref f)=true
section
variable {P:Qi}{w:Qv}{K:Pl}{mg:Pj->Option Pd}{base:PF}
def zU.ok{x qual:Pj}{st:QQ}{f:Pg}{fd:Qo}{N ps:bv}{k:Nat}{sp:Sp}(F:zU K x qual st f fd)(S:eT N ps (defScope st))(len:∀vs H Q E,sp vs H Q E->vs.length=ps.length)
  (hbody:∀(cdv:Pd) (A:Qp) (outer:List Env) (s:Pm) (H:Hp) (vs:al) (Q:VK) (E:XK),dz k (A.deeper (envOfC qual (defScope st) s.heap.objs.size f cdv))->sp vs H Q E ->
   ∃t,rP (fy CX0 P w K mg base N qual (defScope st) f cdv A outer s H E).nox (defBody st) t/\t { nx:=λ_ H'=>Q .non H',rt:=Q } (start N vs) H):FnOk P w K mg base CX0 (k+1) f fd ps sp:=by
 obtain⟨oc,od,kV,doc,pm,an,cdv,ct,osl,rfl,lk,hcd⟩:=F.ex;refine IC lk hcd S len λA outer s H vs Q E hr hsp=>?_;obtain⟨t,h,q⟩:=hbody cdv A outer s H vs Q E hr hsp;exact⟨t,h.nox,q⟩
def zU.binds{x qual:Pj}{st:QQ}{f:Pg}{fd:Qo}{ps:bv}(F:zU K x qual st f fd)
  (h:∀(kV doc pm:Pd) (an:Option Pg) (cdv ct:Pd) (us:List Pd),us.length=ps.length->bindArgs (RY x qual (defArgs st) (defBody st) (defScope st) .none kV doc pm an cdv ct) ⟨us,[]⟩=pure (ps.zip us)):fV K fd ps []:=by
 obtain⟨oc,od,kV,doc,pm,an,cdv,ct,osl,rfl,lk,hcd⟩:=F.ex;exact .all (h kV doc pm an cdv ct)
def qm{x qual:Pj}{st:QQ}{f:Pg}{oc:Pd}{od an:Option Pg}{osl:Array (Option Pd)}{kV doc pm cdv ct:Pd}(l:K.lookup f=some ⟨oc,od,.func (RY x qual (defArgs st) (defBody st) (defScope st) .none kV doc pm an cdv ct),osl⟩)
  (c:T5 K cdv qual=true)(k:R1 K (.ref f)=true):zU K x qual st f (RY x qual (defArgs st) (defBody st) (defScope st) .none kV doc pm an cdv ct):=⟨⟨oc,od,kV,doc,pm,an,cdv,ct,osl,rfl,l,c⟩,k⟩
end
def aF(H H':Hp):Prop:=∀b o,H b=some o->H' b=some o
def aF.refl(H:Hp):aF H H:=λ_ _ h=>h
def aF.trans{H H1 H2:Hp}(a:aF H H1)(b:aF H1 H2):aF H H2:=λc o h=>b c o (a c o h)
def aF.free{H H':Hp}(e:aF H H'){l:Pg}(h:H' l=Option.none):H l=Option.none:=by
 cases q:H l with
 |none=>rfl
 |some o=>
  rw[e l o q]at h;cases h
end L2
namespace DL
open PySem PySem.Spec PySem.Calls PySem.W PyProof.Rows Builtin Builtin.ObjectAttr Builtin.Getset_descriptor
section
variable {prog:Qi}{w:Qv}{A:Qp}{E:Pd->Pm->Prop}{h:PF}{g:Array GenState}{d:Drawn}{t:Nat}{os:OsState}{a C:Pg}{o:Obj}{K:Frag}
structure mO (K:Frag) (C:Pg):Prop where
 cls:findIn K (.ref C) "__class__"=some (some (.builtin "object.__class__"))
 ga:findIn K (.ref C) "__getattribute__"=some (some (.builtin "BaseException.__getattribute__"))
 gt:findIn K (.ref C) "__getattr__"=some none
 ob:mroIn K C (.type "object")=some true
 be:subIn K (.ref C) (.type "BaseException")=some true
def Jd{R:Tf->Pm->Prop}{tp:Pd}(X:K.In h)(Z:mO K C)(hx:h.get? a=some o)(hc:o.cls=.ref C)(hq:R (.ok (.ret (.ref C))) ⟨h,g,d,t,os⟩) :
  RO (PN prog w) A (.call (.builtin "getset_descriptor.__get__") ⟨[.builtin "object.__class__",.ref a,tp],[]⟩) R ⟨h,g,d,t,os⟩:=by
 have L0:Looks (PN prog w) h (typeOf (.ref a)) (.ref C):=hc▸(Looks.ld hx).andThen .now;have L1:=looks_mroIn (M:=PN prog w) X Z.ob;refine codeAny_call_builtin KF.slot_gs.plain KF.entry_gs (KF.slot_gs.check _ _ _ _ _ _ _ _ KF.type_class (KF.args_gs _ _ _) ?_);unfold Builtin.«getset_descriptor.__get__» descrGet;rw[dga_obj];refine Pp (PX ?_);unfold descrGetter descrCheckInstance descrNameAndClass isInstance;simp only[KF.owner_class]
 repeat lk
 refine⟨Tp _ (by decide +kernel),codeAny_builtin KF.entry_class ?_⟩;unfold Builtin.«object.__class__» shownTypeOf
 repeat lk
 exact hq
def u6{M:Model}{nameV:Pd}{Q:Unit->Pm->Prop}(X:K.In h)(Z:mO K C)(hx:h.get? a=some o)(hc:o.cls=.ref C)(hq:Q () ⟨h,g,d,t,os⟩):PZ M A (checkBuiltinCall "BaseException.__getattribute__" ⟨[.ref a,nameV],[]⟩) Q E ⟨h,g,d,t,os⟩:=by
 have hk:builtinKind "BaseException.__getattribute__"=some .slot:=by decide +kernel
 have hsplit:splitId "BaseException.__getattribute__"=some ("BaseException","__getattribute__"):=by decide +kernel
 have ha:=F.args_bexc_ga (.ref a) nameV;have LS:Looks M h (isSubtype (.ref C) (.type "BaseException")) true:=looks_subIn X Z.be;simp only[checkBuiltinCall,hk,hsplit];refine Pp ?_
 .unfold isInstance
  repeat (first|(with_reducible refine Q5 hx ?_;rw[hc])|(with_reducible refine LS.at ?_)|wp_step)
  exact hq
def BH{tk:Tok}{Q:Fin->Pm->Prop}(X:K.In h)(Z:mO K C)(hx:h.get? a=some o)(hc:o.cls=.ref C)(hq:Q (.done (.ret (.ref C))) ⟨h,g,d,t,os⟩) :
  PZ (PN prog w) A (Builtin.«object.__getattribute__» ⟨[.ref a,.str "__class__" tk],[]⟩) Q E ⟨h,g,d,t,os⟩:=by
 have hT5:(⟨h,g,d,t,os⟩:Pm).TypeIs (.builtin "object.__class__") "getset_descriptor":=US;have f5:=US;have f6:=F.slot_gs_get.lookup;have f7:=F.slot_gs_set.lookup;have LC:Looks (PN prog w) h (Sm (.ref C) "__class__") (some (.builtin "object.__class__")):=looks_findIn X Z.cls
 repeat (any_goals (first|assumption|(with_reducible refine Q5 hx ?_;rw[hc])|(with_reducible refine LC.at ?_)|wp_step))
 refine Jd X Z hx hc ?_
 repeat (any_goals (first|assumption|wp_step))
def E1{tk:Tok}{R:Tf->Pm->Prop}(X:K.In h)(Z:mO K C)(hx:h.get? a=some o)(hc:o.cls=.ref C)(hq:R (.ok (.ret (.ref C))) ⟨h,g,d,t,os⟩) :
  RO (PN prog w) A (.call (.builtin "BaseException.__getattribute__") ⟨[.ref a,.str "__class__" tk],[]⟩) R ⟨h,g,d,t,os⟩ :=
 codeAny_call_builtin SM.ga.plain F.entry_bexc_ga (u6 X Z hx hc (BH X Z hx hc hq))
def Lx{tk:Tok}{Q:Pd->Pm->Prop}(X:K.In h)(Z:mO K C)(hx:h.get? a=some o)(hc:o.cls=.ref C)(hq:Q (.ref C) ⟨h,g,d,t,os⟩) :
  PZ (PN prog w) A (getAttrBy (.ref a) (.str "__class__" tk) false) Q E ⟨h,g,d,t,os⟩:=by
 have f3:=SM.ga.bind (.ref a);have hx2:(RN "BaseException.__getattribute__"==RN "object.__getattribute__")=false:=by decide +kernel
 have hx1:(onTheHeap (Qh C)&&RN "BaseException.__getattribute__"==RN "object.__getattribute__")=false:=by rw[hx2];rfl
 have L1:Looks (PN prog w) h (Sm (.ref C) "__getattribute__") (some (.builtin "BaseException.__getattribute__")):=looks_findIn X Z.ga;have L2:Looks (PN prog w) h (Sm (.ref C) "__getattr__") none:=looks_findIn X Z.gt
 repeat (any_goals (first|assumption|(with_reducible refine Q5 hx ?_;rw[hc])|(with_reducible refine L1.at ?_)|(with_reducible refine L2.at ?_)|wp_step))
 refine E1 X Z hx hc ?_
 repeat (any_goals (first|assumption|wp_step))
def E2{Q:Option Pd->Pm->Prop}(X:K.In h)(Z:mO K C)(hx:h.get? a=some o)(hc:o.cls=.ref C)(hq:Q (some (.ref C)) ⟨h,g,d,t+1,os⟩):PZ (PN prog w) A (getAttr? (.ref a) "__class__") Q E ⟨h,g,d,t,os⟩:=by
 unfold getAttr? getAttrBy?
 repeat (any_goals (first|assumption|with_reducible apply Lx X Z hx hc|wp_step))
end
def wZ(a C:Pg)(dc:Option Pg):PF->Prop:=λh=>∃o vs,h.get? a=some o/\o.cls=.ref C/\o.data=.fields vs/\o.dict=dc
def qc{K:Frag}{a C:Pg}{dc:Option Pg}(Z:mO K C)(hC:(clsIn K C).isSome=true):KitX K (.ref a) (.ref C) (wZ a C dc) where
 ty:=λ_ _ _ ⟨o,_,h1,h2,_⟩=>h2▸(Looks.ld h1).andThen .now
 it:=λ_ _ X _=>by
  obtain⟨cd,hcD⟩:=SN.mp hC;unfold clsIn at hcD;split at hcD
  .rename_i c' d' cd' sl' ho
   intro A' Q' E' s' k q;unfold isType loadHead;exact Pp (wpAny_loadPart (k _ _ (X _ _ ho)) (PX q))
  .cases hcD
 ne:=λh tp dd its n sl X htp=>by
  obtain⟨cd,hcD⟩:=SN.mp hC;refine TJ.mpr λq=>?_;have e:C=tp:=Qh.inj (beq_iff_eq.mp q);subst e;unfold clsIn at hcD;split at hcD
  .rename_i c' d' cd' sl' ho
   have z:=(X _ _ ho).symm.trans htp;cases z
  .cases hcD
 ca:=λ{_ _ _ _ _ s} X ⟨o,_,h1,h2,_⟩ k=>by
  obtain⟨h,g,d,t,os⟩:=s;exact E2 X Z h1 h2 k
def mO.isCls{K:Frag}{C:Pg}(Z:mO K C):(clsIn K C).isSome=true:=by
 obtain⟨cd,a,b⟩:=Uv.mp Z.ob;rw[a];rfl
def gG:List String:=["NoneType","bool","int","str","tuple","list","dict"]
structure XC (K:Frag) (x:Pj) (C:Pg):Prop where
 ns:nsIn K PK x=some (some (.ref C))
 ek:mO K C
 bt:∀T∈gG,kitOne K (.ref C) (.type T)=some false
end DL
namespace DL
open PySem PySem.Spec PyProof.Rows L2
def qA(o:Obj)(f:Array Pd->Array Pd):(o.mapFields f).dict=o.dict:=by unfold Obj.mapFields;split<;>rfl
def kq(h:PF)(e:Pg)(dc:Option Pg):Prop:=∃o,h.get? e=some o/\o.dict=dc/\(dc≠none->∃vs,o.data=.fields vs/\vs[2]?=some .none)
section
variable {M:Model}{A:Qp}{E:Pd->Pm->Prop}{s:Pm}{base:PF}{env:QL}{outer l:List QL}{L e:Pg}{cls a0 fl:Pd}{dc:Option Pg}{Q:Unit->Pm->Prop}
def wq{oe:Obj}{vs:Array Pd}{head:Pd}{b0:Bool}(hfr:A.frames=some (env::outer))(hl:s.heap.FunFrames base (env::outer))(hf:env.frame=some L)(he:s.heap.get? e=some oe)(kb:base.StaysIn s.heap)(hen:base.get? e=none)(hd:oe.data=.fields vs)(hz:1<vs.size)(h0:vs[0]?=some a0)(hx:oe.dict≠none->vs[2]?=some .none)
  (h:∀h',U3 base (env::outer) e oe.cls a0 (rawInt L) s.heap h'->kq h' e oe.dict->Q () { s with heap:=h' }) :
  PZ M A (do
   let a ←frameOf env
   let pl ←entryPlaceOf L b0
   let b ←U5 head a .none (rawInt L) .none pl
   setField (.ref e) 1 b) Q E s:=by
 have nf:e∉(env::outer).filterMap (·.frame):=λhm=>by
  obtain⟨_,o,ho,q⟩:=hl.mem hm;rw[he]at ho;cases ho;exact q vs hd
 refine Pp (wpAny_frameOf_fun hfr hl hf λg ⟨_,same,slots⟩=>Pp (wpAny_entryPlaceOf λpl hpl=>?_));have ge:g.get? e=some oe:=(same e nf).trans he;have up:∀(N:Obj) (f:Obj->Obj) (b:Pg) (o:Obj),b≠e->g.get? b=some o->((g.push N).update e f).get? b=some o:=λN f b o hb q=>(Rm _ _ (Qq hb)).trans (Pq _ q);have ne:∀b o,s.heap.get? b=some o->(∀vs,o.data≠.fields vs)->b≠e:=λb o q z c=>by subst c;rw[he]at q;cases q;exact z vs hd
 have kg:base.StaysIn g:=λb o q=>(same b λhm=>by rw[(hl.mem hm).1]at q;cases q).trans (kb b o q);unfold U5 newFields;refine Pp (wpAny_newObj_type ?_ (hpl.sizeOk5 _ _ _ _ _));have d3:=Tg hd (·.setIfInBounds 1 (Qh g.objs.size));have hTe:g.objs.size≠e:=Nat.ne_of_gt (PM ge);have at_e:∀N:Obj,((g.push N).update e (Obj.mapFields (·.setIfInBounds 1 (Qh g.objs.size)))).get? e=some (oe.mapFields (·.setIfInBounds 1 (Qh g.objs.size))):=λN=>Rq _ (Pq _ ge) (UQ d3);refine wpAny_setField (Pq _ ge) hd hz (h _ ⟨λb o q=>up _ _ b o (λc=>by subst c;rw[hen]at q;cases q) (kg b o q),hl.of_keeps λb o q z=>?_,?_,λb o q z=>?_⟩ ⟨_,at_e _,qA _ _,λz=>⟨_,d3,by rw[TM (by decide)];exact hx z⟩⟩)
 .obtain⟨sl,x⟩:=slots b o q
  exact⟨_,up _ _ b _ (ne b o q z) x,rfl⟩
 .refine⟨_,_,g.objs.size,_,_,at_e _,⟨Obj.cls_mapFields _ _,?_⟩,d3,?_,kg.fresh,hTe,(Rm _ _ (Qq hTe)).trans (Qm g rfl),rfl,?_⟩
  .rw[TM (by decide)];exact h0
  .simp[hz]
  .first|(simp;done)|(rcases hpl with rfl|⟨_,_,_,_,_,_,_,rfl⟩<;>simp)
 .obtain⟨sl,x⟩:=slots b o q
  exact⟨sl,up _ _ b _ (ne b o q z) x⟩
def Dx{oe:Obj}{vs:Array Pd}(hfr:A.frames=some (env::outer))(hl:s.heap.FunFrames base (env::outer))(hf:env.frame=some L)(he:s.heap.get? e=some oe)(kb:base.StaysIn s.heap)(hen:base.get? e=none)(hd:oe.data=.fields vs)(h1:vs[1]?=some .none)(h0:vs[0]?=some a0)(hx:oe.dict≠none->vs[2]?=some .none)
  (h:∀h',U3 base (env::outer) e oe.cls a0 (rawInt L) s.heap h'->kq h' e oe.dict->Q () { s with heap:=h' }):PZ M A (noteFrame (.ref e) env) Q E s:=by
 unfold noteFrame;simp only[hf];refine Pp (wpAny_field he hd h1 ?_);rw[if_neg (by decide)];exact wq hfr hl hf he kb hen hd (RU.mp h1).1 h0 hx h
def zy(hfr:A.frames=some (env::outer))(hl:s.heap.FunFrames base (env::outer))(hf:env.frame=some L)(ht:s.heap.TracedW base e cls a0)(hc:kq s.heap e dc)(kb:base.StaysIn s.heap)(hen:base.get? e=none)
  (h:∀h',U3 base (env::outer) e cls a0 (rawInt L) s.heap h'->kq h' e dc->Q () { s with heap:=h' }):PZ M A (noteFrame (.ref e) env) Q E s:=by
 obtain⟨oe,vs,T,oT,ts,he,⟨rfl,h0⟩,hd,h1,hnT,hTe,hT,dT,h3⟩:=ht;obtain⟨o',q,rfl,cx⟩:=hc;rw[he]at q;cases q;have hx:oe.dict≠none->vs[2]?=some .none:=λz=>by
  obtain⟨vs',d',g⟩:=cx z;rw[hd]at d';cases d';exact g
 have oth:∀(f:Obj->Obj) (b:Pg),b≠T->(s.heap.update T f).get? b=s.heap.get? b:=λf b hb=>Rm _ _ (Qq hb);have ne:∀b o,s.heap.get? b=some o->(∀vs,o.data≠.fields vs)->b≠T:=λb o q z c=>by subst c;rw[hT]at q;cases q;exact z ts dT
 unfold noteFrame;simp only[hf];refine Pp (wpAny_field he hd h1 ?_);rw[if_pos (by simp)];refine Pp (wpAny_field hT dT h3 ?_);rw[if_neg (by simp[rawInt])];refine Pp (wpAny_setField hT dT (RU.mp h3).1 ?_);refine wq hfr (hl.of_keeps λb o q z=>⟨o,(oth _ b (ne b o q z)).trans q,rfl⟩) hf ((oth _ e (Qq hTe)).trans he) (λb o q=>(oth _ b λc=>by subst c;rw[hnT]at q;cases q).trans (kb b o q)) hen hd (RU.mp h1).1 h0 hx λh' ⟨x1,x2,x3,x4⟩ x5=>h h' ⟨x1,x2,x3,λb o q z=>x4 b o ((oth _ b (ne b o q z)).trans q) z⟩ x5
def kP(kb:base.StaysIn s.heap)(hl:s.heap.FunFrames base l)(ht:s.heap.TracedAtW base e cls a0 fl)(hc:kq s.heap e dc)
  (h:∀h',base.StaysIn h'->h'.FunFrames base l->h'.TracedW base e cls a0->(∀b o,s.heap.get? b=some o->(∀vs,o.data≠.fields vs)->h'.get? b=some o)->kq h' e dc->Q () { s with heap:=h' }):PZ M A (setFlight (.ref e) none) Q E s:=by
 obtain⟨oe,vs,T,oT,ts,he,hcl,hd,h1,hnT,hTe,hT,dT,h3⟩:=ht;have z3:3<ts.size:=(RU.mp h3).1;have oth:∀(f:Obj->Obj) (b:Pg),b≠T->(s.heap.update T f).get? b=s.heap.get? b:=λf b hb=>Rm _ _ (Qq hb);have ne:∀b o,s.heap.get? b=some o->(∀vs,o.data≠.fields vs)->b≠T:=λb o q z c=>by subst c;rw[hT]at q;cases q;exact z ts dT
 unfold setFlight;refine Pp (wpAny_field he hd h1 ?_);rw[if_pos (by simp)];obtain⟨o',q',rfl,cx⟩:=hc;refine wpAny_setField hT dT z3 (h _ (λb o q=>(oth _ b λc=>by subst c;rw[hnT]at q;cases q).trans (kb b o q)) (hl.of_keeps λb o q z=>⟨o,(oth _ b (ne b o q z)).trans q,rfl⟩) ?_ (λb o q z=>(oth _ b (ne b o q z)).trans q) ⟨o',(oth _ e (Qq hTe)).trans q',rfl,cx⟩);exact⟨oe,vs,T,_,_,(oth _ e (Qq hTe)).trans he,hcl,hd,h1,hnT,hTe,Rq _ hT (UQ (Tg dT _)),Tg dT _,by simp[z3]⟩
def Nk(h:PF)(e:Pg)(ox:Option Pg):Prop:=∃dc,kq h e dc/\(ox=none∨ox=dc)
def ye{oe:Obj}{vs:Array Pd}(hfr:A.frames=some (env::outer))(hl:s.heap.FunFrames base (env::outer))(hf:env.frame=some L)(he:s.heap.get? e=some oe)(kb:base.StaysIn s.heap)(hen:base.get? e=none)(hd:oe.data=.fields vs)(h1:vs[1]?=some .none)(h0:vs[0]?=some a0)(hx:oe.dict≠none->vs[2]?=some .none)
  (h:∀h',RK base outer e oe.cls a0 h'->s.heap.UpToSlots h'->kq h' e oe.dict->Q () { s with heap:=h' }):PZ M A (leaving env (.ref e)) Q E s:=by
 unfold leaving;refine Pp (Dx hfr hl hf he kb hen hd h1 h0 hx λg ⟨k1,k2,k3,k4⟩ dg=>?_);refine kP (s:={ s with heap:=g }) k1 k2 k3 dg λh' m1 ⟨_,_,m2⟩ m3 m4 dh=>h h' ⟨m1,hen,m2,m3⟩ (λb o q z=>?_) dh;obtain⟨sl,x⟩:=k4 b o q z;exact⟨sl,m4 b _ x z⟩
def A8(hfr:A.frames=some (env::outer))(hf:env.frame=some L)(hfl:RK base (env::outer) e cls a0 s.heap)(hc:kq s.heap e dc)
  (h:∀h',RK base outer e cls a0 h'->s.heap.UpToSlots h'->kq h' e dc->Q () { s with heap:=h' }):PZ M A (leaving env (.ref e)) Q E s:=by
 obtain⟨f1,f2,f3,f4⟩:=hfl;unfold leaving;refine Pp (zy hfr f3 hf f4 hc f1 f2 λg ⟨k1,k2,k3,k4⟩ dg=>?_);refine kP (s:={ s with heap:=g }) k1 k2 k3 dg λh' m1 ⟨_,_,m2⟩ m3 m4 dh=>h h' ⟨m1,f2,m2,m3⟩ (λb o q z=>?_) dh;obtain⟨sl,x⟩:=k4 b o q z;exact⟨sl,m4 b _ x z⟩
def wm(hfr:A.frames=some (env::outer))(hf:env.frame=some L)(hfl:RK base (env::outer) e cls a0 s.heap)(hc:kq s.heap e dc)
  (h:∀h',Heap.HeldW base (env::outer) e cls a0 L h'->s.heap.UpToSlots h'->kq h' e dc->Q () { s with heap:=h' }):PZ M A (noteFrame (.ref e) env) Q E s:=by
 obtain⟨f1,f2,f3,f4⟩:=hfl;exact zy hfr f3 hf f4 hc f1 f2 λg ⟨k1,k2,k3,k4⟩ dg=>h g ⟨k1,f2,k2,k3⟩ k4 dg
def wo(hh:Heap.HeldW base l e cls a0 L s.heap)(hc:kq s.heap e dc)(h:∀h',RK base l e cls a0 h'->s.heap.UpToSlots h'->kq h' e dc->Q () { s with heap:=h' }):PZ M A (setFlight (.ref e) none) Q E s:=by
 obtain⟨f1,f2,f3,f4⟩:=hh;exact kP f1 f3 f4 hc λh' k1 k2 k3 k4 k5=>h h' ⟨k1,f2,k2,k3⟩ (λb o q z=>⟨o.slots,k4 b o q z⟩) k5
def wt(hh:RK base l e cls a0 s.heap)(hc:kq s.heap e dc)(h:∀h',RK base l e cls a0 h'->s.heap.UpToSlots h'->kq h' e dc->Q () { s with heap:=h' }):PZ M A (setFlight (.ref e) none) Q E s:=by
 obtain⟨f1,f2,f3,f4⟩:=hh;exact kP f1 f3 f4.at hc λh' k1 k2 k3 k4 k5=>h h' ⟨k1,f2,k2,k3⟩ (λb o q z=>⟨o.slots,k4 b o q z⟩) k5
end
def Lm:Qe->Bool
 |.Starred _ _=>false
 |_=>true
def aI{e:Qe}{es:List Qe}{env:QL}(h:Lm e=true):Po (e::es) env=(false,eval e env)::Po es env:=by
 cases e<;>first|(rw[Po];intros;contradiction)|rw[Po]|(cases h)
def iS{e:Qe}{env:QL}(h:Lm e=true):Po [e] env=[(false,eval e env)]:=by
 rw[aI h,Po]
theorem bB{env:QL}{pos:Pos}:∀{es:List Qe},es.all Lm=true->(Qy pos (Po es env)).any (·.1)=false
 |[],_=>by rw[Po];rfl
 |e::es,h=>by
  rw[R4,Pr]at h;rw[aI h.1];have:=bB (env:=env) (pos:=pos) h.2;show(false||(Qy pos (Po es env)).any (·.1))=false;rw[this];rfl
def gw{e:Qe}{env:QL}{pos:Pos}(h:Lm e=true):((Qy pos (Po [e] env)).all (λx=>!x.1)&&(R0 pos (Rc [] env)).all (λx=>x.1.isSome)
  &&decide ([e].length+([]:List Rp).length+(if([]:List Rp).isEmpty then 0 else 1)<30))=true:=by
 rw[iS h,Rc];rfl
inductive Kd where
 |ins (c:Pj) (ks:bv)|dint (ks:List Int)|exf (c:Pj) (ks:bv)|pl
inductive D where
 |non|bl (b:Bool)|int (i:Int)|str (x:Pj)|tup (xs:List D)|lst (xs:List D)|dic (ks:bv) (xs:List D)|exc (x:Pj)|ob (k:Kd) (xs:List D)
abbrev ac:=List D
structure Lh (K:Pl) (ks:bv) (C:Pg):Prop where
 cls:HV K C
 no:∀f∈ks,eh K C f
 gc:QW K (.ref C) "__class__"=some (some (.builtin "object.__class__"))
 gn:SI K (.builtin "object.__class__") "__get__"=some (some (.builtin "getset_descriptor.__get__"))
 tk:Uq K (.builtin "object.__class__")=some true
 mo:Uy K C (.type "object")=some true
 bt:∀T∈gG,UY K (.ref C) (.type T)=some false
noncomputable def yy(K:Pl) (H:Hp):Kd->Pg->al->Prop
 |.ins c ks,a,vs=>∃C dx,QM K PK c=some (some (.ref C))/\Lh K ks C/\H a=some (.ins C dx (ks.zip vs))/\ks.length=vs.length
 |.dint ks,a,vs=>∃kvs,Rd H a (.dK kvs)/\kvs=(ks.map SK).zip vs/\ks.length=vs.length
 |.exf c ks,a,vs=>∃C dx fs,XC K c C/\Rd H a (.ext (wZ a C (some dx)))/\H dx=some (.xd fs)/\ks.length=vs.length/\∀(i:Nat) (f:Pj) (v:V),ks[i]?=some f->vs[i]?=some v->fs.lookup f=some v
 |.pl,a,vs=>H a=some (.lst vs)
structure IU where
 cls:Pj
 flds:List (Pj×D)
inductive aj (α:Type) where
 |ok (a:α)|exn (x:IU)|stuck
def aj.bind{α β:Type}(r:aj α)(f:α->aj β):aj β:=match r with
 |.ok a=>f a
 |.exn x=>.exn x
 |.stuck=>.stuck
mutual
def Rep(K:Pl)(H:Hp):D->V->Prop
 |.non,v=>v=.non
 |.bl b,v=>v=.bl b
 |.int i,v=>v=.int i
 |.str x,v=>v=.str x
 |.tup ds,v=>∃a vs,v=.ref a/\lT K H a vs/\Reps K H ds vs
 |.lst ds,v=>∃a vs,v=.ref a/\gJ K H a vs/\Reps K H ds vs
 |.dic ks ds,v=>∃a kvs vs,v=.ref a/\Rd H a (.dK kvs)/\kvs=(ks.map SJ).zip vs/\ks.length=vs.length/\Reps K H ds vs
 |.exc x,v=>∃a C dc,v=.ref a/\XC K x C/\Rd H a (.ext (wZ a C dc))
 |.ob k ds,v=>∃a vs,v=.ref a/\yy K H k a vs/\Reps K H ds vs
def Reps(K:Pl)(H:Hp):ac->al->Prop
 |[],vs=>vs=[]
 |d::ds,vs=>∃v r,vs=v::r/\Rep K H d v/\Reps K H ds r
end
def aF.rd{H H':Hp}(e:aF H H'){a:Pg}{o:HO}(h:Rd H a o):Rd H' a o:=by
 rcases h with h|⟨o',h⟩
 .exact .inl (e _ _ h)
 .exact .inr ⟨o',e _ _ h⟩
def aF.sqT{K:Pl}{H H':Hp}(e:aF H H'){a:Pg}{xs:al}(h:lT K H a xs):lT K H' a xs:=by
 rcases h with h|h
 .exact .inl (aF.rd e h)
 .exact .inr h
def aF.sqL{K:Pl}{H H':Hp}(e:aF H H'){a:Pg}{xs:al}(h:gJ K H a xs):gJ K H' a xs:=by
 rcases h with h|h
 .exact .inl (aF.rd e h)
 .exact .inr h
theorem yy.mono{K:Pl}{H H':Hp}(e:aF H H'):∀{k:Kd}{a:Pg}{vs:al},yy K H k a vs->yy K H' k a vs
 |.ins c ks,a,vs,⟨C,dx,h0,h1,h2,h3⟩=>⟨C,dx,h0,h1,e _ _ h2,h3⟩
 |.dint ks,a,vs,⟨kvs,h1,h2,h3⟩=>⟨kvs,aF.rd e h1,h2,h3⟩
 |.exf c ks,a,vs,⟨C,dx,fs,h1,h2,h3,h4⟩=>⟨C,dx,fs,h1,aF.rd e h2,e _ _ h3,h4⟩
 |.pl,a,vs,h=>e _ _ h
mutual
theorem Rep.mono{K:Pl}{H H':Hp}(e:aF H H'):∀{d:D}{v:V},Rep K H d v->Rep K H' d v
 |.non,_,h=>by unfold Rep at h ⊢;exact h
 |.bl _,_,h=>by unfold Rep at h ⊢;exact h
 |.int _,_,h=>by unfold Rep at h ⊢;exact h
 |.str _,_,h=>by unfold Rep at h ⊢;exact h
 |.tup ds,_,h=>by
  unfold Rep at h ⊢;obtain⟨a,vs,e1,e2,e3⟩:=h;exact⟨a,vs,e1,aF.sqT e e2,Reps.mono e e3⟩
 |.lst ds,_,h=>by
  unfold Rep at h ⊢;obtain⟨a,vs,e1,e2,e3⟩:=h;exact⟨a,vs,e1,aF.sqL e e2,Reps.mono e e3⟩
 |.dic ks ds,_,h=>by
  unfold Rep at h ⊢;obtain⟨a,kvs,vs,e1,e2,e3,e4,e5⟩:=h;exact⟨a,kvs,vs,e1,aF.rd e e2,e3,e4,Reps.mono e e5⟩
 |.exc x,_,h=>by
  unfold Rep at h ⊢;obtain⟨a,C,dc,e1,e2,e3⟩:=h;exact⟨a,C,dc,e1,e2,aF.rd e e3⟩
 |.ob k ds,_,h=>by
  unfold Rep at h ⊢;obtain⟨a,vs,e1,e2,e3⟩:=h;exact⟨a,vs,e1,e2.mono e,Reps.mono e e3⟩
theorem Reps.mono{K:Pl}{H H':Hp}(e:aF H H'):∀{ds:ac}{vs:al},Reps K H ds vs->Reps K H' ds vs
 |[],_,h=>by unfold Reps at h ⊢;exact h
 |d::ds,_,h=>by
  unfold Reps at h ⊢;obtain⟨v,r,e1,e2,e3⟩:=h;exact⟨v,r,e1,Rep.mono e e2,Reps.mono e e3⟩
end
section
variable {K:Pl}{H:Hp}{v:V}{vs:al}{d:D}{ds:ac}
def aN:Rep K H .non v↔v=.non:=by unfold Rep;exact T3
def aC{b}:Rep K H (.bl b) v↔v=.bl b:=by unfold Rep;exact T3
def az{i}:Rep K H (.int i) v↔v=.int i:=by unfold Rep;exact T3
def Rep.str_iff{x}:Rep K H (.str x) v↔v=.str x:=by unfold Rep;exact T3
def aJ:Rep K H (.tup ds) v↔∃a vs,v=.ref a/\lT K H a vs/\Reps K H ds vs:=by rw[Rep]
def aH:Rep K H (.lst ds) v↔∃a vs,v=.ref a/\gJ K H a vs/\Reps K H ds vs:=by rw[Rep]
def gC{x}:Rep K H (.exc x) v↔∃a C dc,v=.ref a/\XC K x C/\Rd H a (.ext (wZ a C dc)):=by rw[Rep]
def cg{k}:Rep K H (.ob k ds) v↔∃a vs,v=.ref a/\yy K H k a vs/\Reps K H ds vs:=by rw[Rep]
def Rep.exf_exc{c:Pj}{ks:bv}(h:Rep K H (.ob (.exf c ks) ds) v):Rep K H (.exc c) v:=by
 obtain⟨a,vs,e,⟨C,dx,fs,h1,h2,_⟩,_⟩:=cg.mp h;exact gC.mpr ⟨a,C,some dx,e,h1,h2⟩
def Reps.nil_iff:Reps K H [] vs↔vs=[]:=by unfold Reps;exact T3
def aD:Reps K H (d::ds) vs↔∃v r,vs=v::r/\Rep K H d v/\Reps K H ds r:=by rw[Reps]
def Reps.nil:Reps K H [] []:=Reps.nil_iff.mpr rfl
def Reps.cons(h:Rep K H d v)(h':Reps K H ds vs):Reps K H (d::ds) (v::vs):=aD.mpr ⟨_,_,rfl,h,h'⟩
end
theorem Reps.length{K:Pl}{H:Hp}:∀{ds:ac}{vs:al},Reps K H ds vs->ds.length=vs.length
 |[],_,h=>by rw[Reps.nil_iff.mp h];rfl
 |d::ds,_,h=>by
  obtain⟨v,r,rfl,_,h⟩:=aD.mp h;simp[Reps.length h]
theorem Reps.get{K:Pl}{H:Hp}:∀{ds:ac}{vs:al}{i:Nat}{d:D},Reps K H ds vs->ds[i]?=some d->∃v,vs[i]?=some v/\Rep K H d v
 |[],_,_,_,h,e=>by simp at e
 |x::ds,_,0,d,h,e=>by
  obtain⟨v,r,rfl,h1,_⟩:=aD.mp h;simp at e;subst e;exact⟨v,rfl,h1⟩
 |x::ds,_,i+1,d,h,e=>by
  obtain⟨v,r,rfl,_,h2⟩:=aD.mp h;obtain⟨u,e1,e2⟩:=Reps.get (i:=i) h2 (by simpa using e);exact⟨u,by simpa using e1,e2⟩
theorem Reps.app{K:Pl}{H:Hp}:∀{ds es:ac}{vs us:al},Reps K H ds vs->Reps K H es us->Reps K H (ds++es) (vs++us)
 |[],_,_,_,h,h'=>by rw[Reps.nil_iff.mp h];exact h'
 |d::ds,_,_,_,h,h'=>by
  obtain⟨v,r,rfl,h1,h2⟩:=aD.mp h;exact Reps.cons h1 (Reps.app h2 h')
theorem Reps.take{K:Pl}{H:Hp}:∀{ds:ac}{vs:al}(n:Nat),Reps K H ds vs->Reps K H (ds.take n) (vs.take n)
 |_,_,0,_=>by simp;exact Reps.nil
 |[],_,n+1,h=>by rw[Reps.nil_iff.mp h];exact Reps.nil
 |d::ds,_,n+1,h=>by
  obtain⟨v,r,rfl,h1,h2⟩:=aD.mp h;exact Reps.cons h1 (Reps.take n h2)
theorem Reps.drop{K:Pl}{H:Hp}:∀{ds:ac}{vs:al}(n:Nat),Reps K H ds vs->Reps K H (ds.drop n) (vs.drop n)
 |_,_,0,h=>by simpa using h
 |[],_,n+1,h=>by rw[Reps.nil_iff.mp h];exact Reps.nil
 |d::ds,_,n+1,h=>by
  obtain⟨v,r,rfl,h1,h2⟩:=aD.mp h;exact Reps.drop n h2
theorem tN{K:Pl}{H:Hp}:∀(ns:List Int),Reps K H (ns.map D.int) (ns.map V.int)
 |[]=>Reps.nil
 |n::r=>Reps.cons (az.mpr rfl) (tN r)
structure bq (H Ha H' Ha':Hp):Prop where
 s:aF H H'
 z:aF Ha Ha'
 sub:aF Ha' H'
 nw:∀a,Ha' a≠none->Ha a=none->H a=none
def bq.refl{H Ha:Hp}(h:aF Ha H):bq H Ha H Ha:=⟨aF.refl _,aF.refl _,h,λa h1 h2=>absurd h2 h1⟩
theorem bq.trans{H Ha H1 H01 H2 H02:Hp}(a:bq H Ha H1 H01)(b:bq H1 H01 H2 H02):bq H Ha H2 H02 :=
 ⟨a.s.trans b.s,a.z.trans b.z,b.sub,λx h1 h2=>by
  cases q:H01 x with
  |none=>exact a.s.free (b.nw x h1 q)
  |some o=>exact a.nw x (by rw[q];simp) h2⟩
def aX{H Ha:Hp}{p:Pg}{o:HO}(hs:aF Ha H)(hp:H p=none):bq H Ha (upd H p o) (upd Ha p o) :=
 ⟨same_new hp o,same_new (hs.free hp) o,λb u e=>by
  by_cases hb:b=p
  .subst hb;rw[ay]at e ⊢;exact e
  .rw[ax hb]at e ⊢;exact hs _ _ e,λa h1 h2=>by
  by_cases hb:a=p
  .subst hb;exact hp
  .rw[ax hb]at h1;exact absurd h2 h1⟩
where
 same_new {H:Hp}{p:Pg}(h:H p=none) (o:HO):aF H (upd H p o):=λb u q=>by rw[ax (bj q h)];exact q
inductive Sl where
 |no|sh (d:D)|ow (d:D)|ox (j:Nat) (ds:ac)|pt (a:Pg)
abbrev Ev:=List Sl
abbrev am:=Ev->aj D
def fU(K:Pl)(Ha:Hp)(σ:L2.St)(ρ:Ev):Prop:=∀(i:Nat) (d:D),ρ[i]?=some (.sh d)->∃v,σ[i]?=some (some v)/\Rep K Ha d v
def fU.mono{K:Pl}{H H':Hp}{σ:L2.St}{ρ:Ev}(e:aF H H')(r:fU K H σ ρ):fU K H' σ ρ:=λi d h=>
 let ⟨v,h1,h2⟩:=r i d h
 ⟨v,h1,h2.mono e⟩
def wY(K:Pl)(H:Hp)(x:IU)(C:Pd)(ox:Option Pg):Prop :=
 (∃c,C=.ref c/\XC K x.cls c)/\match ox with
  |none=>x.flds=[]
  |some a=>∃fs,H a=some (.xd fs)/\∀n d,x.flds.lookup n=some d->∃v,fs.lookup n=some v/\Rep K H d v
def post(K:Pl)(E:XK)(H Ha:Hp)(r:aj D)(Q:VK):Prop:=match r with
 |.ok d=>∀v H' Ha',bq H Ha H' Ha'->Rep K Ha' d v->Q v H'
 |.exn x=>∀C ox H' Ha',bq H Ha H' Ha'->wY K Ha' x C ox->E C ox H'
 |.stuck=>False
def sC(K:Pl)(E:XK)(H Ha:Hp)(r:aj (ac))(Q:al->Hp->Prop):Prop:=match r with
 |.ok ds=>∀vs H' Ha',bq H Ha H' Ha'->Reps K Ha' ds vs->Q vs H'
 |.exn x=>∀C ox H' Ha',bq H Ha H' Ha'->wY K Ha' x C ox->E C ox H'
 |.stuck=>False
def pK(K:Pl)(E:XK)(H Ha:Hp)(r:aj D)(Q:Bool->Hp->Prop):Prop:=match r with
 |.ok (.bl b)=>∀H' Ha',bq H Ha H' Ha'->Q b H'
 |.ok _=>False
 |.exn x=>∀C ox H' Ha',bq H Ha H' Ha'->wY K Ha' x C ox->E C ox H'
 |.stuck=>False
section
variable {K:Pl}{E:XK}{H Ha H1 H01:Hp}
def post.grow{r:aj D}{Q:VK}(h:post K E H Ha r Q)(g:bq H Ha H1 H01):post K E H1 H01 r Q:=by
 cases r with|ok d=>exact λv H' Ha' g'=>h v H' Ha' (g.trans g')|exn x=>exact λC ox H' Ha' g'=>h C ox H' Ha' (g.trans g')|stuck=>exact h
def sC.grow{r:aj (ac)}{Q:al->Hp->Prop}(h:sC K E H Ha r Q)(g:bq H Ha H1 H01):sC K E H1 H01 r Q:=by
 cases r with|ok d=>exact λv H' Ha' g'=>h v H' Ha' (g.trans g')|exn x=>exact λC ox H' Ha' g'=>h C ox H' Ha' (g.trans g')|stuck=>exact h
def pK.grow{r:aj D}{Q:Bool->Hp->Prop}(h:pK K E H Ha r Q)(g:bq H Ha H1 H01):pK K E H1 H01 r Q:=by
 cases r with
 |ok d=>
  cases d with|bl b=>exact λH' Ha' g'=>h H' Ha' (g.trans g')| _=>exact h
 |exn x=>exact λC ox H' Ha' g'=>h C ox H' Ha' (g.trans g')
 |stuck=>exact h
end
def tD(K:Pl)(E:XK)(f:am):TE:=λσ H Q=>∃Ha ρ,aF Ha H/\fU K Ha σ ρ/\post K E H Ha (f ρ) Q
def OE(K:Pl)(E:XK)(f:Ev->aj (ac)):TA:=λσ H Q=>∃Ha ρ,aF Ha H/\fU K Ha σ ρ/\sC K E H Ha (f ρ) Q
def Ll(K:Pl)(E:XK)(f:am):TT:=λσ H Q=>∃Ha ρ,aF Ha H/\fU K Ha σ ρ/\pK K E H Ha (f ρ) Q
structure DE (X:Cx) (E:XK) (e:Qe) (f:am):Prop where
 o:PE X e (tD X.K E f)
structure DA (X:Cx) (E:XK) (es:List Qe) (f:Ev->aj (ac)):Prop where
 o:PA X es (OE X.K E f)
structure DT (X:Cx) (E:XK) (e:Qe) (f:am):Prop where
 o:PT X e (Ll X.K E f)
structure DW (X:Cx) (E:XK) (e:Qe) (f:am):Prop where
 o:PW X e (Ll X.K E f)
section
variable {X:Cx}{E:XK}{e a b:Qe}{es:List Qe}{f g:am}{fa:Ev->aj (ac)}{pos:Pos}
def bh{t t':TE}(h:PE X e t)(w:∀σ H Q,t' σ H Q->t σ H Q):PE X e t':=λπ s σ H Q I q=>h π s σ H Q I (w σ H Q q)
def y0{t t':TA}(h:PA X es t)(w:∀σ H Q,t' σ H Q->t σ H Q):PA X es t':=λpos π s σ H Q I q=>h pos π s σ H Q I (w σ H Q q)
def oN{t t':TT}(h:PT X e t)(w:∀σ H Q,t' σ H Q->t σ H Q):PT X e t':=λπ s σ H Q I q=>h π s σ H Q I (w σ H Q q)
def yS{t t':TT}(h:PW X e t)(w:∀σ H Q,t' σ H Q->t σ H Q):PW X e t':=λwh π s σ H Q I q=>h wh π s σ H Q I (w σ H Q q)
def ae(i:Nat):am:=λρ=>match ρ[i]? with
 |some (.sh d)=>.ok d
 |_=>.stuck
def dC(d:D):am:=λ_=>.ok d
def K2{i:Nat}{x:Pj}(hN:X.N[i]?=some x)(hv:wJ X.env.scope x)(hd:(x==("__debug__" : Pj))=false:=by decide)(hcd:(x==("__classdict__" : Pj))=false:=by decide):DE X E (.Name x pos) (ae i):=by
 refine⟨?_⟩;refine bh (gE hN hv hd hcd) λσ H Q ⟨Ha,ρ,hs,hr,q⟩=>?_;unfold ae at q;cases e:ρ[i]? with
 |none=>rw[e]at q;exact q.elim
 |some s=>
  rw[e]at q;cases s with
  |sh d=>
   obtain⟨v,e1,e2⟩:=hr i d e;exact⟨v,e1,q v H Ha (bq.refl hs) e2⟩
  |no|ow d|ox j ds|pt a=>exact q.elim
def ai{i j}:DE X E (.Constant (.int i) j pos) (dC (.int i)):=⟨bh uh λσ H Q ⟨Ha,ρ,hs,hr,q⟩=>q _ H Ha (bq.refl hs) (az.mpr rfl)⟩
def eK{i j}:DE X E (.Constant (.bool i) j pos) (dC (.bl i)):=⟨bh Mq λσ H Q ⟨Ha,ρ,hs,hr,q⟩=>q _ H Ha (bq.refl hs) (aC.mpr rfl)⟩
def cH{j}:DE X E (.Constant .none j pos) (dC .non):=⟨bh xE λσ H Q ⟨Ha,ρ,hs,hr,q⟩=>q _ H Ha (bq.refl hs) (aN.mpr rfl)⟩
def aL{x j}:DE X E (.Constant (.str x) j pos) (dC (.str x)):=⟨bh JW λσ H Q ⟨Ha,ρ,hs,hr,q⟩=>q _ H Ha (bq.refl hs) (Rep.str_iff.mpr rfl)⟩
def Hy{x:Pj}{v:V}{u:Pd}{d:D}(hg:Gl X x)(hm:X.mg x=some u)(r:bS v u)(hr:∀H,Rep X.K H d v)(hd:(x==("__debug__" : Pj))=false:=by decide):DE X E (.Name x pos) (dC d) :=
 ⟨bh (yW hg hm r hd) λσ H Q ⟨Ha,ρ,hs,hr',q⟩=>q _ H Ha (bq.refl hs) (hr Ha)⟩
def aa(f g:am)(op:D->D->aj D):am:=λρ=>(f ρ).bind λx=>(g ρ).bind λy=>op x y
def aW(f:am)(op:D->aj D):am:=λρ=>(f ρ).bind op
def zS(K:Pl)(E:XK)(r:R2)(op:D->D->aj D):Prop:=∀(x y:D) (v u:V) (H Ha:Hp) (Q:VK),aF Ha H->Rep K Ha x v->Rep K Ha y u->post K E H Ha (op x y) Q->r v u H Q
def kA{r:R2}{op:D->D->aj D}(ho:zS X.K E r op)(σ:L2.St)(H:Hp)(Q:VK)(h:tD X.K E (aa f g op) σ H Q):LM r (tD X.K E f) (tD X.K E g) σ H Q:=by
 obtain⟨Ha,ρ,hs,hr,q⟩:=h;refine⟨Ha,ρ,hs,hr,?_⟩;unfold aa at q;cases e1:f ρ with
 |stuck|exn x=>rw[e1]at q;exact q
 |ok x=>
  rw[e1]at q;intro v H1 H01 g1 r1;refine⟨H01,ρ,g1.sub,hr.mono g1.z,?_⟩;replace q:post X.K E H Ha ((g ρ).bind λy=>op x y) Q:=q;replace q:=q.grow g1;cases e2:g ρ with
  |stuck|exn x=>rw[e2]at q;exact q
  |ok y=>
   rw[e2]at q;intro u H2 H02 g2 r2;exact ho x y v u H2 H02 Q g2.sub (r1.mono g2.z) r2 (post.grow (r:=op x y) q g2)
def sX{op:Operator}{r:R2}{o:D->D->aj D}(h:gK X (binaryOp op) r)(ho:zS X.K E r o)(ha:DE X E a f)(hb:DE X E b g):DE X E (.BinOp a op b pos) (aa f g o) :=
 ⟨bh (Ih h ha.o hb.o) (kA ho)⟩
def cz{op:CmpOp}{r:R2}{o:D->D->aj D}(h:gK X (QF op) r)(ho:zS X.K E r o)(ha:DE X E a f)(hb:DE X E b g)(hm:behindInMarks op b=false):DE X E (.Compare a [op] [b] pos) (aa f g o) :=
 ⟨bh (FR h ha.o hb.o hm) (kA ho)⟩
def M9{r:R2}{o:D->D->aj D}(h:EL X r)(ho:zS X.K E r o)(ha:DE X E a f)(hb:DE X E b g)(hs:kZ b):DE X E (.Subscript a b pos) (aa f g o) :=
 ⟨bh (yV h ha.o hb.o hs) (kA ho)⟩
def Pc(K:Pl)(E:XK)(r:V->Hp->VK->Prop)(op:D->aj D):Prop:=∀(x:D) (v:V) (H Ha:Hp) (Q:VK),aF Ha H->Rep K Ha x v->post K E H Ha (op x) Q->r v H Q
def M8{op:UnaryOp}{r:V->Hp->VK->Prop}{o:D->aj D}(h:Ny X (unaryOp op) r)(ho:Pc X.K E r o)(ha:DE X E a f):DE X E (.UnaryOp op a pos) (aW f o):=by
 refine⟨?_⟩;refine bh (Mo h ha.o) λσ H Q z9=>?_;obtain⟨Ha,ρ,hs,hr,q⟩:=z9;refine⟨Ha,ρ,hs,hr,?_⟩
 unfold aW at q;cases e1:f ρ with
 |stuck|exn x=>rw[e1]at q;exact q
 |ok x=>
  rw[e1]at q;intro v H1 H01 g1 r1;exact ho x v H1 H01 Q g1.sub r1 (post.grow (r:=o x) q g1)
def av:Ev->aj (ac):=λ_=>.ok []
def ag(f:am)(fa:Ev->aj (ac)):Ev->aj (ac):=λρ=>(f ρ).bind λx=>(fa ρ).bind λxs=>.ok (x::xs)
def ao:DA X E [] av:=⟨y0 dD λσ H Q ⟨Ha,ρ,hs,hr,q⟩=>q [] H Ha (bq.refl hs) Reps.nil⟩
def af(ha:DE X E e f)(hr:DA X E es fa)(hs:Po (e::es) X.env=(false,eval e X.env)::Po es X.env:=by exact aI rfl):DA X E (e::es) (ag f fa):=by
 refine⟨?_⟩;refine y0 (b8 ha.o hr.o hs) λσ H Q z9=>?_;obtain⟨Ha,ρ,hs,hr,q⟩:=z9;refine⟨Ha,ρ,hs,hr,?_⟩
 unfold ag at q;cases e1:f ρ with
 |stuck|exn x=>rw[e1]at q;exact q
 |ok x=>
  rw[e1]at q;intro v H1 H01 g1 r1;refine⟨H01,ρ,g1.sub,hr.mono g1.z,?_⟩;replace q:sC X.K E H Ha ((fa ρ).bind λxs=>.ok (x::xs)) Q:=q;replace q:=q.grow g1;cases e2:fa ρ with
  |stuck|exn x=>rw[e2]at q;exact q
  |ok xs=>
   rw[e2]at q;intro us H2 H02 g2 r2;exact q (v::us) H2 H02 g2 (Reps.cons (r1.mono g2.z) r2)
def line:Nat:=1000000
def fJ{n:Nat}(h:n<=line):n<=sizeLine:=PB h (by decide)
def ak(fa:Ev->aj (ac))(m:ac->aj D):am:=λρ=>(fa ρ).bind m
def j6:ac->aj D:=λds=>if ds.length<=line then .ok (.tup ds) else .stuck
def cY:ac->aj D:=λds=>if ds.length<=line then .ok (.lst ds) else .stuck
def kW{m:ac->aj D}{r:al->Hp->VK->Prop}(ho:∀(ds:ac) (vs:al) (H Ha:Hp) (Q:VK),aF Ha H->Reps X.K Ha ds vs->post X.K E H Ha (m ds) Q->r vs H Q)
  (σ:L2.St)(H:Hp)(Q:VK)(h:tD X.K E (ak fa m) σ H Q):OE X.K E fa σ H λvs H1=>r vs H1 Q:=by
 obtain⟨Ha,ρ,hs,hr,q⟩:=h;refine⟨Ha,ρ,hs,hr,?_⟩;unfold ak at q;cases e1:fa ρ with
 |stuck|exn x=>rw[e1]at q;exact q
 |ok x=>
  rw[e1]at q;intro v H1 H01 g1 r1;exact ho x v H1 H01 Q g1.sub r1 (post.grow (r:=m x) q g1)
def kl{x1}(h:DA X E es fa):DE X E (.Tuple es x1 pos) (ak fa j6):=by
 refine⟨?_⟩;refine bh (ug h.o) (kW (r:=λxs H1 Q=>xs.length<=sizeLine/\∀p,H1 p=none->Q (.ref p) (upd H1 p (.tup xs))) λds vs H Ha Q hs hr q=>?_);unfold j6 at q
 by_cases hl:ds.length<=line
 .rw[if_pos hl]at q
  refine⟨by rw[←hr.length];exact fJ hl,λp hp=>q _ _ _ (aX hs hp) (aJ.mpr ⟨p,vs,rfl,lT.of ay,hr.mono (aX hs hp).z⟩)⟩
 .rw[if_neg hl]at q;exact q.elim
def cm(h:DA X E es fa):DE X E (.List es pos) (ak fa cY):=by
 refine⟨?_⟩;refine bh (jT h.o) (kW (r:=λxs H1 Q=>xs.length<=sizeLine/\∀p,H1 p=none->Q (.ref p) (upd H1 p (.lst xs))) λds vs H Ha Q hs hr q=>?_);unfold cY at q
 by_cases hl:ds.length<=line
 .rw[if_pos hl]at q
  refine⟨by rw[←hr.length];exact fJ hl,λp hp=>q _ _ _ (aX hs hp) (aH.mpr ⟨p,vs,rfl,gJ.of ay,hr.mono (aX hs hp).z⟩)⟩
 .rw[if_neg hl]at q;exact q.elim
def spD(K:Pl)(n:Nat)(m:ac->aj D):Sp:=λvs H Q E=>vs.length=n/\∃Ha ds,aF Ha H/\Reps K Ha ds vs/\post K E H Ha (m ds) Q
def HA{CX:rR}{k n:Nat}{fn:Pg}{fd:Qo}{ps:bv}{m:ac->aj D}{x:Pj}{p:Pos}(F:FnOk X.prog X.w X.K X.mg X.base CX k fn fd ps (spD X.K n m))(hr:dz k X.A)(hg:Gl X x)(hm:X.mg x=some (.ref fn))
  (hk:R1 X.K (.ref fn)=true)(hb:fV X.K fd ps [])(hx:gH CX X E)(ha:DA X E (e::es) fa)(hn:(e::es).length=n:=by rfl)(hl:∀ρ ds,fa ρ=.ok ds->ds.length=(e::es).length)
  (hdb:(x==("__debug__" : Pj))=false:=by decide)(he:Po (e::es) X.env=(false,eval e X.env)::Po es X.env:=by exact aI rfl)(hpl:(Qy pos (Po es X.env)).any (·.1)=false:=by exact bB rfl) :
  DE X E (.Call (.Name x p) (e::es) [] pos) (ak fa m):=by
 refine⟨?_⟩;refine bh (yX F hr hg hm hk hb .nil hx ha.o hdb he hpl) λσ H Q h=>?_;obtain⟨Ha,ρ,hs,hr,q⟩:=h;refine⟨Ha,ρ,hs,hr,?_⟩;unfold ak at q;cases e1:fa ρ with
 |stuck|exn x=>rw[e1]at q;exact q
 |ok ds=>
  rw[e1]at q;intro v H1 H01 g1 r1;refine⟨?_,H01,ds,g1.sub,by simpa using r1,post.grow (r:=m ds) q g1⟩;have:=r1.length;have:=hl ρ ds e1;simp only[Rr];omega
def Eo{ρ:Ev}{ds:ac}(h:av ρ=.ok ds):ds.length=0:=by cases h;rfl
def kX{ρ:Ev}{ds:ac}{n:Nat}(hr:∀es,fa ρ=.ok es->es.length=n)(h:ag f fa ρ=.ok ds):ds.length=n+1:=by
 unfold ag at h;cases e1:f ρ with
 |stuck|exn x=>rw[e1]at h;cases h
 |ok x=>
  rw[e1]at h;replace h:((fa ρ).bind λxs=>aj.ok (x::xs))=.ok ds:=h;cases e2:fa ρ with
  |stuck|exn x=>rw[e2]at h;cases h
  |ok xs=>
   rw[e2]at h;cases h;simp[hr xs e2]
def kv(X:Cx)(E:XK)(r:al->Hp->VK->Prop)(m:ac->aj D):Prop:=∀(ds:ac) (vs:al) (H Ha:Hp) (Q:VK),aF Ha H->Reps X.K Ha ds vs->post X.K E H Ha (m ds) Q->r vs H Q
def aK{id:String}{r:al->Hp->VK->Prop}{m:ac->aj D}{x:Pj}{p:Pos}(hc:jc X (.builtin id) r)(hd:kv X E r m)(hg:Gl X x)(hm:X.mg x=none)(hv:bootBuiltins x=some (.builtin id))(ha:DA X E (e::es) fa)(hn:x≠"__name__":=by decide)(hdb:(x==("__debug__" : Pj))=false:=by decide)
  (he:Po (e::es) X.env=(false,eval e X.env)::Po es X.env:=by exact aI rfl)(hpl:(Qy pos (Po es X.env)).any (·.1)=false:=by exact bB rfl):DE X E (.Call (.Name x p) (e::es) [] pos) (ak fa m) :=
 ⟨bh (pP hc hg hm hv ha.o hn hdb he hpl) (kW hd)⟩
def D2(h:PT X e (tB (tD X.K E f))):DT X E e f:=by
 refine⟨?_⟩;refine oN h λσ H Q z9=>?_;obtain⟨Ha,ρ,hs,hr,q⟩:=z9;refine⟨Ha,ρ,hs,hr,?_⟩
 cases e1:f ρ with
 |stuck|exn x=>rw[e1]at q;exact q
 |ok d=>
  rw[e1]at q;intro v H1 H01 g1 r1;cases d with|bl b=>rw[aC.mp r1];exact⟨b,rfl,q H1 H01 g1⟩| _=>exact q.elim
def ck(h:DE X E e f)(he:∀whole,isTrue e X.env whole=(do let v ←whole;standAt e.pos;Uw [v] (truthy v)):=by intro _;rfl):DT X E e f:=D2 (Cs h.o he)
def aB{op:CmpOp}{r:R2}{o:D->D->aj D}(h:gK X (QF op) r)(ho:zS X.K E r o)(ha:DE X E a f)(hb:DE X E b g)(hm:behindInMarks op b=false):DT X E (.Compare a [op] [b] pos) (aa f g o):=by
 refine⟨?_⟩;refine oN (FG h ha.o hb.o hm) λσ H Q h=>?_;have w:tD X.K E (aa f g o) σ H λx H'=>∃k,x=.bl k/\Q k H':=by
  obtain⟨Ha,ρ,hs,hr,q⟩:=h;refine⟨Ha,ρ,hs,hr,?_⟩;cases e1:aa f g o ρ with
  |stuck|exn x=>rw[e1]at q;exact q
  |ok d=>
   rw[e1]at q;intro v H1 H01 g1 r1;cases d with|bl b=>rw[aC.mp r1];exact⟨b,rfl,q H1 H01 g1⟩| _=>exact q.elim
 exact kA ho σ H _ w
def cB(f:am):am:=aW f λx=>match x with
 |.bl b=>.ok (.bl (!b))
 |_=>.stuck
def dm(f g:am):am:=λρ=>(f ρ).bind λx=>match x with
 |.bl true=>g ρ
 |.bl false=>.ok (.bl false)
 |_=>.stuck
def eZ(f g:am):am:=λρ=>(f ρ).bind λx=>match x with
 |.bl true=>.ok (.bl true)
 |.bl false=>g ρ
 |_=>.stuck
def cw(ha:DT X E a f):DT X E (.UnaryOp .Not a pos) (cB f):=by
 refine⟨?_⟩;refine oN (Ct ha.o) λσ H Q z9=>?_;obtain⟨Ha,ρ,hs,hr,q⟩:=z9;refine⟨Ha,ρ,hs,hr,?_⟩
 unfold cB aW at q;cases e1:f ρ with
 |stuck|exn x=>rw[e1]at q;exact q
 |ok d=>
  rw[e1]at q;cases d with|bl b=>exact q| _=>exact q.elim
def Ea(ha:DE X E a f):DE X E (.UnaryOp .Not a pos) (cB f):=by
 refine⟨?_⟩;refine bh (JY ha.o) λσ H Q z9=>?_;obtain⟨Ha,ρ,hs,hr,q⟩:=z9;refine⟨Ha,ρ,hs,hr,?_⟩
 unfold cB aW at q;cases e1:f ρ with
 |stuck|exn x=>rw[e1]at q;exact q
 |ok d=>
  rw[e1]at q;intro v H1 H01 g1 r1;cases d with|bl b=>rw[aC.mp r1];exact⟨b,rfl,q (.bl !b) H1 H01 g1 (aC.mpr rfl)⟩| _=>exact q.elim
variable {rest:List Qe}
def eI(ha:DT X E a f):DW X E (.BoolOp .And [a] pos) f:=⟨FF ha.o⟩
def aU(ha:DT X E a f):DW X E (.BoolOp .Or [a] pos) f:=⟨JL ha.o⟩
def kh(ha:DT X E a f)(hb:DW X E (.BoolOp .And (b::rest) pos) g):DW X E (.BoolOp .And (a::b::rest) pos) (dm f g):=by
 refine⟨?_⟩;refine yS (JM ha.o hb.o) λσ H Q z9=>?_;obtain⟨Ha,ρ,hs,hr,q⟩:=z9;refine⟨Ha,ρ,hs,hr,?_⟩
 unfold dm at q;cases e1:f ρ with
 |stuck|exn x=>rw[e1]at q;exact q
 |ok d=>
  rw[e1]at q;cases d with
  |bl b=>
   cases b with|true=>exact λH1 H01 g1=>⟨H01,ρ,g1.sub,hr.mono g1.z,pK.grow (r:=g ρ) q g1⟩|false=>exact λH1 H01 g1=>q H1 H01 g1
  |_=>exact q.elim
def bW(ha:DT X E a f)(hb:DW X E (.BoolOp .Or (b::rest) pos) g):DW X E (.BoolOp .Or (a::b::rest) pos) (eZ f g):=by
 refine⟨?_⟩;refine yS (Mi ha.o hb.o) λσ H Q z9=>?_;obtain⟨Ha,ρ,hs,hr,q⟩:=z9;refine⟨Ha,ρ,hs,hr,?_⟩
 unfold eZ at q;cases e1:f ρ with
 |stuck|exn x=>rw[e1]at q;exact q
 |ok d=>
  rw[e1]at q;cases d with
  |bl b=>
   cases b with|false=>exact λH1 H01 g1=>⟨H01,ρ,g1.sub,hr.mono g1.z,pK.grow (r:=g ρ) q g1⟩|true=>exact λH1 H01 g1=>q H1 H01 g1
  |_=>exact q.elim
def DW.dt(h:DW X E e f):DT X E e f:=⟨PW.pt h.o⟩
def eJ{op}(h:DE X E a f):DE X E (.BoolOp op [a] pos) f:=⟨CC h.o⟩
def dJ(ha:DE X E a f)(hb:DE X E (.BoolOp .And (b::rest) pos) g):DE X E (.BoolOp .And (a::b::rest) pos) (dm f g):=by
 refine⟨?_⟩;refine bh (CI ha.o hb.o) λσ H Q z9=>?_;obtain⟨Ha,ρ,hs,hr,q⟩:=z9;refine⟨Ha,ρ,hs,hr,?_⟩
 unfold dm at q;cases e1:f ρ with
 |stuck|exn x=>rw[e1]at q;exact q
 |ok d=>
  rw[e1]at q;intro v H1 H01 g1 r1;cases d with
  |bl b=>
   rw[aC.mp r1];cases b with|true=>exact⟨true,rfl,H01,ρ,g1.sub,hr.mono g1.z,post.grow (r:=g ρ) q g1⟩|false=>exact⟨false,rfl,q (.bl false) H1 H01 g1 (aC.mpr rfl)⟩
  |_=>exact q.elim
def II(ha:DE X E a f)(hb:DE X E (.BoolOp .Or (b::rest) pos) g):DE X E (.BoolOp .Or (a::b::rest) pos) (eZ f g):=by
 refine⟨?_⟩;refine bh (Mp ha.o hb.o) λσ H Q z9=>?_;obtain⟨Ha,ρ,hs,hr,q⟩:=z9;refine⟨Ha,ρ,hs,hr,?_⟩
 unfold eZ at q;cases e1:f ρ with
 |stuck|exn x=>rw[e1]at q;exact q
 |ok d=>
  rw[e1]at q;intro v H1 H01 g1 r1;cases d with
  |bl b=>
   rw[aC.mp r1];cases b with|false=>exact⟨false,rfl,H01,ρ,g1.sub,hr.mono g1.z,post.grow (r:=g ρ) q g1⟩|true=>exact⟨true,rfl,q (.bl true) H1 H01 g1 (aC.mpr rfl)⟩
  |_=>exact q.elim
def HB(c f g:am):am:=λρ=>(c ρ).bind λx=>match x with
 |.bl true=>f ρ
 |.bl false=>g ρ
 |_=>.stuck
def kn{c:Qe}{fc:am}(hc:DT X E c fc)(ha:DE X E a f)(hb:DE X E b g):DE X E (.IfExp c a b pos) (HB fc f g):=by
 refine⟨?_⟩;refine bh (CF hc.o ha.o hb.o) λσ H Q z9=>?_;obtain⟨Ha,ρ,hs,hr,q⟩:=z9;refine⟨Ha,ρ,hs,hr,?_⟩
 unfold HB at q;cases e1:fc ρ with
 |stuck|exn x=>rw[e1]at q;exact q
 |ok d=>
  rw[e1]at q;cases d with
  |bl b=>
   cases b with|true=>exact λH1 H01 g1=>⟨H01,ρ,g1.sub,hr.mono g1.z,post.grow (r:=f ρ) q g1⟩|false=>exact λH1 H01 g1=>⟨H01,ρ,g1.sub,hr.mono g1.z,post.grow (r:=g ρ) q g1⟩
  |_=>exact q.elim
end
noncomputable def Ox(K:Pl) (Ha H:Hp) (a:Pg) (d:D):Prop:=match d with
 |.lst ds=>∃vs,H a=some (.lst vs)/\Reps K Ha ds vs
 |.dic ks ds=>∃vs,H a=some (.dK ((ks.map SJ).zip vs))/\ks.length=vs.length/\Reps K Ha ds vs
 |.ob (.dint ks) ds=>∃vs,H a=some (.dK ((ks.map SK).zip vs))/\ks.length=vs.length/\Reps K Ha ds vs
 |_=>False
def ue(j k:Nat):Bool:=if j=99 then decide (k<=1) else k==j
noncomputable def NA(K:Pl) (He Ha H:Hp) (a:Pg) (j:Nat) (ds:ac) (P:Nat->Pg):Prop:=∃vs,He a=none/\H a=some (.tup vs)/\ds.length=vs.length /\
 (∀k,ue j k=true->∃es us,He (P k)=none/\Ha (P k)=none/\ds[k]?=some (.lst es)/\vs[k]?=some (.ref (P k))/\H (P k)=some (.lst us)/\Reps K Ha es us) /\
 (∀k l,ue j k=true->ue j l=true->P k=P l->k=l)/\∀k d v,ue j k=false->ds[k]?=some d->vs[k]?=some v->Rep K Ha d v
noncomputable def OX(K:Pl) (He Ha:Hp) (σ:L2.St) (H:Hp) (ρ:Ev):Prop:=(∀(i j:Nat) (ds:ac),ρ[i]?=some (.ox j ds)->∃a P,σ[i]?=some (some (.ref a))/\NA K He Ha H a j ds P/\(∀(k:Nat) (d:D) (l:Nat),ue j l=true->ρ[k]?=some (.ow d)->σ[k]?≠some (some (.ref (P l))))/\∀(k j':Nat) (ds':ac),ρ[k]?=some (.ox j' ds')->k=i)/\∀(i:Nat) (a:Pg),ρ[i]?=some (.pt a)->σ[i]?=some (some (.ref a))
def OX.upd{K:Pl}{He Ha Ha' H H':Hp}{σ σ':L2.St}{ρ ρ':Ev}(h:OX K He Ha σ H ρ)
  (hk:∀(j:Nat) (s:Sl),ρ'[j]?=some s->(ρ[j]?=some s/\σ'[j]?=σ[j]?)∨(∃d,s=.sh d)∨s=.no∨∃d q,s=.ow d/\σ'[j]?=some (some (.ref q))/\∀(i j:Nat) (ds:ac) (a:Pg) (P:Nat->Pg),ρ[i]?=some (.ox j ds)->σ[i]?=some (some (.ref a))->NA K He Ha H a j ds P->∀l,ue j l=true->q≠P l)
  (hz:aF Ha Ha')(ht:∀a vs,He a=none->H a=some (.tup vs)->H' a=some (.tup vs))
  (hl:∀p us,He p=none->Ha p=none->H p=some (.lst us)->(∀(k:Nat) (d:D),ρ[k]?=some (.ow d)->σ[k]?≠some (some (.ref p)))->H' p=some (.lst us)/\Ha' p=none):OX K He Ha' σ' H' ρ':=by
 refine⟨λi j ds e=>?_,λi a e=>?_⟩
 rotate_left
 .rcases hk i _ e with h1|⟨d,h1⟩|h1|⟨d,q,h1,_⟩
  .rw[h1.2];exact h.2 i a h1.1
  .cases h1
  .cases h1
  .cases h1
 have old:ρ[i]?=some (.ox j ds)/\σ'[i]?=σ[i]?:=by
  rcases hk i _ e with h1|⟨d,h1⟩|h1|⟨d,q,h1,_⟩
  .exact h1
  .cases h1
  .cases h1
  .cases h1
 obtain⟨a,P,h1,h2,h3,h4⟩:=h.1 i j ds old.1;have h2':=h2;obtain⟨vs,r1,r2,r3,r4,r5,r6⟩:=h2;refine⟨a,P,old.2.trans h1,⟨vs,r1,ht a vs r1 r2,r3,λk ok=>?_,r5,λk d v hk e1 e2=>(r6 k d v hk e1 e2).mono hz⟩,λk d l ok ek z=>?_,λk j' ds' ek=>?_⟩
 .obtain⟨es,us,q1,q2,q3,q4,q5,q6⟩:=r4 k ok
  obtain⟨l1,l2⟩:=hl (P k) us q1 q2 q5 λm d em=>h3 m d k ok em;exact⟨es,us,q1,l2,q3,q4,l1,q6.mono hz⟩
 .rcases hk k _ ek with h1'|⟨d',h1'⟩|h1'|⟨d',q,h1',h2'',h3'⟩
  .exact h3 k d l ok h1'.1 (by rw[←h1'.2];exact z)
  .cases h1'
  .cases h1'
  .rw[h2'']at z
   cases z;exact h3' i j ds a P old.1 h1 h2' l ok rfl
 .rcases hk k _ ek with h1'|⟨d',h1'⟩|h1'|⟨d',q,h1',_⟩
  .exact h4 k j' ds' h1'.1
  .cases h1'
  .cases h1'
  .cases h1'
def OX.none{K:Pl}{He Ha H:Hp}{σ:L2.St}{ρ:Ev}(h:∀(i j:Nat) (ds:ac),ρ[i]?≠some (.ox j ds))(h':∀(i:Nat) (a:Pg),ρ[i]?=some (.pt a)->σ[i]?=some (some (.ref a))):OX K He Ha σ H ρ:=⟨λi j ds e=>absurd e (h i j ds),h'⟩
theorem yP{K:Pl}{H:Hp}:∀{ds:ac}{vs:al},ds.length=vs.length->(∀(k:Nat) (d:D) (v:V),ds[k]?=some d->vs[k]?=some v->Rep K H d v)->Reps K H ds vs
 |[],[],_,_=>Reps.nil
 |d::ds,v::vs,hl,h=>Reps.cons (h 0 d v rfl rfl) (yP (by simpa using hl) λk d' v' e1 e2=>h (k+1) d' v' e1 e2)
structure fT (K:Pl) (He η Ha:Hp) (σ:L2.St) (H:Hp) (ρ:Ev):Prop where
 g:bq He η H Ha
 rd:fU K Ha σ ρ
 ow:∀(i:Nat) (d:D),ρ[i]?=some (.ow d)->∃a,σ[i]?=some (some (.ref a))/\He a=none/\Ha a=none/\Ox K Ha H a d
 ap:∀(i j:Nat) (d d':D),i≠j->ρ[i]?=some (.ow d)->ρ[j]?=some (.ow d')->σ[i]?≠σ[j]?
 ln:ρ.length=σ.length
 ex:OX K He Ha σ H ρ
inductive Fl where
 |nx (ρ:Ev)|rt (d:D)|bk (ρ:Ev)|ct (ρ:Ev)
abbrev bd:=Ev->aj Fl
noncomputable def cu(K:Pl) (E:XK) (He η Ha:Hp) (r:aj Fl) (D:gI):Prop:=match r with
 |.ok (.nx ρ)=>∀σ H Ha',aF Ha Ha'->fT K He η Ha' σ H ρ->D.nx σ H
 |.ok (.rt d)=>∀v H Ha',bq He η H Ha'->Rep K Ha' d v->D.rt v H
 |.ok (.bk ρ)=>∀σ H Ha',aF Ha Ha'->fT K He η Ha' σ H ρ->D.bk σ H
 |.ok (.ct ρ)=>∀σ H Ha',aF Ha Ha'->fT K He η Ha' σ H ρ->D.ct σ H
 |.exn x=>∀C ox H Ha',bq He η H Ha'->wY K Ha' x C ox->E C ox H
 |.stuck=>False
def cu.grow{K:Pl}{E:XK}{He η Ha Hb:Hp}{r:aj Fl}{D:gI}(h:cu K E He η Ha r D)(s:aF Ha Hb):cu K E He η Hb r D:=by
 cases r with
 |ok f=>
  cases f with|nx ρ=>exact λσ H Ha' s'=>h σ H Ha' (s.trans s')|rt d=>exact h|bk ρ=>exact λσ H Ha' s'=>h σ H Ha' (s.trans s')|ct ρ=>exact λσ H Ha' s'=>h σ H Ha' (s.trans s')
 |exn x=>exact h
 |stuck=>exact h
def tS(K:Pl)(E:XK)(He η:Hp)(g:bd):TS:=λD σ H=>∃Ha ρ,fT K He η Ha σ H ρ/\cu K E He η Ha (g ρ) D
structure DS (X:Cx) (E:XK) (He η:Hp) (st:QQ) (g:bd):Prop where
 o:PS X st (tS X.K E He η g)
structure yB (X:Cx) (E:XK) (He η:Hp) (st:List QQ) (g:bd):Prop where
 o:rP X st (tS X.K E He η g)
def kE(ρ:Ev):Ev:=ρ.map λs=>match s with
 |.ow d=>.sh d
 |.ox _ ds=>.sh (.tup ds)
 |x=>x
def frz(He Ha H:Hp):Hp:=λa=>match He a with
 |none=>H a
 |some _=>Ha a
section
variable {K:Pl}{E:XK}{He η Ha H H1:Hp}{σ:L2.St}{ρ:Ev}
def fT.same(h:fT K He η Ha σ H ρ)(s:aF H H1):fT K He η Ha σ H1 ρ :=
 ⟨⟨h.g.s.trans s,h.g.z,h.g.sub.trans s,h.g.nw⟩,h.rd,λi d e=>by
  obtain⟨a,h1,h2,h3,h4⟩:=h.ow i d e;refine⟨a,h1,h2,h3,?_⟩;cases d with
  |lst ds=>obtain⟨vs,h5,h6⟩:=h4;exact⟨vs,s _ _ h5,h6⟩|dic ks ds=>obtain⟨vs,h5,hl,h6⟩:=h4;exact⟨vs,s _ _ h5,hl,h6⟩
  |ob kk ds=>
   cases kk with|dint ks=>obtain⟨vs,h5,hl,h6⟩:=h4;exact⟨vs,s _ _ h5,hl,h6⟩| _=>exact h4.elim
  |_=>exact h4,h.ap,h.ln,h.ex.upd (λj s' e=>.inl ⟨e,rfl⟩) (aF.refl _) (λa vs _ e=>s _ _ e) λp us _ h0 hp _=>⟨s _ _ hp,h0⟩⟩
def fT.grow{H01:Hp}(h:fT K He η Ha σ H ρ)(s:bq H Ha H1 H01):fT K He η H01 σ H1 ρ :=
 ⟨h.g.trans s,h.rd.mono s.z,λi d e=>by
  obtain⟨a,h1,h2,h3,h4⟩:=h.ow i d e;have ha:H01 a=none:=by
   cases q:H01 a with
   |none=>rfl
   |some o=>
    have:=s.nw a (by rw[q];simp) h3;cases d with
    |lst ds|dic ks ds=>obtain⟨vs,h5,_⟩:=h4;rw[h5]at this;cases this
    |ob kk ds=>
     cases kk with|dint ks=>obtain⟨vs,h5,_⟩:=h4;rw[h5]at this;cases this| _=>exact h4.elim
    |_=>exact h4.elim
  refine⟨a,h1,h2,ha,?_⟩;cases d with
  |lst ds=>obtain⟨vs,h5,h6⟩:=h4;exact⟨vs,s.s _ _ h5,h6.mono s.z⟩|dic ks ds=>obtain⟨vs,h5,hl,h6⟩:=h4;exact⟨vs,s.s _ _ h5,hl,h6.mono s.z⟩
  |ob kk ds=>
   cases kk with|dint ks=>obtain⟨vs,h5,hl,h6⟩:=h4;exact⟨vs,s.s _ _ h5,hl,h6.mono s.z⟩| _=>exact h4.elim
  |_=>exact h4,h.ap,h.ln,h.ex.upd (λj s' e=>.inl ⟨e,rfl⟩) s.z (λa vs _ e=>s.s _ _ e) λp us _ h0 hp _=>⟨s.s _ _ hp,by
   cases q:H01 p with
   |none=>rfl
   |some o=>have:=s.nw p (by rw[q];simp) h0;rw[hp]at this;cases this⟩⟩
def fT.frz_sub(h:fT K He η Ha σ H ρ):aF Ha (frz He Ha H):=λb o e=>by
 unfold frz;cases q:He b with|none=>exact h.g.sub _ _ e|some _=>exact e
def fT.frz_le(h:fT K He η Ha σ H ρ):aF (frz He Ha H) H:=λb o e=>by
 unfold frz at e;cases q:He b with|none=>rw[q]at e;exact e|some _=>rw[q]at e;exact h.g.sub _ _ e
theorem fT.frz_grow(h:fT K He η Ha σ H ρ):bq He η H (frz He Ha H) :=
 ⟨h.g.s,h.g.z.trans h.frz_sub,h.frz_le,λa h1 h2=>by
  cases q:He a with
  |none=>rfl
  |some o=>
   unfold frz at h1;rw[q]at h1;have:=h.g.nw a h1 h2;rw[q]at this;cases this⟩
def fT.looks(h:fT K He η Ha σ H ρ):fU K (frz He Ha H) σ (kE ρ):=λi d e=>by
 unfold kE at e;rw[P7]at e;cases q:ρ[i]? with
 |none=>rw[q]at e;cases e
 |some s=>
  rw[q]at e;cases s with
  |no|pt a=>cases e
  |sh d'=>
   cases e;obtain⟨v,h1,h2⟩:=h.rd i d q;exact⟨v,h1,h2.mono h.frz_sub⟩
  |ow d'=>
   cases e;obtain⟨a,h1,h2,h3,h4⟩:=h.ow i d q;refine⟨_,h1,?_⟩;cases d with
   |lst ds=>
    obtain⟨vs,h5,h6⟩:=h4;exact aH.mpr ⟨a,vs,rfl,gJ.of (by unfold frz;rw[h2];exact h5),h6.mono h.frz_sub⟩
   |dic ks ds=>
    obtain⟨vs,h5,hl,h6⟩:=h4;rw[Rep];exact⟨a,_,vs,rfl,.inl (by unfold frz;rw[h2];exact h5),rfl,hl,h6.mono h.frz_sub⟩
   |ob kk ds=>
    cases kk with
    |dint ks=>
     obtain⟨vs,h5,hl,h6⟩:=h4;exact cg.mpr ⟨a,vs,rfl,⟨_,.inl (by unfold frz;rw[h2];exact h5),rfl,hl⟩,h6.mono h.frz_sub⟩
    |_=>exact h4.elim
   |_=>exact h4.elim
  |ox j ds=>
   cases e;obtain⟨a,P,h1,⟨vs,r1,r2,r3,r4,r5,r6⟩,_⟩:=h.ex.1 i j ds q;refine⟨_,h1,aJ.mpr ⟨a,vs,rfl,lT.of (by unfold frz;rw[r1];exact r2),yP r3 λk d v e1 e2=>?_⟩⟩;cases hk:ue j k with
   |true=>
    obtain⟨es,us,q1,q2,q3,q4,q5,q6⟩:=r4 k hk;rw[q3]at e1;cases e1;rw[q4]at e2;cases e2;exact aH.mpr ⟨P k,us,rfl,gJ.of (by unfold frz;rw[q1];exact q5),q6.mono h.frz_sub⟩
   |false=>exact(r6 k d v hk e1 e2).mono h.frz_sub
def fT.put(h:fT K He η Ha σ H ρ){i:Nat}{d:D}{v:V}(r:Rep K Ha d v):fT K He η Ha (σ.set i (some v)) H (ρ.set i (.sh d)):=by
 have key:∀(j:Nat) (s:Sl),(ρ.set i (.sh d))[j]?=some s->(j=i/\s=.sh d/\i<σ.length)∨(j≠i/\ρ[j]?=some s):=λj s e=>by
  by_cases hj:i=j
  .subst hj
   rw[Sa]at e;cases q:ρ[i]? with
   |none=>rw[q]at e;cases e
   |some s'=>
    rw[q]at e;cases e;refine .inl ⟨rfl,rfl,?_⟩;rw[←h.ln];exact(PJ.mp q).1
  .rw[PD hj]at e
   exact .inr ⟨λz=>hj z.symm,e⟩
 refine⟨h.g,λj d' e=>?_,λj d' e=>?_,λj k d1 d2 hn e1 e2=>?_,by simp[h.ln],h.ex.upd (λj s e=>?_) (aF.refl _) (λa vs _ e=>e) λp us _ h0 hp _=>⟨hp,h0⟩⟩
 rotate_left 3
 .rcases key j _ e with⟨rfl,e',hl⟩|⟨hj,e'⟩
  .exact .inr (.inl ⟨d,e'⟩)
  .exact .inl ⟨e',by rw[PD (Qq hj)]⟩
 .rcases key j _ e with⟨rfl,e',hl⟩|⟨hj,e'⟩
  .cases e'
   exact⟨v,by rw[Qw hl],r⟩
  .obtain⟨v',h1,h2⟩:=h.rd j d' e'
   exact⟨v',by rw[PD (Qq hj)];exact h1,h2⟩
 .rcases key j _ e with⟨rfl,e',hl⟩|⟨hj,e'⟩
  .cases e'
  .obtain⟨a,h1,h2⟩:=h.ow j d' e'
   exact⟨a,by rw[PD (Qq hj)];exact h1,h2⟩
 .rcases key j _ e1 with⟨_,e',_⟩|⟨hj,e1'⟩
  .cases e'
  rcases key k _ e2 with⟨_,e',_⟩|⟨hk,e2'⟩
  .cases e'
  rw[PD (Qq hj),PD (Qq hk)];exact h.ap j k d1 d2 hn e1' e2'
def fT.putOwn(h:fT K He η Ha σ H ρ){i:Nat}{ds:ac}{vs:al}{p:Pg}(hp:∀(j:Nat) (a:Pg),σ[j]?=some (some (V.ref a))->a=p->∀d:D,ρ[j]?≠some (Sl.ow d))(he:He p=none)(h0:Ha p=none)(hv:H p=some (.lst vs))(r:Reps K Ha ds vs)(hx:∀(i j:Nat) (ds:ac) (a:Pg) (P:Nat->Pg),ρ[i]?=some (.ox j ds)->σ[i]?=some (some (.ref a))->NA K He Ha H a j ds P->∀l,ue j l=true->p≠P l) :
  fT K He η Ha (σ.set i (some (.ref p))) H (ρ.set i (.ow (.lst ds))):=by
 have key:∀(j:Nat) (s:Sl),(ρ.set i (.ow (.lst ds)))[j]?=some s->(j=i/\s=.ow (.lst ds)/\i<σ.length)∨(j≠i/\ρ[j]?=some s):=λj s e=>by
  by_cases hj:i=j
  .subst hj
   rw[Sa]at e;cases q:ρ[i]? with
   |none=>rw[q]at e;cases e
   |some s'=>
    rw[q]at e;cases e;refine .inl ⟨rfl,rfl,?_⟩;rw[←h.ln];exact(PJ.mp q).1
  .rw[PD hj]at e
   exact .inr ⟨λz=>hj z.symm,e⟩
 have other:∀(k:Nat) (d2:D),k≠i->ρ[k]?=some (.ow d2)->some (some (V.ref p))≠σ[k]?:=λk d2 hk e2 z=>by
  obtain⟨a,h1,_⟩:=h.ow k d2 e2;rw[h1]at z;cases z;exact hp k p h1 rfl d2 e2
 refine⟨h.g,λj d' e=>?_,λj d' e=>?_,λj k d1 d2 hn e1 e2=>?_,by simp[h.ln],h.ex.upd (λj s e=>?_) (aF.refl _) (λa vs _ e=>e) λp us _ h0 hp _=>⟨hp,h0⟩⟩
 rotate_left 3
 .rcases key j _ e with⟨rfl,e',hl⟩|⟨hj,e'⟩
  .exact .inr (.inr (.inr ⟨.lst ds,p,e',by rw[Qw hl],hx⟩))
  .exact .inl ⟨e',by rw[PD (Qq hj)]⟩
 .rcases key j _ e with⟨rfl,e',hl⟩|⟨hj,e'⟩
  .cases e'
  .obtain⟨v',h1,h2⟩:=h.rd j d' e'
   exact⟨v',by rw[PD (Qq hj)];exact h1,h2⟩
 .rcases key j _ e with⟨rfl,e',hl⟩|⟨hj,e'⟩
  .cases e'
   exact⟨p,by rw[Qw hl],he,h0,vs,hv,r⟩
  .obtain⟨a,h1,h2⟩:=h.ow j d' e'
   exact⟨a,by rw[PD (Qq hj)];exact h1,h2⟩
 .rcases key j _ e1 with⟨rfl,_,hl⟩|⟨hj,e1'⟩
  .rcases key k _ e2 with⟨rfl,_,_⟩|⟨hk,e2'⟩
   .exact absurd rfl hn
   .rw[Qw hl,PD (Qq hk)]
    exact other k d2 hk e2'
  .rcases key k _ e2 with⟨rfl,_,hl⟩|⟨hk,e2'⟩
   .rw[Qw hl,PD (Qq hj)]
    exact λz=>other j d1 hj e1' z.symm
   .rw[PD (Qq hj),PD (Qq hk)]
    exact h.ap j k d1 d2 hn e1' e2'
def fT.fresh_x{H01:Hp}{p:Pg}(h:fT K He η Ha σ H ρ)(s:aF H H1)(hp:H p=none):∀(i j:Nat) (ds:ac) (a:Pg) (P:Nat->Pg),ρ[i]?=some (.ox j ds)->σ[i]?=some (some (.ref a))->NA K He H01 H1 a j ds P->∀l,ue j l=true->p≠P l:=λi j ds a P x1 x2 x3 l ol=>by
 obtain⟨a2,P2,y1,⟨vs2,_,z3,_,y4,_⟩,_⟩:=h.ex.1 i j ds x1;rw[x2]at y1;cases y1;obtain⟨vs1,_,z1,_,y5,_⟩:=x3;have:=s _ _ z3;rw[z1]at this;cases this;obtain⟨_,us2,_,_,_,z4,z5,_⟩:=y4 l ol;obtain⟨_,_,_,_,_,z2,_⟩:=y5 l ol;rw[z2]at z4;injection z4 with z4;injection z4 with z4;intro z;rw[←z4,←z,hp]at z5;cases z5
def fT.write(h:fT K He η Ha σ H ρ){i:Nat}{d:D}{p:Pg}{ds:ac}{vs:al}(e:ρ[i]?=some (.ow d))(es:σ[i]?=some (some (.ref p)))(r:Reps K Ha ds vs) :
  fT K He η Ha σ (upd H p (.lst vs)) (ρ.set i (.ow (.lst ds))):=by
 obtain⟨a,h1,h2,h3,h4⟩:=h.ow i d e;rw[h1]at es;cases es;have hil:i<ρ.length:=(PJ.mp e).1;have key:∀(j:Nat) (s:Sl),(ρ.set i (.ow (.lst ds)))[j]?=some s->(j=i/\s=.ow (.lst ds))∨(j≠i/\ρ[j]?=some s):=λj s e=>by
  by_cases hj:i=j
  .subst hj
   rw[Qw hil]at e;cases e;exact .inl ⟨rfl,rfl⟩
  .rw[PD hj]at e
   exact .inr ⟨λz=>hj z.symm,e⟩
 refine⟨⟨λb o eb=>?_,h.g.z,λb o eb=>?_,h.g.nw⟩,λj d' e'=>?_,λj d' e'=>?_,λj k d1 d2 hn e1 e2=>?_,by simp[h.ln],h.ex.upd (λj s e'=>?_) (aF.refl _) (λb us _ eb=>?_) λq us _ q0 hq hd=>?_⟩
 rotate_left 5
 .rcases key j _ e' with⟨rfl,e''⟩|⟨hj,e''⟩
  .exact .inr (.inr (.inr ⟨.lst ds,p,e'',h1,λi' j' ds' a' P' x1 x2 x3 l ol=>by
    obtain⟨a2,P2,y1,y2,y3,_⟩:=h.ex.1 i' j' ds' x1;rw[x2]at y1;cases y1;have:P2 l=P' l:=by
     obtain⟨vs1,_,z1,_,y5,_⟩:=x3;obtain⟨vs2,_,z3,_,y4,_⟩:=y2;rw[z1]at z3;cases z3;obtain⟨_,_,_,_,_,z2,_⟩:=y5 l ol;obtain⟨_,_,_,_,_,z4,_⟩:=y4 l ol;rw[z2]at z4;injection z4 with z4;injection z4 with z4;exact z4.symm
    rw[←this];intro zz;rw[zz]at h1;exact y3 j d l ol e h1⟩))
  .exact .inl ⟨e'',rfl⟩
 .rw[ax (by
   intro z;subst z;cases d with
   |lst ds'|dic ks ds'=>obtain⟨vs',h5,_⟩:=h4;rw[h5]at eb;cases eb
   |ob kk ds'=>
    cases kk with|dint ks=>obtain⟨vs',h5,_⟩:=h4;rw[h5]at eb;cases eb| _=>exact h4.elim
   |_=>exact h4)];exact eb
 .have hq':q≠p:=by
   intro z;subst z;exact hd i d e h1
  exact⟨by rw[ax hq'];exact hq,q0⟩
 .rw[ax (by intro z;subst z;rw[h2]at eb;cases eb)];exact h.g.s _ _ eb
 .rw[ax (by intro z;subst z;rw[h3]at eb;cases eb)];exact h.g.sub _ _ eb
 .rcases key j _ e' with⟨rfl,e''⟩|⟨hj,e''⟩
  .cases e''
  .exact h.rd j d' e''
 .rcases key j _ e' with⟨rfl,e''⟩|⟨hj,e''⟩
  .cases e''
   exact⟨p,h1,h2,h3,vs,ay,r⟩
  .obtain⟨b,k1,k2,k3,k4⟩:=h.ow j d' e''
   refine⟨b,k1,k2,k3,?_⟩;have hb:b≠p:=by
    intro z;subst z;exact h.ap j i d' d hj e'' e (by rw[k1,h1])
   cases d' with
   |lst ds'=>
    obtain⟨vs',h5,h6⟩:=k4;exact⟨vs',by rw[ax hb];exact h5,h6⟩
   |dic ks ds'=>
    obtain⟨vs',h5,hl,h6⟩:=k4;exact⟨vs',by rw[ax hb];exact h5,hl,h6⟩
   |ob kk ds'=>
    cases kk with
    |dint ks=>
     obtain⟨vs',h5,hl,h6⟩:=k4;exact⟨vs',by rw[ax hb];exact h5,hl,h6⟩
    |_=>exact k4.elim
   |_=>exact k4.elim
 .rcases key j _ e1 with⟨rfl,e1'⟩|⟨hj,e1'⟩
  .rcases key k _ e2 with⟨rfl,_⟩|⟨hk,e2'⟩
   .exact absurd rfl hn
   .exact h.ap j k d d2 hn e e2'
  .rcases key k _ e2 with⟨rfl,_⟩|⟨hk,e2'⟩
   .exact h.ap j k d1 d hn e1' e
   .exact h.ap j k d1 d2 hn e1' e2'
end
mutual
def ju:D->Bool
 |.lst _=>false
 |.dic _ _=>false
 |.exc _=>false
 |.ob _ _=>false
 |.tup ds=>flats ds
 |_=>true
def flats:ac->Bool
 |[]=>true
 |d::ds=>ju d&&flats ds
end
mutual
theorem Rep.flat_to{K:Pl}{H H':Hp}(e:∀a vs,Rd H a (.tup vs)->Rd H' a (.tup vs)):∀{d:D}{v:V},ju d=true->Rep K H d v->Rep K H' d v
 |.non,_,_,h=>by unfold Rep at h ⊢;exact h
 |.bl _,_,_,h=>by unfold Rep at h ⊢;exact h
 |.int _,_,_,h=>by unfold Rep at h ⊢;exact h
 |.str _,_,_,h=>by unfold Rep at h ⊢;exact h
 |.tup ds,_,f,h=>by
  unfold ju at f;obtain⟨a,vs,e1,e2,e3⟩:=aJ.mp h;refine aJ.mpr ⟨a,vs,e1,?_,Reps.flat_to e f e3⟩;rcases e2 with e2|e2
  .exact .inl (e _ _ e2)
  .exact .inr e2
 |.lst ds,_,f,h=>by unfold ju at f;cases f
 |.dic ks ds,_,f,h=>by unfold ju at f;cases f
 |.exc x,_,f,h=>by unfold ju at f;cases f
 |.ob k ds,_,f,h=>by unfold ju at f;cases f
theorem Reps.flat_to{K:Pl}{H H':Hp}(e:∀a vs,Rd H a (.tup vs)->Rd H' a (.tup vs)):∀{ds:ac}{vs:al},flats ds=true->Reps K H ds vs->Reps K H' ds vs
 |[],_,_,h=>by unfold Reps at h ⊢;exact h
 |d::ds,_,f,h=>by
  unfold flats at f;rw[Pr]at f;obtain⟨v,r,e1,e2,e3⟩:=aD.mp h;exact aD.mpr ⟨v,r,e1,Rep.flat_to e f.1 e2,Reps.flat_to e f.2 e3⟩
end
def oA(Ha J:Hp):Hp:=λa=>match Ha a with
 |some o=>some o
 |none=>match J a with
  |some (.tup vs)=>some (.tup vs)
  |some (.frz o (.tup vs))=>some (.frz o (.tup vs))
  |_=>none
section
variable {K:Pl}{E:XK}{He η Ha H H1 J:Hp}{σ:L2.St}{ρ:Ev}
def HK(h:aF Ha J):∀a o,oA Ha J a=some o->J a=some o:=λa o e=>by
 unfold oA at e;cases q:Ha a with
 |some u=>rw[q]at e;cases e;exact h _ _ q
 |none=>
  rw[q]at e;cases q2:J a with
  |none=>rw[q2]at e;cases e
  |some u=>
   rw[q2]at e;cases u with
   |tup vs=>cases e;rfl
   |frz o u'=>
    cases u' with|tup vs=>cases e;rfl| _=>cases e
   |_=>cases e
def HJ(h:aF Ha J)(a:Pg)(vs:al)(e:Rd J a (.tup vs)):Rd (oA Ha J) a (.tup vs):=by
 rcases e with e|⟨o,e⟩
 .refine .inl ?_
  unfold oA;cases q:Ha a with|some u=>have:=h _ _ q;rw[e]at this;cases this;rfl|none=>rw[e]
 .refine .inr ⟨o,?_⟩
  unfold oA;cases q:Ha a with|some u=>have:=h _ _ q;rw[e]at this;cases this;rfl|none=>rw[e]
end
section
variable {X:Cx}{E:XK}{He η:Hp}{st:QQ}{rest:List QQ}{e a b:Qe}{es:List Qe}{f g:am}{fa:Ev->aj (ac)}{s t:bd}{pos:Pos}
def cE{t t':TS}(h:PS X st t)(w:∀D σ H,t' D σ H->t D σ H):PS X st t':=λπ s σ H D I q=>h π s σ H D I (w D σ H q)
def fD{t t':TS}(h:rP X rest t)(w:∀D σ H,t' D σ H->t D σ H):rP X rest t':=λπ s σ H D I q=>h π s σ H D I (w D σ H q)
def au:bd:=λρ=>.ok (.nx ρ)
def aw(s t:bd):bd:=λρ=>(s ρ).bind λr=>match r with
 |.nx ρ'=>t ρ'
 |r=>.ok r
def aq:yB X E He η [] au:=⟨fD kG λD σ H ⟨Ha,ρ,h,q⟩=>q σ H Ha (aF.refl _) h⟩
def ah(h1:DS X E He η st s)(h2:yB X E He η rest t):yB X E He η (st::rest) (aw s t):=by
 refine⟨?_⟩;refine fD (eD h1.o h2.o) λD σ H z9=>?_;obtain⟨Ha,ρ,h,q⟩:=z9;refine⟨Ha,ρ,h,?_⟩
 unfold aw at q;cases e1:s ρ with
 |stuck|exn x=>rw[e1]at q;exact q
 |ok r=>
  rw[e1]at q;cases r with|nx ρ'=>exact λσ' H' Ha' s' h'=>⟨Ha',ρ',h',cu.grow (r:=t ρ') q s'⟩|rt d|bk ρ'|ct ρ'=>exact q
def iJ:bd:=λ_=>.stuck
def plain{K:Pl}{Ha H:Hp}{σ:L2.St}{ρ:Ev}{k:D->aj Fl}{D':gI}(h:fT K He η Ha σ H ρ){r:aj D}{Q:VK}
  (q:cu K E He η Ha (r.bind k) D')(hk:∀d v H' Ha',r=.ok d->bq H Ha H' Ha'->Rep K Ha' d v->cu K E He η Ha' (k d) D'->Q v H'):post K E H Ha r Q:=by
 cases r with|stuck=>exact q|exn x=>exact λC ox H' Ha' g ex=>q C ox H' Ha' (h.g.trans g) ex|ok d=>exact λv H' Ha' g rp=>hk d v H' Ha' rfl g rp (cu.grow (r:=k d) q g.z)
def look{K:Pl}{Ha H:Hp}{σ:L2.St}{ρ:Ev}{k:D->aj Fl}{D':gI}(h:fT K He η Ha σ H ρ){r:aj D}{Q:VK}
  (q:cu K E He η Ha (r.bind k) D')(hk:∀d v H' J,r=.ok d->bq H (frz He Ha H) H' J->Rep K J d v->cu K E He η Ha (k d) D'->Q v H'):post K E H (frz He Ha H) r Q:=by
 cases r with|stuck=>exact q|exn x=>exact λC ox H' Ha' g ex=>q C ox H' Ha' (h.frz_grow.trans g) ex|ok d=>exact λv H' J g rp=>hk d v H' J rfl g rp q
def Io{K:Pl}{Ha H:Hp}{σ:L2.St}{ρ:Ev}{k:Bool->aj Fl}{D':gI}(h:fT K He η Ha σ H ρ){r:aj D}{Q:Bool->Hp->Prop}
  (q:cu K E He η Ha (r.bind λx=>match x with|.bl b=>k b|_=>.stuck) D')(hk:∀b H',aF H H'->cu K E He η Ha (k b) D'->Q b H'):pK K E H (frz He Ha H) r Q:=by
 cases r with
 |stuck=>exact q|exn x=>exact λC ox H' Ha' g ex=>q C ox H' Ha' (h.frz_grow.trans g) ex
 |ok d=>
  cases d with|bl b=>exact λH' J g=>hk b H' g.s q| _=>exact q.elim
def bb(i:Nat)(f:am):bd:=λρ=>(f ρ).bind λd=>.ok (.nx (ρ.set i (.sh d)))
def bG(f:am):bd:=λρ=>(f (kE ρ)).bind λd=>.ok (.rt d)
def lY(f:am):bd:=λρ=>(f (kE ρ)).bind λ_=>.ok (.nx ρ)
def dP(c:am)(s t:bd):bd:=λρ=>(c (kE ρ)).bind λx=>match x with
 |.bl b=>if b=true then s ρ else t ρ
 |_=>.stuck
def aO{i:Nat}{x:Pj}{pos':Pos}(hN:X.N.Nodup)(hi:X.N[i]?=some x)(hx:zT X.env.scope x)(he:DE X E e f)(hs:QK e (some (.Name x pos')) pos.line X.env=pure false:=by rfl)
  (hf:X.fn x=true∨X.env.scope.names.lookup x=some .local := by first|exact .inl rfl|exact .inr rfl|assumption):DS X E He η (.Assign [.Name x pos'] e pos) (bb i f):=by
 refine⟨?_⟩;refine cE (ud hN hi hx he.o hs hf) λD σ H z9=>?_;obtain⟨Ha,ρ,h,q⟩:=z9;refine⟨Ha,ρ,h.g.sub,h.rd,?_⟩
 refine plain h q λd v H' Ha' _ g rp q'=>?_;exact q' _ H' Ha' (aF.refl _) ((h.grow g).put rp)
def aM(he:DE X E e f):DS X E He η (.Return (some e) pos) (bG f):=by
 refine⟨?_⟩;refine cE (mW he.o) λD σ H z9=>?_;obtain⟨Ha,ρ,h,q⟩:=z9;refine⟨frz He Ha H,kE ρ,h.frz_le,h.looks,?_⟩
 exact look h q λd v H' J _ g rp q'=>q' v H' J (h.frz_grow.trans g) rp
def uP(he:DE X E e f)(hs:QK e none pos.line X.env=pure false:=by rfl):DS X E He η (.Expr e pos) (lY f):=by
 refine⟨?_⟩;refine cE (l7 he.o hs) λD σ H z9=>?_;obtain⟨Ha,ρ,h,q⟩:=z9;refine⟨frz He Ha H,kE ρ,h.frz_le,h.looks,?_⟩
 exact look h q λd v H' J _ g rp q'=>q' σ H' Ha (aF.refl _) (h.same g.s)
def bF{c:Qe}{fc:am}{sa sb:List QQ}(hc:DT X E c fc)(ha:yB X E He η sa s)(hb:yB X E He η sb t):DS X E He η (.If c sa sb pos) (dP fc s t):=by
 refine⟨?_⟩;refine cE (Cw hc.o ha.o hb.o) λD σ H z9=>?_;obtain⟨Ha,ρ,h,q⟩:=z9;refine⟨frz He Ha H,kE ρ,h.frz_le,h.looks,?_⟩
 refine Io (k:=λb=>if b=true then s ρ else t ρ) h q λb H' hs q'=>?_;cases b with|true=>rw[if_pos rfl]at q' ⊢;exact⟨Ha,ρ,h.same hs,q'⟩|false=>rw[if_neg QR]at q' ⊢;exact⟨Ha,ρ,h.same hs,q'⟩
noncomputable def tF(K:Pl) (E:XK) (f:am):TE:=λσ H Q=>∃Ha ρ,aF Ha H/\fU K Ha σ ρ/\match f ρ with
 |.ok (.lst ds)=>∀p vs H' Ha',bq H Ha H' Ha'->H p=none->Ha' p=none->H' p=some (.lst vs)->Reps K Ha' ds vs->Q (.ref p) H'
 |.ok _=>False
 |.exn x=>∀C ox H' Ha',bq H Ha H' Ha'->wY K Ha' x C ox->E C ox H'
 |.stuck=>False
structure DF (X:Cx) (E:XK) (e:Qe) (f:am):Prop where
 o:PE X e (tF X.K E f)
def t9(i:Nat)(f:am):bd:=λρ=>(f ρ).bind λd=>match d with
 |.lst ds=>.ok (.nx (ρ.set i (.ow (.lst ds))))
 |_=>.stuck
def yi{i:Nat}{x:Pj}{pos':Pos}(hN:X.N.Nodup)(hi:X.N[i]?=some x)(hx:zT X.env.scope x)(he:DF X E e f)(hs:QK e (some (.Name x pos')) pos.line X.env=pure false:=by rfl)
  (hf:X.fn x=true∨X.env.scope.names.lookup x=some .local := by first|exact .inl rfl|exact .inr rfl|assumption):DS X E He η (.Assign [.Name x pos'] e pos) (t9 i f):=by
 refine⟨?_⟩;refine cE (ud hN hi hx he.o hs hf) λD σ H z9=>?_;obtain⟨Ha,ρ,h,q⟩:=z9;refine⟨Ha,ρ,h.g.sub,h.rd,?_⟩
 unfold t9 at q;cases e1:f ρ with
 |stuck=>rw[e1]at q;exact q|exn x=>rw[e1]at q;exact λC ox H' Ha' g ex=>q C ox H' Ha' (h.g.trans g) ex
 |ok d=>
  rw[e1]at q;cases d with
  |lst ds=>
   intro p vs H' Ha' g hp h0 hv rp;refine q _ H' Ha' g.z ((h.grow g).putOwn (λj a ej ea d ed=>?_) (h.g.s.free hp) h0 hv rp (h.fresh_x g.s hp));subst ea;obtain⟨a',k1,_,_,k4⟩:=h.ow j d ed;rw[ej]at k1;cases k1;cases d with
   |lst ds'|dic ks ds'=>obtain⟨vs',h5,_⟩:=k4;rw[hp]at h5;cases h5
   |ob kk ds'=>
    cases kk with|dint ks=>obtain⟨vs',h5,_⟩:=k4;rw[hp]at h5;cases h5| _=>exact k4.elim
   |_=>exact k4.elim
  |_=>exact q.elim
def nr(h:DA X E es fa):DF X E (.List es pos) (ak fa cY):=by
 refine⟨?_⟩;refine bh (jT h.o) λσ H Q h=>?_;obtain⟨Ha,ρ,hs,hr,q⟩:=h;refine⟨Ha,ρ,hs,hr,?_⟩;unfold ak at q;cases e1:fa ρ with
 |stuck|exn x=>rw[e1]at q;exact q
 |ok ds=>
  rw[e1]at q;intro vs H1 H01 g1 r1;replace q:match cY ds with
   |.ok (.lst ds)=>∀p vs H' Ha',bq H Ha H' Ha'->H p=none->Ha' p=none->H' p=some (.lst vs)->Reps X.K Ha' ds vs->Q (.ref p) H'
   |.ok _=>False
   |.exn x=>∀C ox H' Ha',bq H Ha H' Ha'->wY X.K Ha' x C ox->E C ox H'
   |.stuck=>False:=q
  unfold cY at q
  by_cases hl:ds.length<=line
  .rw[if_pos hl]at q
   refine⟨by rw[←r1.length];exact fJ hl,λp hp=>?_⟩;have h0:H01 p=none:=g1.sub.free hp;refine q p vs _ H01 (g1.trans ⟨λb o q=>by rw[ax (bj q hp)];exact q,aF.refl _,λb o q=>?_,λa h1 h2=>absurd h2 h1⟩) (g1.s.free hp) h0 ay r1;rw[ax (by intro z;subst z;rw[h0]at q;cases q)];exact g1.sub _ _ q
  .rw[if_neg hl]at q;exact q.elim
def vJ(ρ:Ev)(i:Nat)(k:ac->aj Fl):aj Fl:=match ρ[i]? with
 |some (.ow (.lst ds))=>k ds
 |_=>.stuck
def eX(i:Nat)(f:am):bd:=λρ=>vJ ρ i λds=>(f ρ).bind λd=>if ds.length<line then .ok (.nx (ρ.set i (.ow (.lst (ds++[d]))))) else .stuck
def vI{K:Pl}{Ha H:Hp}{σ:L2.St}{ρ:Ev}{i:Nat}{k:ac->aj Fl}{D':gI}(h:fT K He η Ha σ H ρ)(q:cu K E He η Ha (vJ ρ i k) D') :
  ∃ds p vs,ρ[i]?=some (.ow (.lst ds))/\σ[i]?=some (some (.ref p))/\He p=none/\Ha p=none/\H p=some (.lst vs)/\Reps K Ha ds vs/\cu K E He η Ha (k ds) D':=by
 unfold vJ at q;cases e:ρ[i]? with
 |none=>rw[e]at q;exact q.elim
 |some s=>
  rw[e]at q;cases s with
  |no|sh d|ox j ds|pt a=>exact q.elim
  |ow d=>
   cases d with
   |lst ds=>
    obtain⟨p,h1,h2,h3,vs,h4,h5⟩:=h.ow i _ e;exact⟨ds,p,vs,rfl,h1,h2,h3,h4,h5,q⟩
   |_=>exact q.elim
def kS{i:Nat}{x:Pj}{p1 p2 p3:Pos}(hN:X.N[i]?=some x)(hv:wJ X.env.scope x)(he:DE X E e f)
  (hd:(x==("__debug__" : Pj))=false:=by decide)(hcd:(x==("__classdict__" : Pj))=false:=by decide)
  (hbase:QN (.Name x p1) "append" X.env (eval (.Name x p1) X.env)=eval (.Name x p1) X.env:=by rfl)
  (hfew:((Qy p3 (Po [e] X.env)).all (λx=>!x.1)&&(R0 p3 (Rc [] X.env)).all (λx=>x.1.isSome)
  &&decide ([e].length+([]:List Rp).length+(if([]:List Rp).isEmpty then 0 else 1)<30))=true:=by exact gw rfl)
  (hline:(p2.endLine==p3.line)=true:=by rfl) (hs:Po [e] X.env=(false,eval e X.env)::Po [] X.env:=by exact aI rfl) (hplain:(Qy p3 (Po [] X.env)).any (·.1)=false:=by exact bB rfl)
  (hw:QK (.Call (.Attribute (.Name x p1) "append" p2) [e] [] p3) none pos.line X.env=pure false:=by rfl) :
  DS X E He η (.Expr (.Call (.Attribute (.Name x p1) "append" p2) [e] [] p3) pos) (eX i f):=by
 refine⟨?_⟩;refine cE (l7 (vG SR Uk Uj mZ (gE hN hv hd hcd) (b8 he.o dD hs) hbase hfew hline hs hplain) hw) λD σ H ⟨Ha,ρ,h,q⟩=>?_;obtain⟨ds,p,vs,e1,e2,e3,e4,e5,e6,q⟩:=vI h q;refine⟨.ref p,e2,.inl ⟨rfl,vs,gJ.of e5⟩,?_⟩;refine⟨Ha,ρ,h.g.sub,h.rd,plain h q λd v H' Ha' _ g rp q'=>?_⟩
 by_cases hl:ds.length<line
 .rw[if_pos hl]at q'
  have e5':H' p=some (.lst vs):=g.s _ _ e5;refine⟨p,vs,v,rfl,rfl,e5',by rw[←e6.length];exact Py hl (by decide),?_⟩;exact q' σ _ Ha' (aF.refl _) ((h.grow g).write e1 e2 ((e6.mono g.z).app (Reps.cons rp Reps.nil)))
 .rw[if_neg hl]at q';exact q'.elim
def putAt(ρ:Ev)(i:Nat)(ds:ac)(d:D)(j:D):aj Fl:=match j with
 |.int j=>match Iy ds.length j with
  |some n=>.ok (.nx (ρ.set i (.ow (.lst (ds.set n d)))))
  |none=>.stuck
 |_=>.stuck
noncomputable def ef(tg:Ev->D->aj Ev) (body:bd):ac->bd
 |[],ρ=>.ok (.nx ρ)
 |d::r,ρ=>(tg ρ d).bind λρ1=>(body ρ1).bind λx=>match x with
  |.nx ρ2=>ef tg body r ρ2
  |.ct ρ2=>ef tg body r ρ2
  |.bk ρ2=>.ok (.nx ρ2)
  |.rt d=>.ok (.rt d)
def tG(K:Pl)(He η:Hp)(tg:Ev->D->aj Ev):TG:=λv σ H Q=>∃Ha ρ d,fT K He η Ha σ H ρ/\Rep K Ha d v/\match tg ρ d with
  |.ok ρ'=>∀σ' H' Ha',aF Ha Ha'->fT K He η Ha' σ' H' ρ'->Q σ' H'
  |_=>False
structure DG (X:Cx) (E:XK) (He η:Hp) (target:Qe) (tg:Ev->D->aj Ev):Prop where
 o:PG X target (tG X.K He η tg)
def eC(i:Nat):Ev->D->aj Ev:=λρ d=>.ok (ρ.set i (.sh d))
def uf{tgt:Qe}{t t':TG}(h:PG X tgt t)(w:∀v σ H Q,t' v σ H Q->t v σ H Q):PG X tgt t':=λπ s σ H v u Q I r q=>h π s σ H v u Q I r (w v σ H Q q)
def eY{i:Nat}{x:Pj}(hN:X.N.Nodup)(hi:X.N[i]?=some x)(hx:zT X.env.scope x)(hf:X.fn x=true∨X.env.scope.names.lookup x=some .local := by first|exact .inl rfl|exact .inr rfl|assumption):DG X E He η (.Name x pos) (eC i) :=
 ⟨uf (yU hN hi hx hf) λv σ H Q ⟨Ha,ρ,d,h,rp,q⟩=>q _ H Ha (aF.refl _) (h.put rp)⟩
def jb(K:Pl)(E:XK)(He η Hb:Hp)(tg:Ev->D->aj Ev)(s:bd)(ds:ac)(D':gI)(i:Nat)(σ:L2.St)(H:Hp):Prop :=
 ∃Ha ρ,aF Hb Ha/\fT K He η Ha σ H ρ/\cu K E He η Ha (ef tg s (ds.drop i) ρ) D'
def jb.step{K:Pl}{Hb:Hp}{tg:Ev->D->aj Ev}{ds:ac}{D':gI}{i:Nat}{σ:L2.St}{H:Hp}{d:D}{v:V}(h:jb K E He η Hb tg s ds D' i σ H)(hd:ds[i]?=some d)(rv:Rep K Hb d v)
  (he:∀ρ,tg ρ d=.stuck∨∃ρ',tg ρ d=.ok ρ') :
  tG K He η tg v σ H λσ2 H2=>tS K E He η s { D' with nx:=jb K E He η Hb tg s ds D' (i+1),ct:=jb K E He η Hb tg s ds D' (i+1),bk:=D'.nx } σ2 H2:=by
 obtain⟨Ha,ρ,z,h,q⟩:=h;have hi:i<ds.length:=(PJ.mp hd).1;have hdr:ds.drop i=d::ds.drop (i+1):=by
  rw[QD hi];rw[Pu hi]at hd;cases hd;rfl
 rw[hdr]at q;refine⟨Ha,ρ,d,h,rv.mono z,?_⟩;unfold ef at q;rcases he ρ with e1|⟨ρ1,e1⟩
 .rw[e1]at q;exact q.elim
 .rw[e1]at q ⊢
  intro σ' H' Ha' z' h';refine⟨Ha',ρ1,h',?_⟩;replace q:=cu.grow (r:=(s ρ1).bind λx=>match x with
   |.nx ρ2=>ef tg s (ds.drop (i+1)) ρ2
   |.ct ρ2=>ef tg s (ds.drop (i+1)) ρ2
   |.bk ρ2=>.ok (.nx ρ2)
   |.rt d=>.ok (.rt d)) q z'
  cases e2:s ρ1 with
  |stuck|exn x=>rw[e2]at q;exact q
  |ok r=>
   rw[e2]at q;cases r with|nx ρ2=>exact λσ3 H3 H03 z3 h3=>⟨H03,ρ2,(z.trans z').trans z3,h3,cu.grow (r:=ef tg s (ds.drop (i+1)) ρ2) q z3⟩|ct ρ2=>exact λσ3 H3 H03 z3 h3=>⟨H03,ρ2,(z.trans z').trans z3,h3,cu.grow (r:=ef tg s (ds.drop (i+1)) ρ2) q z3⟩|bk ρ2|rt d=>exact q
def jb.done{K:Pl}{Hb:Hp}{tg:Ev->D->aj Ev}{ds:ac}{D':gI}{σ:L2.St}{H:Hp}(h:jb K E He η Hb tg s ds D' ds.length σ H):D'.nx σ H:=by
 obtain⟨Ha,ρ,z,h,q⟩:=h;rw[TN]at q;unfold ef at q;exact q σ H Ha (aF.refl _) h
def wK(tg:Ev->D->aj Ev):Prop:=∀ρ d,tg ρ d=.stuck∨∃ρ',tg ρ d=.ok ρ'
def kB{i:Nat}:wK (eC i):=λρ d=>.inr ⟨_,rfl⟩
def L6(f:am)(tg:Ev->D->aj Ev)(s:bd):bd:=λρ=>(f ρ).bind λd=>match d with
 |.lst ds=>ef tg s ds ρ
 |_=>.stuck
def intsFrom(lo:Int)(n:Nat):ac:=(Q0 n).map λ(k:Nat)=>D.int (lo+(k:Int))
def pE(f:am)(tg:Ev->D->aj Ev)(s:bd):bd:=λρ=>(f (kE ρ)).bind λd=>match d with
 |.int j=>if -4611686018427387904<=j/\j<4611686018427387904 then ef tg s (intsFrom 0 j.toNat) ρ else .stuck
 |_=>.stuck
def uO{tgt iter:Qe}{p pos2:Pos}{body:List QQ}{tg:Ev->D->aj Ev}(hp:PassesOwn (PN X.prog X.w) X.A X.env X.xe)(hc:X.calm=true)(hgl:Gl X "range")(hm:X.mg "range"=none)(hi:DE X E iter f)(hg:DG X E He η tgt tg)(ht:wK tg)(hb:yB X E He η body s)
  (hst:Po [iter] X.env=[(false,eval iter X.env)]:=by exact iS rfl)(hs:∀x,foldedSetIterable (.Call (.Name "range" p) [iter] [] pos2) X.env x=pure x:=by intro _;rfl):DS X E He η (.For tgt (.Call (.Name "range" p) [iter] [] pos2) body [] pos) (pE f tg s):=by
 refine⟨?_⟩;refine cE (xA hp hc (sD hgl hm (b8 hi.o dD hst) hst) hg.o hb.o hs) λD' σ H ⟨Ha,ρ,h,q⟩=>?_;refine⟨frz He Ha H,kE ρ,h.frz_le,h.looks,look h q λd v H1 J _ g rp q1=>?_⟩;cases d with
 |int j=>
  rw[az.mp rp];replace q1:cu X.K E He η Ha (if -4611686018427387904<=j/\j<4611686018427387904 then ef tg s (intsFrom 0 j.toNat) ρ else .stuck) D':=q1
  by_cases hj:-4611686018427387904<=j/\j<4611686018427387904
  .rw[if_pos hj]at q1
   refine⟨j,rfl,by omega,by omega,?_⟩;have hlen:(intsFrom 0 j.toNat).length=j.toNat:=by unfold intsFrom;simp
   refine A6 (lo:=0) (n:=j.toNat) (g:=tG X.K He η tg) (tb:=tS X.K E He η s) (D:=D') (jb X.K E He η Ha tg s (intsFrom 0 j.toNat) D') ⟨Ha,ρ,aF.refl _,h.same g.s,q1⟩ ?_ ?_
   .intro i σ' H' hlt hI
    refine hI.step (d:=.int (0+i)) ?_ (az.mpr rfl) λρ=>ht ρ _;unfold intsFrom;simp[hlt]
   .intro σ' H' hI
    exact jb.done (ds:=intsFrom 0 j.toNat) (by rw[hlen];exact hI)
  .rw[if_neg hj]at q1;exact q1.elim
 |_=>exact q1.elim
noncomputable def fB(c:am) (s:bd):Nat->bd
 |0,_=>.stuck
 |n+1,ρ=>(c (kE ρ)).bind λx=>match x with
  |.bl b=>if b=true then(s ρ).bind λx=>match x with
    |.nx ρ2=>fB c s n ρ2
    |.ct ρ2=>fB c s n ρ2
    |.bk ρ2=>.ok (.nx ρ2)
    |.rt d=>.ok (.rt d)
   else .ok (.nx ρ)
  |_=>.stuck
def pD(fuel:Ev->Nat)(c:am)(s:bd):bd:=λρ=>fB c s (fuel ρ) ρ
def wy(fuel:Ev->Nat){c:Qe}{body:List QQ}{fc:am}(hp:PassesOwn (PN X.prog X.w) X.A X.env X.xe)(hc:DT X E c fc)(hb:yB X E He η body s):DS X E He η (.While c body [] pos) (pD fuel fc s):=by
 refine⟨?_⟩;refine cE (Cv hp hc.o hb.o) λD' σ H ⟨Ha,ρ,h,q⟩=>?_;refine⟨λm σ H=>∃Ha ρ,fT X.K He η Ha σ H ρ/\cu X.K E He η Ha (fB fc s m ρ) D',⟨fuel ρ,Ha,ρ,h,q⟩,?_⟩;rintro m σ1 H1 ⟨H01,ρ1,h1,q1⟩;cases m with
 |zero=>exact q1.elim
 |succ m=>
  refine⟨frz He H01 H1,kE ρ1,h1.frz_le,h1.looks,?_⟩;unfold fB at q1;refine Io (k:=λb=>if b=true then(s ρ1).bind λx=>match x with
    |.nx ρ2=>fB fc s m ρ2
    |.ct ρ2=>fB fc s m ρ2
    |.bk ρ2=>.ok (.nx ρ2)
    |.rt d=>.ok (.rt d)
   else .ok (.nx ρ1)) h1 q1 λb H2 hs q2=>?_
  cases b with
  |false=>
   rw[if_neg QR]at q2 ⊢;exact q2 σ1 H2 H01 (aF.refl _) (h1.same hs)
  |true=>
   rw[if_pos rfl]at q2 ⊢;refine⟨λσ' H'=>∃m',m' < m+1/\∃Ha ρ,fT X.K He η Ha σ' H' ρ/\cu X.K E He η Ha (fB fc s m' ρ) D',λσ' H' z=>z,H01,ρ1,h1.same hs,?_⟩;cases e2:s ρ1 with
   |stuck|exn x=>rw[e2]at q2;exact q2
   |ok r=>
    rw[e2]at q2;cases r with|nx ρ2=>exact λσ3 H3 H03 z3 h3=>⟨m,RB _,H03,ρ2,h3,cu.grow (r:=fB fc s m ρ2) q2 z3⟩|ct ρ2=>exact λσ3 H3 H03 z3 h3=>⟨m,RB _,H03,ρ2,h3,cu.grow (r:=fB fc s m ρ2) q2 z3⟩|bk ρ2|rt d=>exact q2
end
def cD(n:Nat)(s:bd)(ds:ac):aj D:=(s (ds.map Sl.sh++PH (n-ds.length) .no)).bind λr=>match r with
 |.nx _=>.ok .non
 |.rt d=>.ok d
 |_=>.stuck
def nG{K:Pl}{Ha:Hp}{N:bv}{ds:ac}{vs:al}(h:Reps K Ha ds vs):fU K Ha (start N vs) (ds.map Sl.sh++PH (N.length-ds.length) .no):=by
 intro i d e;have hl:=h.length
 by_cases hi:i<ds.length
 .rw[PY (by simpa using hi),P7]at e
  cases q:ds[i]? with
  |none=>rw[q]at e;cases e
  |some d'=>
   rw[q]at e;cases e;obtain⟨v,h1,h2⟩:=h.get q;refine⟨v,?_,h2⟩;unfold L2.start;rw[PY (by simp;omega),P7,h1];rfl
 .rw[Qa (by simpa using hi),Qk]at e
  split at e<;>cases e
def rZ{ds:ac}{n:Nat}(i j:Nat)(es:ac):(ds.map Sl.sh++PH n Sl.no)[i]?≠some (.ox j es):=λe=>by
 have:=Qs e;rw[Q9]at this;rcases this with h|h
 .obtain⟨_,_,h⟩:=Qt.mp h;cases h
 .have:=Um h;cases this
def ph{ds:ac}{n:Nat}{σ:L2.St}(i:Nat)(a:Pg)(e:(ds.map Sl.sh++PH n Sl.no)[i]?=some (.pt a)):σ[i]?=some (some (.ref a)):=by
 have:=Qs e;rw[Q9]at this;rcases this with h|h
 .obtain⟨_,_,h⟩:=Qt.mp h;cases h
 .have:=Um h;cases this
def A7{P:Qi}{w:Qv}{K:Pl}{mg:Pj->Option Pd}{base:PF}{x qual:Pj}{st:QQ}{f:Pg}{fd:Qo}{N ps:bv}{k:Nat}{s:bd}(F:zU K x qual st f fd)(S:eT N ps (defScope st))
  (hbody:∀(cdv:Pd) (A:Qp) (outer:List QL) (s0:Pm) (H Ha:Hp) (E:XK),dz k (A.deeper (envOfC qual (defScope st) s0.heap.objs.size f cdv)) ->
   yB (fy CX0 P w K mg base N qual (defScope st) f cdv A outer s0 H E).nox E H Ha (defBody st) s):FnOk P w K mg base CX0 (k+1) f fd ps (spD K ps.length (cD N.length s)):=by
 have hpl:ps.length<=N.length:=by have:=congrArg RT S.pre;rw[Ro]at this;omega
 refine F.ok S (λvs H Q E h=>h.1) λcdv A outer s0 H vs Q E hr h=>?_;obtain⟨hn,Ha,ds,hs,hv,q⟩:=h;refine⟨_,(hbody cdv A outer s0 H Ha E hr).o,Ha,ds.map Sl.sh++PH (N.length-ds.length) .no,?_,?_⟩
 .refine⟨bq.refl hs,nG hv,λi d e=>?_,λi j d d' hij e=>?_,?_,OX.none rZ ph⟩
  .by_cases hi:i<ds.length
   .rw[PY (by simpa using hi),P7]at e
    cases q:ds[i]? with|none|some d'=>rw[q]at e;cases e
   .rw[Qa (by simpa using hi),Qk]at e
    split at e<;>cases e
  .by_cases hi:i<ds.length
   .rw[PY (by simpa using hi),P7]at e
    cases q:ds[i]? with|none|some d'=>rw[q]at e;cases e
   .rw[Qa (by simpa using hi),Qk]at e
    split at e<;>cases e
  .unfold L2.start
   have:=hv.length;simp only[P1,Ph,QV];omega
 .unfold cD at q
  cases e1:s (ds.map Sl.sh++PH (N.length-ds.length) .no) with
  |stuck|exn x=>rw[e1]at q;exact q
  |ok r=>
   rw[e1]at q;cases r with|nx ρ'=>exact λσ' H' Ha' _ h'=>q .non H' Ha' h'.g (aN.mpr rfl)|rt d=>exact λv H' Ha' g rp=>q v H' Ha' g rp|bk ρ'|ct ρ'=>exact q.elim
mutual
def cC:D->D->Bool
 |.non,.non=>true
 |.bl a,.bl b=>a==b
 |.bl a,.int b=>(if a then 1 else 0)==b
 |.int a,.bl b=>a==(if b then 1 else 0)
 |.int a,.int b=>a==b
 |.str a,.str b=>a==b
 |.tup xs,.tup ys=>eqDs xs ys
 |.lst xs,.lst ys=>eqDs xs ys
 |_,_=>false
def eqDs:ac->ac->Bool
 |[],[]=>true
 |x::xs,y::ys=>cC x y&&eqDs xs ys
 |_,_=>false
end
def bg:Nat->D->Bool
 |_,.non=>true
 |_,.bl _=>true
 |_,.int _=>true
 |_,.str _=>true
 |n+1,.tup ds=>ds.all (bg n)
 |n+1,.lst ds=>ds.all (bg n)
 |_,_=>false
def sT{ds:ac}(h:∀d∈ds,cC d d=true):eqDs ds ds=true:=by
 induction ds with
 |nil=>simp[eqDs]
 |cons d r ih=>
  unfold eqDs;rw[h d P0,ih λx hx=>h x (Pw _ hx)];rfl
theorem kf:∀(n:Nat) (d:D),bg n d=true->cC d d=true
 |_,.non,_=>by simp[cC]
 |_,.bl b,_=>by simp[cC]
 |_,.int b,_=>by simp[cC]
 |_,.str b,_=>by simp[cC]
 |n+1,.tup ds,h=>by
  unfold bg at h;unfold cC;exact sT λd hd=>kf n d (Qf.mp h d hd)
 |n+1,.lst ds,h=>by
  unfold bg at h;unfold cC;exact sT λd hd=>kf n d (Qf.mp h d hd)
 |0,.tup ds,h=>by unfold bg at h;cases h
 |0,.lst ds,h=>by unfold bg at h;cases h
 |0,.dic ks ds,h=>by unfold bg at h;cases h
 |n+1,.dic ks ds,h=>by unfold bg at h;cases h
 |0,.exc x,h=>by unfold bg at h;cases h
 |0,.ob k x,h=>by unfold bg at h;cases h
 |n+1,.ob k x,h=>by unfold bg at h;cases h
 |n+1,.exc x,h=>by unfold bg at h;cases h
def Hs{xs ys:ac}:cC (.tup xs) (.tup ys)=eqDs xs ys:=by rw[cC]
def zH{xs ys:ac}:cC (.lst xs) (.lst ys)=eqDs xs ys:=by rw[cC]
theorem lL:∀(xs ys:ac),xs.length=ys.length->eqDs xs ys=(Q0 xs.length).all λj=>cC (xs.getD j .non) (ys.getD j .non)
 |[],[],_=>by simp[eqDs]
 |x::xs,y::ys,h=>by
  have ih:=lL xs ys (by simpa using h);unfold eqDs;rw[ih,PU,UK,R4,SY];rfl
 |[],_::_,h=>by simp at h
 |_::_,[],h=>by simp at h
theorem qt:∀(xs ys:ac),xs.length≠ys.length->eqDs xs ys=false
 |[],[],h=>absurd rfl h
 |x::xs,y::ys,h=>by
  unfold eqDs;rw[qt xs ys (by simpa using h),PR]
 |[],_::_,h=>by simp[eqDs]
 |_::_,[],h=>by simp[eqDs]
section
variable {X:Cx}{π:List (Pg×Obj)}{σ:L2.St}{H:Hp}{s:Pm}
def bu(I:Inv X π σ H s){ds:ac}{v:V}{u:Pd}(r:Rep X.K H (.tup ds) v)(rv:bS v u):∃a vs its,v=.ref a/\u=.ref a/\lT X.K H a vs/\Reps X.K H ds vs/\bM vs its/\IsTup s.heap a its.toArray/\ds.length=its.length:=by
 obtain⟨a,vs,rfl,h1,h2⟩:=aJ.mp r;obtain rfl:u=Qh a:=rv;obtain⟨its,h3,h4,_⟩:=I.tuple h1;exact⟨a,vs,its,rfl,rfl,h1,h2,h3,h4,h2.length.trans h3.length⟩
def br(I:Inv X π σ H s){ds:ac}{v:V}{u:Pd}(r:Rep X.K H (.lst ds) v)(rv:bS v u):∃a vs its,v=.ref a/\u=.ref a/\gJ X.K H a vs/\Reps X.K H ds vs/\bM vs its/\s.heap.IsList a its.toArray/\ds.length=its.length:=by
 obtain⟨a,vs,rfl,h1,h2⟩:=aH.mp r;obtain rfl:u=Qh a:=rv;obtain⟨its,h3,h4,_⟩:=I.list h1;exact⟨a,vs,its,rfl,rfl,h1,h2,h3,h4.isList,h2.length.trans h3.length⟩
theorem pF{n:Nat}(ih:∀(d d':D) (v:V),bg n d=true->bg n d'=true->Rep X.K H d v->Rep X.K H d' v->d=d'):∀(ds ds':ac) (vs:al),ds.all (bg n)=true->ds'.all (bg n)=true->Reps X.K H ds vs->Reps X.K H ds' vs->ds=ds'
 |[],ds',vs,_,_,h,h'=>by
  rw[Reps.nil_iff.mp h]at h';cases ds' with|nil=>rfl|cons d r=>obtain⟨_,_,e,_⟩:=aD.mp h';cases e
 |d::ds,ds',vs,a,a',h,h'=>by
  obtain⟨v,r,rfl,h1,h2⟩:=aD.mp h;cases ds' with
  |nil=>cases Reps.nil_iff.mp h'
  |cons d' ds'=>
   obtain⟨v',r',e,h1',h2'⟩:=aD.mp h';cases e;rw[R4,Pr]at a a';rw[ih d d' v a.1 a'.1 h1 h1',pF ih ds ds' r a.2 a'.2 h2 h2']
def Rep.inj(I:Inv X π σ H s):∀(n:Nat) (d d':D) (v:V),bg n d=true->bg n d'=true->Rep X.K H d v->Rep X.K H d' v->d=d':=by
 have atom:∀(n:Nat) (d d':D) (v:V),(∀ds,d≠.tup ds)->(∀ds,d≠.lst ds)->bg n d=true->bg n d'=true->Rep X.K H d v->Rep X.K H d' v->d=d':=by
  intro n d d' v n1 n2 s1 s2 h h';have nd:∀m ks ds,bg m (.dic ks ds)=true->False:=λm ks ds h=>by cases m<;>(unfold bg at h;cases h)
  have nx:∀m x,bg m (.exc x)=true->False:=λm x h=>by cases m<;>(unfold bg at h;cases h)
  have nb:∀m k x,bg m (.ob k x)=true->False:=λm k x h=>by cases m<;>(unfold bg at h;cases h)
  cases d with
  |tup ds=>exact absurd rfl (n1 ds)|lst ds=>exact absurd rfl (n2 ds)|dic ks ds=>exact(nd _ _ _ s1).elim|exc x=>exact(nx _ _ s1).elim|ob k x=>exact(nb _ _ _ s1).elim
  |non=>
   rw[aN.mp h]at h';cases d' with|non=>rfl|bl b=>cases aC.mp h'|int b=>cases az.mp h'|str b=>cases Rep.str_iff.mp h'|tup ds=>obtain⟨_,_,e,_⟩:=aJ.mp h';cases e|lst ds=>obtain⟨_,_,e,_⟩:=aH.mp h';cases e|dic ks ds=>exact(nd _ _ _ s2).elim|exc x=>exact(nx _ _ s2).elim|ob k x=>exact(nb _ _ _ s2).elim
  |bl x=>
   rw[aC.mp h]at h';cases d' with|non=>cases aN.mp h'|bl b=>cases aC.mp h';rfl|int b=>cases az.mp h'|str b=>cases Rep.str_iff.mp h'|tup ds=>obtain⟨_,_,e,_⟩:=aJ.mp h';cases e|lst ds=>obtain⟨_,_,e,_⟩:=aH.mp h';cases e|dic ks ds=>exact(nd _ _ _ s2).elim|exc x=>exact(nx _ _ s2).elim|ob k x=>exact(nb _ _ _ s2).elim
  |int x=>
   rw[az.mp h]at h';cases d' with|non=>cases aN.mp h'|bl b=>cases aC.mp h'|int b=>cases az.mp h';rfl|str b=>cases Rep.str_iff.mp h'|tup ds=>obtain⟨_,_,e,_⟩:=aJ.mp h';cases e|lst ds=>obtain⟨_,_,e,_⟩:=aH.mp h';cases e|dic ks ds=>exact(nd _ _ _ s2).elim|exc x=>exact(nx _ _ s2).elim|ob k x=>exact(nb _ _ _ s2).elim
  |str x=>
   rw[Rep.str_iff.mp h]at h';cases d' with|non=>cases aN.mp h'|bl b=>cases aC.mp h'|int b=>cases az.mp h'|str b=>cases Rep.str_iff.mp h';rfl|tup ds=>obtain⟨_,_,e,_⟩:=aJ.mp h';cases e|lst ds=>obtain⟨_,_,e,_⟩:=aH.mp h';cases e|dic ks ds=>exact(nd _ _ _ s2).elim|exc x=>exact(nx _ _ s2).elim|ob k x=>exact(nb _ _ _ s2).elim
 intro n
 induction n with
 |zero=>
  intro d d' v s1 s2 h h';exact atom 0 d d' v (λds e=>by subst e;unfold bg at s1;cases s1) (λds e=>by subst e;unfold bg at s1;cases s1) s1 s2 h h'
 |succ n ih=>
  intro d d' v s1 s2 h h'
  by_cases t1:∃ds,d=.tup ds
  .obtain⟨ds,rfl⟩:=t1
   by_cases t2:∃ds',d'=.tup ds'
   .obtain⟨ds',rfl⟩:=t2
    obtain⟨a,vs,rfl,h1,h2⟩:=aJ.mp h;obtain⟨a',vs',e,h1',h2'⟩:=aJ.mp h';cases e;rw[I.tuple_inj h1' h1]at h2';unfold bg at s1 s2;rw[pF ih ds ds' vs s1 s2 h2 h2']
   .by_cases t3:∃ds',d'=.lst ds'
    .obtain⟨ds',rfl⟩:=t3
     obtain⟨a0,_,ev,_,_⟩:=aJ.mp h;subst ev;obtain⟨a,vs,its,ea,_,h1,h2,h3,h4,_⟩:=bu I h rfl;cases ea;obtain⟨a',vs',its',e,_,h1',h2',h3',h4',_⟩:=br I h' rfl;cases e;exact absurd rfl (UC h4' h4)
    .exact(atom (n+1) d' _ v (λds e=>t2 ⟨ds,e⟩) (λds e=>t3 ⟨ds,e⟩) s2 s1 h' h).symm
  .by_cases t1':∃ds,d=.lst ds
   .obtain⟨ds,rfl⟩:=t1'
    by_cases t2:∃ds',d'=.lst ds'
    .obtain⟨ds',rfl⟩:=t2
     obtain⟨a,vs,rfl,h1,h2⟩:=aH.mp h;obtain⟨a',vs',e,h1',h2'⟩:=aH.mp h';cases e;rw[I.list_inj h1' h1]at h2';unfold bg at s1 s2;rw[pF ih ds ds' vs s1 s2 h2 h2']
    .by_cases t3:∃ds',d'=.tup ds'
     .obtain⟨ds',rfl⟩:=t3
      obtain⟨a0,_,ev,_,_⟩:=aH.mp h;subst ev;obtain⟨a,vs,its,ea,_,h1,h2,h3,h4,_⟩:=br I h rfl;cases ea;obtain⟨a',vs',its',e,_,h1',h2',h3',h4',_⟩:=bu I h' rfl;cases e;exact absurd rfl (UC h4 h4')
     .exact(atom (n+1) d' _ v (λds e=>t3 ⟨ds,e⟩) (λds e=>t2 ⟨ds,e⟩) s2 s1 h' h).symm
   .exact atom (n+1) d d' v (λds e=>t1 ⟨ds,e⟩) (λds e=>t1' ⟨ds,e⟩) s1 s2 h h'
def vX{n:Nat}{A:Qp}{xs ys:ac}{vs us:al}{is js:List Pd}
  (ih:∀(x y:D) (v u:V) (a b:Pd),bg n x=true->bg n y=true->Rep X.K H x v->Rep X.K H y u->bS v a->bS u b->P8 A.in1 s a b (cC x y))
  (sx:xs.all (bg n)=true)(sy:ys.all (bg n)=true)(rx:Reps X.K H xs vs)(ry:Reps X.K H ys us)(qx:bM vs is)(qy:bM us js) :
  ∀j (h1:j<is.toArray.size) (h2:j<js.toArray.size),P8 A.in1 s is.toArray[j] js.toArray[j] (cC (xs.getD j .non) (ys.getD j .non)):=by
 intro j h1 h2;have lx:=rx.length;have ly:=ry.length;have kx:=qx.length;have ky:=qy.length;have h1':j<is.length:=by simpa using h1
 have h2':j<js.length:=by simpa using h2
 have hx:j<xs.length:=by omega
 have hy:j<ys.length:=by omega
 obtain⟨v,e1,r1⟩:=rx.get (Pu hx);obtain⟨u,e2,r2⟩:=ry.get (Pu hy);obtain⟨a,e3,r3⟩:=qx.get e1;obtain⟨b,e4,r4⟩:=qy.get e2;have ea:is.toArray[j]=a:=by
  rw[Pu h1']at e3;simpa using QI e3
 have eb:js.toArray[j]=b:=by
  rw[Pu h2']at e4;simpa using QI e4
 rw[ea,eb];have gx:xs.getD j .non=xs[j]:=by simp[List.getD,Pu hx]
 have gy:ys.getD j .non=ys[j]:=by simp[List.getD,Pu hy]
 rw[gx,gy];exact ih _ _ v u a b (Qf.mp sx _ (RC hx)) (Qf.mp sy _ (RC hy)) r1 r2 r3 r4
def vy(I:Inv X π σ H s){A:Qp}(hu:A.units<S0){x y:D}{v u:V}{a b:Pd}(rx:Rep X.K H x v)(ry:Rep X.K H y u)(qx:bS v a)(qy:bS u b)
  (n1:∀ds ds',¬(x=.lst ds/\y=.lst ds'))(n2:∀ds ds',¬(x=.tup ds/\y=.tup ds'))(d1:∀ks ds,x≠.dic ks ds)(d2:∀ks ds,y≠.dic ks ds)(x1:∀c,x≠.exc c)(x2:∀c,y≠.exc c)(o1:∀k c,x≠.ob k c)(o2:∀k c,y≠.ob k c) :
  Qb A s a b (cC x y)/\P8 A s a b (cC x y)/\P4 A s a b (!(cC x y)):=by
 cases x with
 |non=>
  cases y with
  |non=>
   obtain rfl:=aN.mp rx;obtain rfl:a=QY:=qx;obtain rfl:=aN.mp ry;obtain rfl:b=QY:=qy;unfold cC;exact⟨Qb.none_none ,TZ _,P4.none_none ⟩
  |bl y=>
   obtain rfl:=aN.mp rx;obtain rfl:a=QY:=qx;obtain rfl:=aC.mp ry;obtain rfl:b=QZ _:=qy;unfold cC;exact⟨Qb.none_bool _,P8.none_bool _,P4.none_bool _⟩
  |int y=>
   obtain rfl:=aN.mp rx;obtain rfl:a=QY:=qx;obtain rfl:=az.mp ry;obtain⟨ty,rfl⟩:∃t,b=Rj _ t:=qy;unfold cC;exact⟨Qb.none_int _ _,P8.none_int _ _,P4.none_int _ _⟩
  |str y=>
   obtain rfl:=aN.mp rx;obtain rfl:a=QY:=qx;obtain rfl:=Rep.str_iff.mp ry;obtain⟨ty,rfl⟩:∃t,b=Ri _ t:=qy;unfold cC;exact⟨Qb.none_str _ _,P8.none_str _ _,P4.none_str _ _⟩
  |lst y=>
   obtain rfl:=aN.mp rx;obtain rfl:a=QY:=qx;obtain⟨ly,_,_,rfl,rfl,_,_,_,hy,_⟩:=br I ry qy;unfold cC;exact⟨Qb.none_list  hy hu,P8.none_list  hy hu,P4.none_list  hy hu⟩
  |tup y=>
   obtain rfl:=aN.mp rx;obtain rfl:a=QY:=qx;obtain⟨ly,_,_,rfl,rfl,_,_,_,hy,_⟩:=bu I ry qy;unfold cC;exact⟨Qb.none_tuple  hy hu,P8.none_tuple  hy hu,P4.none_tuple  hy hu⟩
  |dic ks ds=>exact absurd rfl (d2 ks ds)|exc c=>exact absurd rfl (x2 c)|ob k c=>exact absurd rfl (o2 k c)
 |bl x=>
  cases y with
  |non=>
   obtain rfl:=aC.mp rx;obtain rfl:a=QZ _:=qx;obtain rfl:=aN.mp ry;obtain rfl:b=QY:=qy;unfold cC;exact⟨Qb.bool_none _,P8.bool_none _,P4.bool_none _⟩
  |bl y=>
   obtain rfl:=aC.mp rx;obtain rfl:a=QZ _:=qx;obtain rfl:=aC.mp ry;obtain rfl:b=QZ _:=qy;unfold cC;exact⟨Qb.bool_bool _ _,P8.bool_bool _ _,P4.bool_bool _ _⟩
  |int y=>
   obtain rfl:=aC.mp rx;obtain rfl:a=QZ _:=qx;obtain rfl:=az.mp ry;obtain⟨ty,rfl⟩:∃t,b=Rj _ t:=qy;unfold cC;exact⟨Qb.bool_int _ _ _,P8.bool_int _ _ _,P4.bool_int _ _ _⟩
  |str y=>
   obtain rfl:=aC.mp rx;obtain rfl:a=QZ _:=qx;obtain rfl:=Rep.str_iff.mp ry;obtain⟨ty,rfl⟩:∃t,b=Ri _ t:=qy;unfold cC;exact⟨Qb.bool_str _ _ _,P8.bool_str _ _ _,P4.bool_str _ _ _⟩
  |lst y=>
   obtain rfl:=aC.mp rx;obtain rfl:a=QZ _:=qx;obtain⟨ly,_,_,rfl,rfl,_,_,_,hy,_⟩:=br I ry qy;unfold cC;exact⟨Qb.bool_list _ hy hu,P8.bool_list _ hy hu,P4.bool_list _ hy hu⟩
  |tup y=>
   obtain rfl:=aC.mp rx;obtain rfl:a=QZ _:=qx;obtain⟨ly,_,_,rfl,rfl,_,_,_,hy,_⟩:=bu I ry qy;unfold cC;exact⟨Qb.bool_tuple _ hy hu,P8.bool_tuple _ hy hu,P4.bool_tuple _ hy hu⟩
  |dic ks ds=>exact absurd rfl (d2 ks ds)|exc c=>exact absurd rfl (x2 c)|ob k c=>exact absurd rfl (o2 k c)
 |int x=>
  cases y with
  |non=>
   obtain rfl:=az.mp rx;obtain⟨tx,rfl⟩:∃t,a=Rj _ t:=qx;obtain rfl:=aN.mp ry;obtain rfl:b=QY:=qy;unfold cC;exact⟨Qb.int_none _ _,P8.int_none _ _,P4.int_none _ _⟩
  |bl y=>
   obtain rfl:=az.mp rx;obtain⟨tx,rfl⟩:∃t,a=Rj _ t:=qx;obtain rfl:=aC.mp ry;obtain rfl:b=QZ _:=qy;unfold cC;exact⟨Qb.int_bool _ _ _,P8.int_bool _ _ _,P4.int_bool _ _ _⟩
  |int y=>
   obtain rfl:=az.mp rx;obtain⟨tx,rfl⟩:∃t,a=Rj _ t:=qx;obtain rfl:=az.mp ry;obtain⟨ty,rfl⟩:∃t,b=Rj _ t:=qy;unfold cC;exact⟨Qb.int_int _ _ _ _,P8.int_int _ _ _ _,P4.int_int _ _ _ _⟩
  |str y=>
   obtain rfl:=az.mp rx;obtain⟨tx,rfl⟩:∃t,a=Rj _ t:=qx;obtain rfl:=Rep.str_iff.mp ry;obtain⟨ty,rfl⟩:∃t,b=Ri _ t:=qy;unfold cC;exact⟨Qb.int_str _ _ _ _,P8.int_str _ _ _ _,P4.int_str _ _ _ _⟩
  |lst y=>
   obtain rfl:=az.mp rx;obtain⟨tx,rfl⟩:∃t,a=Rj _ t:=qx;obtain⟨ly,_,_,rfl,rfl,_,_,_,hy,_⟩:=br I ry qy;unfold cC;exact⟨Qb.int_list _ _ hy hu,P8.int_list _ _ hy hu,P4.int_list _ _ hy hu⟩
  |tup y=>
   obtain rfl:=az.mp rx;obtain⟨tx,rfl⟩:∃t,a=Rj _ t:=qx;obtain⟨ly,_,_,rfl,rfl,_,_,_,hy,_⟩:=bu I ry qy;unfold cC;exact⟨Qb.int_tuple _ _ hy hu,P8.int_tuple _ _ hy hu,P4.int_tuple _ _ hy hu⟩
  |dic ks ds=>exact absurd rfl (d2 ks ds)|exc c=>exact absurd rfl (x2 c)|ob k c=>exact absurd rfl (o2 k c)
 |str x=>
  cases y with
  |non=>
   obtain rfl:=Rep.str_iff.mp rx;obtain⟨tx,rfl⟩:∃t,a=Ri _ t:=qx;obtain rfl:=aN.mp ry;obtain rfl:b=QY:=qy;unfold cC;exact⟨Qb.str_none _ _,P8.str_none _ _,P4.str_none _ _⟩
  |bl y=>
   obtain rfl:=Rep.str_iff.mp rx;obtain⟨tx,rfl⟩:∃t,a=Ri _ t:=qx;obtain rfl:=aC.mp ry;obtain rfl:b=QZ _:=qy;unfold cC;exact⟨Qb.str_bool _ _ _,P8.str_bool _ _ _,P4.str_bool _ _ _⟩
  |int y=>
   obtain rfl:=Rep.str_iff.mp rx;obtain⟨tx,rfl⟩:∃t,a=Ri _ t:=qx;obtain rfl:=az.mp ry;obtain⟨ty,rfl⟩:∃t,b=Rj _ t:=qy;unfold cC;exact⟨Qb.str_int _ _ _ _,P8.str_int _ _ _ _,P4.str_int _ _ _ _⟩
  |str y=>
   obtain rfl:=Rep.str_iff.mp rx;obtain⟨tx,rfl⟩:∃t,a=Ri _ t:=qx;obtain rfl:=Rep.str_iff.mp ry;obtain⟨ty,rfl⟩:∃t,b=Ri _ t:=qy;unfold cC;exact⟨Qb.str_str _ _ _ _,P8.str_str _ _ _ _,P4.str_str _ _ _ _⟩
  |lst y=>
   obtain rfl:=Rep.str_iff.mp rx;obtain⟨tx,rfl⟩:∃t,a=Ri _ t:=qx;obtain⟨ly,_,_,rfl,rfl,_,_,_,hy,_⟩:=br I ry qy;unfold cC;exact⟨Qb.str_list _ _ hy hu,P8.str_list _ _ hy hu,P4.str_list _ _ hy hu⟩
  |tup y=>
   obtain rfl:=Rep.str_iff.mp rx;obtain⟨tx,rfl⟩:∃t,a=Ri _ t:=qx;obtain⟨ly,_,_,rfl,rfl,_,_,_,hy,_⟩:=bu I ry qy;unfold cC;exact⟨Qb.str_tuple _ _ hy hu,P8.str_tuple _ _ hy hu,P4.str_tuple _ _ hy hu⟩
  |dic ks ds=>exact absurd rfl (d2 ks ds)|exc c=>exact absurd rfl (x2 c)|ob k c=>exact absurd rfl (o2 k c)
 |lst x=>
  cases y with
  |non=>
   obtain⟨lx,_,_,rfl,rfl,_,_,_,hx,_⟩:=br I rx qx;obtain rfl:=aN.mp ry;obtain rfl:b=QY:=qy;unfold cC;exact⟨Qb.list_none  hx hu,P8.list_none  hx hu,P4.list_none  hx hu⟩
  |bl y=>
   obtain⟨lx,_,_,rfl,rfl,_,_,_,hx,_⟩:=br I rx qx;obtain rfl:=aC.mp ry;obtain rfl:b=QZ _:=qy;unfold cC;exact⟨Qb.list_bool _ hx hu,P8.list_bool _ hx hu,P4.list_bool _ hx hu⟩
  |int y=>
   obtain⟨lx,_,_,rfl,rfl,_,_,_,hx,_⟩:=br I rx qx;obtain rfl:=az.mp ry;obtain⟨ty,rfl⟩:∃t,b=Rj _ t:=qy;unfold cC;exact⟨Qb.list_int _ _ hx hu,P8.list_int _ _ hx hu,P4.list_int _ _ hx hu⟩
  |str y=>
   obtain⟨lx,_,_,rfl,rfl,_,_,_,hx,_⟩:=br I rx qx;obtain rfl:=Rep.str_iff.mp ry;obtain⟨ty,rfl⟩:∃t,b=Ri _ t:=qy;unfold cC;exact⟨Qb.list_str _ _ hx hu,P8.list_str _ _ hx hu,P4.list_str _ _ hx hu⟩
  |lst y=>
   exact absurd ⟨rfl,rfl⟩ (n1 x y)
  |tup y=>
   obtain⟨lx,_,_,rfl,rfl,_,_,_,hx,_⟩:=br I rx qx;obtain⟨ly,_,_,rfl,rfl,_,_,_,hy,_⟩:=bu I ry qy;unfold cC;exact⟨Qb.list_tuple  hx hy hu,P8.list_tuple  hx hy hu,P4.list_tuple  hx hy hu⟩
  |dic ks ds=>exact absurd rfl (d2 ks ds)|exc c=>exact absurd rfl (x2 c)|ob k c=>exact absurd rfl (o2 k c)
 |tup x=>
  cases y with
  |non=>
   obtain⟨lx,_,_,rfl,rfl,_,_,_,hx,_⟩:=bu I rx qx;obtain rfl:=aN.mp ry;obtain rfl:b=QY:=qy;unfold cC;exact⟨Qb.tuple_none  hx hu,P8.tuple_none  hx hu,P4.tuple_none  hx hu⟩
  |bl y=>
   obtain⟨lx,_,_,rfl,rfl,_,_,_,hx,_⟩:=bu I rx qx;obtain rfl:=aC.mp ry;obtain rfl:b=QZ _:=qy;unfold cC;exact⟨Qb.tuple_bool _ hx hu,P8.tuple_bool _ hx hu,P4.tuple_bool _ hx hu⟩
  |int y=>
   obtain⟨lx,_,_,rfl,rfl,_,_,_,hx,_⟩:=bu I rx qx;obtain rfl:=az.mp ry;obtain⟨ty,rfl⟩:∃t,b=Rj _ t:=qy;unfold cC;exact⟨Qb.tuple_int _ _ hx hu,P8.tuple_int _ _ hx hu,P4.tuple_int _ _ hx hu⟩
  |str y=>
   obtain⟨lx,_,_,rfl,rfl,_,_,_,hx,_⟩:=bu I rx qx;obtain rfl:=Rep.str_iff.mp ry;obtain⟨ty,rfl⟩:∃t,b=Ri _ t:=qy;unfold cC;exact⟨Qb.tuple_str _ _ hx hu,P8.tuple_str _ _ hx hu,P4.tuple_str _ _ hx hu⟩
  |lst y=>
   obtain⟨lx,_,_,rfl,rfl,_,_,_,hx,_⟩:=bu I rx qx;obtain⟨ly,_,_,rfl,rfl,_,_,_,hy,_⟩:=br I ry qy;unfold cC;exact⟨Qb.tuple_list  hx hy hu,P8.tuple_list  hx hy hu,P4.tuple_list  hx hy hu⟩
  |tup y=>
   exact absurd ⟨rfl,rfl⟩ (n2 x y)
  |dic ks ds=>exact absurd rfl (d2 ks ds)|exc c=>exact absurd rfl (x2 c)|ob k c=>exact absurd rfl (o2 k c)
 |dic ks ds=>exact absurd rfl (d1 ks ds)
 |exc c=>exact absurd rfl (x1 c)
 |ob k c=>exact absurd rfl (o1 k c)
def JI(I:Inv X π σ H s):∀(n:Nat) (A:Qp),A.units+n<S0->∀(x y:D) (v u:V) (a b:Pd),bg n x=true->bg n y=true->Rep X.K H x v->Rep X.K H y u->bS v a->bS u b ->
  Qb A s a b (cC x y)/\P8 A s a b (cC x y)/\P4 A s a b (!(cC x y)):=by
 have nd:∀m ks ds,bg m (.dic ks ds)=true->False:=λm ks ds h=>by cases m<;>(unfold bg at h;cases h)
 have nx:∀m x,bg m (.exc x)=true->False:=λm x h=>by cases m<;>(unfold bg at h;cases h)
 have nb:∀m k x,bg m (.ob k x)=true->False:=λm k x h=>by cases m<;>(unfold bg at h;cases h)
 intro n
 induction n with
 |zero=>
  intro A hu x y v u a b sx sy rx ry qa qb;refine vy I (by omega) rx ry qa qb (λds ds' z=>?_) (λds ds' z=>?_) (λks ds z=>?_) (λks ds z=>?_) (λc z=>nx _ _ (z▸sx)) (λc z=>nx _ _ (z▸sy)) (λk c z=>nb _ _ _ (z▸sx)) (λk c z=>nb _ _ _ (z▸sy))
  .rw[z.1]at sx;unfold bg at sx;cases sx
  .rw[z.1]at sx;unfold bg at sx;cases sx
  .rw[z]at sx;exact nd _ _ _ sx
  .rw[z]at sy;exact nd _ _ _ sy
 |succ n ih=>
  intro A hu x y v u a b sx sy rx ry qa qb;have ih':∀(x y:D) (v u:V) (a b:Pd),bg n x=true->bg n y=true->Rep X.K H x v->Rep X.K H y u->bS v a->bS u b->P8 A.in1 s a b (cC x y) :=
   λx y v u a b s1 s2 r1 r2 q1 q2=>(ih A.in1 (by show A.units+1+n<S0;omega) x y v u a b s1 s2 r1 r2 q1 q2).2.1
  by_cases t1:∃ds ds',x=.tup ds/\y=.tup ds'
  .obtain⟨xs,ys,rfl,rfl⟩:=t1
   obtain⟨l,vs,is,rfl,rfl,h1,h2,h3,h4,h5⟩:=bu I rx qa;obtain⟨m,us,js,rfl,rfl,k1,k2,k3,k4,k5⟩:=bu I ry qb;have hsx:=sx;have hsy:=sy;unfold bg at sx sy;have each:=vX (A:=A) ih' sx sy h2 k2 h3 k3;have eall:cC (.tup xs) (.tup ys)=((Q0 (min is.toArray.size js.toArray.size)).all (λj=>cC (xs.getD j .non) (ys.getD j .non))&&is.toArray.size==js.toArray.size):=by
    rw[Hs];simp only[P6,←h5,←k5]
    by_cases hl:xs.length=ys.length
    .rw[lL xs ys hl,←hl,Nat.min_self,beq_self_eq_true,Rb]
    .rw[qt xs ys hl,beq_eq_false_iff_ne.mpr hl,PR]
   refine⟨?_,?_,?_⟩
   .rw[eall];exact Qb.tuples h4 k4 (by omega) each
   .by_cases hlm:l=m
    .subst hlm
     rw[Rep.inj I (n+1) _ _ _ hsx hsy rx ry,kf (n+1) _ hsy];exact TZ _
    .refine Te hlm ?_
     rw[eall];exact Qb.tuples h4 k4 (by omega) each
   .rw[eall];exact P4.tuples h4 k4 (by omega) each
  .by_cases t2:∃ds ds',x=.lst ds/\y=.lst ds'
   .obtain⟨xs,ys,rfl,rfl⟩:=t2
    obtain⟨l,vs,is,rfl,rfl,h1,h2,h3,h4,h5⟩:=br I rx qa;obtain⟨m,us,js,rfl,rfl,k1,k2,k3,k4,k5⟩:=br I ry qb;have hsx:=sx;have hsy:=sy;unfold bg at sx sy;have each:=vX (A:=A) ih' sx sy h2 k2 h3 k3
    by_cases hl:xs.length=ys.length
    .have hsz:is.toArray.size=js.toArray.size:=by simp only[P6];omega
     have eall:cC (.lst xs) (.lst ys)=(Q0 is.toArray.size).all (λj=>cC (xs.getD j .non) (ys.getD j .non)):=by
      rw[zH];simp only[P6,←h5];exact lL xs ys hl
     refine⟨?_,?_,?_⟩
     .rw[eall];exact Qb.lists h4 k4 hsz (by omega) each
     .by_cases hlm:l=m
      .subst hlm
       rw[Rep.inj I (n+1) _ _ _ hsx hsy rx ry,kf (n+1) _ hsy];exact TZ _
      .refine Te hlm ?_
       rw[eall];exact Qb.lists h4 k4 hsz (by omega) each
     .rw[eall];exact P4.lists h4 k4 hsz (by omega) each
    .have hsz:(is.toArray.size != js.toArray.size)=true:=by simp only[P6,bne_iff_ne,ne_eq];omega
     have eall:cC (.lst xs) (.lst ys)=false:=by rw[zH];exact qt xs ys hl
     rw[eall];refine⟨Ui h4 k4 hsz (by omega),?_,P4.lists_lengths h4 k4 hsz (by omega)⟩;refine Te (λe=>?_) (Ui h4 k4 hsz (by omega));subst e;have:=Rep.inj I (n+1) _ _ _ hsx hsy rx ry;cases this;exact hl rfl
   .exact vy I (by omega) rx ry qa qb (λds ds' z=>t2 ⟨ds,ds',z⟩) (λds ds' z=>t1 ⟨ds,ds',z⟩) (λks ds z=>by rw[z]at sx;exact nd _ _ _ sx) (λks ds z=>by rw[z]at sy;exact nd _ _ _ sy) (λc z=>nx _ _ (z▸sx)) (λc z=>nx _ _ (z▸sy)) (λk c z=>nb _ _ _ (z▸sx)) (λk c z=>nb _ _ _ (z▸sy))
end
section
variable {X:Cx}{E:XK}
def cQ(x y:D):aj D:=if bg 40 x=true/\bg 40 y=true then .ok (.bl (cC x y)) else .stuck
def ir(x y:D):aj D:=if bg 40 x=true/\bg 40 y=true then .ok (.bl (!(cC x y))) else .stuck
def Mf(K:Pl):R2:=λv u H Q=>∃x y,Rep K H x v/\Rep K H y u/\bg 40 x=true/\bg 40 y=true/\Q (.bl (cC x y)) H
def Ma(K:Pl):R2:=λv u H Q=>∃x y,Rep K H x v/\Rep K H y u/\bg 40 x=true/\bg 40 y=true/\Q (.bl (!(cC x y))) H
def aY(hu:X.A.units+64<S0):gK X (QF .Eq) (Mf X.K):=by
 intro π s σ H x y v u Q I rx ry h;obtain⟨d,d',h1,h2,s1,s2,q⟩:=h;exact(JI I 40 X.A (by omega) d d' x y v u s1 s2 h1 h2 rx ry).1 _ _ _ _ ⟨.bl _,H,I,rfl,q⟩
def dR(hu:X.A.units+64<S0):gK X (QF .NotEq) (Ma X.K):=by
 intro π s σ H x y v u Q I rx ry h;obtain⟨d,d',h1,h2,s1,s2,q⟩:=h;exact(JI I 40 X.A (by omega) d d' x y v u s1 s2 h1 h2 rx ry).2.2 _ _ _ _ ⟨.bl _,H,I,rfl,q⟩
def bH:zS X.K E (Mf X.K) cQ:=by
 intro x y v u H Ha Q hs r1 r2 q;unfold cQ at q
 by_cases c:bg 40 x=true/\bg 40 y=true
 .rw[if_pos c]at q
  exact⟨x,y,r1.mono hs,r2.mono hs,c.1,c.2,q _ H Ha (bq.refl hs) (aC.mpr rfl)⟩
 .rw[if_neg c]at q;exact q.elim
def fF:zS X.K E (Ma X.K) ir:=by
 intro x y v u H Ha Q hs r1 r2 q;unfold ir at q
 by_cases c:bg 40 x=true/\bg 40 y=true
 .rw[if_pos c]at q
  exact⟨x,y,r1.mono hs,r2.mono hs,c.1,c.2,q _ H Ha (bq.refl hs) (aC.mpr rfl)⟩
 .rw[if_neg c]at q;exact q.elim
open Classical in
noncomputable def k8(K:Pl) (H:Hp) (ds:ac) (x:D) (u:Pd):Bool :=
 if h:∃d,d∈ds/\∃v,Rep K H d v/\bS v u then cC h.choose x else false
def zG{π:List (Pg×Obj)}{σ:L2.St}{H:Hp}{s:Pm}(I:Inv X π σ H s){ds:ac}{x d:D}{v:V}{u:Pd}(sd:ds.all (bg 40)=true)(hd:d∈ds)(r:Rep X.K H d v)(q:bS v u):k8 X.K H ds x u=cC d x:=by
 have h:∃d,d∈ds/\∃v,Rep X.K H d v/\bS v u:=⟨d,hd,v,r,q⟩
 unfold k8;rw[dif_pos h];obtain⟨h1,v',h2,h3⟩:=h.choose_spec;have e:v'=v:=h3.inj q;subst e;rw[Rep.inj I 40 _ _ _ (Qf.mp sd _ h1) (Qf.mp sd _ hd) h2 r]
def xy(K:Pl)(neg:Bool):R2:=λv u H Q=>∃x ds,Rep K H x v/\(Rep K H (.lst ds) u∨Rep K H (.tup ds) u)/\bg 40 x=true/\ds.all (bg 40)=true/\Q (.bl (if neg then !(ds.any λd=>cC d x) else ds.any λd=>cC d x)) H
theorem ko{π:List (Pg×Obj)}{σ:L2.St}{H:Hp}{s:Pm}(I:Inv X π σ H s){x:D}{es:ac}(se:es.all (bg 40)=true):∀{ds:ac}{vs:al}{us:List Pd},(∀d∈ds,d∈es)->Reps X.K H ds vs->bM vs us->us.any (k8 X.K H es x)=ds.any λd=>cC d x
 |[],_,_,_,h,q=>by
  rw[Reps.nil_iff.mp h]at q;cases q;rfl
 |d::ds,_,_,hm,h,q=>by
  obtain⟨v,r,rfl,h1,h2⟩:=aD.mp h;cases q with
  |cons q1 q2=>
   rw[Uo,Uo,zG I se (hm d P0) h1 q1,ko I se (λx hx=>hm x (Pw _ hx)) h2 q2]
theorem i9{π:List (Pg×Obj)}{σ:L2.St}{H:Hp}{s:Pm}(I:Inv X π σ H s)(hu:X.A.units+64<S0){x:D}{v:V}{u:Pd}(sx:bg 40 x=true)(rx:Rep X.K H x v)(qx:bS v u){es:ac}(se:es.all (bg 40)=true):∀{ds:ac}{vs:al}{us:List Pd},(∀d∈ds,d∈es)->Reps X.K H ds vs->bM vs us->∀y∈us,P8 X.A.in1 s y u (k8 X.K H es x y)
 |[],_,_,_,h,q=>λy hy=>by
  rw[Reps.nil_iff.mp h]at q;cases q;cases hy
 |d::ds,_,_,hm,h,q=>λy hy=>by
  obtain⟨w,r,rfl,h1,h2⟩:=aD.mp h;cases q with
  |cons q1 q2=>
   rcases PL.mp hy with rfl|hy
   .rw[zG I se (hm d P0) h1 q1]
    exact(JI I 40 X.A.in1 (by show X.A.units+1+40<S0;omega) d x w v _ u (Qf.mp se _ (hm d P0)) sx h1 rx q1 qx).2.1
   .exact i9 I hu sx rx qx se (λx hx=>hm x (Pw _ hx)) h2 q2 y hy
def J3(hu:X.A.units+64<S0):gK X (QF .In) (xy X.K false):=by
 intro π s σ H x y v u Q I rx ry h;obtain⟨d,ds,h1,h2,s1,s2,q⟩:=h;rcases h2 with h2|h2
 .obtain⟨a,vs,its,rfl,rfl,k1,k2,k3,k4,k5⟩:=br I h2 ry
  refine SeqAt.in_listAt (k8 X.K H ds d) k4 (λw hw=>i9 I hu s1 h1 rx s2 (λ_ z=>z) k2 k3 w (by simpa using hw)) ⟨.bl _,H,I,rfl,?_⟩;rw[show its.toArray.any (k8 X.K H ds d)=its.any (k8 X.K H ds d) by simp,ko I s2 (λ_ z=>z) k2 k3];exact q
 .obtain⟨a,vs,its,rfl,rfl,k1,k2,k3,k4,k5⟩:=bu I h2 ry
  refine SeqAt.in_tupleAt (k8 X.K H ds d) k4 (λw hw=>i9 I hu s1 h1 rx s2 (λ_ z=>z) k2 k3 w (by simpa using hw)) ⟨.bl _,H,I,rfl,?_⟩;rw[show its.toArray.any (k8 X.K H ds d)=its.any (k8 X.K H ds d) by simp,ko I s2 (λ_ z=>z) k2 k3];exact q
def AK(hu:X.A.units+64<S0):gK X (QF .NotIn) (xy X.K true):=by
 intro π s σ H x y v u Q I rx ry h;obtain⟨d,ds,h1,h2,s1,s2,q⟩:=h;rcases h2 with h2|h2
 .obtain⟨a,vs,its,rfl,rfl,k1,k2,k3,k4,k5⟩:=br I h2 ry
  refine SeqAt.notIn_listAt (k8 X.K H ds d) k4 (λw hw=>i9 I hu s1 h1 rx s2 (λ_ z=>z) k2 k3 w (by simpa using hw)) ⟨.bl _,H,I,rfl,?_⟩;rw[show its.toArray.any (k8 X.K H ds d)=its.any (k8 X.K H ds d) by simp,ko I s2 (λ_ z=>z) k2 k3];exact q
 .obtain⟨a,vs,its,rfl,rfl,k1,k2,k3,k4,k5⟩:=bu I h2 ry
  refine SeqAt.notIn_tupleAt (k8 X.K H ds d) k4 (λw hw=>i9 I hu s1 h1 rx s2 (λ_ z=>z) k2 k3 w (by simpa using hw)) ⟨.bl _,H,I,rfl,?_⟩;rw[show its.toArray.any (k8 X.K H ds d)=its.any (k8 X.K H ds d) by simp,ko I s2 (λ_ z=>z) k2 k3];exact q
def Ik(i j:Pj):Bool:=!(RE j i 0 j.length 1).isEmpty
noncomputable def Di(x y:D):Option Bool:=match y with
 |.lst ds=>if bg 40 x=true/\ds.all (bg 40)=true then some (ds.any λd=>cC d x) else none
 |.tup ds=>if bg 40 x=true/\ds.all (bg 40)=true then some (ds.any λd=>cC d x) else none
 |.str j=>match x with
  |.str i=>some (Ik i j)
  |_=>none
 |_=>none
def wU(x y:D):aj D:=match Di x y with
 |some b=>.ok (.bl b)
 |none=>.stuck
def b5(x y:D):aj D:=match Di x y with
 |some b=>.ok (.bl (!b))
 |none=>.stuck
def Ck(neg:Bool):R2:=λx y H Q=>∃i j,x=.str i/\y=.str j/\Q (.bl (if neg then !(Ik i j) else Ik i j)) H
def sE(hu:X.A.units+64<S0):gK X (QF .In) (λv u H Q=>xy X.K false v u H Q∨Ck false v u H Q):=gK.or (J3 hu) (by
 intro π s σ H x y v u Q I rx ry h;obtain⟨i,j,rfl,rfl,q⟩:=h;exact AL π s σ H _ _ v u Q I rx ry ⟨i,j,rfl,rfl,q⟩)
def dE(hu:X.A.units+64<S0):gK X (QF .NotIn) (λv u H Q=>xy X.K true v u H Q∨Ck true v u H Q):=gK.or (AK hu) (by
 intro π s σ H x y v u Q I rx ry h;obtain⟨i,j,rfl,rfl,q⟩:=h;exact um π s σ H _ _ v u Q I rx ry ⟨i,j,rfl,rfl,q⟩)
def vN{neg:Bool}{x y:D}{v u:V}{H Ha:Hp}{Q:VK}(hs:aF Ha H)(r1:Rep X.K Ha x v)(r2:Rep X.K Ha y u)
  (q:post X.K E H Ha (match Di x y with|some b=>.ok (.bl (if neg then !b else b))|none=>.stuck) Q):xy X.K neg v u H Q∨Ck neg v u H Q:=by
 cases y with
 |lst ds=>
  simp only[Di]at q
  by_cases c:bg 40 x=true/\ds.all (bg 40)=true
  .rw[if_pos c]at q
   exact .inl ⟨x,ds,r1.mono hs,.inl (r2.mono hs),c.1,c.2,q _ H Ha (bq.refl hs) (aC.mpr rfl)⟩
  .rw[if_neg c]at q;exact q.elim
 |tup ds=>
  simp only[Di]at q
  by_cases c:bg 40 x=true/\ds.all (bg 40)=true
  .rw[if_pos c]at q
   exact .inl ⟨x,ds,r1.mono hs,.inr (r2.mono hs),c.1,c.2,q _ H Ha (bq.refl hs) (aC.mpr rfl)⟩
  .rw[if_neg c]at q;exact q.elim
 |str j=>
  cases x with|str i=>exact .inr ⟨i,j,Rep.str_iff.mp r1,Rep.str_iff.mp r2,q _ H Ha (bq.refl hs) (aC.mpr rfl)⟩| _=>exact q.elim
 |_=>exact q.elim
def sG:zS X.K E (λv u H Q=>xy X.K false v u H Q∨Ck false v u H Q) wU:=λx y v u H Ha Q hs r1 r2 q=>vN (neg:=false) (E:=E) hs r1 r2 (by
 unfold wU at q;cases e:Di x y with
 |none=>rw[e]at q;exact q
 |some b=>rw[e]at q;exact q)
def dF:zS X.K E (λv u H Q=>xy X.K true v u H Q∨Ck true v u H Q) b5:=λx y v u H Ha Q hs r1 r2 q=>vN (neg:=true) (E:=E) hs r1 r2 (by
 unfold b5 at q;cases e:Di x y with
 |none=>rw[e]at q;exact q
 |some b=>rw[e]at q;exact q)
end
@[irreducible] def B9:Nat:=2 ^ 9000
@[irreducible] def EE:Nat:=2 ^ 13500
@[irreducible] def Lu:Nat:=2 ^ 60000
theorem zV:B9=2 ^ 9000:=by unfold B9;rfl
def ED:EE=2 ^ 13500:=by unfold EE;rfl
def EC:Lu=2 ^ 60000:=by unfold Lu;rfl
def pY{n k:Nat}(h:n<2 ^ k)(hk:0<k):n.log2<k:=by
 by_cases h0:n=0
 .rw[h0]
  have:Nat.log2 0=0:=by decide
  omega
 .exact(Nat.log2_lt h0).mpr h
def Mw{x y:Int}(h:y.natAbs<B9):RM x y=false:=by
 rw[zV]at h;exact PyProof.noPylong_of_log2 (pY h (by omega))
def J5{x y:Int}(h:x.natAbs<EE):RM x y=false:=by
 rw[ED]at h;have hx:x.natAbs.log2<13500:=pY h (by omega);show(decide ((if y==0 then 0 else y.natAbs.log2 / 30+1) > 300)&&decide ((if x==0 then 0 else x.natAbs.log2 / 30+1) > (if y==0 then 0 else y.natAbs.log2 / 30+1)+150))=false;have k:(if x==0 then 0 else x.natAbs.log2 / 30+1)<=450:=by
  by_cases hx0:(x==0)=true
  .rw[if_pos hx0];omega
  .rw[if_neg hx0];omega
 by_cases c:(if y==0 then 0 else y.natAbs.log2 / 30+1) > 300
 .rw[S6];right;exact decide_eq_false (by omega)
 .rw[S6];left;exact decide_eq_false c
def ki(i j:Int):Bool:=decide (j≠0)&&(decide (j.natAbs<B9)||decide (i.natAbs<EE))
def jK(i j:Int):Bool:=decide (i.natAbs<Lu)&&decide (j.natAbs<Lu)
def ki.ok{i j:Int}(h:ki i j=true):j≠0/\RM i j=false:=by
 unfold ki at h;rw[Pr,S2]at h;refine⟨of_decide_eq_true h.1,?_⟩;rcases h.2 with h|h
 .exact Mw (of_decide_eq_true h)
 .exact J5 (of_decide_eq_true h)
def jK.ok{i j:Int}(h:jK i j=true):IntMulOk i j:=by
 unfold jK at h;rw[Pr]at h;have h1:=of_decide_eq_true h.1;have h2:=of_decide_eq_true h.2;rw[EC]at h1 h2;exact PyProof.Rows.mulOk_of_bits (m:=60000) (n:=60000) (U1.mpr h1) (U1.mpr h2) (by decide)
section
variable {X:Cx}{E:XK}{e a b c:Qe}{es:List Qe}{f g k:am}{fa:Ev->aj (ac)}{pos:Pos}
def bR{K:Pl}{H Ha:Hp}{d:D}{v:V}{Q:VK}(hs:aF Ha H)(q:post K E H Ha (.ok d) Q)(r:Rep K Ha d v):Q v H:=q v H Ha (bq.refl hs) r
def vY(c:Int->Int->Bool)(g:Int->Int->D)(x y:D):aj D:=match x,y with
 |.int i,.int j=>if c i j=true then .ok (g i j) else .stuck
 |_,_=>.stuck
def xJ{C:Int->Int->Prop}{c:Int->Int->Bool}{gv:Int->Int->V}{g:Int->Int->D}(hc:∀i j,c i j=true->C i j)(hg:∀K H i j,Rep K H (g i j) (gv i j)):zS X.K E (rI C gv) (vY c g):=by
 intro x y v u H Ha Q hs r1 r2 q;unfold vY at q;cases x with
 |int i=>
  cases y with
  |int j=>
   by_cases h:c i j=true
   .simp only[if_pos h]at q
    exact⟨i,j,az.mp r1,az.mp r2,hc i j h,bR hs q (hg _ _ i j)⟩
   .simp only[if_neg h]at q;exact q.elim
  |_=>exact q.elim
 |_=>exact q.elim
def bY{gv:Int->Int->V}{g:Int->Int->D}(hg:∀K H i j,Rep K H (g i j) (gv i j)):zS X.K E (EF gv) (vY (λ_ _=>true) g):=by
 intro x y v u H Ha Q hs r1 r2 q;unfold vY at q;cases x with
 |int i=>
  cases y with|int j=>simp only[if_pos]at q;exact⟨i,j,az.mp r1,az.mp r2,bR hs q (hg _ _ i j)⟩| _=>exact q.elim
 |_=>exact q.elim
def ri{K:Pl}{H:Hp}(n:Int):Rep K H (.int n) (.int n):=az.mpr rfl
def rb{K:Pl}{H:Hp}(n:Bool):Rep K H (.bl n) (.bl n):=aC.mpr rfl
abbrev uS:=vY (λ_ _=>true) λi j=>.int (i-j)
abbrev nv:=vY ki λi j=>.int (i.fdiv j)
abbrev cZ:=vY (λ_ j=>decide (j≠0)) λi j=>.int (i.fmod j)
abbrev uT:=vY (λi j=>decide (0<=j)&&decide (j<=1000000)&&decide (i.natAbs<18446744073709551616)) λi j=>.int (i ^ j.toNat)
abbrev jO:=vY (λ_ _=>true) λi j=>.bl (decide (i<j))
abbrev Bx:=vY (λ_ _=>true) λi j=>.bl (decide (i<=j))
abbrev wV:=vY (λ_ _=>true) λi j=>.bl (decide (j<i))
abbrev HC:=vY (λ_ _=>true) λi j=>.bl (decide (j<=i))
def FV:gK X (binaryOp .Mult) (rI IntMulOk λi j=>.int (i*j)):=Nu λ_ _ _ _ _ _ _ hc q=>mul_int q hc
def FX:gK X (binaryOp .FloorDiv) (rI (λi j=>j≠0/\RM i j=false) λi j=>.int (i.fdiv j)):=Nu λ_ _ _ _ _ _ _ hc q=>floordiv_int hc.1 q (.inl hc.2)
def qC(ha:DE X E a f)(hb:DE X E b g):DE X E (.BinOp a .Sub b pos) (aa f g uS):=sX J0 (bY λ_ _ _ _=>ri _) ha hb
def nu(ha:DE X E a f)(hb:DE X E b g):DE X E (.BinOp a .FloorDiv b pos) (aa f g nv):=sX FX (xJ (λ_ _ h=>ki.ok h) λ_ _ _ _=>ri _) ha hb
def dW(ha:DE X E a f)(hb:DE X E b g):DE X E (.BinOp a .Mod b pos) (aa f g cZ):=sX FW (xJ (λ_ _ h=>of_decide_eq_true h) λ_ _ _ _=>ri _) ha hb
def yl(ha:DE X E a f)(hb:DE X E b g):DE X E (.BinOp a .Pow b pos) (aa f g uT):=sX J2 (xJ (λi j h=>by
 rw[Pr,Pr]at h;exact⟨of_decide_eq_true h.1.1,of_decide_eq_true h.1.2,of_decide_eq_true h.2⟩) λ_ _ _ _=>ri _) ha hb
def nm{op:CmpOp}{b:Qe}(h1:op≠.In:=by decide)(h2:op≠.NotIn:=by decide):behindInMarks op b=false:=CQ _ h1 h2
def Na(x:D):aj D:=match x with
 |.int i=>.ok (.int (-i))
 |_=>.stuck
def K3(ha:DE X E a f):DE X E (.UnaryOp .USub a pos) (aW f Na):=M8 Jh (by
 intro x v H Ha Q hs r q;cases x with
 |int i=>exact⟨i,az.mp r,bR hs q (ri _)⟩
 |_=>exact q.elim) ha
def FZ:gK X (binaryOp .Add) (λx y H Q=>∃l b xs zs,x=.ref l/\y=.ref b/\gJ X.K H l xs/\gJ X.K H b zs/\xs.length+zs.length<=sizeLine/\∀p,H p=none->Q (.ref p) (upd H p (.lst (xs++zs)))):=by
 intro π s σ H x y v u Q I rx ry h;obtain⟨l,b,xs,zs,rfl,rfl,hH,hB,hz,q⟩:=h;cases rx;cases ry;obtain⟨its,r,pl,z⟩:=I.list hH;obtain⟨its2,r2,pl2,z2⟩:=I.list hB;obtain⟨⟨cls,dd,data,sl⟩,ho,hc,n,hd⟩:=pl.isList;obtain⟨⟨cls2,dd2,data2,sl2⟩,ho2,hc2,n2,hd2⟩:=pl2.isList;simp only at hc hd hc2 hd2;subst hc hd hc2 hd2;have e:its.toArray++its2.toArray=(its++its2).toArray:=by simp
 have l1:=r.length;have l2:=r2.length;refine concat_meets ⟨_,ho,rfl⟩ ⟨_,ho2,rfl⟩ noFill_list_add seq_list_add PySem.F.slot_list_add PySem.F.entry_list_add (PySem.F.args_list_add_2 _ _) (list_addW l b its.toArray its2.toArray n n2 dd dd2 sl sl2 (by simp only[P6];omega)) ⟨ho,ho2,?_⟩;rw[e];exact⟨.ref _,_,I.lnew (t':=s.toks) (r.append r2) (by rw[P1];omega),rfl,q _ I.fresh⟩
noncomputable def bf(x y:D):aj D:=match x,y with
 |.int i,.int j=>.ok (.int (i+j))
 |.str i,.str j=>if i.length+j.length<=line then .ok (.str (i++j)) else .stuck
 |.lst ds,.lst es=>if ds.length+es.length<=line then .ok (.lst (ds++es)) else .stuck
 |.tup ds,.tup es=>if ds.isEmpty=false/\ds.length+es.length<=line then .ok (.tup (ds++es)) else .stuck
 |_,_=>.stuck
def bc(ha:DE X E a f)(hb:DE X E b g):DE X E (.BinOp a .Add b pos) (aa f g bf):=sX (gK.or J4 (gK.or xI (gK.or FZ FY))) (by
 intro x y v u H Ha Q hs r1 r2 q;unfold bf at q;cases x with
 |int i=>
  cases y with|int j=>exact .inl ⟨i,j,az.mp r1,az.mp r2,bR hs q (ri _)⟩| _=>exact q.elim
 |str i=>
  cases y with
  |str j=>
   by_cases h:i.length+j.length<=line
   .simp only[if_pos h]at q
    exact .inr (.inl ⟨i,j,Rep.str_iff.mp r1,Rep.str_iff.mp r2,fJ h,bR hs q (Rep.str_iff.mpr rfl)⟩)
   .simp only[if_neg h]at q;exact q.elim
  |_=>exact q.elim
 |lst ds=>
  cases y with
  |lst es=>
   by_cases h:ds.length+es.length<=line
   .simp only[if_pos h]at q
    obtain⟨l,vs,rfl,h1,h2⟩:=aH.mp r1;obtain⟨m,us,rfl,k1,k2⟩:=aH.mp r2;refine .inr (.inr (.inl ⟨l,m,vs,us,rfl,rfl,aF.sqL hs h1,aF.sqL hs k1,by rw[←h2.length,←k2.length];exact fJ h,λp hp=>?_⟩));exact q _ _ _ (aX hs hp) (aH.mpr ⟨p,_,rfl,gJ.of ay,(h2.app k2).mono (aX hs hp).z⟩)
   .simp only[if_neg h]at q;exact q.elim
  |_=>exact q.elim
 |tup ds=>
  cases y with
  |tup es=>
   by_cases h:ds.isEmpty=false/\ds.length+es.length<=line
   .simp only[if_pos h]at q
    obtain⟨l,vs,rfl,h1,h2⟩:=aJ.mp r1;obtain⟨m,us,rfl,k1,k2⟩:=aJ.mp r2;refine .inr (.inr (.inr ⟨l,m,vs,us,rfl,rfl,aF.sqT hs h1,aF.sqT hs k1,λz=>?_,by rw[←h2.length,←k2.length];exact fJ h.2,λz=>?_,λz p hp=>?_⟩))
    .have:=h2.length
     rw[z]at this;have e:ds=[]:=Q3.mp this;rw[e]at h;exact absurd h.1 (by decide)
    .have:=k2.length
     rw[z]at this;have e:es=[]:=Q3.mp this;rw[e,Rr]at q;exact bR hs q r1
    .exact q _ _ _ (aX hs hp) (aJ.mpr ⟨p,_,rfl,lT.of ay,(h2.app k2).mono (aX hs hp).z⟩)
   .simp only[if_neg h]at q;exact q.elim
  |_=>exact q.elim
 |_=>exact q.elim) ha hb
noncomputable def aG(x y:D):aj D:=match y with
 |.int i=>match x with
  |.lst ds=>match atI ds i with
   |some d=>.ok d
   |none=>.stuck
  |.tup ds=>match atI ds i with
   |some d=>.ok d
   |none=>.stuck
  |.str z=>if z.length<=line then match atI z.cps.toList i with
   |some c=>.ok (.str ⟨#[c]⟩)
   |none=>.stuck else .stuck
  |_=>.stuck
 |_=>.stuck
def Reps.atI{K:Pl}{H:Hp}{ds:ac}{vs:al}{i:Int}{d:D}(h:Reps K H ds vs)(e:atI ds i=some d):∃v,L2.atI vs i=some v/\Rep K H d v:=by
 unfold L2.atI at e ⊢;rw[←h.length];cases q:Iy ds.length i with
 |none=>rw[q]at e;cases e
 |some j=>
  rw[q]at e;exact h.get e
def Mu:zS X.K E (OG X.K) aG:=by
 intro x y v u H Ha Q hs r1 r2 q;unfold aG at q;cases y with
 |int i=>
  cases x with
  |lst ds=>
   obtain⟨l,vs,rfl,h1,h2⟩:=aH.mp r1;cases e:atI ds i with
   |none=>simp only[e]at q;exact q.elim
   |some d=>
    simp only[e]at q;obtain⟨w,e1,e2⟩:=h2.atI e;exact .inl ⟨l,vs,i,w,rfl,az.mp r2,aF.sqL hs h1,e1,bR hs q e2⟩
  |tup ds=>
   obtain⟨l,vs,rfl,h1,h2⟩:=aJ.mp r1;cases e:atI ds i with
   |none=>simp only[e]at q;exact q.elim
   |some d=>
    simp only[e]at q;obtain⟨w,e1,e2⟩:=h2.atI e;exact .inr (.inl ⟨l,vs,i,w,rfl,az.mp r2,aF.sqT hs h1,e1,bR hs q e2⟩)
  |str z=>
   by_cases hz:z.length<=line
   .simp only[if_pos hz]at q
    cases e:atI z.cps.toList i with
    |none=>simp only[e]at q;exact q.elim
    |some c=>
     simp only[e]at q;exact .inr (.inr ⟨z,i,c,Rep.str_iff.mp r1,az.mp r2,fJ hz,e,bR hs q (Rep.str_iff.mpr rfl)⟩)
   .simp only[if_neg hz]at q;exact q.elim
  |_=>exact q.elim
 |_=>exact q.elim
def ar(ha:DE X E a f)(hb:DE X E b g)(hs:kZ b:=by intro _ _;rfl):DE X E (.Subscript a b pos) (aa f g aG):=M9 Kf Mu ha hb hs
def fu:Ev->aj (Option Int):=λ_=>.ok none
def dG(f:am):Ev->aj (Option Int):=λρ=>(f ρ).bind λx=>match x with
 |.int i=>.ok (some i)
 |_=>.stuck
def NW(K:Pl)(E:XK)(f:Ev->aj (Option Int)):TO:=λσ H Q=>∃Ha ρ,aF Ha H/\fU K Ha σ ρ/\match f ρ with
 |.ok o=>∀H' Ha',bq H Ha H' Ha'->Q o H'
 |.exn x=>∀C ox H' Ha',bq H Ha H' Ha'->wY K Ha' x C ox->E C ox H'
 |.stuck=>False
structure DO (X:Cx) (E:XK) (e:Option Qe) (f:Ev->aj (Option Int)):Prop where
 o:PO X e (NW X.K E f)
def yT{eo:Option Qe}{t t':TO}(h:PO X eo t)(w:∀σ H Q,t' σ H Q->t σ H Q):PO X eo t':=λπ s σ H Q I q=>h π s σ H Q I (w σ H Q q)
def eO:DO X E none fu:=⟨yT FI λσ H Q ⟨Ha,ρ,hs,hr,q⟩=>q H Ha (bq.refl hs)⟩
def di(ha:DE X E a f):DO X E (some a) (dG f):=by
 refine⟨?_⟩;refine yT (FH ha.o) λσ H Q z9=>?_;obtain⟨Ha,ρ,hs,hr,q⟩:=z9;refine⟨Ha,ρ,hs,hr,?_⟩
 unfold dG at q;cases e1:f ρ with
 |stuck|exn x=>rw[e1]at q;exact q
 |ok d=>
  rw[e1]at q;intro v H1 H01 g1 r1;cases d with|int i=>exact⟨i,az.mp r1,q H1 H01 g1⟩| _=>exact q.elim
def rN(xs:ac)(lo hi:Option Int):ac:=(xs.drop (HT.sIx xs.length 0 lo)).take (HT.sIx xs.length xs.length hi-HT.sIx xs.length 0 lo)
def Reps.cut{K:Pl}{H:Hp}{ds:ac}{vs:al}(h:Reps K H ds vs)(lo hi:Option Int):Reps K H (rN ds lo hi) (wC vs lo hi):=by
 unfold rN wC;rw[←h.length];exact(h.drop _).take _
def vj{r:V->Option Int->Option Int->Hp->VK->Prop}{lo hi:Ev->aj (Option Int)}{m:D->Option Int->Option Int->aj D}
  (ho:∀x v l h H Ha Q,aF Ha H->Rep X.K Ha x v->post X.K E H Ha (m x l h) Q->r v l h H Q)(σ:L2.St)(H:Hp)(Q:VK)
  (h:tD X.K E (λρ=>(f ρ).bind λx=>(lo ρ).bind λl=>(hi ρ).bind λh=>m x l h) σ H Q):OD r (tD X.K E f) (NW X.K E lo) (NW X.K E hi) σ H Q:=by
 obtain⟨Ha,ρ,hs,hr,q⟩:=h;refine⟨Ha,ρ,hs,hr,?_⟩;replace q:post X.K E H Ha ((f ρ).bind λx=>(lo ρ).bind λl=>(hi ρ).bind λh=>m x l h) Q:=q;cases e1:f ρ with
 |stuck|exn x=>rw[e1]at q;exact q
 |ok x=>
  rw[e1]at q;intro v H1 H01 g1 r1;refine⟨H01,ρ,g1.sub,hr.mono g1.z,?_⟩;replace q:post X.K E H Ha ((lo ρ).bind λl=>(hi ρ).bind λh=>m x l h) Q:=q;replace q:=q.grow g1;cases e2:lo ρ with
  |stuck|exn x=>rw[e2]at q;exact q
  |ok l=>
   rw[e2]at q;intro H2 H02 g2;refine⟨H02,ρ,g2.sub,(hr.mono g1.z).mono g2.z,?_⟩;replace q:post X.K E H1 H01 ((hi ρ).bind λh=>m x l h) Q:=q;replace q:=q.grow g2;cases e3:hi ρ with
   |stuck|exn x=>rw[e3]at q;exact q
   |ok h=>
    rw[e3]at q;intro H3 H03 g3;exact ho x v l h H3 H03 Q g3.sub ((r1.mono g2.z).mono g3.z) (post.grow (r:=m x l h) q g3)
def m1(m:D->aj D)(ds:ac):aj D:=match ds with
 |[x]=>m x
 |_=>.stuck
def m2(m:D->D->aj D)(ds:ac):aj D:=match ds with
 |[x,y]=>m x y
 |_=>.stuck
def wF{r:al->Hp->VK->Prop}{m:D->aj D}(h:∀x v H Ha Q,aF Ha H->Rep X.K Ha x v->post X.K E H Ha (m x) Q->r [v] H Q):kv X E r (m1 m):=by
 intro ds vs H Ha Q hs hr q;unfold m1 at q
 match ds,hr,q with
 |[x],hr,q=>
  obtain⟨v,r',rfl,h1,h2⟩:=aD.mp hr;rw[Reps.nil_iff.mp h2];exact h x v H Ha Q hs h1 q
 |[],_,q=>exact q.elim
 |_::_::_,_,q=>exact q.elim
def IK{r:al->Hp->VK->Prop}{m:D->D->aj D}(h:∀x y v u H Ha Q,aF Ha H->Rep X.K Ha x v->Rep X.K Ha y u->post X.K E H Ha (m x y) Q->r [v,u] H Q):kv X E r (m2 m):=by
 intro ds vs H Ha Q hs hr q;unfold m2 at q
 match ds,hr,q with
 |[x,y],hr,q=>
  obtain⟨v,r',rfl,h1,h2⟩:=aD.mp hr;obtain⟨u,r'',rfl,h3,h4⟩:=aD.mp h2;rw[Reps.nil_iff.mp h4];exact h x y v u H Ha Q hs h1 h3 q
 |[],_,q=>exact q.elim
 |[_],_,q=>exact q.elim
 |_::_::_::_,_,q=>exact q.elim
def HE(x:D):aj D:=match x with
 |.int i=>.ok (.int (if i<0 then -i else i))
 |_=>.stuck
def Nb(x y:D):aj D:=match x,y with
 |.int i,.int j=>.ok (.int (if j > i then j else i))
 |_,_=>.stuck
def bz(x:D):aj D:=match x with
 |.lst ds=>.ok (.int ds.length)
 |.tup ds=>.ok (.int ds.length)
 |.str z=>if z.length<=line then .ok (.int z.length) else .stuck
 |_=>.stuck
def yr:kv X E (λxs H Q=>∃i,xs=[.int i]/\Q (.int (if i<0 then -i else i)) H) (m1 HE):=wF λx v H Ha Q hs r q=>by
 cases x with|int i=>exact⟨i,by rw[az.mp r],bR hs q (ri _)⟩| _=>exact q.elim
def K8:kv X E (λxs H Q=>∃i j,xs=[.int i,.int j]/\Q (.int (if j > i then j else i)) H) (m2 Nb):=IK λx y v u H Ha Q hs r r' q=>by
 cases x with
 |int i=>
  cases y with|int j=>exact⟨i,j,by rw[az.mp r,az.mp r'],bR hs q (ri _)⟩| _=>exact q.elim
 |_=>exact q.elim
def bL:kv X E (λxs H Q=>∃x n,xs=[x]/\Nm X.K x H n/\Q (.int n) H) (m1 bz):=wF λx v H Ha Q hs r q=>by
 cases x with
 |lst ds=>
  obtain⟨p,vs,rfl,h1,h2⟩:=aH.mp r;refine⟨_,vs.length,rfl,.inl ⟨vs,aF.sqL hs h1,rfl⟩,?_⟩;rw[←h2.length];exact bR hs q (ri _)
 |tup ds=>
  obtain⟨p,vs,rfl,h1,h2⟩:=aJ.mp r;refine⟨_,vs.length,rfl,.inr ⟨vs,aF.sqT hs h1,rfl⟩,?_⟩;rw[←h2.length];exact bR hs q (ri _)
 |str z=>
  unfold bz at q
  by_cases hz:z.length<=line
  .simp only[if_pos hz]at q
   rw[Rep.str_iff.mp r];exact⟨_,z.length,rfl,⟨fJ hz,rfl⟩,bR hs q (ri _)⟩
  .simp only[if_neg hz]at q;exact q.elim
 |_=>exact q.elim
def dj{T:String}{r:al->Hp->VK->Prop}{m:ac->aj D}{x:Pj}{p:Pos}(hc:jc X (.type T) r)(hd:kv X E r m)(hg:Gl X x)(hm:X.mg x=none)(hv:bootBuiltins x=some (.type T))(ha:DA X E (e::es) fa)(hn:x≠"__name__":=by decide)(hdb:(x==("__debug__" : Pj))=false:=by decide)
  (he:Po (e::es) X.env=(false,eval e X.env)::Po es X.env:=by exact aI rfl)(hpl:(Qy pos (Po es X.env)).any (·.1)=false:=by exact bB rfl):DE X E (.Call (.Name x p) (e::es) [] pos) (ak fa m) :=
 ⟨bh (AJ hc hg hm hv ha.o hn hdb he hpl) (kW hd)⟩
def fL:D->Bool
 |.non=>true
 |_=>false
def mE(x y:D):aj D:=match y with
 |.non=>.ok (.bl (fL x))
 |_=>.stuck
def nW(x y:D):aj D:=match y with
 |.non=>.ok (.bl (!(fL x)))
 |_=>.stuck
def Rep.is_non{K:Pl}{H:Hp}{x:D}{v:V}(r:Rep K H x v):decide (v=.non)=fL x:=by
 cases x with|non=>rw[aN.mp r];rfl|bl b=>rw[aC.mp r];rfl|int b=>rw[az.mp r];rfl|str b=>rw[Rep.str_iff.mp r];rfl|tup ds=>obtain⟨_,_,e,_⟩:=aJ.mp r;rw[e];rfl|lst ds=>obtain⟨_,_,e,_⟩:=aH.mp r;rw[e];rfl|dic ks ds=>rw[Rep]at r;obtain⟨_,_,_,e,_⟩:=r;rw[e];rfl|exc x=>obtain⟨_,_,_,e,_⟩:=gC.mp r;rw[e];rfl|ob k x=>obtain⟨_,_,e,_⟩:=cg.mp r;rw[e];rfl
def lD:zS X.K E (λx y H Q=>y=.non/\Q (.bl (decide (x=.non))) H) mE:=by
 intro x y v u H Ha Q hs r1 r2 q;unfold mE at q;cases y with|non=>exact⟨aN.mp r2,by rw[r1.is_non];exact bR hs q (rb _)⟩| _=>exact q.elim
def za:zS X.K E (λx y H Q=>y=.non/\Q (.bl (!decide (x=.non))) H) nW:=by
 intro x y v u H Ha Q hs r1 r2 q;unfold nW at q;cases y with
 |non=>
  refine⟨aN.mp r2,?_⟩;rw[r1.is_non];exact bR hs q (rb _)
 |_=>exact q.elim
noncomputable def wQ:D->String
 |.non=>"NoneType"
 |.bl _=>"bool"
 |.int _=>"int"
 |.str _=>"str"
 |.tup _=>"tuple"
 |.lst _=>"list"
 |.dic _ _=>"dict"
 |.exc _=>"<exc>"
 |.ob (.ins _ _) _=>"<exc>"
 |.ob (.dint _) _=>"dict"
 |.ob (.exf _ _) _=>"<exc>"
 |.ob .pl _=>"list"
def gA(T:String)(x:D):aj D:=.ok (.bl (wQ x==T||(wQ x=="bool"&&T=="int")))
def rh(K:Pl)(T:String):Prop:=∀S,S∈["NoneType","bool","int","str","tuple","list","dict"]->UY K (.type S) (.type T)=some (S==T||(S=="bool"&&T=="int"))
def Dg{π:List (Pg×Obj)}{σ:L2.St}{H:Hp}{s:Pm}{A:Qp}{Q:Pd->Pm->Prop}{x:D}{v:V}{u:Pd}{T:String}(I:Inv X π σ H s)(r:Rep X.K H x v)(q:bS v u)(hk:rh X.K T)(hT:T∈gG)(h:∀tk,Q (.bool (wQ x==T||(wQ x=="bool"&&T=="int"))) { s with toks:=tk }) :
  PZ (PN X.prog X.w) A (call (.builtin "isinstance") [u,.type T]) Q X.xe s:=by
 cases x with
 |non=>rw[aN.mp r]at q;exact iY I q .non (hk _ (by simp)) h|bl b=>rw[aC.mp r]at q;exact iY I q (.bl b) (hk _ (by simp)) h|int b=>rw[az.mp r]at q;exact iY I q (.int b) (hk _ (by simp)) h|str b=>rw[Rep.str_iff.mp r]at q;exact iY I q (.str b) (hk _ (by simp)) h
 |tup ds=>
  obtain⟨a,vs,its,rfl,rfl,h1,h2,h3,h4,_⟩:=bu I r q;obtain⟨o,k1,k2,_⟩:=h4;exact Q1 W.kitx_tuple I.kIn ⟨o,k1,k2⟩ (hk _ (by simp)) (λz=>nomatch z) h
 |lst ds=>
  obtain⟨a,vs,its,rfl,rfl,h1,h2,h3,h4,_⟩:=br I r q;obtain⟨o,k1,k2,_⟩:=h4;exact Q1 UX I.kIn ⟨o,k1,k2⟩ (hk _ (by simp)) (λz=>nomatch z) h
 |dic ks ds=>
  rw[Rep]at r;obtain⟨a,kvs,vs,rfl,h1,h2,_⟩:=r;cases (show u=Qh a from q);obtain⟨_,_,vs',_,p⟩:=h1.ok I.hok;obtain⟨o,es,ep,k1,k2,_⟩:=p;exact Q1 TV I.kIn ⟨o,k1,k2.1⟩ (hk _ (by simp)) (λz=>nomatch z) h
 |exc x=>
  obtain⟨a,C,dc,rfl,hc,h1⟩:=gC.mp r;cases (show u=Qh a from q);obtain⟨p,_,_⟩:=h1.ok I.hok;have e:(wQ (.exc x)==T||(wQ (.exc x)=="bool"&&T=="int"))=false:=by
   have:∀T∈gG,(wQ (.exc x)==T||(wQ (.exc x)=="bool"&&T=="int"))=false:=by show ∀T∈gG,("<exc>"==T||("<exc>"=="bool"&&T=="int"))=false;decide
   exact this T hT
  rw[e]at h;exact Q1 (qc hc.ek hc.ek.isCls) I.kIn p (hc.bt T hT) (λz=>nomatch z) h
 |ob k xs=>
  obtain⟨a,vs,rfl,h1,_⟩:=cg.mp r;cases (show u=Qh a from q);cases k with
  |exf c ks=>
   obtain⟨C,dx,fs,hc,h2,_⟩:=h1;obtain⟨p,_,_⟩:=h2.ok I.hok;have e:(wQ (.ob (.exf c ks) xs)==T||(wQ (.ob (.exf c ks) xs)=="bool"&&T=="int"))=false:=by
    have:∀T∈gG,("<exc>"==T||("<exc>"=="bool"&&T=="int"))=false:=by decide
    exact this T hT
   rw[e]at h;exact Q1 (qc hc.ek hc.ek.isCls) I.kIn p (hc.bt T hT) (λz=>nomatch z) h
  |ins c ks=>
   obtain⟨C,dx,_,hc,h2,_⟩:=h1;obtain⟨mA,O,_⟩:=oX I.hok h2;obtain⟨od,O',_⟩:=O.look;have e:(wQ (.ob (.ins c ks) xs)==T||(wQ (.ob (.ins c ks) xs)=="bool"&&T=="int"))=false:=by
    have:∀T∈gG,(wQ (.ob (.ins c ks) xs)==T||(wQ (.ob (.ins c ks) xs)=="bool"&&T=="int"))=false:=by show ∀T∈gG,("<exc>"==T||("<exc>"=="bool"&&T=="int"))=false;decide
    exact this T hT
   rw[e]at h;exact Q1 (W.kitx_own (hc.cls.get _) hc.cls.hd hc.gc hc.gn hc.tk hc.mo) I.kIn O' (hc.bt T hT) (λz=>nomatch z) h
  |dint ks=>
   obtain⟨kvs,h2,_⟩:=h1;obtain⟨_,_,vs',_,p⟩:=h2.ok I.hok;obtain⟨o,es,ep,k1,k2,_⟩:=p;exact Q1 TV I.kIn ⟨o,k1,k2.1⟩ (hk _ (by simp)) (λz=>nomatch z) h
  |pl=>exact iY I (show bS (.ref a) (Qh a) from rfl) (.lst h1) (hk _ (by simp)) h
def cW{T:String}{x:Pj}{p1 p2:Pos}(hk:rh X.K T)(hgi:Gl X "isinstance")(hmi:X.mg "isinstance"=none)(hg:Gl X x)(hm:X.mg x=none)(hv:bootBuiltins x=some (.type T))(ha:DE X E a f)
  (hn:x≠"__name__":=by decide)(hdb:(x==("__debug__" : Pj))=false:=by decide)(hT:T∈gG:=by decide)
  (he:Po [a,.Name x p2] X.env=(false,eval a X.env)::Po [.Name x p2] X.env:=by exact aI rfl)(he2:Po [.Name x p2] X.env=(false,eval (.Name x p2) X.env)::Po [] X.env:=by exact aI rfl)(hpl:(Qy pos (Po [.Name x p2] X.env)).any (·.1)=false:=by exact bB rfl) :
  DE X E (.Call (.Name "isinstance" p1) [a,.Name x p2] [] pos) (aW f (gA T)):=by
 refine⟨?_⟩;refine bh (pP (r:=λvs H Q=>∃d v,vs=[v,.ty T]/\Rep X.K H d v/\Q (.bl (wQ d==T||(wQ d=="bool"&&T=="int"))) H) ?_ hgi hmi PyProof.Rows.Boot.«isinstance» (b8 ha.o (b8 (yY (v:=.ty T) hg hm hv rfl hn hdb) dD he2) he) (by decide) (by decide) he hpl) λσ H Q ⟨Ha,ρ,hs,hr,q⟩=>⟨Ha,ρ,hs,hr,?_⟩
 .intro π s σ H xs us Q I r h
  obtain⟨d,v,rfl,h1,q⟩:=h;cases r with
  |cons r1 r2=>
   cases r2 with
   |cons r3 r4=>
    cases r4;rename_i u1 u2;obtain rfl:u2=Value.type T:=r3;exact Dg I h1 r1 hk hT λtk=>⟨.bl _,H,I.tok _,rfl,q⟩
 .unfold aW at q
  cases e1:f ρ with
  |stuck|exn x=>rw[e1]at q;exact q
  |ok d=>
   rw[e1]at q;intro v H1 H01 g1 r1;exact⟨d,v,rfl,r1.mono g1.sub,q _ H1 H01 g1 (rb _)⟩
end
theorem sV{prog:Qi}{w:Qv}{A:Qp}{E:Pd->Pm->Prop}{it t:Pg}{items:Array Pd}(hne:t≠it):∀(n i:Nat) (s:Pm) (Q:List Pd->Pm->Prop),s.heap.IsListIter it t i->s.heap.IsList t items->i+n<=items.size ->
  (∀h',h'.IsListIter it t (i+n)->Sh it s.heap h'->Q ((items.toList.drop i).take n) { s with heap:=h' })->PZ (PN prog w) A (draw (.ref it) n) Q E s
 |0,i,s,Q,hit,_,_,hQ=>by
  show PZ _ _ (pure []) Q E s;exact PX (by simpa using hQ s.heap hit (Sh.refl ..))
 |n+1,i,s,Q,hit,ht,hle,hQ=>by
  have hlt:i<items.size:=by omega
  show PZ _ _ (pyNext (.ref it) >>= _) Q E s;refine Pp (wpAny_pyNext_list_item hit ht (x:=items[i]) (by simp[hlt]) λh₁ hit₁ hs₁=>?_);have ht₁:h₁.IsList t items:=by
   obtain⟨o,k1,k2⟩:=ht;exact⟨o,(hs₁.2 t hne).trans k1,k2⟩
  refine Pp (Rz (sV hne n (i+1) _ _ hit₁ ht₁ (by omega) λhG hit₂ hs₂=>PX ?_));have hd:items.toList.drop i=items[i]::items.toList.drop (i+1):=by simp[QD,hlt]
  have:=hQ hG (by rw[show i+(n+1)=i+1+n by omega];exact hit₂) (hs₁.trans hs₂);rw[hd,List.take_succ_cons]at this;exact this
def mR{prog:Qi}{w:Qv}{A:Qp}{E:Pd->Pm->Prop}{s:Pm}{t:Pg}{items:Array Pd}{Q:List Pd->Pm->Prop}(hh:A.handled=none)(ht:s.heap.IsList t items)
  (hQ:∀h',Heap.ExtBut s.heap.objs.size s.heap h'->Q items.toList { s with heap:=h' }):PZ (PN prog w) A (unpackItems (.ref t) items.size none) Q E s:=by
 have hlt:t≠s.heap.objs.size:=by obtain⟨o,ho,_⟩:=ht;exact Qg (PM ho)
 unfold unpackItems;refine Pp ?_
 .unfold notIterableAtAll
  refine Pp (wpAny_specialOf ht.typeIs slot_list_iter.lookup ?_);refine PX ?_;simp only[Tq,if_false];refine Pp (Rz (wpAny_pyIter_list ht ?_));have ht0:(s.heap.push { cls:=.type "list_iterator",data:=.fields #[.ref t,.int 0 0] }).IsList t items:=by
   obtain⟨o,k1,k2⟩:=ht;exact⟨o,Pq _ k1,k2⟩
  refine Pp (Rz (sV hlt items.size 0 _ _ ⟨_,Qm _ rfl,rfl,rfl⟩ ht0 (by omega) λh₁ hit₁ hs₁=>?_));have hall:List.take items.size (List.drop 0 items.toList)=items.toList:=by
   rw[SE];exact SW (by simp)
  rw[hall];rw[if_neg (by simp)];have ht₁:h₁.IsList t items:=by
   obtain⟨o,k1,k2⟩:=ht0;exact⟨o,(hs₁.2 t hlt).trans k1,k2⟩
  refine Pp (Rz (wpAny_pyNext_list_end hh hit₁ ht₁ (by simp) λhG he₂=>?_));simp only[Option.isSome_none,Tq,if_false];refine PX (hQ hG λb o hb e=>he₂ b o hb (hs₁.extBut b o hb (Pq _ e)))
def xr(σ:L2.St):ci->al->L2.St
 |i::is,v::vs=>xr (σ.set i (some v)) is vs
 |_,_=>σ
def eU(ρ:Ev):ci->ac->Ev
 |i::is,d::ds=>eU (ρ.set i (.sh d)) is ds
 |_,_=>ρ
theorem fT.putAll{K:Pl}{He η Ha H:Hp}:∀{is:ci}{ds:ac}{vs:al}{σ:L2.St}{ρ:Ev},fT K He η Ha σ H ρ->Reps K Ha ds vs->fT K He η Ha (xr σ is vs) H (eU ρ is ds)
 |[],_,_,_,_,h,_=>by unfold xr eU;exact h
 |_::_,[],_,_,_,h,r=>by rw[Reps.nil_iff.mp r];unfold xr eU;exact h
 |i::is,d::ds,_,_,_,h,r=>by
  obtain⟨v,vs,rfl,h1,h2⟩:=aD.mp r;unfold xr eU;exact fT.putAll (h.put h1) h2
section
variable {X:Cx}{E:XK}{He η:Hp}{e a b:Qe}{es:List Qe}{f g:am}{fa:Ev->aj (ac)}{pos:Pos}{is:ci}
def Lk(is:ci):EJ:=λvs σ H Q=>vs.length=is.length/\Q (xr σ is vs) H
def vF{t t':EJ}(h:Bt X es t)(w:∀vs σ H Q,t' vs σ H Q->t vs σ H Q):Bt X es t':=λπ s σ H vs us Q I r q=>h π s σ H vs us Q I r (w vs σ H Q q)
def jx:Bt X [] (Lk []):=vF FO λvs σ H Q z9=>by
 obtain⟨h,q⟩:=z9;have e:vs=[]:=Q3.mp h;subst e;exact⟨rfl,q⟩
def cf{i:Nat}{x:Pj}{p:Pos}(hN:X.N.Nodup)(hi:X.N[i]?=some x)(hx:zT X.env.scope x)(h:Bt X es (Lk is))(hf:X.fn x=true∨X.env.scope.names.lookup x=some .local := by first|exact .inl rfl|exact .inr rfl|assumption)
  (hs:(assignEach (.Name x p::es) X.env).map (·.2)=assign (.Name x p) X.env::(assignEach es X.env).map (·.2):=by rfl):Bt X (.Name x p::es) (Lk (i::is)) :=
 vF (Cz (yU hN hi hx hf) h hs) λvs σ H Q z9=>by
  obtain⟨h,q⟩:=z9;cases vs with|nil=>simp at h|cons v vs=>exact⟨v,vs,rfl,by simpa using h,q⟩
def FP{k:Nat}{t:EJ}{n:Nat}(hc:X.calm=true)(h:Bt X es t)
  (hn:(assignEach es X.env).length=n:=by rfl)(hst:(assignEach es X.env).findIdx? (·.1)=none:=by rfl):PG X (.Tuple es k pos) (λv σ H Q=>∃a xs,v=.ref a/\gJ X.K H a xs/\xs.length=n/\t xs σ H Q):=by
 intro π s σ H v u Q I r hw;obtain⟨a,xs,e1,hq,hl,hw⟩:=hw;subst e1;cases r;obtain⟨its,rv,ht,hz⟩:=I.list hq;rw[assign_Tuple];refine Pp (wpAny_standAt ?_);unfold unpack;rw[hn,hst];have hsz:n=its.toArray.size:=by rw[P6,←rv.length,hl]
 rw[hsz];refine Pp (Rz (mR (I.ok.hd hc) ht.isList λh' hx=>?_));have I1:Inv X π σ H { s with heap:=h' }:=I.kept (t':=s.toks) λb o e=>hx b o (Qg (PM e)) e;exact h π _ σ H xs _ Q I1 (by simpa using rv) hw
def Mm{tgt:Qe}{t t':TG}(h:PG X tgt t)(h':PG X tgt t'):PG X tgt (λv σ H Q=>t v σ H Q∨t' v σ H Q):=λπ s σ H v u Q I r q=>q.elim (h π s σ H v u Q I r) (h' π s σ H v u Q I r)
def CA{k:Nat}(hc:X.calm=true)(h:Bt X es (Lk is))(hn:(assignEach es X.env).length=is.length:=by rfl)(hst:(assignEach es X.env).findIdx? (·.1)=none:=by rfl) :
  PG X (.Tuple es k pos) (λv σ H Q=>∃a xs,v=.ref a/\(lT X.K H a xs∨gJ X.K H a xs)/\xs.length=is.length/\Q (xr σ is xs) H) :=
 uf (Mm (JV hc h hn hst) (FP hc h hn hst)) λv σ H Q ⟨a,xs,e,hq,hl,q⟩=>hq.elim (λz=>.inl ⟨a,xs,e,z,hl,hl,q⟩) λz=>.inr ⟨a,xs,e,z,hl,hl,q⟩
def fE(n:Nat)(d:D):Option (ac):=match d with
 |.tup ds=>if ds.length=n then some ds else none
 |.lst ds=>if ds.length=n then some ds else none
 |_=>none
def nI{K:Pl}{H:Hp}{n:Nat}{d:D}{ds:ac}{v:V}(h:fE n d=some ds)(r:Rep K H d v):∃a vs,v=.ref a/\(lT K H a vs∨gJ K H a vs)/\vs.length=n/\Reps K H ds vs:=by
 unfold fE at h;cases d with
 |tup es=>
  by_cases c:es.length=n
  .simp only[if_pos c]at h;cases h
   obtain⟨a,vs,rfl,h1,h2⟩:=aJ.mp r;exact⟨a,vs,rfl,.inl h1,by rw[←h2.length];exact c,h2⟩
  .simp only[if_neg c]at h;cases h
 |lst es=>
  by_cases c:es.length=n
  .simp only[if_pos c]at h;cases h
   obtain⟨a,vs,rfl,h1,h2⟩:=aH.mp r;exact⟨a,vs,rfl,.inr h1,by rw[←h2.length];exact c,h2⟩
  .simp only[if_neg c]at h;cases h
 |_=>cases h
def vm{K:Pl}{H H':Hp}{a:Pg}{vs:al}(hs:aF H H')(h:lT K H a vs∨gJ K H a vs):lT K H' a vs∨gJ K H' a vs:=h.elim (λz=>.inl (aF.sqT hs z)) λz=>.inr (aF.sqL hs z)
def xu(is:ci)(f:am):bd:=λρ=>(f ρ).bind λd=>match fE is.length d with
 |some ds=>.ok (.nx (eU ρ is ds))
 |none=>.stuck
def uN{k:Nat}{tp:Pos}(hc:X.calm=true)(he:DE X E e f)(h:Bt X es (Lk is))(hs:swapsWithSole [.Tuple es k tp] e pos.line X.env=pure false:=by rfl)(hw:swappedStores [.Tuple es k tp] e X.env=pure none:=by rfl)
  (h1:(assignEach [.Tuple es k tp] X.env).map (·.2)=[assign (.Tuple es k tp) X.env]:=by rfl)(hn:(assignEach es X.env).length=is.length:=by rfl)(hst:(assignEach es X.env).findIdx? (·.1)=none:=by rfl) :
  DS X E He η (.Assign [.Tuple es k tp] e pos) (xu is f):=by
 refine⟨?_⟩;refine cE (JO he.o (CA hc h hn hst) hs hw h1) λD σ H z9=>?_;obtain⟨Ha,ρ,h,q⟩:=z9;refine⟨Ha,ρ,h.g.sub,h.rd,?_⟩
 refine plain (k:=λd=>match fE is.length d with
  |some ds=>.ok (.nx (eU ρ is ds))
  |none=>.stuck) h q λd v H' Ha' _ g rp q'=>?_
 cases e1:fE is.length d with
 |none=>rw[e1]at q';exact q'.elim
 |some ds=>
  rw[e1]at q';obtain⟨a,vs,rfl,k1,k2,k3⟩:=nI e1 rp;exact⟨a,vs,rfl,vm g.sub k1,k2,q' _ H' Ha' (aF.refl _) ((h.grow g).putAll k3)⟩
def k7(is:ci):Ev->D->aj Ev:=λρ d=>match fE is.length d with
 |some ds=>.ok (eU ρ is ds)
 |none=>.stuck
def mS:wK (k7 is):=λρ d=>by
 unfold k7;cases fE is.length d with|none=>exact .inl rfl|some ds=>exact .inr ⟨_,rfl⟩
def yk{k:Nat}(hc:X.calm=true)(h:Bt X es (Lk is))(hn:(assignEach es X.env).length=is.length:=by rfl)(hst:(assignEach es X.env).findIdx? (·.1)=none:=by rfl):DG X E He η (.Tuple es k pos) (k7 is) :=
 ⟨uf (CA hc h hn hst) λv σ H Q z9=>by
  obtain⟨Ha,ρ,d,h,rp,q⟩:=z9;unfold k7 at q;cases e1:fE is.length d with
  |none=>rw[e1]at q;exact q.elim
  |some ds=>
   rw[e1]at q;obtain⟨a,vs,rfl,k1,k2,k3⟩:=nI e1 rp;exact⟨a,vs,rfl,vm h.g.sub k1,k2,q _ H Ha (aF.refl _) (h.putAll k3)⟩⟩
def xw(i j:Nat)(fa:Ev->aj (ac)):bd:=λρ=>(fa ρ).bind λds=>match ds with
 |[x,y]=>.ok (.nx ((ρ.set i (.sh x)).set j (.sh y)))
 |_=>.stuck
def K0{i j:Nat}{x y:Pj}{px py pt pt2:Pos}{kt k2}(hc:X.calm=true)(hN:X.N.Nodup)(hi:X.N[i]?=some x)(hj:X.N[j]?=some y)(hij:i≠j)
  (hx:X.env.scope.names.lookup x=some .local)(hy:X.env.scope.names.lookup y=some .local)(ha:DA X E [a,b] fa)
  (hw:swappedStores [.Tuple [.Name x px,.Name y py] kt pt] (.Tuple [a,b] k2 pt2) X.env=pure (some [x,y]))
  (hs:swapsWithSole [.Tuple [.Name x px,.Name y py] kt pt] (.Tuple [a,b] k2 pt2) pos.line X.env=pure false:=by rfl) :
  DS X E He η (.Assign [.Tuple [.Name x px,.Name y py] kt pt] (.Tuple [a,b] k2 pt2) pos) (xw i j fa):=by
 refine⟨?_⟩;refine cE (JN hc hN hi hj hij hx hy ha.o hw hs) λD σ H z9=>?_;obtain⟨Ha,ρ,h,q⟩:=z9;refine⟨Ha,ρ,h.g.sub,h.rd,?_⟩
 unfold xw at q;cases e1:fa ρ with
 |stuck=>rw[e1]at q;exact q|exn x=>rw[e1]at q;exact λC ox H' Ha' g ex=>q C ox H' Ha' (h.g.trans g) ex
 |ok ds=>
  rw[e1]at q;intro vs H1 H01 g1 r1
  match ds,r1,q with
  |[x,y],r1,q=>
   obtain⟨v,r',rfl,h1,h2⟩:=aD.mp r1;obtain⟨u,r'',rfl,h3,h4⟩:=aD.mp h2;rw[Reps.nil_iff.mp h4];exact⟨v,u,rfl,q _ H1 H01 g1.z (((h.grow g1).put h1).put h3)⟩
  |[],_,q=>exact q.elim
  |[_],_,q=>exact q.elim
  |_::_::_::_,_,q=>exact q.elim
end
def qe{K:Pl}:rh K "int":=by
 intro S hS;simp only[PL,So,or_false]at hS;rcases hS with rfl|rfl|rfl|rfl|rfl|rfl|rfl<;>first|rfl|decide +kernel
def nS{K:Pl}:rh K "bool":=by
 intro S hS;simp only[PL,So,or_false]at hS;rcases hS with rfl|rfl|rfl|rfl|rfl|rfl|rfl<;>first|rfl|decide +kernel
def jo{K:Pl}:rh K "str":=by
 intro S hS;simp only[PL,So,or_false]at hS;rcases hS with rfl|rfl|rfl|rfl|rfl|rfl|rfl<;>first|rfl|decide +kernel
def jm{K:Pl}:rh K "tuple":=by
 intro S hS;simp only[PL,So,or_false]at hS;rcases hS with rfl|rfl|rfl|rfl|rfl|rfl|rfl<;>first|rfl|decide +kernel
def nR{K:Pl}:rh K "list":=by
 intro S hS;simp only[PL,So,or_false]at hS;rcases hS with rfl|rfl|rfl|rfl|rfl|rfl|rfl<;>first|rfl|decide +kernel
section
variable {X:Cx}{E:XK}{He η:Hp}{e a b c:Qe}{f g h:am}{pos:Pos}
def dv(i:Nat){x:Pj}(hN:X.N[i]?=some x:=by rfl)(hv:wJ X.env.scope x:=by first|exact Pz rfl|exact T8 (Pz rfl)|exact T8 (T8 rfl))(hd:(x==("__debug__" : Pj))=false:=by decide)
  (hcd:(x==("__classdict__" : Pj))=false:=by decide):DE X E (.Name x pos) (ae i):=K2 hN hv hd hcd
def rQ(K:Pl)(mg:Pj->Option Pd)(x:Pj)(d:D):Prop:=∃v u,mg x=some u/\bS v u/\∀H,Rep K H d v
def bp{x:Pj}{d:D}(k:rQ X.K X.mg x d)(hg:Gl X x)(hd:(x==("__debug__" : Pj))=false:=by decide):DE X E (.Name x pos) (dC d):=by
 obtain⟨v,u,h1,h2,h3⟩:=k;exact Hy hg h1 h2 h3 hd
def ey{K:Pl}{mg:Pj->Option Pd}{x:Pj}{i:Int}{t:Tok}(h:mg x=some (.int i t)):rQ K mg x (.int i):=⟨.int i,_,h,⟨t,rfl⟩,λ_=>ri _⟩
def zg{K:Pl}{mg:Pj->Option Pd}{x:Pj}{i:Pj}{t:Tok}(h:mg x=some (.str i t)):rQ K mg x (.str i):=⟨.str i,_,h,⟨t,rfl⟩,λ_=>Rep.str_iff.mpr rfl⟩
def Gk{K:Pl}{mg:Pj->Option Pd}{x:Pj}{a:Pg}{od:Option Pg}{its:Array Pd}{n:Nat}{sl:Array (Option Pd)}{ds:ac}{vs:al}(h:mg x=some (.ref a))(l:K.lookup a=some ⟨.type "tuple",od,.seq its n,sl⟩)
  (hv:bM vs its.toList)(hz:its.size<=sizeLine)(hd:∀H,Reps K H ds vs):rQ K mg x (.tup ds):=⟨.ref a,_,h,rfl,λH=>aJ.mpr ⟨a,vs,rfl,.inr ⟨_,its,n,l,rfl,rfl,hz,hv⟩,hd H⟩⟩
def gF(op op':D->D->aj D)(f g h:am):am:=λρ=>(f ρ).bind λx=>(g ρ).bind λy=>(op x y).bind λz=>match z with
 |.bl true=>(h ρ).bind λw=>op' y w
 |.bl false=>.ok (.bl false)
 |_=>.stuck
def q9(r:R2)(o:D->D->aj D):Prop:=∀(K:Pl) (x y:D) (v u:V) (H Ha:Hp) (Q:VK) (d:D),aF Ha H->Rep K Ha x v->Rep K Ha y u->o x y=.ok d->(∀w,Rep K Ha d w->Q w H)->r v u H Q
def fk{gv:Int->Int->V}{g:Int->Int->D}(hg:∀K H i j,Rep K H (g i j) (gv i j)):q9 (EF gv) (vY (λ_ _=>true) g):=by
 intro K x y v u H Ha Q d hs r1 r2 e q;unfold vY at e;cases x with
 |int i=>
  cases y with|int j=>simp only[if_pos]at e;cases e;exact⟨i,j,az.mp r1,az.mp r2,q _ (hg _ _ i j)⟩| _=>cases e
 |_=>cases e
def rf(o:D->D->aj D):Prop:=∀x y,∀z,o x y≠.exn z
def n8{r r':R2}{o o':D->D->aj D}(p:q9 r o)(p':q9 r' o')(n:rf o)(n':rf o')(σ:L2.St)(H:Hp)(Q:VK)(q:tD X.K E (gF o o' f g h) σ H Q) :
  xj r r' (tD X.K E f) (tD X.K E g) (tD X.K E h) σ H Q:=by
 obtain⟨Ha,ρ,hs,hr,q⟩:=q;refine⟨Ha,ρ,hs,hr,?_⟩;unfold gF at q;cases e1:f ρ with
 |stuck|exn x=>rw[e1]at q;exact q
 |ok x=>
  rw[e1]at q;intro v H1 H01 g1 r1;refine⟨H01,ρ,g1.sub,hr.mono g1.z,?_⟩;replace q:=post.grow (r:=(g ρ).bind λy=>(o x y).bind λz=>match z with
   |.bl true=>(h ρ).bind λw=>o' y w
   |.bl false=>.ok (.bl false)
   |_=>.stuck) q g1
  cases e2:g ρ with
  |stuck|exn x=>rw[e2]at q;exact q
  |ok y=>
   rw[e2]at q;intro u H2 H02 g2 r2;replace q:=post.grow (r:=(o x y).bind λz=>match z with
    |.bl true=>(h ρ).bind λw=>o' y w
    |.bl false=>.ok (.bl false)
    |_=>.stuck) q g2
   cases e3:o x y with
   |stuck=>rw[e3]at q;exact q.elim|exn z=>exact absurd e3 (n x y z)
   |ok z=>
    rw[e3]at q;refine p X.K x y v u H2 H02 _ z g2.sub (r1.mono g2.z) r2 e3 λw rw'=>?_;cases z with
    |bl b=>
     rw[aC.mp rw'];refine⟨b,rfl,?_⟩;cases b with
     |false=>rw[if_neg QR];exact q _ H2 H02 (bq.refl g2.sub) (rb _)
     |true=>
      rw[if_pos rfl];refine⟨H02,ρ,g2.sub,(hr.mono g1.z).mono g2.z,?_⟩;replace q:post X.K E H2 H02 ((h ρ).bind λw=>o' y w) Q:=q;cases e4:h ρ with
      |stuck|exn x=>rw[e4]at q;exact q
      |ok w2=>
       rw[e4]at q;intro v3 H3 H03 g3 r3;replace q:=post.grow (r:=o' y w2) q g3;cases e5:o' y w2 with
       |stuck=>rw[e5]at q;exact q.elim|exn z=>exact absurd e5 (n' y w2 z)
       |ok d=>
        rw[e5]at q;exact p' X.K y w2 u v3 H3 H03 Q d g3.sub (r2.mono g3.z) r3 e5 λw3 r5=>q w3 H3 H03 (bq.refl g3.sub) r5
    |_=>exact q.elim
def Ec{op op':CmpOp}{r r':R2}{o o':D->D->aj D}(ho:gK X (QF op) r)(ho':gK X (QF op') r')(p:q9 r o)(p':q9 r' o')(n:rf o)(n':rf o')(ha:DE X E a f)(hb:DE X E b g)(hc:DE X E c h)
  (hm:lastMarks [op,op'] [b,c]=false:=by with_unfolding_all rfl):DE X E (.Compare a [op,op'] [b,c] pos) (gF o o' f g h):=⟨bh (CH ho ho' ha.o hb.o hc.o hm) (n8 p p' n n')⟩
def qu{op op':CmpOp}{r r':R2}{o o':D->D->aj D}(ho:gK X (QF op) r)(ho':gK X (QF op') r')(p:q9 r o)(p':q9 r' o')(n:rf o)(n':rf o')(ha:DE X E a f)(hb:DE X E b g)(hc:DE X E c h)
  (hm:lastMarks [op,op'] [b,c]=false:=by with_unfolding_all rfl):DT X E (.Compare a [op,op'] [b,c] pos) (gF o o' f g h):=by
 refine⟨?_⟩;refine oN (Cu ho ho' ha.o hb.o hc.o hm) λσ H Q q=>?_;have w:tD X.K E (gF o o' f g h) σ H λx H'=>∃k,x=.bl k/\Q k H':=by
  obtain⟨Ha,ρ,hs,hr,q⟩:=q;refine⟨Ha,ρ,hs,hr,?_⟩;cases e1:gF o o' f g h ρ with
  |stuck|exn x=>rw[e1]at q;exact q
  |ok d=>
   rw[e1]at q;intro v H1 H01 g1 r1;cases d with|bl b=>rw[aC.mp r1];exact⟨b,rfl,q H1 H01 g1⟩| _=>exact q.elim
 exact n8 p p' n n' σ H _ w
def fv{c:Int->Int->Bool}{g:Int->Int->D}:rf (vY c g):=by
 intro x y z;unfold vY;cases x<;>cases y<;>simp<;>split<;>simp
end
def oZ(i:Nat):Ev->Nat:=λρ=>match ρ[i]? with
 |some (.sh (.int j))=>j.natAbs+1
 |_=>0
section
variable {X:Cx}{E:XK}{a b:Qe}{f g:am}{pos:Pos}
def eB(x y:D):aj D:=match x,y with
 |.int i,.int j=>if jK i j=true then .ok (.int (i*j)) else .stuck
 |_,_=>.stuck
def lN(ha:DE X E a f)(hb:DE X E b g):DE X E (.BinOp a .Mult b pos) (aa f g eB):=sX FV (by
 intro x y v u H Ha Q hs r1 r2 q;unfold eB at q;cases x with
 |int i=>
  cases y with
  |int j=>
   by_cases h:jK i j=true
   .simp only[if_pos h]at q
    exact⟨i,j,az.mp r1,az.mp r2,jK.ok h,bR hs q (ri _)⟩
   .simp only[if_neg h]at q;exact q.elim
  |_=>exact q.elim
 |_=>exact q.elim) ha hb
end
def Ki(K:Pl)(tg:Ev->D->aj Ev):TG:=λv σ H Q=>∃He η,tG K He η tg v σ H Q
theorem Reps.rep{K:Pl}{H:Hp}{ds:ac}{vs:al}(h:Reps K H ds vs):∀k:Nat,Reps K H (PH k ds).flatten (PH k vs).flatten
 |0=>by simp;exact Reps.nil
 |k+1=>by
  rw[QB,QB,Rv,Rv];exact h.app (Reps.rep h k)
section
variable {X:Cx}{E:XK}{a b:Qe}{f g:am}{pos:Pos}
def wA(x y:D):aj D:=match x,y with
 |.lst ds,.int k=>if ds.length*k.toNat<=line/\-9223372036854775808<=k/\k<9223372036854775808 then .ok (.lst (PH k.toNat ds).flatten) else .stuck
 |_,_=>.stuck
def Ci(f g:am):am:=λρ=>(f ρ).bind λx=>match x with
 |.lst ds=>(g ρ).bind λy=>wA (.lst ds) y
 |_=>.stuck
def D8(ha:DF X E a f)(hb:DE X E b g):DE X E (.BinOp a .Mult b pos) (Ci f g):=by
 refine⟨?_⟩;refine bh (Ih J1 ha.o hb.o) λσ H Q z9=>?_;obtain⟨Ha,ρ,hs,hr,q⟩:=z9;refine⟨Ha,ρ,hs,hr,?_⟩
 unfold Ci at q;cases e1:f ρ with
 |stuck|exn x=>rw[e1]at q;exact q
 |ok x=>
  rw[e1]at q;cases x with
  |lst ds=>
   replace q:post X.K E H Ha ((g ρ).bind λy=>wA (.lst ds) y) Q:=q;intro p vs H1 H01 g1 hp h0 hv rp;refine⟨H01,ρ,g1.sub,hr.mono g1.z,?_⟩;replace q:=q.grow g1;cases e2:g ρ with
   |stuck|exn x=>rw[e2]at q;exact q
   |ok y=>
    rw[e2]at q;intro u H2 H02 g2 r2;replace q:=post.grow (r:=wA (.lst ds) y) q g2;cases y with
    |int k=>
     unfold wA at q
     by_cases c:ds.length*k.toNat<=line/\-9223372036854775808<=k/\k<9223372036854775808
     .simp only[if_pos c]at q
      refine⟨p,k,vs,rfl,az.mp r2,g2.s _ _ hv,by omega,by omega,by rw[←rp.length];exact fJ c.1,λn hn=>?_⟩;exact q _ _ _ (aX g2.sub hn) (aH.mpr ⟨n,_,rfl,gJ.of ay,((rp.mono g2.z).rep _).mono (aX g2.sub hn).z⟩)
     .simp only[if_neg c]at q;exact q.elim
    |_=>exact q.elim
  |_=>exact q.elim
end
def fW:ac->Option (bv)
 |[]=>some []
 |.str x::r=>(fW r).map (x::·)
 |_=>none
theorem vg{K:Pl}{H:Hp}:∀{ds:ac}{ys:bv}{vs:al}{us:List Pd},fW ds=some ys->Reps K H ds vs->bM vs us->StrsAre us ys
 |[],ys,vs,us,h,r,q=>by
  cases h;rw[Reps.nil_iff.mp r]at q;cases q;exact .nil
 |d::ds,ys,vs,us,h,r,q=>by
  obtain⟨v,r',rfl,h1,h2⟩:=aD.mp r;cases q with
  |cons q1 q2=>
   cases d with
   |str x=>
    unfold fW at h;cases e:fW ds with
    |none=>rw[e]at h;cases h
    |some zs=>
     rw[e]at h;cases h;rw[Rep.str_iff.mp h1]at q1;obtain⟨t,rfl⟩:=q1;exact .cons _ _ (vg e h2 q2)
   |_=>cases h
section
variable {X:Cx}{E:XK}{o e:Qe}{fo:am}{fa:Ev->aj (ac)}
def gh(z:Pj)(ys:bv):Bool:=decide (z.length<=16)&&decide ((ys.map (·.length)).sum+ys.length<=1048576)
def Mb(K:Pl):V->al->Hp->VK->Prop:=λx xs H Q=>∃z p ds ys,x=.str z/\xs=[.ref p]/\Rep K H (.lst ds) (.ref p)/\fW ds=some ys/\gh z ys=true/\Q (.str (Rt z ys)) H
def F8:Lr X "str.join" (Mb X.K):=by
 intro π s σ H x xs v us Q I rx rs h;obtain⟨z,p,ds,ys,rfl,rfl,hr,hy,hf,q⟩:=h;obtain⟨t,rfl⟩:=rx;obtain⟨u,rfl,ru⟩:=rs.one;obtain⟨a,vs,its,ea,rfl,h1,h2,h3,h4,_⟩:=br I hr ru;unfold gh at hf;rw[Pr]at hf;exact join_listW h4 (by simpa using vg hy h2 h3) (of_decide_eq_true hf.1) (of_decide_eq_true hf.2) λt' k=>⟨.str (Rt z ys),H,I.tok _,⟨_,rfl⟩,q⟩
def jL(z:Pj)(xs:ac):aj D:=match xs with
 |[.lst ds]=>match fW ds with
  |some ys=>if gh z ys=true then .ok (.str (Rt z ys)) else .stuck
  |none=>.stuck
 |_=>.stuck
def mD(fo:am)(fa:Ev->aj (ac)):am:=λρ=>(fo ρ).bind λx=>match x with
 |.str z=>(fa ρ).bind λxs=>jL z xs
 |_=>.stuck
def mC{apos cpos:Pos}(ho:DE X E o fo)(ha:DA X E [e] fa)
  (hbase:QN o "join" X.env (eval o X.env)=eval o X.env:=by rfl)
  (hfew:((Qy cpos (Po [e] X.env)).all (λx=>!x.1)&&(R0 cpos (Rc [] X.env)).all (λx=>x.1.isSome)
  &&decide ([e].length+([]:List Rp).length+(if([]:List Rp).isEmpty then 0 else 1)<30))=true:=by exact gw rfl)
  (hline:(apos.endLine==cpos.line)=true:=by rfl) (hs:Po [e] X.env=(false,eval e X.env)::Po [] X.env:=by exact aI rfl) (hplain:(Qy cpos (Po [] X.env)).any (·.1)=false:=by exact bB rfl) :
  DE X E (.Call (.Attribute o "join" apos) [e] [] cpos) (mD fo fa):=by
 refine⟨?_⟩;refine bh (vG UE PySem.F.slot_str_join PySem.F.type_str_join F8 ho.o ha.o hbase hfew hline hs hplain) λσ H Q z9=>?_;obtain⟨Ha,ρ,hs,hr,q⟩:=z9;refine⟨Ha,ρ,hs,hr,?_⟩
 unfold mD at q;cases e1:fo ρ with
 |stuck|exn x=>rw[e1]at q;exact q
 |ok x=>
  rw[e1]at q;intro v H1 H01 g1 r1;cases x with
  |str z=>
   rw[Rep.str_iff.mp r1];refine⟨rfl,H01,ρ,g1.sub,hr.mono g1.z,?_⟩;replace q:=post.grow (r:=(fa ρ).bind λxs=>jL z xs) q g1;cases e2:fa ρ with
   |stuck|exn x=>rw[e2]at q;exact q
   |ok xs=>
    rw[e2]at q;intro us H2 H02 g2 r2;replace q:=post.grow (r:=jL z xs) q g2;unfold jL at q
    match xs,r2,q with
    |[.lst ds],r2,q=>
     obtain⟨w,r',rfl,k1,k2⟩:=aD.mp r2;rw[Reps.nil_iff.mp k2];obtain⟨p,vs,rfl,k3,k4⟩:=aH.mp k1;cases e3:fW ds with
     |none=>simp only[e3]at q;exact q.elim
     |some ys=>
      simp only[e3]at q
      by_cases c:gh z ys=true
      .rw[if_pos c]at q
       exact⟨z,p,ds,ys,rfl,rfl,k1.mono g2.sub,e3,c,bR g2.sub q (Rep.str_iff.mpr rfl)⟩
      .rw[if_neg c]at q;exact q.elim
    |[],_,q=>exact q.elim
    |d1::_::_,_,q=>cases d1<;>exact QE q
    |[.non],_,q=>exact q.elim
    |[.bl _],_,q=>exact q.elim
    |[.int _],_,q=>exact q.elim
    |[.str _],_,q=>exact q.elim
    |[.tup _],_,q=>exact q.elim
    |[.dic _ _],_,q=>exact q.elim
    |[.exc _],_,q=>exact q.elim
    |[.ob _ _],_,q=>exact q.elim
  |_=>exact q.elim
end
section
variable {X:Cx}{E:XK}{a:Qe}{f:am}{pos:Pos}
def N1:V->Option Int->Option Int->Hp->VK->Prop:=λx lo hi H Q=>∃z,x=.str z/\z.length<=sizeLine/\Q (.str (Ql z lo hi)) H
def Jx:EK X N1:=by
 intro π s σ H x v vl vu lo hi sl Q I rx hs pl pu h;obtain⟨z,rfl,hz,q⟩:=h;obtain⟨t,rfl⟩:=rx;have fin:∀t' k,EP X π σ Q (.str (Ql z lo hi) t') { s with toks:=k }:=λt' k=>⟨.str (Ql z lo hi),H,I.tok _,⟨_,rfl⟩,q⟩
 refine⟨"str",_,PySem.F.slot_str_getitem.lookup,typeIs_str s z t,?_⟩;cases pl with
 |none=>
  cases pu with|none=>exact wpAny_getItem_str_slice (l:=none) (u:=none) (st:=none) hs rfl (post_val_or_str ⟨PB (Tt z _ _) hz,fin⟩)|int j uj=>exact wpAny_getItem_str_slice (l:=none) (u:=some (j,uj)) (st:=none) hs rfl (post_val_or_str ⟨PB (Tt z _ _) hz,fin⟩)
 |int i ui=>
  cases pu with|none=>exact wpAny_getItem_str_slice (l:=some (i,ui)) (u:=none) (st:=none) hs rfl (post_val_or_str ⟨PB (Tt z _ _) hz,fin⟩)|int j uj=>exact wpAny_getItem_str_slice (l:=some (i,ui)) (u:=some (j,uj)) (st:=none) hs rfl (post_val_or_str ⟨PB (Tt z _ _) hz,fin⟩)
noncomputable def lB(x:D) (l h:Option Int):aj D:=match x with
 |.lst ds=>.ok (.lst (rN ds l h))
 |.str z=>if z.length<=line then .ok (.str (Ql z l h)) else .stuck
 |.tup ds=>if HT.sIx ds.length 0 l=0/\HT.sIx ds.length ds.length h=ds.length then .stuck else .ok (.tup (rN ds l h))
 |_=>.stuck
def hZ(f:am)(lo hi:Ev->aj (Option Int)):am:=λρ=>(f ρ).bind λx=>(lo ρ).bind λl=>(hi ρ).bind λh=>lB x l h
def cy{lo hi:Option Qe}{p2:Pos}{fl fh:Ev->aj (Option Int)}(ha:DE X E a f)(hl:DO X E lo fl)(hh:DO X E hi fh):DE X E (.Subscript a (.Slice lo hi none p2) pos) (hZ f fl fh) :=
 ⟨bh (CB (EK.or Fq (EK.or Jx Jw)) ha.o hl.o hh.o) (vj (m:=lB) λx v l h H Ha Q hs r q=>by
  cases x with
  |lst ds=>
   obtain⟨p,vs,rfl,h1,h2⟩:=aH.mp r;exact .inl ⟨p,vs,rfl,aF.sqL hs h1,λn hn=>q _ _ _ (aX hs hn) (aH.mpr ⟨n,_,rfl,gJ.of ay,(h2.cut l h).mono (aX hs hn).z⟩)⟩
  |str z=>
   unfold lB at q
   by_cases c:z.length<=line
   .simp only[if_pos c]at q
    exact .inr (.inl ⟨z,Rep.str_iff.mp r,fJ c,bR hs q (Rep.str_iff.mpr rfl)⟩)
   .simp only[if_neg c]at q;exact q.elim
  |tup ds=>
   unfold lB at q
   by_cases c:HT.sIx ds.length 0 l=0/\HT.sIx ds.length ds.length h=ds.length
   .simp only[if_pos c]at q;exact q.elim
   .simp only[if_neg c]at q
    obtain⟨p,vs,rfl,h1,h2⟩:=aJ.mp r;exact .inr (.inr ⟨p,vs,rfl,aF.sqT hs h1,by rw[←h2.length];exact c,λn hn=>q _ _ _ (aX hs hn) (aJ.mpr ⟨n,_,rfl,lT.of ay,(h2.cut l h).mono (aX hs hn).z⟩)⟩)
  |_=>exact q.elim)⟩
end
def Oy(z:Pj):It:=⟨λi _=>i<z.cps.size,λi H x H'=>H'=H/\∃c,z.cps[i]?=some c/\x=.str ⟨#[c]⟩,λi _=>z.cps.size<=i⟩
def xg{P:Qi}{w:Qv}{K:Pl}{tg:Qe}(z:Pj)(t:Tok)(it:Pg):Bq P w K tg (Oy z) [it] it (λi h=>h.IsStrIter it "str_ascii_iterator" z t i) where
 mem:=by simp
 obj:=λi h st b hb=>by
  have e:b=it:=by simpa using hb
  subst e;obtain⟨o,e,c,d⟩:=st;exact⟨o,e,λv z=>by rw[d]at z;cases z⟩
 keep:=λi h h' st k=>let ⟨o,ho,r⟩:=st;⟨o,k it (by simp) o ho,r⟩
 item:=by
  intro X hP hw hK hc i π s σ H E I hf st hg;subst hP hw hK;have hg':i<z.cps.size:=hg;obtain⟨f0,f1,f2,f3,f4,f5⟩:=hf it (by simp);refine wpAny_pyNext_ascii_item st (c:=z.cps[i]) (by simp[hg']) λh' st' sb=>?_;have I1:Inv X π σ H { s with heap:=h',toks:=s.toks+1 }:=I.turned (t':=s.toks+1) (λb o hb e=>(sb.2 b hb).trans e) f0 f1 f3 f4 f5;obtain⟨o,e,c,d⟩:=id st';exact⟨_,rfl,zp (s:={ s with heap:=h',toks:=s.toks+1 }) e c d (by decide) ⟨.str ⟨#[z.cps[i]]⟩,H,I1,⟨_,rfl⟩,⟨rfl,_,by simp[hg'],rfl⟩,st',λb hb=>(hf b hb).1⟩⟩
 done:=by
  intro X hP hw hK hc i π s σ H E I hf st hg;subst hP hw hK;have hg':z.cps.size<=i:=hg;obtain⟨f0,f1,f2,f3,f4,f5⟩:=hf it (by simp);exact wpAny_pyNext_ascii_end (I.ok.hd hc) st (by simp[hg']) λh' eb=>⟨rfl,I.turned (t':=s.toks) (λb o hb e=>eb b o hb e) f0 f1 f3 f4 f5⟩
 self:=λ_ _ _ _ _ st h=>wpAny_pyIter_striter_ascii st h
def z6{P:Qi}{w:Qv}{K:Pl}{tg:Qe}(z:Pj)(t:Tok)(it:Pg):Bq P w K tg (Oy z) [it] it (λi h=>h.IsStrIter it "str_iterator" z t i) where
 mem:=by simp
 obj:=λi h st b hb=>by
  have e:b=it:=by simpa using hb
  subst e;obtain⟨o,e,c,d⟩:=st;exact⟨o,e,λv z=>by rw[d]at z;cases z⟩
 keep:=λi h h' st k=>let ⟨o,ho,r⟩:=st;⟨o,k it (by simp) o ho,r⟩
 item:=by
  intro X hP hw hK hc i π s σ H E I hf st hg;subst hP hw hK;have hg':i<z.cps.size:=hg;obtain⟨f0,f1,f2,f3,f4,f5⟩:=hf it (by simp);refine wpAny_pyNext_wide_item st (c:=z.cps[i]) (by simp[hg']) λh' st' sb=>?_;have I1:Inv X π σ H { s with heap:=h',toks:=s.toks+1 }:=I.turned (t':=s.toks+1) (λb o hb e=>(sb.2 b hb).trans e) f0 f1 f3 f4 f5;obtain⟨o,e,c,d⟩:=id st';exact⟨_,rfl,zp (s:={ s with heap:=h',toks:=s.toks+1 }) e c d (by decide) ⟨.str ⟨#[z.cps[i]]⟩,H,I1,⟨_,rfl⟩,⟨rfl,_,by simp[hg'],rfl⟩,st',λb hb=>(hf b hb).1⟩⟩
 done:=by
  intro X hP hw hK hc i π s σ H E I hf st hg;subst hP hw hK;have hg':z.cps.size<=i:=hg;obtain⟨f0,f1,f2,f3,f4,f5⟩:=hf it (by simp);exact wpAny_pyNext_wide_end (I.ok.hd hc) st (by simp[hg']) λh' eb=>⟨rfl,I.turned (t':=s.toks) (λb o hb e=>eb b o hb e) f0 f1 f3 f4 f5⟩
 self:=λ_ _ _ _ _ st h=>wpAny_pyIter_striter_wide st h
def Of(tl:TE):TI:=λσ H R=>tl σ H λx H1=>∃z,x=.str z/\R (Oy z) H1
def JU{X:Cx}{tg l:Qe}{tl:TE}(hl:PE X l tl):PI X tg l (Of tl):=by
 intro π s σ H R I h;refine dw (hl π s σ H _ I h) λv s1 ⟨x,H1,I1,r1,q1⟩=>?_;obtain⟨z,rfl,q⟩:=q1;obtain⟨t,rfl⟩:=r1;have fpo:∀b∈[s1.heap.objs.size],nE X π H1 b:=λb hb=>by
  have e:b=s1.heap.objs.size:=by simpa using hb
  subst e;exact I1.fpOk (P9 _) (I1.hok.fresh (P9 _))
 cases ha:z.cps.all (· < 128) with|false=>exact wpAny_pyIter_wide ha ⟨s1.heap.objs.size,[s1.heap.objs.size],_,_,H1,rfl,I1.kept (t':=s1.toks) λb o e=>Pq _ e,z6 z t _,⟨_,Qm _ rfl,rfl,rfl⟩,fpo,q⟩|true=>exact wpAny_pyIter_ascii ha ⟨s1.heap.objs.size,[s1.heap.objs.size],_,_,H1,rfl,I1.kept (t':=s1.toks) λb o e=>Pq _ e,xg z t _,⟨_,Qm _ rfl,rfl,rfl⟩,fpo,q⟩
def c8(z:Pj):ac:=z.cps.toList.map λc=>.str ⟨#[c]⟩
def fY(z:Pj):(c8 z).length=z.cps.size:=by unfold c8;simp
section
variable {X:Cx}{E:XK}
def Mh(K:Pl):al->Hp->VK->Prop:=λxs H Q=>∃(p:Pg) (bs:List Bool),xs=[.ref p]/\gJ K H p (bs.map V.bl)/\Q (.bl (bs.all id)) H
theorem tM:∀bs:List Bool,(Q0 bs.length).all (λi=>bs.getD i false)=bs.all id
 |[]=>rfl
 |b::r=>by
  rw[PU,UK,R4,SY,R4,←tM r];rfl
def qO(hc:X.calm=true):jc X (.builtin "all") (Mh X.K):=by
 intro π s σ H xs us Q I r h;obtain⟨p,bs,rfl,hq,q⟩:=h;obtain⟨u,rfl,rx⟩:=rW r;cases rx;obtain⟨its,rv,pl,hz⟩:=I.list hq;have hlen:=rv.length;rw[Ph]at hlen;have hne:p≠s.heap.objs.size:=Qg pl.lt;refine call_all_walk (wpAny_pyIter_list pl.isList ?_);have pl2:(s.heap.push { cls:=.type "list_iterator",data:=.fields #[.ref p,.int 0 0] }).IsList p its.toArray:=by
  obtain⟨o,k1,k2⟩:=pl.isList;exact⟨o,Pq _ k1,k2⟩
 refine⟨s.heap.objs.size,_,_,_,_,_,λi=>bs.getD i false,rfl,Walks.list (A:=X.A.in1) (I.ok.hd hc) s.heap.objs.size p hne its.toArray,⟨⟨_,Qm _ rfl,rfl,rfl⟩,pl2⟩,?_,λh' tk hk=>?_⟩
 .intro i v s' Q' E' hv hQ
  have hv':its[i]?=some v:=by simpa using hv
  have hi:i<its.length:=(PJ.mp hv').1;obtain⟨w,e1,e2⟩:=rv.get (show(bs.map V.bl)[i]?=some (V.bl (bs.getD i false)) by
   rw[P7,Pu (by omega)];simp[List.getD,Pu (show i<bs.length by omega)])
  rw[hv']at e1;cases e1;obtain rfl:v=QZ _:=e2;exact Q4 hQ
 .have hall:(Q0 its.toArray.size).all (λi=>bs.getD i false)=bs.all id:=by
   rw[P6,←hlen];exact tM bs
  rw[hall];exact⟨.bl _,H,I.kept (t':=tk) (λb o e=>hk b o (by simp only[Qd];exact Qg (PM e)) (Pq _ e)),rfl,q⟩
def e8:ac->Option (List Bool)
 |[]=>some []
 |.bl b::r=>(e8 r).map (b::·)
 |_=>none
theorem tw{K:Pl}{H:Hp}:∀{ds:ac}{bs:List Bool}{vs:al},e8 ds=some bs->Reps K H ds vs->vs=bs.map V.bl
 |[],bs,vs,h,r=>by cases h;exact Reps.nil_iff.mp r
 |d::ds,bs,vs,h,r=>by
  obtain⟨v,r',rfl,h1,h2⟩:=aD.mp r;cases d with
  |bl x=>
   unfold e8 at h;cases e:e8 ds with
   |none=>rw[e]at h;cases h
   |some zs=>
    rw[e]at h;cases h;rw[aC.mp h1,tw e h2];rfl
  |_=>cases h
def rM(x:D):aj D:=match x with
 |.lst ds=>match e8 ds with
  |some bs=>.ok (.bl (bs.all id))
  |none=>.stuck
 |_=>.stuck
def yq:kv X E (Mh X.K) (m1 rM):=wF λx v H Ha Q hs r q=>by
 cases x with
 |lst ds=>
  unfold rM at q;obtain⟨p,vs,rfl,h1,h2⟩:=aH.mp r;cases e:e8 ds with
  |none=>simp only[e]at q;exact q.elim
  |some bs=>
   simp only[e]at q;exact⟨p,bs,rfl,by rw[←tw e h2];exact aF.sqL hs h1,bR hs q (rb _)⟩
 |_=>exact q.elim
end
section
variable {X:Cx}{E:XK}{e:Qe}{f:am}{pos p1:Pos}
def dOne(x:Pj)(d:D):aj D:=.ok (.dic [x] [d])
end
def iM(cells:List (Pj×Pg)):List (Pj×Q6)->List (Pj×Pg)->List (Pj×Pg)
 |[],acc=>acc
 |(n,k)::r,acc=>if(k==Rn)=true then iM cells r ((n,(cells.lookup n).getD 0)::acc) else iM cells r acc
def rO{scope:Sk}{env:QL}(h:∀x∈scope.names,x.2=.free->∃c,env.cells.lookup x.1=some c):closureFor scope env=pure (iM env.cells scope.names []):=by
 simp only[closureFor];have key:∀(names:List (Pj×Q6)) (acc:List (Pj×Pg)),(∀x∈names,x.2=.free->∃c,env.cells.lookup x.1=some c) ->
   (forIn names acc λ(x:Pj×Q6) (z:List (Pj×Pg))=>
      if(x.snd==Rn)=true then do
       let y ←cellOf env x.fst
       pure (R9 ((x.fst,y)::z))
      else(pure (R9 z):Sem _))=pure (iM env.cells names acc):=by
  intro names
  induction names with
  |nil=>intro acc _;rfl
  |cons x r ih=>
   intro acc hh;obtain⟨n,k⟩:=x;rw[List.forIn_cons]
   by_cases hk:(k==Rn)=true
   .obtain⟨c,hc⟩:=hh (n,k) P0 (by simpa using hk)
    have hcell:cellOf env n=pure c:=by unfold cellOf;rw[show env.cells.lookup n=some c from hc]
    simp only[hk,if_true];rw[hcell];have:=ih ((n,c)::acc) (λy hy=>hh y (Pw _ hy));rw[show iM env.cells ((n,k)::r) acc=iM env.cells r ((n,c)::acc) by
     show(if(k==Rn)=true then _ else _)=_;rw[if_pos hk,show env.cells.lookup n=some c from hc];rfl]
    rw[←this];rfl
   .have:=ih acc (λy hy=>hh y (Pw _ hy))
    rw[if_neg hk];rw[show iM env.cells ((n,k)::r) acc=iM env.cells r acc by
     show(if(k==Rn)=true then _ else _)=_;rw[if_neg hk]]
    rw[←this];rfl
 rw[key _ _ h];rfl
theorem qK{cells:List (Pj×Pg)}:∀{names:List (Pj×Q6)}{acc:List (Pj×Pg)}{x:Pj}{c:Pg},(∀y∈names,y.2=.free->∃c,cells.lookup y.1=some c) ->
  (iM cells names acc).lookup x=some c->acc.lookup x=some c∨cells.lookup x=some c
 |[],acc,x,c,_,h=>.inl h
 |(n,k)::r,acc,x,c,hh,h=>by
  unfold iM at h
  by_cases hk:(k==Rn)=true
  .rw[if_pos hk]at h
   obtain⟨d,hd⟩:=hh (n,k) P0 (by simpa using hk);rcases qK (λy hy=>hh y (Pw _ hy)) h with h|h
   .rw[Q2]at h
    cases e:x==n with
    |true=>
     rw[e]at h;rw[show cells.lookup n=some d from hd]at h;cases h;rw[eq_of_beq e];exact .inr hd
    |false=>rw[e]at h;exact .inl h
   .exact .inr h
  .rw[if_neg hk]at h
   exact qK (λy hy=>hh y (Pw _ hy)) h
theorem nP{α:Type}{x:Pj}:∀{l:List (Pj×α)},(∃v,(x,v)∈l)->∃v,l.lookup x=some v
 |[],⟨v,h⟩=>by cases h
 |(n,w)::r,⟨v,h⟩=>by
  rw[Q2];cases e:x==n with
  |true=>exact⟨w,rfl⟩
  |false=>
   rcases PL.mp h with h|h
   .cases h;simp at e
   .exact nP ⟨v,h⟩
theorem qM{cells:List (Pj×Pg)}{x:Pj}{c:Pg}:∀{names:List (Pj×Q6)}{acc:List (Pj×Pg)},(x,c)∈acc->(x,c)∈iM cells names acc
 |[],acc,h=>h
 |(n,k)::r,acc,h=>by
  unfold iM
  by_cases hk:(k==Rn)=true
  .rw[if_pos hk];exact qM (Pw _ h)
  .rw[if_neg hk];exact qM h
def qL{cells:List (Pj×Pg)}{x:Pj}:∀{names:List (Pj×Q6)}{acc:List (Pj×Pg)},(x,Rn)∈names->∃c,(iM cells names acc).lookup x=some c:=by
 intro names
 induction names with
 |nil=>intro acc h;cases h
 |cons y r ih=>
  intro acc h;obtain⟨n,k⟩:=y;unfold iM;rcases PL.mp h with h|h
  .cases h
   rw[if_pos (by rfl)];exact nP ⟨_,qM P0⟩
  .by_cases hk:(k==Rn)=true
   .rw[if_pos hk];exact ih h
   .rw[if_neg hk];exact ih h
noncomputable def fx(X:Cx) (N:bv) (scope:Sk) (s:Pm) (H:Hp) (C:Pg) (fp:List Pg) (pn:List (Pg×Obj)):Cx :=
 { X with N:=N,sf:=s,Ha:=H,env:=compEnvC scope (iM X.env.cells scope.names []) C X.env,outer:=X.stack,stack:=X.stack,ex:=fp,fn:=λ_=>false,pn:=pn,xe:=λ_ _=>False }
def mI(n:Nat)(fr:ci)(σ:L2.St):L2.St:=PH n none++fr.map λ(i:Nat)=>(σ[i]?).getD none
noncomputable def EA(X:Cx) (N:bv) (n:Nat) (fr:ci) (scope:Sk):Prop :=
 N.length=n+fr.length/\((N.drop n).zip fr).all (λp=>X.N[p.2]?==some p.1&&X.env.scope.names.lookup p.1==some .cell&&scope.names.lookup p.1==some .free&&(relabel scope X.env).names.lookup p.1==some .cell)=true
theorem EA.at{X:Cx}{N:bv}{n:Nat}{fr:ci}{scope:Sk}(h:EA X N n fr scope){k:Nat}{x:Pj}{v:V}{σ:L2.St}(hx:N[k]?=some x)(hv:(mI n fr σ)[k]?=some (some v)) :
  ∃i:Nat,X.N[i]?=some x/\σ[i]?=some (some v)/\X.env.scope.names.lookup x=some .cell/\scope.names.lookup x=some .free/\(relabel scope X.env).names.lookup x=some .cell:=by
 unfold mI at hv
 by_cases hk:k<n
 .rw[PY (by simpa using hk),Qk,if_pos hk]at hv
  cases hv
 .rw[Qa (by simpa using hk),QV,P7]at hv
  cases hi:fr[k-n]? with
  |none=>rw[hi]at hv;cases hv
  |some i=>
   rw[hi]at hv;have hz:((N.drop n).zip fr)[k-n]?=some (x,i):=by
    rw[List.getElem?_zip_eq_some];exact⟨by rw[List.getElem?_drop,show n+(k-n)=k by omega];exact hx,hi⟩
   have:=Qf.mp h.2 _ (Qs hz);simp only[Pr,beq_iff_eq]at this;refine⟨i,this.1.1.1,?_,this.1.1.2,this.1.2,this.2⟩;simp only[R8,RP]at hv;cases hs:σ[i]? with|none=>rw[hs]at hv;cases hv|some u=>rw[hs]at hv;exact congrArg some hv
noncomputable def Nj(X:Cx) (ifs:List Qe) (t:TT):Prop :=
 ∀(π:List (Pg×Obj)) (s:Pm) (σ:L2.St) (H:Hp) (Q:Bool->Hp->Prop),Inv X π σ H s->t σ H Q ->
  PZ (PN X.prog X.w) X.A (forIn ifs true λc r=>if r=true then do let ok ←isTrue c X.env (eval c X.env);pure (R9 ok) else pure (R9 r)) (TP X π σ Q) X.xe s
def NG:TT:=λ_ H Q=>Q true H
def FK{X:Cx}:Nj X [] NG:=λ_ _ _ H _ I h=>wpAny_tests_nil ⟨H,I,h⟩
def FJ{X:Cx}{c:Qe}{t:TT}(h:PT X c t):Nj X [c] t:=λπ s σ H Q I q=>wpAny_tests_one (h π s σ H Q I q)
theorem qH{prog:Qi}{w:Qv}{A:Qp}{R:Tf->Pm->Prop}{s:Pm}{elt target iter:Qe}{ifs:List Qe}{scope:Sk}{pos:Pos}{it acc:Pd}{env:QL}(I:Nat->Pm->Prop)
  (turn:∀n s,I n s->PZ (PN prog w) A (pyNext it) (λr sg=>match r with
   |none=>R (.ok .next) sg
   |some v=>PZ (PN prog w) A (letOwnedTupleGo target it v) (λ_ sg'=>PZ (PN prog w) A (assign target env v) (λ_ si=>
     PZ (PN prog w) A (forIn ifs true λc r=>if r=true then do let ok ←isTrue c env (eval c env);pure (R9 ok) else pure (R9 r)) (λok sj=>
      if ok=true then PZ (PN prog w) A (eval elt env) (λx sk=>
       PZ (PN prog w) A (call (.builtin "list.append") [acc,x]) (λ_ so=>∃m,m<n/\I m so) (λ_ _=>False) sk) (λ_ _=>False) sj
      else ∃m,m<n/\I m sj) (λ_ _=>False) si) (λ_ _=>False) sg') (λ_ _=>False) sg) (λ_ _=>False) s)
  (n:Nat) (h:I n s) :
  RO (PN prog w) A (.compLoop (.ListComp elt [⟨target,iter,ifs,0⟩] scope pos) 0 it acc env) R s:=by
 refine codeAny_loop rfl I (λn s hI=>?_) n h;show PZ _ A ((compTurn (.ListComp elt [⟨target,iter,ifs,0⟩] scope pos) 0 it acc env).onRaise (λx=>do noteFrame x env;theTreesLotGoes x)) _ _ s;refine wpAny_noted ?_;rw[compTurn_list];refine Pp (wpAny_standAt (Pp (QC (turn n s hI) (λr sg h₁=>?_) λ_ _ h'=>h'.elim)));cases r with
 |none=>exact PX h₁
 |some v=>
  refine Pp (QC h₁ (λ_ sg' h₁'=>?_) λ_ _ h'=>h'.elim);refine Pp (QC h₁' (λ_ si hG=>Pp (QC hG (λok sj hU=>?_) λ_ _ h'=>h'.elim)) λ_ _ h'=>h'.elim);cases ok with
  |false=>exact PX ⟨rfl,hU⟩
  |true=>
   exact Pp (Pp (QC hU (λx sk hV=>Pp (QC hV (λ_ so hW=>PX (PX ⟨rfl,hW⟩)) λ_ _ h'=>h'.elim)) λ_ _ h'=>h'.elim))
noncomputable def xh(n:Nat) (fr:ci) (g:TG) (tt:TT) (te:TE) (J:It) (σ:L2.St) (H1:Hp) (Q:VK):Prop:=∀D,H1 D=none->∃W:Nat->Nat->al->L2.St->Hp->Prop,(∃m,W 0 m [] (mI n fr σ) (upd H1 D (.lst []))) /\
 ∀i m ys σ' H',W i m ys σ' H'->H' D=some (.lst ys)/\((J.stop i H'/\Q (.ref D) H')∨(J.go i H'/\ys.length<sizeLine/\∀x H2,J.yld i H' x H2->g x σ' H2 λσ3 H3=>tt σ3 H3 λb H4=>
  if b=true then te σ3 H4 λy H5=>H5 D=some (.lst ys)/\∃m',m' < m/\W (i+1) m' (ys++[y]) σ3 (upd H5 D (.lst (ys++[y])))
  else ∃m',m' < m/\W (i+1) m' ys σ3 H4))
def Bi{X:Cx}{tg iter elt:Qe}{ifs:List Qe}{scope:Sk}{pos:Pos}{N:bv}{n:Nat}{fr:ci}{g:TG}{tt:TT}{te:TE}(hc:X.calm=true)(hfr:EA X N n fr scope)
  (hcell:∀x∈scope.names,x.2≠.cell)(hfree:∀x∈scope.names,x.2=.free->X.env.scope.names.lookup x.1=some .cell)(hkind:scope.kind=.function)
  (blk:∀s H C fp pn,PG (fx X N scope s H C fp pn) tg g/\Nj (fx X N scope s H C fp pn) ifs tt/\PE (fx X N scope s H C fp pn) elt te)
  {π:List (Pg×Obj)}{σ:L2.St}{s2:Pm}{Q:VK}{itv:Pd}{RR:Pd->Pg->Tf->Pm->Prop}
  (h2:Ow X π σ tg (λJ H1=>xh n fr g tt te J σ H1 Q) itv s2)
  (fin:∀(Da C:Pg) (s6:Pm) (H5:Hp) (m:Pj->Option Pd),Inv X π σ H5 s6->s6.heap.Ns C m->nE X π H5 C->Q (.ref Da) H5->RR (.ref Da) C (.ok .next) s6) :
  PZ (PN X.prog X.w) X.A (newList []) (λacc sj=>PZ (PN X.prog X.w) X.A (newFunctionEnv scope X.env.globals (iM X.env.cells scope.names []) [] X.env.qual none .none (some X.env)) (λcenv sk=>
   RO (PN X.prog X.w) X.A (.compStart (.ListComp elt [⟨tg,iter,ifs,0⟩] scope pos) 0 itv acc { cenv with scope:=relabel scope X.env }) (RR acc cenv.locals) sk) X.xe sj) X.xe s2:=by
 obtain⟨it,fp,tn,J,H2,e,I2,T,st2,f2,q⟩:=h2;subst e;have hD:H2 s2.heap.objs.size=none:=I2.fresh;refine wpAny_newObj_type ?_;have I3:Inv X π σ (upd H2 s2.heap.objs.size (.lst [])) { s2 with heap:=s2.heap.push { cls:=.type "list",data:=.seq ([]:List Pd).toArray } }:=I2.lnew (t':=s2.toks) (its:=[]) .nil (S8 _);obtain⟨W,⟨m0,w0⟩,turn⟩:=q s2.heap.objs.size hD;generalize hs3:({ s2 with heap:=s2.heap.push { cls:=.type "list",data:=.seq ([]:List Pd).toArray } }:Pm)=s3 at I3 ⊢;have hs3h:s3.heap=s2.heap.push { cls:=.type "list",data:=.seq ([]:List Pd).toArray }:=by rw[←hs3]
 have hDs:s2.heap.objs.size<s3.heap.objs.size:=by rw[hs3h,Ub];exact RB _
 have fpl:∀b∈fp,b<s2.heap.objs.size:=λb hb=>by
  obtain⟨o,ho,_⟩:=T.obj _ _ st2 b hb;exact PM ho
 have kept3:∀b o,s2.heap.get? b=some o->s3.heap.get? b=some o:=λb o e=>by rw[hs3h];exact Pq _ e
 have st3:tn 0 s3.heap:=T.keep _ _ _ st2 λb _ o e=>kept3 b o e;generalize hDa:s2.heap.objs.size=Da at *;generalize hH3:upd H2 Da (.lst [])=H3 at *;have fr3:∀b∈fp,H3 b=none:=λb hb=>by rw[←hH3,ax (Qg (fpl b hb))];exact(f2 b hb).1
 have cls:∀x c,(iM X.env.cells scope.names []).lookup x=some c->X.env.cells.lookup x=some c:=λx c e=>by
  rcases qK (λy hy hf=>I3.ok.has y.1 (.inl (hfree y hy hf))) e with e|e
  .cases e
  .exact e
 refine wpAny_newFunctionEnv hcell (by intro y hy;simp at hy) (λh4 ns4 sb4=>?_) hkind;have k4:∀b o,s3.heap.get? b=some o->h4.get? b=some o:=λb o e=>(sb4.2 b (Qg (PM e))).trans (Pq _ e);generalize hC:s3.heap.objs.size=C at *;have hCn:H3 C=none:=I3.hok.fresh (by rw[hC];exact P9 _);have ltC:∀b o,s3.heap.get? b=some o->b≠C:=λb o e=>by rw[←hC];exact Qg (PM e)
 have cellC:∀x c,X.env.cells.lookup x=some c->c≠C:=λx c e=>by
  obtain⟨v,o,ho,_⟩:=I3.cell x c e;exact ltC c o ho
 have fpC:∀b∈fp,b≠C:=λb hb=>by
  have:=fpl b hb;exact Qg (Nat.lt_trans this hDs)
 show RO (PN X.prog X.w) X.A (.compStart (.ListComp elt [⟨tg,iter,ifs,0⟩] scope pos) 0 (.ref it) (.ref Da) (compEnvC scope (iM X.env.cells scope.names []) C X.env)) _ _;generalize hs4:({ s3 with heap:=h4,toks:=s3.toks+([]:List (Pj×Pd)).length }:Pm)=s4;have hs4h:s4.heap=h4:=by rw[←hs4]
 have ok:(fx X N scope s3 H3 C fp (X.pn++π)).Ok:=by
  refine⟨I3.ok.mod,hkind,I3.ok.glob,I3.ok.blt,UH hC,λx y c e1 e2=>I3.ok.inj x y c (cls x c e1) (cls y c e2),λx e=>?_,λx c e=>?_,λ_=>I3.ok.hd hc,I3.ok.frames,.inl rfl,λb hb=>⟨fpC b hb,λx c e=>(f2 b hb).2.2.2.2.1 x c (cls x c e)⟩,I3.bs,PB I3.ok.bsz I3.sz,λb o e hb=>?_,λb hb z=>?_,I3.stack,I3.stkFree⟩
  .have mm:∀k:Q6,(relabel scope X.env).names.lookup x=some k->(k=.cell∨k=.free)->(x,Rn)∈scope.names:=λk hk hk2=>by
    have hm:=Rk hk;obtain⟨⟨n',k'⟩,hm1,hm2⟩:=Qt.mp hm;dsimp only at hm2;split at hm2
    .rename_i hcnd
     cases hm2;simp only[Pr,beq_iff_eq]at hcnd;rw[hcnd.1.1]at hm1;exact hm1
    .cases hm2
     rcases hk2 with rfl|rfl
     .exact absurd rfl (hcell _ hm1)
     .exact hm1
   rcases e with e|e
   .exact qL (mm _ e (.inl rfl))
   .exact qL (mm _ e (.inr rfl))
  .cases e
  .rcases(f2 b hb).2.2.2.1 with z|z
   .exact I3.ok.noex b o e z
   .exact absurd (Py (PM e) (PB I3.ok.bsz z)) (R3 _)
  .rcases PL.mp (I3.stkSub b z) with z|z
   .exact(f2 b hb).2.1 z
   .exact(f2 b hb).2.2.1 z
 have I4:Inv (fx X N scope s3 H3 C fp (X.pn++π)) [] (mI n fr σ) H3 s4:=by
  refine⟨ok,by rw[←hs4];rfl,by rw[←hs4];exact I3.bare,by rw[hs4h];exact Un.kept k4,⟨_,by rw[hs4h];exact ns4,λi x v h1 h2 h3=>?_⟩,λx c e=>?_,hCn,λx c e=>I3.freeC x c (cls x c e),λp hp=>?_,by rw[hs4h];exact I3.hok.kept k4,?_⟩
  .obtain⟨j,j1,j2,j3,j4,j5⟩:=hfr.at h1 h2
   obtain⟨m,hn,hl⟩:=I3.loc;obtain⟨u,ru,l⟩:=hl j x v j1 j2 (.inr (.inl j3));refine⟨u,ru,.inr ⟨.inl j5,?_⟩⟩;rcases l with⟨z,_⟩|⟨_,c,z1,z2⟩
   .rw[show X.env.kindOf x=X.env.scope.names.lookup x from rfl,j3]at z;cases z
   .obtain⟨c',hc'⟩:=qL (cells:=X.env.cells) (names:=scope.names) (acc:=[]) (Rk j4)
    have:=cls x c' hc';rw[z1]at this;cases this;obtain⟨oc,q1,q2⟩:=z2;exact⟨c,hc',oc,by rw[hs4h];exact k4 _ _ q1,q2⟩
  .obtain⟨v,oc,q1,q2⟩:=I3.cell x c (cls x c e)
   exact⟨v,oc,by rw[hs4h];exact k4 _ _ q1,q2⟩
  .rw[Rr]at hp
   obtain⟨p1,p2,p3,p4,p5⟩:=I3.pin p hp;refine⟨by rw[hs4h];exact k4 _ _ p1,p2,ltC _ _ p1,λz=>?_,p5⟩;rcases PL.mp (I3.stkSub _ z) with z|z
   .exact p3 z
   .exact p4 z
  .show(mI n fr σ).length=N.length
   unfold mI;rw[P1,QV,Ph,hfr.1]
 have st4:tn 0 s4.heap:=by rw[hs4h];exact T.keep _ _ _ st3 λb _ o e=>k4 b o e
 have stat:∀{H':Hp},(∀b∈fp,H' b=none)->∀b∈fp,nE (fx X N scope s3 H3 C fp (X.pn++π)) [] H' b:=λhn b hb=>by
  refine⟨hn b hb,fpC b hb,λz=>?_,.inl hb,λx c e=>(f2 b hb).2.2.2.2.1 x c (cls x c e),λp hp=>?_⟩
  .rcases PL.mp (I3.stkSub b z) with z|z
   .exact(f2 b hb).2.1 z
   .exact(f2 b hb).2.2.1 z
  .rw[Rr]at hp
   exact(f2 b hb).2.2.2.2.2 p hp
 have loop:RO (PN X.prog X.w) X.A (.compLoop (.ListComp elt [⟨tg,iter,ifs,0⟩] scope pos) 0 (.ref it) (.ref Da) (compEnvC scope (iM X.env.cells scope.names []) C X.env)) (RR (.ref Da) C) s4:=by
  refine qH (λn s'=>∃i ys σ' H',Inv (fx X N scope s3 H3 C fp (X.pn++π)) [] σ' H' s'/\tn i s'.heap/\(∀b∈fp,H' b=none)/\W i n ys σ' H') ?_ m0 ⟨0,[],_,H3,I4,st4,fr3,w0⟩;rintro k s5 ⟨i,ys,σ5,H5,I5,st5,fr5,w5⟩;obtain⟨hDl,ways⟩:=turn i k ys σ5 H5 w5;rcases ways with⟨stop,fin'⟩|⟨go,hz,step⟩
  .refine dw (T.done (fx X N scope s3 H3 C fp (X.pn++π)) rfl rfl rfl hc i [] s5 σ5 H5 (λ_ _=>False) I5 (stat fr5) st5 stop) λr s6 ⟨hr,I6⟩=>?_
   subst hr;obtain⟨mm,nsm,_⟩:=I6.loc;have free6:H5 C=none:=I6.free;have hok:gO X.prog X.w H5 s6.heap:=I6.hok;have un:Un (ip X.stack) fp H3 H5 s3.heap s6.heap:=I6.base;have IX:Inv X π σ H5 s6:=I3.call' (s':=s6) (ch:=fp) I6.os un hok I6.bare (λb hb=>⟨(f2 b hb).2.2.2.1,(f2 b hb).2.1,(f2 b hb).2.2.2.2.1,(f2 b hb).2.2.2.2.2⟩);have fC:nE X π H5 C:=I3.fpOk (b:=C) (H':=H5) (by rw[hC];exact P9 _) free6;exact fin Da C s6 H5 mm IX nsm fC fin'
  .refine dw (T.item (fx X N scope s3 H3 C fp (X.pn++π)) rfl rfl rfl hc i [] s5 σ5 H5 (λ_ _=>False) I5 (stat fr5) st5 go) λr s6 ⟨u,hr,h6⟩=>?_
   subst hr;refine dw h6 λ_ s7 ⟨x,H7,I7,r7,y7,st7,fr7⟩=>?_;have I7':=I7.pinned (stat fr7) (T.obj _ _ st7);refine dw ((blk s3 H3 C fp (X.pn++π)).1 _ s7 σ5 H7 x u _ I7' r7 (step x H7 y7)) λ_ s8 ⟨σ8,H8,I8,q8⟩=>?_;refine dw ((blk s3 H3 C fp (X.pn++π)).2.1 _ s8 σ8 H8 _ I8 q8) λb s8b ⟨H8b,I8b,q8b⟩=>?_;have back:∀{σ':L2.St}{H':Hp}{s':Pm},L2.Inv (fx X N scope s3 H3 C fp (X.pn++π)) (([]:List (Pg×Obj))++pO fp s7.heap) σ' H' s'->tn (i+1) s'.heap/\∀b∈fp,H' b=none:=λ{σ' H' s'} I'=>by
    refine⟨T.keep _ _ _ st7 λb hb o e=>(I'.pin (b,o) (QH _ (QH _ (ji hb e)))).1,λb hb=>?_⟩;obtain⟨o,e,d⟩:=T.obj _ _ st7 b hb;exact(I'.pin (b,o) (QH _ (QH _ (ji hb e)))).2.1
   cases b with
   |false=>
    rw[if_neg QR]at q8b ⊢;obtain⟨m',hm,w9⟩:=q8b;exact⟨m',hm,i+1,ys,σ8,_,I8b.unpinned,(back I8b).1,(back I8b).2,w9⟩
   |true=>
    rw[if_pos rfl]at q8b ⊢;refine dw ((blk s3 H3 C fp (X.pn++π)).2.2 _ s8b σ8 H8b _ I8b q8b) λy s9 ⟨yv,H9,I9,r9,hD9,m',hm,w9⟩=>?_;refine dw (mZ (X:=fx X N scope s3 H3 C fp (X.pn++π)) _ s9 σ8 H9 (.ref Da) [yv] (.ref Da) [y] (λv H'=>H'=upd H9 Da (.lst (ys++[yv]))) I9 rfl (.cons r9 .nil) ⟨Da,ys,yv,rfl,rfl,hD9,hz,rfl⟩) λ_ s10 ⟨v10,H10,I10,_,e10⟩=>?_;subst e10;exact⟨m',hm,i+1,ys++[yv],σ8,_,I10.unpinned,(back I10).1,(back I10).2,w9⟩
 exact codeAny_compStart_list loop (T.self _ 0 _ _ _ st4 loop)
structure NB (K:Pl) (ds:ac) (J:It) (Ha:Hp):Prop where
 go:∀(i:Nat) (H' Ha':Hp),aF Ha Ha'->aF Ha' H'->i<ds.length->J.go i H'
 yld:∀(i:Nat) (H' Ha':Hp) (x:V) (H2:Hp) (d:D),aF Ha Ha'->aF Ha' H'->ds[i]?=some d->J.yld i H' x H2->∃H₀2,bq H' Ha' H2 H₀2/\Rep K H₀2 d x
 stop:∀(i:Nat) (H' Ha':Hp),aF Ha Ha'->aF Ha' H'->ds.length<=i->J.stop i H'
noncomputable def OT(K:Pl) (E:XK) (src:Ev->aj (ac)):TI:=λσ H R=>∃Ha ρ,aF Ha H/\fU K Ha σ ρ/\match src ρ with
 |.ok ds=>∀J H' Ha',bq H Ha H' Ha'->NB K ds J Ha'->R J H'
 |.exn x=>∀C ox H' Ha',bq H Ha H' Ha'->wY K Ha' x C ox->E C ox H'
 |.stuck=>False
structure DI (X:Cx) (E:XK) (tg iter:Qe) (src:Ev->aj (ac)):Prop where
 o:PI X tg iter (OT X.K E src)
def oP{X:Cx}{tg iter:Qe}{t t':TI}(h:PI X tg iter t)(w:∀σ H R,t' σ H R->t σ H R):PI X tg iter t':=λπ s σ H R I q=>h π s σ H R I (w σ H R q)
def xp(f:am):Ev->aj (ac):=λρ=>(f ρ).bind λd=>match d with
 |.lst ds=>.ok ds
 |_=>.stuck
def tY(f:am):Ev->aj (ac):=λρ=>(f ρ).bind λd=>match d with
 |.str z=>.ok (c8 z)
 |_=>.stuck
def pj(f:am):Ev->aj (ac):=λρ=>(f ρ).bind λd=>match d with
 |.int j=>if -4611686018427387904<=j/\j<4611686018427387904 then .ok (intsFrom 0 j.toNat) else .stuck
 |_=>.stuck
section
variable {X:Cx}{E:XK}{tg e a b:Qe}{f g:am}
def o4(h:DE X E e f):DI X E tg e (xp f):=by
 refine⟨oP (FL h.o) λσ H R z9=>?_⟩;obtain⟨Ha,ρ,hs,hr,q⟩:=z9;refine⟨Ha,ρ,hs,hr,?_⟩;unfold xp at q;cases e1:f ρ with
 |stuck|exn x=>rw[e1]at q;exact q
 |ok d=>
  rw[e1]at q;intro v H1 H01 g1 r1;cases d with
  |lst ds=>
   obtain⟨p,vs,rfl,hv,hrv⟩:=aH.mp r1;refine⟨p,rfl,⟨vs,aF.sqL g1.sub hv⟩,q _ H1 H01 g1 ⟨λi H' Ha' s1 s2 hi=>?_,λi H' Ha' x H2 d s1 s2 hd hy=>?_,λi H' Ha' s1 s2 hi=>?_⟩⟩
   .exact⟨vs,vs[i]'(by rw[←hrv.length];exact hi),aF.sqL (s1.trans s2) hv,by simp⟩
   .obtain⟨rfl,hy⟩:=hy
    obtain⟨u,k1,k2⟩:=hrv.get hd;have:=hy vs (aF.sqL (s1.trans s2) hv);rw[k1]at this;cases this;exact⟨Ha',bq.refl s2,k2.mono s1⟩
   .exact⟨vs,aF.sqL (s1.trans s2) hv,by rw[←hrv.length];exact hi⟩
  |_=>exact q.elim
def uQ(h:DE X E e f):DI X E tg e (tY f):=by
 refine⟨oP (JU h.o) λσ H R z9=>?_⟩;obtain⟨Ha,ρ,hs,hr,q⟩:=z9;refine⟨Ha,ρ,hs,hr,?_⟩;unfold tY at q;cases e1:f ρ with
 |stuck|exn x=>rw[e1]at q;exact q
 |ok d=>
  rw[e1]at q;intro v H1 H01 g1 r1;cases d with
  |str z=>
   refine⟨z,Rep.str_iff.mp r1,q _ H1 H01 g1 ⟨λi H' Ha' s1 s2 hi=>?_,λi H' Ha' x H2 d s1 s2 hd hy=>?_,λi H' Ha' s1 s2 hi=>?_⟩⟩
   .rw[fY]at hi;exact hi
   .obtain⟨rfl,c,hc,rfl⟩:=hy
    have:d=.str ⟨#[c]⟩:=by
     unfold c8 at hd;rw[P7]at hd;have h2:z.cps.toList[i]?=some c:=by simpa using hc
     rw[h2]at hd;cases hd;rfl
    subst this;exact⟨Ha',bq.refl s2,Rep.str_iff.mpr rfl⟩
   .rw[fY]at hi;exact hi
  |_=>exact q.elim
def A2{K:Pl}{lo:Int}{n:Nat}{H:Hp}:NB K (intsFrom lo n) (Li lo n) H:=by
 have hl:(intsFrom lo n).length=n:=by unfold intsFrom;simp
 refine⟨λi H' Ha' _ _ hi=>?_,λi H' Ha' x H2 d s1 s2 hd hy=>?_,λi H' Ha' _ _ hi=>?_⟩
 .rw[hl]at hi;exact hi
 .obtain⟨rfl,rfl⟩:=hy
  have:d=.int (lo+i):=by
   unfold intsFrom at hd;rw[P7]at hd;cases e:(Q0 n)[i]? with
   |none=>rw[e]at hd;cases hd
   |some k=>
    rw[e]at hd;have hk:k=i:=by
     obtain⟨h1,h2⟩:=PJ.mp e;simpa using h2.symm
    subst hk;cases hd;rfl
  subst this;exact⟨Ha',bq.refl s2,az.mpr rfl⟩
 .rw[hl]at hi;exact hi
def Bb{p pos:Pos}(hg:Gl X "range")(hm:X.mg "range"=none)(h:DE X E a f)(hn:Lm a=true:=by exact rfl):DI X E tg (.Call (.Name "range" p) [a] [] pos) (pj f):=by
 refine⟨oP (sD hg hm (b8 h.o dD (iS hn)) (iS hn)) λσ H R z9=>?_⟩;obtain⟨Ha,ρ,hs,hr,q⟩:=z9;refine⟨Ha,ρ,hs,hr,?_⟩;unfold pj at q;cases e1:f ρ with
 |stuck|exn x=>rw[e1]at q;exact q
 |ok d=>
  rw[e1]at q;intro v H1 H01 g1 r1;cases d with
  |int j=>
   replace q:match (if -4611686018427387904<=j/\j<4611686018427387904 then aj.ok (intsFrom 0 j.toNat) else .stuck) with
    |.ok ds=>∀J H' Ha',bq H Ha H' Ha'->NB X.K ds J Ha'->R J H'
    |.exn x=>∀C ox H' Ha',bq H Ha H' Ha'->wY X.K Ha' x C ox->E C ox H'
    |.stuck=>False:=q
   by_cases hj:-4611686018427387904<=j/\j<4611686018427387904
   .rw[if_pos hj]at q
    rw[az.mp r1];exact⟨j,rfl,hj.1,hj.2,q _ H1 H01 g1 A2⟩
   .rw[if_neg hj]at q;exact q.elim
  |_=>exact q.elim
end
def lX(src:Ev->aj (ac))(tg:Ev->D->aj Ev)(s:bd):bd:=λρ=>(src ρ).bind λds=>ef tg s ds ρ
section
variable {X:Cx}{E:XK}{He η:Hp}{st:QQ}{s:bd}{pos:Pos}
def wN{K:Pl}{Hb Ha:Hp}{tg:Ev->D->aj Ev}{ds:ac}{D':gI}{i:Nat}{σ:L2.St}{H:Hp}{d:D}{v:V}{ρ:Ev}(z:aF Hb Ha)(h:fT K He η Ha σ H ρ)(q:cu K E He η Ha (ef tg s (ds.drop i) ρ) D')(hd:ds[i]?=some d)(rv:Rep K Ha d v)
  (he:∀ρ,tg ρ d=.stuck∨∃ρ',tg ρ d=.ok ρ') :
  tG K He η tg v σ H λσ2 H2=>tS K E He η s { D' with nx:=jb K E He η Hb tg s ds D' (i+1),ct:=jb K E He η Hb tg s ds D' (i+1),bk:=D'.nx } σ2 H2:=by
 have hi:i<ds.length:=(PJ.mp hd).1;have hdr:ds.drop i=d::ds.drop (i+1):=by
  rw[QD hi];rw[Pu hi]at hd;cases hd;rfl
 rw[hdr]at q;refine⟨Ha,ρ,d,h,rv,?_⟩;unfold ef at q;rcases he ρ with e1|⟨ρ1,e1⟩
 .rw[e1]at q;exact q.elim
 .rw[e1]at q ⊢
  intro σ' H' Ha' z' h';refine⟨Ha',ρ1,h',?_⟩;replace q:=cu.grow (r:=(s ρ1).bind λx=>match x with
   |.nx ρ2=>ef tg s (ds.drop (i+1)) ρ2
   |.ct ρ2=>ef tg s (ds.drop (i+1)) ρ2
   |.bk ρ2=>.ok (.nx ρ2)
   |.rt d=>.ok (.rt d)) q z'
  cases e2:s ρ1 with
  |stuck|exn x=>rw[e2]at q;exact q
  |ok r=>
   rw[e2]at q;cases r with|nx ρ2=>exact λσ3 H3 H03 z3 h3=>⟨H03,ρ2,(z.trans z').trans z3,h3,cu.grow (r:=ef tg s (ds.drop (i+1)) ρ2) q z3⟩|ct ρ2=>exact λσ3 H3 H03 z3 h3=>⟨H03,ρ2,(z.trans z').trans z3,h3,cu.grow (r:=ef tg s (ds.drop (i+1)) ρ2) q z3⟩|bk ρ2|rt d=>exact q
def zI{tgt iter:Qe}{body:List QQ}{tg:Ev->D->aj Ev}{src:Ev->aj (ac)}(hp:PassesOwn (PN X.prog X.w) X.A X.env X.xe)(hc:X.calm=true)(hi:DI X E tgt iter src)(hg:DG X E He η tgt tg)(ht:wK tg)(hb:yB X E He η body s)
  (hs:∀x,foldedSetIterable iter X.env x=pure x:=by intro _;rfl):DS X E He η (.For tgt iter body [] pos) (lX src tg s):=by
 refine⟨cE (xA hp hc hi.o hg.o hb.o hs) λD' σ H z9=>?_⟩;obtain⟨Ha,ρ,h,q⟩:=z9;refine⟨Ha,ρ,h.g.sub,h.rd,?_⟩;unfold lX at q;cases e1:src ρ with
 |stuck=>rw[e1]at q;exact q|exn x=>rw[e1]at q;exact λC ox H' Ha' g r=>q C ox H' Ha' (h.g.trans g) r
 |ok ds=>
  rw[e1]at q;intro J H1 H01 g it;have q1:cu X.K E He η H01 (ef tg s ds ρ) D':=cu.grow (r:=ef tg s ds ρ) q g.z;refine⟨λi m σ' H'=>m+i=ds.length/\jb X.K E He η H01 tg s ds D' i σ' H',⟨ds.length,rfl,H01,ρ,aF.refl _,h.grow g,q1⟩,?_⟩;rintro i m σ' H' ⟨hm,Ha',ρ',z,h',hq⟩
  by_cases hlt:i<ds.length
  .refine .inr ⟨it.go i H' Ha' z h'.g.sub hlt,λσ2 H2=>jb X.K E He η H01 tg s ds D' (i+1) σ2 H2,λσ2 H2 hl=>⟨m-1,by omega,by omega,hl⟩,λx H2 hy=>?_⟩
   obtain⟨H₀2,g2,rp⟩:=it.yld i H' Ha' x H2 ds[i] z h'.g.sub (Pu hlt) hy;exact wN (z.trans g2.z) (h'.grow g2) (cu.grow (r:=ef tg s (ds.drop i) ρ') hq g2.z) (Pu hlt) rp λρ=>ht ρ _
  .have e:i=ds.length:=by omega
   refine .inl ⟨it.stop i H' Ha' z h'.g.sub (by omega),?_⟩;subst e;exact jb.done ⟨Ha',ρ',z,h',hq⟩
end
def rg(f:am):Prop:=∀ρ d,f ρ=.ok d->∃ds,d=.lst ds
def B2{K:Pl}{E:XK}{f:am}(hf:rg f){σ:L2.St}{H:Hp}{Q:VK}(h:tD K E f σ H Q):tF K E f σ H Q:=by
 obtain⟨Ha,ρ,hs,hr,q⟩:=h;refine⟨Ha,ρ,hs,hr,?_⟩;cases e1:f ρ with
 |stuck|exn x=>rw[e1]at q;exact q
 |ok d=>
  obtain⟨ds,rfl⟩:=hf ρ d e1;rw[e1]at q;intro p vs H' Ha' g hp h0 hv rp;have n0:Ha p=none:=hs.free hp;refine q (.ref p) H' (upd Ha' p (.lst vs)) ⟨g.s,λb o e=>?_,λb o e=>?_,λb k1 k2=>?_⟩ (aH.mpr ⟨p,vs,rfl,gJ.of ay,rp.mono λb o e=>?_⟩)
  .rw[ax (by intro z;subst z;rw[n0]at e;cases e)];exact g.z _ _ e
  .by_cases hb:b=p
   .subst hb;rw[ay]at e;cases e;exact hv
   .rw[ax hb]at e;exact g.sub _ _ e
  .by_cases hb:b=p
   .subst hb;exact hp
   .rw[ax hb]at k1;exact g.nw b k1 k2
  .rw[ax (by intro z;subst z;rw[h0]at e;cases e)];exact e
def D9{X:Cx}{E:XK}{e:Qe}{f:am}(hf:rg f)(h:DF X E e f):DE X E e f:=⟨bh h.o λσ H Q q=>B2 hf q⟩
def dq(n:Nat)(fr:ci)(ρ:Ev):Ev:=PH n .no++fr.map λ(i:Nat)=>match ρ[i]? with
 |some (.sh d)=>.sh d
 |_=>.no
noncomputable def bX(b:Ev) (tg:Ev->D->aj Ev) (tt fe:am):ac->aj (ac)
 |[]=>.ok []
 |d::r=>(tg b d).bind λρ1=>(tt ρ1).bind λt=>match t with
  |.bl true=>(fe ρ1).bind λx=>(bX b tg tt fe r).bind λxs=>.ok (x::xs)
  |.bl false=>bX b tg tt fe r
  |_=>.stuck
def eW(n:Nat)(fr:ci)(src:Ev->aj (ac))(tg:Ev->D->aj Ev)(tt fe:am):am:=λρ=>(src ρ).bind λds=>
 if ds.length<=line then match bX (dq n fr ρ) tg tt fe ds with
  |.ok es=>.ok (.lst es)
  |_=>.stuck
 else .stuck
def Bh{n:Nat}{fr:ci}{src:Ev->aj (ac)}{tg:Ev->D->aj Ev}{tt fe:am}:rg (eW n fr src tg tt fe):=λρ d h=>by
 unfold eW at h;cases e1:src ρ with
 |stuck|exn x=>rw[e1]at h;cases h
 |ok ds=>
  rw[e1]at h;replace h:(if ds.length<=line then match bX (dq n fr ρ) tg tt fe ds with
   |.ok es=>aj.ok (D.lst es)
   |_=>.stuck else .stuck)=.ok d:=h
  split at h
  .split at h
   .cases h;exact⟨_,rfl⟩
   .cases h
  .cases h
def jB{b:Ev}{tg:Ev->D->aj Ev}{tt fe:am}{d:D}{r es:ac}(h:bX b tg tt fe (d::r)=.ok es) :
  ∃ρ1 t,tg b d=.ok ρ1/\tt ρ1=.ok (.bl t)/\((t=true/\∃x xs,fe ρ1=.ok x/\bX b tg tt fe r=.ok xs/\es=x::xs)∨(t=false/\bX b tg tt fe r=.ok es)):=by
 unfold bX at h;cases e1:tg b d with
 |stuck|exn z=>rw[e1]at h;cases h
 |ok ρ1=>
  rw[e1]at h;replace h:((tt ρ1).bind λt=>match t with
   |.bl true=>(fe ρ1).bind λx=>(bX b tg tt fe r).bind λxs=>aj.ok (x::xs)
   |.bl false=>bX b tg tt fe r
   |_=>.stuck)=.ok es:=h
  cases e2:tt ρ1 with
  |stuck|exn z=>rw[e2]at h;cases h
  |ok t=>
   rw[e2]at h;cases t with
   |bl t=>
    cases t with
    |true=>
     replace h:((fe ρ1).bind λx=>(bX b tg tt fe r).bind λxs=>aj.ok (x::xs))=.ok es:=h;cases e3:fe ρ1 with
     |stuck|exn z=>rw[e3]at h;cases h
     |ok x=>
      rw[e3]at h;replace h:((bX b tg tt fe r).bind λxs=>aj.ok (x::xs))=.ok es:=h;cases e4:bX b tg tt fe r with|stuck|exn z=>rw[e4]at h;cases h|ok xs=>rw[e4]at h;cases h;exact⟨ρ1,true,rfl,e2,.inl ⟨rfl,x,xs,e3,rfl,rfl⟩⟩
    |false=>exact⟨ρ1,false,rfl,e2,.inr ⟨rfl,h⟩⟩
   |_=>cases h
def gR{b:Ev}{tg:Ev->D->aj Ev}{tt fe:am}{d x:D}{r:ac}{ρ1:Ev}(h1:tg b d=.ok ρ1)(h2:tt ρ1=.ok (.bl true))(h3:fe ρ1=.ok x):bX b tg tt fe (d::r)=(bX b tg tt fe r).bind λxs=>.ok (x::xs):=by
 rw[bX,h1];simp only[aj.bind,h2,h3]
def qI{b:Ev}{tg:Ev->D->aj Ev}{tt fe:am}{d:D}{r:ac}{ρ1:Ev}(h1:tg b d=.ok ρ1)(h2:tt ρ1=.ok (.bl false)):bX b tg tt fe (d::r)=bX b tg tt fe r:=by
 rw[bX,h1];simp only[aj.bind,h2]
theorem nA{b:Ev}{tg:Ev->D->aj Ev}{tt fe:am}:∀{r q es:ac},bX b tg tt fe (r++q)=.ok es->∃e1 e2,bX b tg tt fe r=.ok e1/\bX b tg tt fe q=.ok e2/\es=e1++e2
 |[],q,es,h=>⟨[],es,rfl,h,rfl⟩
 |d::r,q,es,h=>by
  obtain⟨ρ1,t,h1,h2,h3⟩:=jB h;rcases h3 with⟨rfl,x,xs,h3,h4,rfl⟩|⟨rfl,h4⟩
  .obtain⟨e1,e2,k1,k2,rfl⟩:=nA h4
   refine⟨x::e1,e2,?_,k2,rfl⟩;rw[gR h1 h2 h3,k1];rfl
  .obtain⟨e1,e2,k1,k2,rfl⟩:=nA h4
   refine⟨e1,e2,?_,k2,rfl⟩;rw[qI h1 h2];exact k1
theorem jA{b:Ev}{tg:Ev->D->aj Ev}{tt fe:am}:∀{r q e1 e2:ac},bX b tg tt fe r=.ok e1->bX b tg tt fe q=.ok e2->bX b tg tt fe (r++q)=.ok (e1++e2)
 |[],q,e1,e2,h,h'=>by cases h;exact h'
 |d::r,q,e1,e2,h,h'=>by
  obtain⟨ρ1,t,h1,h2,h3⟩:=jB h;show bX b tg tt fe (d::(r++q))=_;rcases h3 with⟨rfl,x,xs,h3,h4,rfl⟩|⟨rfl,h4⟩
  .rw[gR h1 h2 h3,jA h4 h'];rfl
  .rw[qI h1 h2];exact jA h4 h'
theorem qJ{b:Ev}{tg:Ev->D->aj Ev}{tt fe:am}:∀{r es:ac},bX b tg tt fe r=.ok es->es.length<=r.length
 |[],es,h=>by cases h;exact P9 _
 |d::r,es,h=>by
  obtain⟨ρ1,t,h1,h2,h3⟩:=jB h;rcases h3 with⟨rfl,x,xs,h3,h4,rfl⟩|⟨rfl,h4⟩
  .exact Nat.succ_le_succ (qJ h4)
  .exact Nat.le_succ_of_le (qJ h4)
def HP(n:Nat)(tg:Ev->D->aj Ev):Prop:=∀ρ d ρ',tg ρ d=.ok ρ'->ρ'.length=ρ.length/\∀(k:Nat),n<=k->ρ'[k]?=ρ[k]?
def gp{i n:Nat}(h:i<n):HP n (eC i):=λρ d ρ' e=>by
 cases e;exact⟨by simp,λk hk=>by rw[PD (by omega)]⟩
def yt{K:Pl}{Ha:Hp}{σ:L2.St}{ρ:Ev}{n:Nat}{fr:ci}(h:fU K Ha σ ρ):fU K Ha (mI n fr σ) (dq n fr ρ):=λi d e=>by
 unfold dq at e;unfold mI
 by_cases hi:i<n
 .rw[PY (by simpa using hi),Qk,if_pos hi]at e
  cases e
 .rw[Qa (by simpa using hi),QV,P7]at e ⊢
  cases hf:fr[i-n]? with
  |none=>rw[hf]at e;cases e
  |some j=>
   rw[hf]at e;simp only[R8,RP]at e ⊢;cases hj:ρ[j]? with
   |none=>rw[hj]at e;cases e
   |some s=>
    rw[hj]at e;cases s with
    |sh d'=>
     cases e;obtain⟨v,h1,h2⟩:=h j d hj;exact⟨v,by rw[h1];rfl,h2⟩
    |_=>cases e
def HI{n:Nat}{fr:ci}{ρ:Ev}{k:Nat}(h:k<n):(dq n fr ρ)[k]?=some .no:=by
 unfold dq;rw[PY (by simpa using h),Qk,if_pos h]
def Ej{n:Nat}{fr:ci}{ρ:Ev}(i j:Nat)(es:ac):(dq n fr ρ)[i]?≠some (.ox j es):=λe=>by
 unfold dq at e
 by_cases hj:i<n
 .rw[PY (by simpa using hj),Qk,if_pos hj]at e;cases e
 .rw[Qa (by simpa using hj),P7]at e
  cases hf:fr[i-(PH n Sl.no).length]? with
  |none=>rw[hf]at e;cases e
  |some z=>
   rw[hf]at e;simp only[R8,RP]at e;split at e<;>cases e
def Bm{n:Nat}{fr:ci}{ρ:Ev}{σ:L2.St}(i:Nat)(a:Pg)(e:(dq n fr ρ)[i]?=some (.pt a)):σ[i]?=some (some (.ref a)):=by
 unfold dq at e
 by_cases hj:i<n
 .rw[PY (by simpa using hj),Qk,if_pos hj]at e;cases e
 .rw[Qa (by simpa using hj),P7]at e
  cases hf:fr[i-(PH n Sl.no).length]? with
  |none=>rw[hf]at e;cases e
  |some z=>
   rw[hf]at e;simp only[R8,RP]at e;split at e<;>cases e
def wH{n:Nat}{fr:ci}{ρ:Ev}:(dq n fr ρ).length=n+fr.length:=by unfold dq;simp
def yo{K:Pl}{E:XK}{n:Nat}{fr:ci}{tg:Ev->D->aj Ev}{tt fe:am}{σ:L2.St}{ρ:Ev}{H Ha H1 H01:Hp}{ds es:ac}{J:It}{Q:VK}(hsame:aF Ha H)(g1:bq H Ha H1 H01)(it:NB K ds J H01)(hl:ds.length<=line)
  (e2:bX (dq n fr ρ) tg tt fe ds=.ok es)(hr:fU K H01 σ ρ)(hok:HP n tg)
  (q:∀p vs H' Ha',bq H Ha H' Ha'->H p=none->Ha' p=none->H' p=some (.lst vs)->Reps K Ha' es vs->Q (.ref p) H') :
  xh n fr (Ki K tg) (Ll K E tt) (tD K E fe) J σ H1 Q:=by
 intro Da hDa;have h0D:H01 Da=none:=g1.sub.free hDa;refine⟨λi m ys σ' H'=>m=ds.length-i/\i<=ds.length/\σ'.length=n+fr.length/\∃Ha',bq H1 H01 H' Ha'/\Ha' Da=none/\H' Da=some (.lst ys)/\fU K Ha' σ' (dq n fr ρ)/\∃es1,bX (dq n fr ρ) tg tt fe (ds.take i)=.ok es1/\Reps K Ha' es1 ys,
  ⟨ds.length,by simp,S8 _,by unfold mI;simp,H01,?_,h0D,ay,yt hr,[],rfl,Reps.nil⟩,?_⟩
 .refine⟨λb o e=>by rw[ax (bj e hDa)];exact e,aF.refl _,λb o e=>?_,λb k1 k2=>absurd k2 k1⟩
  rw[ax (by intro z;subst z;rw[h0D]at e;cases e)];exact g1.sub _ _ e
 .rintro i m ys σ' H' ⟨rfl,hile,hsl,Ha',gg,hD0,hDl,hrd,es1,hes1,hys⟩
  refine⟨hDl,?_⟩
  by_cases hlt:i<ds.length
  .refine .inr ⟨it.go i H' Ha' gg.z gg.sub hlt,?_,?_⟩
   .rw[←hys.length]
    have:=qJ hes1;rw[Ro]at this;have h2:line<sizeLine:=by decide
    omega
   .intro x H2 hy
    obtain⟨H₀2,g2,rp⟩:=it.yld i H' Ha' x H2 ds[i] gg.z gg.sub (Pu hlt) hy;have hsplit:ds=ds.take i++(ds[i]::ds.drop (i+1)):=by rw[←QD hlt,List.take_append_drop]
    rw[hsplit]at e2;obtain⟨a1,a2,k1,k2,k3⟩:=nA e2;rw[hes1]at k1;cases k1;obtain⟨ρ1,t,t1,t2,t3⟩:=jB k2;have hn2:H₀2 Da=none:=by
     cases qq:H₀2 Da with|none=>rfl|some o=>have:=g2.nw Da (by rw[qq];simp) hD0;rw[hDl]at this;cases this
    have hD2:H2 Da=some (.lst ys):=g2.s _ _ hDl;refine⟨H2,H₀2,H₀2,dq n fr ρ,ds[i],⟨bq.refl g2.sub,hrd.mono g2.z,λj d' e=>?_,λj k d1 d2 _ e=>?_,by rw[wH,hsl],OX.none Ej Bm⟩,rp,?_⟩
    .unfold dq at e
     by_cases hj:j<n
     .rw[PY (by simpa using hj),Qk,if_pos hj]at e;cases e
     .rw[Qa (by simpa using hj),P7]at e
      cases hf:fr[j-(PH n Sl.no).length]? with
      |none=>rw[hf]at e;cases e
      |some z=>
       rw[hf]at e;simp only[R8,RP]at e;split at e<;>cases e
    .unfold dq at e
     by_cases hj:j<n
     .rw[PY (by simpa using hj),Qk,if_pos hj]at e;cases e
     .rw[Qa (by simpa using hj),P7]at e
      cases hf:fr[j-(PH n Sl.no).length]? with
      |none=>rw[hf]at e;cases e
      |some z=>
       rw[hf]at e;simp only[R8,RP]at e;split at e<;>cases e
    .rw[t1]
     intro σ3 H3 H03 z3 s3;have hrl:=hok _ _ _ t1;have hσ3:σ3.length=n+fr.length:=by rw[←s3.ln,hrl.1,wH]
     have back:∀{Hx:Hp},aF H03 Hx->fU K Hx σ3 (dq n fr ρ):=λ{Hx} sx k d e=>by
      by_cases hk:k<n
      .rw[HI hk]at e;cases e
      .rw[←hrl.2 k (by omega)]at e
       obtain⟨v,h1,h2⟩:=s3.rd k d e;exact⟨v,h1,h2.mono sx⟩
     have n3:H03 Da=none:=by
      cases qq:H03 Da with|none=>rfl|some o=>have:=s3.g.nw Da (by rw[qq];simp) hn2;rw[hD2]at this;cases this
     have hD3:H3 Da=some (.lst ys):=s3.g.s _ _ hD2;refine⟨H03,ρ1,s3.g.sub,s3.rd,?_⟩;rw[t2];intro H4 H04 g4;have hD4:H4 Da=some (.lst ys):=g4.s _ _ hD3;have n4:H04 Da=none:=by
      cases qq:H04 Da with|none=>rfl|some o=>have:=g4.nw Da (by rw[qq];simp) n3;rw[hD3]at this;cases this
     have htake:ds.take (i+1)=ds.take i++[ds[i]]:=by rw[List.take_add_one,Pu hlt];rfl
     have g04:=(gg.trans g2).trans (s3.g.trans g4);rcases t3 with⟨rfl,y,xs,t3,t4,_⟩|⟨rfl,t4⟩
     .rw[if_pos rfl]
      refine⟨H04,ρ1,g4.sub,s3.rd.mono g4.z,?_⟩;rw[t3];intro yv H5 H05 g5 ry;have hD5:H5 Da=some (.lst ys):=g5.s _ _ hD4;have n5:H05 Da=none:=by
       cases qq:H05 Da with|none=>rfl|some o=>have:=g5.nw Da (by rw[qq];simp) n4;rw[hD4]at this;cases this
      have gall:=g04.trans g5;refine⟨hD5,ds.length-(i+1),by omega,rfl,hlt,hσ3,H05,⟨λb o e=>?_,gall.z,λb o e=>?_,gall.nw⟩,n5,ay,back (g4.z.trans g5.z),es1++[y],?_,?_⟩
      .rw[ax (bj e hDa)];exact gall.s _ _ e
      .rw[ax (by intro z;subst z;rw[n5]at e;cases e)];exact gall.sub _ _ e
      .rw[htake]
       refine jA hes1 ?_;rw[gR t1 t2 t3];rfl
      .exact(hys.mono ((g2.z.trans s3.g.z).trans (g4.z.trans g5.z))).app (Reps.cons ry Reps.nil)
     .rw[if_neg QR]
      refine⟨ds.length-(i+1),by omega,rfl,hlt,hσ3,H04,g04,n4,hD4,back g4.z,es1,?_,hys.mono ((g2.z.trans s3.g.z).trans g4.z)⟩;rw[htake];rw[show es1=es1++[] by simp];refine jA hes1 ?_;rw[qI t1 t2];rfl
  .have hi2:i=ds.length:=by omega
   refine .inl ⟨it.stop i H' Ha' gg.z gg.sub (by omega),?_⟩;rw[hi2,List.take_length]at hes1;rw[e2]at hes1;cases hes1;exact q Da ys H' Ha' (g1.trans gg) (g1.s.free hDa) hD0 hDl hys
structure NC (X:Cx) (E:XK) (ifs:List Qe) (f:am):Prop where
 o:Nj X ifs (Ll X.K E f)
def mYes:am:=λ_=>.ok (.bl true)
def kT{X:Cx}{E:XK}:NC X E [] mYes:=⟨λπ s σ H Q I ⟨Ha,ρ,hs,hr,q⟩=>FK π s σ H Q I (q H Ha (bq.refl hs))⟩
def zK{X:Cx}{E:XK}{c:Qe}{f:am}(h:DT X E c f):NC X E [c] f:=⟨FJ h.o⟩
structure Nr (X:Cx) (E:XK) (e:Qe) (f:am):Prop where
 ev:PE X e (tF X.K E f)
 st:∀{i:Nat}{x:Pj}{pos' spos:Pos},X.N.Nodup->X.N[i]?=some x->X.env.scope.names.lookup x=some .local -> QK e (some (.Name x pos')) spos.line X.env=pure true->PS X (.Assign [.Name x pos'] e spos) (Jr (tF X.K E f) (Ds i))
def O6{X:Cx}{E:XK}{tgt iter elt:Qe}{ifs:List Qe}{scope:Sk}{pos:Pos}(N:bv)(n:Nat)(fr:ci){src:Ev->aj (ac)}{tg:Ev->D->aj Ev}{tt fe:am}(hc:X.calm=true)(hi:DI X E tgt iter src)(hok:HP n tg)
  (blk:∀s H C fp pn,(∀He η,DG (fx X N scope s H C fp pn) E He η tgt tg)/\NC (fx X N scope s H C fp pn) E ifs tt/\DE (fx X N scope s H C fp pn) E elt fe)
  (hfr:EA X N n fr scope)(hcell:∀x∈scope.names,x.2≠.cell)(hfree:∀x∈scope.names,x.2=.free->X.env.scope.names.lookup x.1=some .cell)(hkind:scope.kind=.function)(hnames:∀x∈scope.names,x.2=.local -> scope.names.lookup x.1=some .local)
  (hs:∀x,foldedSetIterable iter X.env x=pure x:=by intro _;rfl):Nr X E (.ListComp elt [⟨tgt,iter,ifs,0⟩] scope pos) (eW n fr src tg tt fe):=by
 have blk':∀s H C fp pn,PG (fx X N scope s H C fp pn) tgt (Ki X.K tg)/\Nj (fx X N scope s H C fp pn) ifs (Ll X.K E tt)/\PE (fx X N scope s H C fp pn) elt (tD X.K E fe):=λs H C fp pn=>
  ⟨λπ s' σ' H' v u Q' I r ⟨He,η,q'⟩=>((blk s H C fp pn).1 He η).o π s' σ' H' v u Q' I r q',(blk s H C fp pn).2.1.o,(blk s H C fp pn).2.2.o⟩
 have first:∀{π:List (Pg×Obj)}{s:Pm}{σ:L2.St}{H:Hp}{Q:VK}{RR:Pd->Pg->Tf->Pm->Prop},L2.Inv X π σ H s->tF X.K E (eW n fr src tg tt fe) σ H Q ->
   (∀(Da C:Pg) (s6:Pm) (H5:Hp) (m:Pj->Option Pd),L2.Inv X π σ H5 s6->s6.heap.Ns C m->nE X π H5 C->Q (.ref Da) H5->RR (.ref Da) C (.ok .next) s6) ->
   PZ (PN X.prog X.w) X.A (eval iter X.env) (λx sg=>PZ (PN X.prog X.w) X.A (pyIter x) (λit si=>PZ (PN X.prog X.w) X.A (newList []) (λacc sj=>
    PZ (PN X.prog X.w) X.A (newFunctionEnv scope X.env.globals (iM X.env.cells scope.names []) [] X.env.qual none .none (some X.env)) (λcenv sk=>
     RO (PN X.prog X.w) X.A (.compStart (.ListComp elt [⟨tgt,iter,ifs,0⟩] scope pos) 0 it acc { cenv with scope:=relabel scope X.env }) (RR acc cenv.locals) sk) X.xe sj) X.xe si) X.xe sg) X.xe s:=by
  intro π s σ H Q RR I ⟨Ha,ρ,hsame,hr,q⟩ fin;refine dw (hi.o π s σ H (λJ H1=>xh n fr (Ki X.K tg) (Ll X.K E tt) (tD X.K E fe) J σ H1 Q) I ⟨Ha,ρ,hsame,hr,?_⟩) λv s1 h1=>dw h1 λitv s2 h2=>Bi (N:=N) hc hfr hcell hfree hkind blk' h2 fin;unfold eW at q;cases e1:src ρ with
  |stuck|exn x=>rw[e1]at q;exact q
  |ok ds=>
   rw[e1]at q;intro J H1 H01 g1 it;replace q:match (if ds.length<=line then match bX (dq n fr ρ) tg tt fe ds with
     |.ok es=>aj.ok (D.lst es)
     |_=>.stuck else .stuck) with
    |.ok (.lst ds)=>∀p vs H' Ha',bq H Ha H' Ha'->H p=none->Ha' p=none->H' p=some (.lst vs)->Reps X.K Ha' ds vs->Q (.ref p) H'
    |.ok _=>False
    |.exn x=>∀C ox H' Ha',bq H Ha H' Ha'->wY X.K Ha' x C ox->E C ox H'
    |.stuck=>False:=q
   by_cases hl:ds.length<=line
   .rw[if_pos hl]at q
    cases e2:bX (dq n fr ρ) tg tt fe ds with
    |stuck|exn x=>rw[e2]at q;exact q.elim
    |ok es=>
     rw[e2]at q;exact yo hsame g1 it hl e2 (hr.mono g1.z) hok q
   .rw[if_neg hl]at q;exact q.elim
 have hcl:∀{π:List (Pg×Obj)}{s:Pm}{σ:L2.St}{H:Hp},L2.Inv X π σ H s->closureFor scope X.env=pure (iM X.env.cells scope.names []):=λ{π s σ H} I=>rO λy hy hf=>I.ok.has y.1 (.inl (hfree y hy hf));refine⟨λπ s σ H Q I h=>?_,λ{i x pos' spos} hN hi' hx hsw π s σ H D' I h=>?_⟩
 .rw[eval_ListComp]
  refine wpAny_comprehension_free (use:=none) rfl hs (hcl I) hkind hnames (first (RR:=λacc C=>compPost (PN X.prog X.w) X.A X.xe none (EP X π σ Q) acc C) I h λDa C s6 H5 m I6 ns fC q=>?_);refine⟨m,ns,λh' sb=>⟨.ref Da,H5,?_,rfl,q⟩⟩;exact I6.turned (t':=s6.toks) (it:=C) (λb o hb e=>(sb.2 b hb).trans e) fC.1 fC.2.1 fC.2.2.2.1 fC.2.2.2.2.1 fC.2.2.2.2.2
 .rw[exec_Assign_Name_used _ _ _ _ hsw]
  refine Pp (wpAny_standAt (Pp ?_));show PZ _ X.A (do let _ ←comprehension (.ListComp elt [⟨tgt,iter,ifs,0⟩] scope pos) scope X.env _ (newList []) false (eval iter X.env) (some (assign (.Name x pos') X.env))) _ _ s;refine Pp (QC (wpAny_comprehension_free (use:=some (assign (.Name x pos') X.env)) (Q:=λ_ s'=>SP X π D' .next s') rfl hs (hcl I) hkind hnames
   (first (RR:=λacc C=>compPost (PN X.prog X.w) X.A X.xe (some (assign (.Name x pos') X.env)) (λ_ s'=>SP X π D' .next s') acc C) I h λDa C s6 H5 m I6 ns fC q=>?_)) (λ_ s' hq=>PX (PX hq)) λ_ _ e=>e)
  show PZ _ X.A (assign (.Name x pos') X.env (.ref Da)) _ _ _;refine wpAny_assign_Name (rY (v:=.ref Da) I6 hN hi' (.inl hx) rfl (λs' I' z9=>?_) (.inr hx));obtain⟨a,sb,ha⟩:=z9;have hCa:C≠a:=by
   rcases ha with rfl|ha
   .exact fC.2.1
   .exact λz=>fC.2.2.2.2.1 x a ha z.symm
  refine⟨m,ns.sameBut sb hCa,λh' sb'=>⟨_,H5,?_,q⟩⟩;exact I'.turned (t':=s'.toks) (it:=C) (λb o hb e=>(sb'.2 b hb).trans e) fC.1 fC.2.1 fC.2.2.2.1 fC.2.2.2.2.1 fC.2.2.2.2.2
def IH{X:Cx}{E:XK}{e:Qe}{f:am}(h:Nr X E e f):DF X E e f:=⟨h.ev⟩
def sY{X:Cx}{E:XK}{e:Qe}{n:Nat}{fr:ci}{src:Ev->aj (ac)}{tg:Ev->D->aj Ev}{tt fe:am}(h:Nr X E e (eW n fr src tg tt fe)):DE X E e (eW n fr src tg tt fe):=D9 Bh (IH h)
section
variable {X:Cx}{E:XK}{He η:Hp}{e:Qe}{f:am}{s:bd}{pos:Pos}{st:QQ}
def Hv{i:Nat}{x:Pj}{pos':Pos}(hN:X.N.Nodup)(hi:X.N[i]?=some x)(hx:X.env.scope.names.lookup x=some .local)(he:Nr X E e f)(hs:QK e (some (.Name x pos')) pos.line X.env=pure true:=by rfl):DS X E He η (.Assign [.Name x pos'] e pos) (t9 i f):=by
 refine⟨cE (he.st hN hi hx hs) λD σ H z9=>?_⟩;obtain⟨Ha,ρ,h,q⟩:=z9;refine⟨Ha,ρ,h.g.sub,h.rd,?_⟩;unfold t9 at q;cases e1:f ρ with
 |stuck=>rw[e1]at q;exact q|exn x=>rw[e1]at q;exact λC ox H' Ha' g ex=>q C ox H' Ha' (h.g.trans g) ex
 |ok d=>
  rw[e1]at q;cases d with
  |lst ds=>
   intro p vs H' Ha' g hp h0 hv rp;refine q _ H' Ha' g.z ((h.grow g).putOwn (λj a ej ea d ed=>?_) (h.g.s.free hp) h0 hv rp (h.fresh_x g.s hp));subst ea;obtain⟨a',k1,_,_,k4⟩:=h.ow j d ed;rw[ej]at k1;cases k1;cases d with
   |lst ds'|dic ks ds'=>obtain⟨vs',h5,_⟩:=k4;rw[hp]at h5;cases h5
   |ob kk ds'=>
    cases kk with|dint ks=>obtain⟨vs',h5,_⟩:=k4;rw[hp]at h5;cases h5| _=>exact k4.elim
   |_=>exact k4.elim
  |_=>exact q.elim
end
def wz{X:Cx}{E:XK}{tgt iter elt:Qe}{ifs:List Qe}{scope:Sk}{pos:Pos}(N:bv)(n:Nat)(fr:ci){src:Ev->aj (ac)}{tg:Ev->D->aj Ev}{tt fe:am}(hc:X.calm=true)(hi:DI X E tgt iter src)(hok:HP n tg)
  (blk:∀s H C fp pn,(∀He η,DG (fx X N scope s H C fp pn) E He η tgt tg)/\NC (fx X N scope s H C fp pn) E ifs tt/\DE (fx X N scope s H C fp pn) E elt fe)
  (hfr:EA X N n fr scope)(hcell:(scope.names.all λx=>!(x.2==.cell))=true)(hfree:(scope.names.all λx=>!(x.2==.free)||(X.env.scope.names.lookup x.1==some .cell))=true)(hkind:scope.kind=.function)
  (hnames:(scope.names.all λx=>!(x.2==.local)||(scope.names.lookup x.1==some .local))=true)
  (hs:∀x,foldedSetIterable iter X.env x=pure x:=by intro _;rfl):Nr X E (.ListComp elt [⟨tgt,iter,ifs,0⟩] scope pos) (eW n fr src tg tt fe):=by
 refine O6 N n fr hc hi hok blk hfr (λx hx z=>?_) (λx hx z=>?_) hkind (λx hx z=>?_) hs
 .have:=Qf.mp hcell x hx
  rw[z]at this;simp at this
 .have:=Qf.mp hfree x hx
  rw[z]at this;simpa using this
 .have:=Qf.mp hnames x hx
  rw[z]at this;simpa using this
end DL
namespace Com
open PySem L2 DL
noncomputable def jF:bd :=
 (aw (bb 2 (ak (ag (ae 0) (ag (aa (aW (dC (.int 1)) Na) (ae 0) uS) av)) (m2 Nb)))
 (aw (bb 3 (ae 2))
 (aw (t9 4 (ak av cY))
 (aw (pE (ak (ag (ae 1) av) (m1 bz)) (eC 5)
 (aw (dP (dm (aa (ae 2) (aa (dC (.int 10)) (dC (.int 18)) uT) HC) (aa (ae 3) (dC (.int 0)) wV))
 (aw (eX 4 (aa (ae 3) (aa (ae 1) (ae 5) aG) cZ))
 (aw (bb 3 (aa (ae 3) (aa (ae 1) (ae 5) aG) nv))
 au))
 (aw (bb 6 (aa (aa (aa (aa (aa (aa (ae 2) (dC (.int 2147483647)) cZ) (aa (aa (dC (.int 1009)) (ae 5) eB) (ae 5) eB) bf) (aa (dC (.int 31)) (ae 5) eB) bf) (dC (.int 7)) bf) (dC (.int 48271)) eB) (dC (.int 2147483629)) cZ))
 (aw (bb 6 (aa (aa (aa (aa (aa (ae 6) (ae 6) eB) (dC (.int 2147483647)) cZ) (ae 5) bf) (dC (.int 39373)) eB) (dC (.int 2147483587)) cZ))
 (aw (eX 4 (aa (aa (ae 6) (dC (.int 8)) nv) (aa (ae 1) (ae 5) aG) cZ))
 au))))
 au))
 (aw (bG (ae 4))
 au)))))
def bT:ac->aj D:=cD 7 jF
def fR:bd :=
 (aw (pD (oZ 1) (aa (ae 1) (dC (.int 0)) ir)
 (aw (xw 0 1 (ag (ae 1) (ag (aa (ae 0) (ae 1) cZ) av)))
 au))
 (aw (bG (ak (ag (ae 0) av) (m1 HE)))
 au))
def cc:ac->aj D:=cD 2 fR
def gk:bd :=
 (aw (bb 2 (ak (ag (ae 0) (ag (ae 1) av)) cc))
 (aw (bG (ak (ag (aa (ae 0) (ae 2) nv) (ag (aa (ae 1) (ae 2) nv) av)) j6))
 au))
def dr:ac->aj D:=cD 3 gk
def uW:bd :=
 (aw (bG (dm (aW (ae 0) (gA "int")) (cB (aW (ae 0) (gA "bool")))))
 au)
def fG:ac->aj D:=cD 1 uW
def yu:bd :=
 (aw (bG (dm (aW (ae 0) (gA "int")) (cB (aW (ae 0) (gA "bool")))))
 au)
def m_is_whole:ac->aj D:=cD 1 yu
noncomputable def eQ:bd :=
 (aw (bb 2 (ak (ag (ae 0) av) (m1 HE)))
 (aw (bb 3 (ak (ag (ae 1) av) (m1 HE)))
 (aw (pD (oZ 3) (aa (ae 3) (dC (.int 0)) ir)
 (aw (bb 4 (aa (ae 2) (ae 3) cZ))
 (aw (bb 2 (ae 3))
 (aw (bb 3 (ae 4))
 au))))
 (aw (bG (ae 2))
 au))))
def m_common_divisor:ac->aj D:=cD 5 eQ
def Ei{α β:Type}{a:α}{f:α->aj β}:(aj.ok a).bind f=f a:=rfl
def fZ{s t:bd}{ρ ρ':Ev}(h:s ρ=.ok (.nx ρ')):aw s t ρ=t ρ':=by unfold aw;rw[h];rfl
def t8{s t:bd}{ρ:Ev}{d:D}(h:s ρ=.ok (.rt d)):aw s t ρ=.ok (.rt d):=by unfold aw;rw[h];rfl
def jR{s:bd}{ρ ρ':Ev}(h:s ρ=.ok (.nx ρ')):aw s au ρ=.ok (.nx ρ'):=by unfold aw;rw[h];rfl
def pC{i:Nat}{f:am}{ρ:Ev}{d:D}(h:f ρ=.ok d):bb i f ρ=.ok (.nx (ρ.set i (.sh d))):=by unfold bb;rw[h];rfl
def ub{f:am}{ρ:Ev}{d:D}(h:f (kE ρ)=.ok d):bG f ρ=.ok (.rt d):=by unfold bG;rw[h];rfl
def Oc{c:am}{s t:bd}{ρ:Ev}(h:c (kE ρ)=.ok (.bl true)):dP c s t ρ=s ρ:=by unfold dP;rw[h];rfl
def Od{c:am}{s t:bd}{ρ:Ev}(h:c (kE ρ)=.ok (.bl false)):dP c s t ρ=t ρ:=by unfold dP;rw[h];rfl
def xK{i j:Int}:ir (.int i) (.int j)=.ok (.bl (!(i==j))):=by unfold ir;rw[if_pos ⟨rfl,rfl⟩,cC]
def KY{i j:Int}:cQ (.int i) (.int j)=.ok (.bl (i==j)):=by unfold cQ;rw[if_pos ⟨rfl,rfl⟩,cC]
def JC{n:Nat}{s:bd}{ds:ac}{d:D}(h:s (ds.map Sl.sh++PH (n-ds.length) .no)=.ok (.rt d)):cD n s ds=.ok d:=by unfold cD;rw[h];rfl
def mK{f:am}{fa:Ev->aj (ac)}{ρ:Ev}{x:D}{xs:ac}(h:f ρ=.ok x)(h':fa ρ=.ok xs):ag f fa ρ=.ok (x::xs):=by unfold ag;rw[h,Ei,h'];rfl
def bA{f g:am}{op:D->D->aj D}{ρ:Ev}{x y:D}(h:f ρ=.ok x)(h':g ρ=.ok y):aa f g op ρ=op x y:=by unfold aa;rw[h,Ei,h'];rfl
def wG{fa:Ev->aj (ac)}{m:ac->aj D}{ρ:Ev}{xs:ac}(h:fa ρ=.ok xs):ak fa m ρ=m xs:=by unfold ak;rw[h];rfl
def jh{a b:Int}(h:b≠0):cZ (.int a) (.int b)=.ok (.int (a.fmod b)):=by
 show(if decide (b≠0)=true then aj.ok (D.int (a.fmod b)) else .stuck)=_;rw[if_pos (decide_eq_true h)]
def nq{a b:Int}(h:ki a b=true):nv (.int a) (.int b)=.ok (.int (a.fdiv b)):=by
 show(if ki a b=true then aj.ok (D.int (a.fdiv b)) else .stuck)=_;rw[if_pos h]
def mY{a b:Int}(h:jK a b=true):eB (.int a) (.int b)=.ok (.int (a*b)):=by
 show(if jK a b=true then aj.ok (D.int (a*b)) else .stuck)=_;rw[if_pos h]
def wb(a b:Int):Qn b (a.fmod b)=Qn a b:=by
 rw[Int.fmod_def,Int.gcd_sub_mul_left_right,Int.gcd_comm]
def zv{a b:Int}(h:b≠0):(a.fmod b).natAbs<b.natAbs:=by
 rcases Int.lt_or_gt_of_ne h with hb|hb
 .have h1:=Tn (-a) (show 0 < -b by omega)
  have h2:=Sg (-a) (show 0 < -b by omega);rw[Int.neg_fmod_neg]at h1 h2;omega
 .have h1:=Tn a hb
  have h2:=Sg a hb;omega
theorem mB:∀(n:Nat) (a b:Int),b.natAbs<n->∃g:Int,g.natAbs=Qn a b /\
  fB (aa (ae 1) (dC (.int 0)) ir) (aw (xw 0 1 (ag (ae 1) (ag (aa (ae 0) (ae 1) cZ) av))) au) n [.sh (.int a),.sh (.int b)]=.ok (.nx [.sh (.int g),.sh (.int 0)])
 |0,a,b,h=>absurd h (Nat.not_lt_zero _)
 |n+1,a,b,h=>by
  unfold fB;have c:(aa (ae 1) (dC (.int 0)) ir) (kE [.sh (.int a),.sh (.int b)])=.ok (.bl (!(b==0))):=xK;rw[c]
  by_cases hb:b=0
  .subst hb
   exact⟨a,by simp,rfl⟩
  .have e:(!(b==0))=true:=by simp[hb]
   obtain⟨g,h1,h2⟩:=mB n b (a.fmod b) (by have:=zv (a:=a) hb;omega);refine⟨g,by rw[h1,wb],?_⟩;rw[←h2];rw[e];have st:(aw (xw 0 1 (ag (ae 1) (ag (aa (ae 0) (ae 1) cZ) av))) au) [.sh (.int a),.sh (.int b)]=.ok (.nx [.sh (.int b),.sh (.int (a.fmod b))]):=by
    refine jR ?_;unfold xw;have:(ag (ae 1) (ag (aa (ae 0) (ae 1) cZ) av)) [.sh (.int a),.sh (.int b)]=.ok [.int b,.int (a.fmod b)]:=by
     exact mK rfl (mK (jh hb) rfl)
    rw[this];rfl
   show(aj.bind _ _)=_;rw[st];rfl
def qw(a b:Int):cc [.int a,.int b]=.ok (.int (Qn a b)):=by
 obtain⟨g,h1,h2⟩:=mB (b.natAbs+1) a b (RB _);have w:pD (oZ 1) (aa (ae 1) (dC (.int 0)) ir) (aw (xw 0 1 (ag (ae 1) (ag (aa (ae 0) (ae 1) cZ) av))) au) [.sh (.int a),.sh (.int b)]=.ok (.nx [.sh (.int g),.sh (.int 0)]):=h2;have r:fR [.sh (.int a),.sh (.int b)]=.ok (.rt (.int (if g<0 then -g else g))):=by
  unfold fR;rw[fZ w];exact t8 (ub rfl)
 show(fR [.sh (.int a),.sh (.int b)]).bind _=_;rw[r];show aj.ok (D.int (if g<0 then -g else g))=_
 congr 2
 rw[←h1];split<;>omega
theorem nZ:∀(n:Nat) (x y:D) (a b:Int) (r:Sl),0<=a->0<=b->b.natAbs<n->∃r',
  fB (aa (ae 3) (dC (.int 0)) ir) (aw (bb 4 (aa (ae 2) (ae 3) cZ)) (aw (bb 2 (ae 3)) (aw (bb 3 (ae 4)) au))) n [.sh x,.sh y,.sh (.int a),.sh (.int b),r]=.ok (.nx [.sh x,.sh y,.sh (.int (Qn a b)),.sh (.int 0),r'])
 |0,_,_,a,b,_,_,_,h=>absurd h (Nat.not_lt_zero _)
 |n+1,x,y,a,b,r,ha,hb0,h=>by
  unfold fB;have c:∀r,(aa (ae 3) (dC (.int 0)) ir) (kE [.sh x,.sh y,.sh (.int a),.sh (.int b),r])=.ok (.bl (!(b==0))):=λr=>xK;rw[c]
  by_cases hb:b=0
  .subst hb
   refine⟨r,?_⟩;have e:((Qn a 0:Nat):Int)=a:=by simp;omega
   rw[e];rfl
  .have e:(!(b==0))=true:=by simp[hb]
   have hp:0<b:=by omega
   obtain⟨r',h2⟩:=nZ n x y b (a.fmod b) (.sh (.int (a.fmod b))) hb0 (Sg a hp) (by have:=zv (a:=a) hb;omega);refine⟨r',?_⟩;rw[wb]at h2;rw[←h2,e];have st:(aw (bb 4 (aa (ae 2) (ae 3) cZ)) (aw (bb 2 (ae 3)) (aw (bb 3 (ae 4)) au))) [.sh x,.sh y,.sh (.int a),.sh (.int b),r]=.ok (.nx [.sh x,.sh y,.sh (.int b),.sh (.int (a.fmod b)),.sh (.int (a.fmod b))]):=by
    have m:(aa (ae 2) (ae 3) cZ) [.sh x,.sh y,.sh (.int a),.sh (.int b),r]=.ok (.int (a.fmod b)):=by
     exact jh hb
    rw[fZ (pC m)];rfl
   show(aj.bind _ _)=_;rw[st];rfl
def tf(a b:Int):m_common_divisor [.int a,.int b]=.ok (.int (Qn a b)):=by
 have e:∀i:Int,(if i<0 then -i else i)=(i.natAbs:Int):=λi=>by split<;>omega
 obtain⟨r',h⟩:=nZ ((b.natAbs:Int).natAbs+1) (.int a) (.int b) a.natAbs b.natAbs .no (SG _) (SG _) (RB _);have hg:Qn (a.natAbs:Int) (b.natAbs:Int)=Qn a b:=by simp[Qn]
 rw[hg]at h;have r:eQ [.sh (.int a),.sh (.int b),.no,.no,.no]=.ok (.rt (.int (Qn a b))):=by
  unfold eQ;rw[fZ (ρ':=[.sh (.int a),.sh (.int b),.sh (.int (a.natAbs:Int)),.no,.no]) (by rw[←e a];rfl)];rw[fZ (ρ':=[.sh (.int a),.sh (.int b),.sh (.int (a.natAbs:Int)),.sh (.int (b.natAbs:Int)),.no]) (by rw[←e b];rfl)];have w:pD (oZ 3) (aa (ae 3) (dC (.int 0)) ir) (aw (bb 4 (aa (ae 2) (ae 3) cZ)) (aw (bb 2 (ae 3)) (aw (bb 3 (ae 4)) au))) [.sh (.int a),.sh (.int b),.sh (.int (a.natAbs:Int)),.sh (.int (b.natAbs:Int)),.no]=.ok (.nx [.sh (.int a),.sh (.int b),.sh (.int (Qn a b)),.sh (.int 0),r']):=h;rw[fZ w];exact t8 (ub rfl)
 show(eQ [.sh (.int a),.sh (.int b),.no,.no,.no]).bind _=_;rw[r];rfl
def Ld{f g:am}{ρ:Ev}{b c:Bool}(h:f ρ=.ok (.bl b))(h':g ρ=.ok (.bl c)):dm f g ρ=.ok (.bl (b&&c)):=by
 unfold dm;rw[h,Ei];cases b
 .rfl
 .exact h'
def xC:(2:Nat) ^ 64<=Lu:=by rw[EC];exact Rg (by decide) (by decide)
def Mz{i:Int}(h:i.natAbs<18446744073709551616):i.natAbs<Lu:=Py h xC
def gX{i j:Int}(h:i.natAbs<18446744073709551616)(h':j.natAbs<18446744073709551616):jK i j=true:=by
 unfold jK;rw[Pr];exact⟨decide_eq_true (Mz h),decide_eq_true (Mz h')⟩
def zJ{i j:Int}(h0:j≠0)(h:j.natAbs<B9):ki i j=true:=by
 unfold ki;rw[Pr,S2];exact⟨decide_eq_true h0,.inl (decide_eq_true h)⟩
def D4{i j:Int}(h0:j≠0)(h:i.natAbs<EE):ki i j=true:=by
 unfold ki;rw[Pr,S2];exact⟨decide_eq_true h0,.inr (decide_eq_true h)⟩
def AF:(2:Nat) ^ 64<=B9:=by rw[zV];exact Rg (by decide) (by decide)
def O1{i:Int}(h:i.natAbs<18446744073709551616):i.natAbs<B9:=Py h AF
def ka{ds:ac}{k:Nat}{d:D}(h:ds[k]?=some d):aG (.lst ds) (.int (k:Int))=.ok d:=by
 unfold aG;simp only[bO h]
noncomputable def iC:bd :=
 (aw (dP (dm (aa (ae 2) (aa (dC (.int 10)) (dC (.int 18)) uT) HC) (aa (ae 3) (dC (.int 0)) wV))
 (aw (eX 4 (aa (ae 3) (aa (ae 1) (ae 5) aG) cZ))
 (aw (bb 3 (aa (ae 3) (aa (ae 1) (ae 5) aG) nv))
 au))
 (aw (bb 6 (aa (aa (aa (aa (aa (aa (ae 2) (dC (.int 2147483647)) cZ) (aa (aa (dC (.int 1009)) (ae 5) eB) (ae 5) eB) bf) (aa (dC (.int 31)) (ae 5) eB) bf) (dC (.int 7)) bf) (dC (.int 48271)) eB) (dC (.int 2147483629)) cZ))
 (aw (bb 6 (aa (aa (aa (aa (aa (ae 6) (ae 6) eB) (dC (.int 2147483647)) cZ) (ae 5) bf) (dC (.int 39373)) eB) (dC (.int 2147483587)) cZ))
 (aw (eX 4 (aa (aa (ae 6) (dC (.int 8)) nv) (aa (ae 1) (ae 5) aG) cZ))
 au))))
 au)
def Ek{i:Nat}{f:am}{ρ:Ev}{d:D}{ds:ac}(hi:ρ[i]?=some (.ow (.lst ds)))(h:f ρ=.ok d)(hl:ds.length<line):eX i f ρ=.ok (.nx (ρ.set i (.ow (.lst (ds++[d]))))):=by
 unfold eX vJ;rw[hi];show(f ρ).bind _=_;rw[h,Ei,if_pos hl]
def jM{a b:Int}(hb:0<b):0<=a.fmod b/\a.fmod b<b:=⟨Sg a hb,Tn a hb⟩
def yj{c:D}{sz:List Int}{num left:Int}{F:ac}{k:Nat}{one:Sl}{s:Int}(hk:sz[k]?=some s)(hs:0<s)(h9:s.natAbs<B9)(hk2:k<1000)(hl:F.length<line)(h0:0<=left) :
  ∃v left' one',0<=v/\v<s/\0<=left'/\iC [.sh c,.sh (.lst (sz.map D.int)),.sh (.int num),.sh (.int left),.ow (.lst F),.sh (.int (k:Int)),one] =
   .ok (.nx [.sh c,.sh (.lst (sz.map D.int)),.sh (.int num),.sh (.int left'),.ow (.lst (F++[.int v])),.sh (.int (k:Int)),one']):=by
 have hix:aG (.lst (sz.map D.int)) (.int (k:Int))=.ok (.int s):=ka (by rw[P7,hk];rfl);have hc:(dm (aa (ae 2) (aa (dC (.int 10)) (dC (.int 18)) uT) HC) (aa (ae 3) (dC (.int 0)) wV)) (kE [.sh c,.sh (.lst (sz.map D.int)),.sh (.int num),.sh (.int left),.ow (.lst F),.sh (.int (k:Int)),one])=.ok (.bl (decide ((10:Int) ^ (18:Int).toNat<=num)&&decide (0<left))):=by
  refine Ld ?_ ?_
  .exact(bA (x:=.int num) (y:=.int ((10:Int) ^ (18:Int).toNat)) rfl rfl).trans rfl
  .exact(bA (x:=.int left) (y:=.int 0) rfl rfl).trans rfl
 have hm:=jM (a:=left) hs;unfold iC;cases hb:(decide ((10:Int) ^ (18:Int).toNat<=num)&&decide (0<left)) with
 |true=>
  rw[hb]at hc;refine⟨left.fmod s,left.fdiv s,one,hm.1,hm.2,Int.fdiv_nonneg h0 (by omega),?_⟩;refine jR ?_;rw[Oc hc];rw[fZ (Ek (ds:=F) (d:=.int (left.fmod s)) rfl ((bA (x:=.int left) (y:=.int s) rfl ((bA (x:=.lst (sz.map D.int)) (y:=.int (k:Int)) rfl rfl).trans hix)).trans (jh (by omega))) hl)];exact jR (pC (d:=.int (left.fdiv s)) ((bA (x:=.int left) (y:=.int s) rfl ((bA (x:=.lst (sz.map D.int)) (y:=.int (k:Int)) rfl rfl).trans hix)).trans (nq (zJ (by omega) h9))))
 |false=>
  rw[hb]at hc;have hkk:(k:Int)*(k:Int)<1000000:=by
   have:k*k<1000*1000:=Nat.mul_lt_mul'' hk2 hk2;omega
  have hkn:(0:Int)<=(k:Int)*(k:Int):=Int.mul_nonneg (by omega) (by omega);have a1:=jM (a:=num) (b:=2147483647) (by decide);have hone1:((num.fmod 2147483647+1009*(k:Int)*(k:Int)+31*(k:Int)+7)*48271).fmod 2147483629=((num.fmod 2147483647+1009*(k:Int)*(k:Int)+31*(k:Int)+7)*48271).fmod 2147483629:=rfl;generalize ho:((num.fmod 2147483647+1009*(k:Int)*(k:Int)+31*(k:Int)+7)*48271).fmod 2147483629=o1;have a2:0<=o1/\o1<2147483629:=by rw[←ho];exact jM (by decide)
  have hoo:o1*o1<4611686018427387904:=by
   have h1:o1*o1<=2147483628*2147483628:=Int.mul_le_mul (by omega) (by omega) a2.1 (by decide);omega
  have hoo0:0<=o1*o1:=Int.mul_nonneg a2.1 a2.1;generalize ho2:(((o1*o1).fmod 2147483647+(k:Int))*39373).fmod 2147483587=o2;have a3:0<=o2/\o2<2147483587:=by rw[←ho2];exact jM (by decide)
  have hm2:=jM (a:=o2.fdiv 8) hs;refine⟨(o2.fdiv 8).fmod s,left,.sh (.int o2),hm2.1,hm2.2,h0,?_⟩;refine jR ?_;rw[Od hc];have ea:(1009:Int)*(k:Int)*(k:Int)=1009*((k:Int)*(k:Int)):=Int.mul_assoc _ _ _;have e1:(aa (aa (aa (aa (aa (aa (ae 2) (dC (.int 2147483647)) cZ) (aa (aa (dC (.int 1009)) (ae 5) eB) (ae 5) eB) bf) (aa (dC (.int 31)) (ae 5) eB) bf) (dC (.int 7)) bf) (dC (.int 48271)) eB) (dC (.int 2147483629)) cZ)
    [.sh c,.sh (.lst (sz.map D.int)),.sh (.int num),.sh (.int left),.ow (.lst F),.sh (.int (k:Int)),one]=.ok (.int o1):=by
   rw[←ho];refine(bA (x:=.int ((num.fmod 2147483647+1009*(k:Int)*(k:Int)+31*(k:Int)+7)*48271)) (y:=.int 2147483629) ?_ rfl).trans (jh (by decide));refine(bA (x:=.int (num.fmod 2147483647+1009*(k:Int)*(k:Int)+31*(k:Int)+7)) (y:=.int 48271) ?_ rfl).trans (mY (gX (by omega) (by decide)));refine(bA (x:=.int (num.fmod 2147483647+1009*(k:Int)*(k:Int)+31*(k:Int))) (y:=.int 7) ?_ rfl).trans rfl;refine(bA (x:=.int (num.fmod 2147483647+1009*(k:Int)*(k:Int))) (y:=.int (31*(k:Int))) ?_ ?_).trans rfl
   .refine(bA (x:=.int (num.fmod 2147483647)) (y:=.int (1009*(k:Int)*(k:Int))) ?_ ?_).trans rfl
    .exact(bA (x:=.int num) (y:=.int 2147483647) rfl rfl).trans (jh (by decide))
    .refine(bA (x:=.int (1009*(k:Int))) (y:=.int (k:Int)) ?_ rfl).trans (mY (gX (by omega) (by omega)))
     exact(bA (x:=.int 1009) (y:=.int (k:Int)) rfl rfl).trans (mY (gX (by decide) (by omega)))
   .exact(bA (x:=.int 31) (y:=.int (k:Int)) rfl rfl).trans (mY (gX (by decide) (by omega)))
  rw[fZ (pC e1)];have a4:=jM (a:=o1*o1) (b:=2147483647) (by decide);have e2:(aa (aa (aa (aa (aa (ae 6) (ae 6) eB) (dC (.int 2147483647)) cZ) (ae 5) bf) (dC (.int 39373)) eB) (dC (.int 2147483587)) cZ)
    [.sh c,.sh (.lst (sz.map D.int)),.sh (.int num),.sh (.int left),.ow (.lst F),.sh (.int (k:Int)),.sh (.int o1)]=.ok (.int o2):=by
   rw[←ho2];refine(bA (x:=.int (((o1*o1).fmod 2147483647+(k:Int))*39373)) (y:=.int 2147483587) ?_ rfl).trans (jh (by decide));refine(bA (x:=.int ((o1*o1).fmod 2147483647+(k:Int))) (y:=.int 39373) ?_ rfl).trans (mY (gX (by omega) (by decide)));refine(bA (x:=.int ((o1*o1).fmod 2147483647)) (y:=.int (k:Int)) ?_ rfl).trans rfl;refine(bA (x:=.int (o1*o1)) (y:=.int 2147483647) ?_ rfl).trans (jh (by decide));exact(bA (x:=.int o1) (y:=.int o1) rfl rfl).trans (mY (gX (by omega) (by omega)))
  refine(fZ (pC e2)).trans ?_;refine jR (Ek (ds:=F) (d:=.int ((o2.fdiv 8).fmod s)) rfl ?_ hl);refine(bA (x:=.int (o2.fdiv 8)) (y:=.int s) ?_ ((bA (x:=.lst (sz.map D.int)) (y:=.int (k:Int)) rfl rfl).trans hix)).trans (jh (by omega));exact(bA (x:=.int o2) (y:=.int 8) rfl rfl).trans (nq (zJ (by decide) (O1 (by decide))))
def sP{n k:Nat}(h:k<n):(DL.intsFrom 0 n).drop k=.int (k:Int)::(DL.intsFrom 0 n).drop (k+1):=by
 have hl:(DL.intsFrom 0 n).length=n:=by unfold DL.intsFrom;simp
 rw[QD (by rw[hl];exact h)]
 congr 1
 unfold DL.intsFrom;simp
def vZ{n:Nat}:(DL.intsFrom 0 n).drop n=[]:=by
 have hl:(DL.intsFrom 0 n).length=n:=by unfold DL.intsFrom;simp
 exact List.drop_eq_nil_of_le (by omega)
def uI{tg:Ev->D->aj Ev}{s:bd}{d:D}{r:ac}{ρ ρ1 ρ2:Ev}(h1:tg ρ d=.ok ρ1)(h2:s ρ1=.ok (.nx ρ2)):ef tg s (d::r) ρ=ef tg s r ρ2:=by
 rw[ef,h1,Ei,h2,Ei]
theorem nV{c:D}{sz:List Int}{num:Int}(hz:∀s∈sz,0<s/\s.natAbs<B9)(hn:sz.length<=1000):∀(j k:Nat),k+j=sz.length->∀(left:Int) (F:List Int) (x one:Sl),0<=left->F.length=k->(∀(i:Nat) (v s:Int),F[i]?=some v->sz[i]?=some s->0<=v/\v<s) ->
  ∃(left':Int) (F':List Int) (x' one':Sl),F'.length=sz.length/\(∀(i:Nat) (v s:Int),F'[i]?=some v->sz[i]?=some s->0<=v/\v<s) /\
   ef (eC 5) iC ((DL.intsFrom 0 sz.length).drop k) [.sh c,.sh (.lst (sz.map D.int)),.sh (.int num),.sh (.int left),.ow (.lst (F.map D.int)),x,one] =
    .ok (.nx [.sh c,.sh (.lst (sz.map D.int)),.sh (.int num),.sh (.int left'),.ow (.lst (F'.map D.int)),x',one'])
 |0,k,hk,left,F,x,one,h0,hF,hb=>by
  refine⟨left,F,x,one,by omega,hb,?_⟩;have:k=sz.length:=by omega
  rw[this,vZ];rfl
 |j+1,k,hk,left,F,x,one,h0,hF,hb=>by
  have hlt:k<sz.length:=by omega
  have hs:=hz _ (RC hlt);obtain⟨v,left',one',v0,v1,l0,e⟩:=yj (c:=c) (num:=num) (F:=F.map D.int) (one:=one) (Pu hlt) hs.1 hs.2 (by omega) (by rw[Ph,hF];exact Py hlt (PB hn (by decide))) h0;have hb':∀(i:Nat) (v' s:Int),(F++[v])[i]?=some v'->sz[i]?=some s->0<=v'/\v' < s:=by
   intro i v' s h1 h2
   by_cases hi:i<F.length
   .rw[PY hi]at h1
    exact hb i v' s h1 h2
   .rw[Qa (by omega)]at h1
    have hi2:i-F.length=0:=by
     cases hq:i-F.length with|zero=>rfl|succ m=>rw[hq]at h1;simp at h1
    rw[hi2]at h1;have hik:i=k:=by omega
    subst hik;rw[Pu hlt]at h2;cases h1;cases h2;exact⟨v0,v1⟩
  obtain⟨left2,F2,x2,one2,p1,p2,p3⟩:=nV hz hn j (k+1) (by omega) left' (F++[v]) (.sh (.int (k:Int))) one' l0 (by simp[hF]) hb';refine⟨left2,F2,x2,one2,p1,p2,?_⟩;rw[sP hlt,uI (ρ1:=[.sh c,.sh (.lst (sz.map D.int)),.sh (.int num),.sh (.int left),.ow (.lst (F.map D.int)),.sh (.int (k:Int)),one]) rfl e];rw[←p3,Qx];rfl
def D3(c:Int)(sz:List Int)(hz:∀s∈sz,0<s/\s.natAbs<B9)(hn:sz.length<=1000) :
  ∃vs:List Int,vs.length=sz.length/\(∀(i:Nat) (v s:Int),vs[i]?=some v->sz[i]?=some s->0<=v/\v<s)/\bT [.int c,.lst (sz.map D.int)]=.ok (.lst (vs.map D.int)):=by
 generalize hnum:(if -1-c > c then -1-c else c)=num;have hn0:0<=num:=by rw[←hnum];split<;>omega
 obtain⟨left',F',x',one',p1,p2,p3⟩:=nV (c:=.int c) (num:=num) hz hn sz.length 0 (by omega) num [] .no .no hn0 rfl (λi v s h=>by simp at h);refine⟨F',p1,p2,?_⟩;have r:jF [.sh (.int c),.sh (.lst (sz.map D.int)),.no,.no,.no,.no,.no]=.ok (.rt (.lst (F'.map D.int))):=by
  unfold jF;rw[fZ (ρ':=[.sh (.int c),.sh (.lst (sz.map D.int)),.sh (.int num),.no,.no,.no,.no]) (by rw[←hnum];rfl)];rw[fZ (ρ':=[.sh (.int c),.sh (.lst (sz.map D.int)),.sh (.int num),.sh (.int num),.no,.no,.no]) rfl];rw[fZ (ρ':=[.sh (.int c),.sh (.lst (sz.map D.int)),.sh (.int num),.sh (.int num),.ow (.lst []),.no,.no]) rfl];have w:(pE (ak (ag (ae 1) av) (m1 bz)) (eC 5) iC) [.sh (.int c),.sh (.lst (sz.map D.int)),.sh (.int num),.sh (.int num),.ow (.lst []),.no,.no] =
    .ok (.nx [.sh (.int c),.sh (.lst (sz.map D.int)),.sh (.int num),.sh (.int left'),.ow (.lst (F'.map D.int)),x',one']):=by
   unfold pE;have hlen:(ak (ag (ae 1) av) (m1 bz)) (kE [.sh (.int c),.sh (.lst (sz.map D.int)),.sh (.int num),.sh (.int num),.ow (.lst []),.no,.no])=.ok (.int (sz.length:Int)):=by
    show aj.ok (D.int ((sz.map D.int).length:Int))=_;rw[Ph]
   rw[hlen,Ei];show(if _ then _ else _)=_;rw[if_pos (by omega)];rw[←p3];rfl
  exact(fZ w).trans (t8 (ub rfl))
 exact JC (n:=7) (ds:=[.int c,.lst (sz.map D.int)]) r
def MD:D->Bool
 |.int _=>true
 |_=>false
def iz(d:D):m_is_whole [d]=.ok (.bl (MD d)):=by cases d<;>first|rfl|(rename_i k _;cases k<;>rfl)
def wj{a g:Int}(hg:0<g):a.fdiv g=a / g:=Int.fdiv_eq_ediv_of_nonneg a (by omega)
def zq{a b:Int}(h:b≠0):0<(Qn a b:Int):=by
 have:=Int.gcd_pos_of_ne_zero_right a h;omega
def AX{a b:Int}(hb:0<b)(h1:a.natAbs<EE)(h2:b.natAbs<EE):dr [.int a,.int b]=.ok (.tup [.int (a / Qn a b),.int (b / Qn a b)]):=by
 have hg:=zq (a:=a) (b:=b) (by omega);have r:gk [.sh (.int a),.sh (.int b),.no]=.ok (.rt (.tup [.int (a / Qn a b),.int (b / Qn a b)])):=by
  unfold gk;rw[fZ (ρ':=[.sh (.int a),.sh (.int b),.sh (.int (Qn a b))]) (pC ((wG (xs:=[.int a,.int b]) rfl).trans (qw a b)))];refine t8 (ub ?_);refine(wG (xs:=[.int (a / Qn a b),.int (b / Qn a b)]) (mK ?_ (mK ?_ rfl))).trans rfl
  .rw[←wj hg]
   exact(bA (x:=.int a) (y:=.int (Qn a b)) rfl rfl).trans (nq (D4 (by omega) h1))
  .rw[←wj hg]
   exact(bA (x:=.int b) (y:=.int (Qn a b)) rfl rfl).trans (nq (D4 (by omega) h2))
 show(gk [.sh (.int a),.sh (.int b),.no]).bind _=_;rw[r];rfl
def Oj(p q:Int):D:=.tup [.int p,.int q]
end Com
open Com
namespace Com
open PySem L2 DL
abbrev By:=Int×Int
def fr(x:By):D:=Oj x.1 x.2
def iP:Nat:=1000000000000000000000000000000000000000000000000000000000000
def Eu:iP<=B9:=by rw[zV];exact PB (show iP<=2 ^ 200 by decide) (Rg (by decide) (by decide))
def HS:iP<=EE:=by rw[ED];exact PB (show iP<=2 ^ 200 by decide) (Rg (by decide) (by decide))
structure Low (x:By):Prop where
 q1:1<=x.2
 g1:Qn x.1 x.2=1
structure rk (x:By):Prop extends Low x where
 pN:x.1.natAbs<iP
 qN:x.2.natAbs<iP
def MA(a b:Int):By:=(a / Qn a b,b / Qn a b)
def Ge{a b:Int}(hb:0<b):Low (MA a b):=by
 have hg:=zq (a:=a) (b:=b) (by omega);refine⟨?_,Int.gcd_ediv_gcd_ediv_gcd (by omega)⟩;have:=Int.ediv_gcd_ne_zero_if_ne_zero_right a (show b≠0 by omega);have h2:0<=b / (Qn a b:Int):=Int.ediv_nonneg (by omega) (by omega);show 1<=b / (Qn a b:Int);omega
def Gg{a b:Int}:(MA a b).1.natAbs<=a.natAbs:=Ug _ _
def Gf{a b:Int}:(MA a b).2.natAbs<=b.natAbs:=Ug _ _
def sJ{a b:Int}(hb:0<b)(h1:a.natAbs<EE)(h2:b.natAbs<EE):dr [.int a,.int b]=.ok (fr (MA a b)):=AX hb h1 h2
def Im{a b:Int}(hb:0<b)(h1:a.natAbs<iP)(h2:b.natAbs<iP):rk (MA a b):=⟨Ge hb,SA Gg h1,SA Gf h2⟩
def Lb{α:Type}{xs:List α}{k:Int}(h0:0<=k)(h1:k<xs.length):∃x∈xs,atI xs k=some x:=by
 obtain⟨n,rfl⟩:=RD h0;have hn:n<xs.length:=by omega
 exact⟨xs[n],RC hn,bO (Pu hn)⟩
def ix_mem{ds:ac}{k:Int}(h0:0<=k)(h1:k<ds.length):∃d∈ds,aG (.lst ds) (.int k)=.ok d:=by
 obtain⟨d,hd,e⟩:=Lb h0 h1;exact⟨d,hd,by unfold aG;simp only[e]⟩
def aV{α:Type}{a b:α}(h:a=b):a=b:=h
def Jz(t:bd)(r:Fl):aj Fl:=match r with
 |.nx ρ'=>t ρ'
 |r=>.ok r
def Fv(i:Nat)(ρ:Ev)(d:D):aj Fl:=.ok (.nx (ρ.set i (.sh d)))
def L7(d:D):aj Fl:=.ok (.rt d)
def IG(ρ:Ev)(_:D):aj Fl:=.ok (.nx ρ)
def Oe(s t:bd)(ρ:Ev)(x:D):aj Fl:=match x with
 |.bl b=>if b=true then s ρ else t ρ
 |_=>.stuck
def Ms(i:Nat)(ρ:Ev)(d:D):aj Fl:=match d with
 |.lst ds=>.ok (.nx (ρ.set i (.ow (.lst ds))))
 |_=>.stuck
def JZ(s:Option Sl)(k:ac->aj Fl):aj Fl:=match s with
 |some (.ow (.lst ds))=>k ds
 |_=>.stuck
def Nc(i:Nat)(ρ:Ev)(ds:ac)(d:D):aj Fl:=if ds.length<line then .ok (.nx (ρ.set i (.ow (.lst (ds++[d]))))) else .stuck
def BN(is:ci)(ρ:Ev)(d:D):aj Fl:=match fE is.length d with
 |some ds=>.ok (.nx (eU ρ is ds))
 |none=>.stuck
def k2(g:am)(op:D->D->aj D)(ρ:Ev)(x:D):aj D:=(g ρ).bind (op x)
def yn(x:D)(xs:ac):aj (ac):=.ok (x::xs)
def IJ(fa:Ev->aj (ac))(ρ:Ev)(x:D):aj (ac):=(fa ρ).bind (yn x)
def Le(g:am)(ρ:Ev)(x:D):aj D:=match x with
 |.bl true=>g ρ
 |.bl false=>.ok (.bl false)
 |_=>.stuck
def N5(g:am)(ρ:Ev)(x:D):aj D:=match x with
 |.bl true=>.ok (.bl true)
 |.bl false=>g ρ
 |_=>.stuck
def Mv(x:D):aj D:=match x with
 |.bl b=>.ok (.bl (!b))
 |_=>.stuck
def Kg(f g:am)(ρ:Ev)(x:D):aj D:=match x with
 |.bl true=>f ρ
 |.bl false=>g ρ
 |_=>.stuck
def Lz(s:Option Sl):aj D:=match s with
 |some (.sh d)=>.ok d
 |_=>.stuck
def Ft(s:Sl):Sl:=match s with
 |.ow d=>.sh d
 |.ox _ ds=>.sh (.tup ds)
 |x=>x
def rA(r:Fl):aj D:=match r with
 |.nx _=>.ok .non
 |.rt d=>.ok d
 |_=>.stuck
def OH(x:D):aj (Option Int):=match x with
 |.int i=>.ok (some i)
 |_=>.stuck
def pw(x:D)(l:Option Int)(h:Option Int):aj D:=lB x l h
def NY(hi:Ev->aj (Option Int))(ρ:Ev)(x:D)(l:Option Int):aj D:=(hi ρ).bind (pw x l)
def L4(lo hi:Ev->aj (Option Int))(ρ:Ev)(x:D):aj D:=(lo ρ).bind (NY hi ρ x)
def HF(op':D->D->aj D)(h:am)(ρ:Ev)(y z:D):aj D:=match z with
 |.bl true=>(h ρ).bind (op' y)
 |.bl false=>.ok (.bl false)
 |_=>.stuck
def K6(op op':D->D->aj D)(h:am)(ρ:Ev)(x y:D):aj D:=(op x y).bind (HF op' h ρ y)
def OJ(op op':D->D->aj D)(g h:am)(ρ:Ev)(x:D):aj D:=(g ρ).bind (K6 op op' h ρ x)
section
variable {s t:bd}{f g h:am}{fa:Ev->aj (ac)}{ρ r:Ev}{i j:Nat}{d x y:D}{ds xs:ac}{op op':D->D->aj D}{a b:Int}
def cT{α β:Type}{a:α}{k:α->aj β}:(aj.ok a).bind k=k a:=aV rfl
def lK:aw s t ρ=(s ρ).bind (Jz t):=aV rfl
def jv:Jz t (.nx ρ)=t ρ:=aV rfl
def GN:Jz t (.rt d)=.ok (.rt d):=aV rfl
def GX:au ρ=.ok (.nx ρ):=aV rfl
def Kq:bb i f ρ=(f ρ).bind (Fv i ρ):=aV rfl
def GL:Fv i ρ d=.ok (.nx (ρ.set i (.sh d))):=aV rfl
def Kt:bG f ρ=(f (kE ρ)).bind L7:=aV rfl
def GQ:L7 d=.ok (.rt d):=aV rfl
def Hn:lY f ρ=(f (kE ρ)).bind (IG ρ):=aV rfl
def DX:IG ρ d=.ok (.nx ρ):=aV rfl
def MT:dP f s t ρ=(f (kE ρ)).bind (Oe s t ρ):=aV rfl
def KJ:Oe s t ρ (.bl true)=s ρ:=aV rfl
def KI:Oe s t ρ (.bl false)=t ρ:=aV rfl
def Kw:t9 i f ρ=(f ρ).bind (Ms i ρ):=aV rfl
def GV:Ms i ρ (.lst ds)=.ok (.nx (ρ.set i (.ow (.lst ds)))):=aV rfl
def KQ:eX i f ρ=JZ ρ[i]? λds=>(f ρ).bind (Nc i ρ ds):=aV rfl
def GU{k:ac->aj Fl}:JZ (some (.ow (.lst ds))) k=k ds:=aV rfl
def uL(h:decide (ds.length<=999)=true):Nc i ρ ds d=.ok (.nx (ρ.set i (.ow (.lst (ds++[d]))))):=if_pos (SA (of_decide_eq_true h) (by decide))
def Kk{is:ci}:xu is f ρ=(f ρ).bind (BN is ρ):=aV rfl
def M3{o:D->aj D}:aW f o ρ=(f ρ).bind o:=aV rfl
def M1:aa f g op ρ=(f ρ).bind (k2 g op ρ):=aV rfl
def KP:k2 g op ρ x=(g ρ).bind (op x):=aV rfl
def M0{m:ac->aj D}:ak fa m ρ=(fa ρ).bind m:=aV rfl
def KD:av ρ=.ok []:=aV rfl
def Ho:ag f fa ρ=(f ρ).bind (IJ fa ρ):=aV rfl
def DZ:IJ fa ρ x=(fa ρ).bind (yn x):=aV rfl
def DY:yn x xs=.ok (x::xs):=aV rfl
def KR:dm f g ρ=(f ρ).bind (Le g ρ):=aV rfl
def Hr:Le g ρ (.bl true)=g ρ:=aV rfl
def Hq:Le g ρ (.bl false)=.ok (.bl false):=aV rfl
def MP:eZ f g ρ=(f ρ).bind (N5 g ρ):=aV rfl
def KA:N5 g ρ (.bl true)=.ok (.bl true):=aV rfl
def Kz:N5 g ρ (.bl false)=g ρ:=aV rfl
def KC:cB f ρ=(f ρ).bind Mv:=aV rfl
def GW{c:Bool}:Mv (.bl c)=.ok (.bl (!c)):=aV rfl
def DQ:HB h f g ρ=(h ρ).bind (Kg f g ρ):=aV rfl
def Hj:Kg f g ρ (.bl true)=f ρ:=aV rfl
def Hi:Kg f g ρ (.bl false)=g ρ:=aV rfl
def Kj:ae i ρ=Lz ρ[i]?:=aV rfl
def Gz:Lz (some (.sh d))=.ok d:=aV rfl
def Ol:dC d ρ=.ok d:=aV rfl
def GK:kE []=[]:=aV rfl
def Kp{c:Sl}:kE (c::r)=Ft c::kE r:=aV rfl
def GJ:Ft (.ow d)=.sh d:=aV rfl
def GI:Ft (.sh d)=.sh d:=aV rfl
def GH:Ft .no=.no:=aV rfl
def Ks{n:Nat}:cD n s ds=(s (ds.map Sl.sh++PH (n-ds.length) .no)).bind rA:=aV rfl
def GP:rA (.rt d)=.ok d:=aV rfl
def GO:rA (.nx ρ)=.ok .non:=aV rfl
def MO:dG f ρ=(f ρ).bind OH:=aV rfl
def Ky:OH (.int a)=.ok (some a):=aV rfl
def MQ:fu ρ=.ok none:=aV rfl
def MM{lo hi:Ev->aj (Option Int)}:hZ f lo hi ρ=(f ρ).bind (L4 lo hi ρ):=aV rfl
def Ko{lo hi:Ev->aj (Option Int)}:L4 lo hi ρ x=(lo ρ).bind (NY hi ρ x):=aV rfl
def Kn{hi:Ev->aj (Option Int)}{l:Option Int}:NY hi ρ x l=(hi ρ).bind (pw x l):=aV rfl
def Km{l l':Option Int}:pw (.lst ds) l l'=.ok (.lst (rN ds l l')):=aV rfl
def D0:gF op op' f g h ρ=(f ρ).bind (OJ op op' g h ρ):=aV rfl
def MU:OJ op op' g h ρ x=(g ρ).bind (K6 op op' h ρ x):=aV rfl
def KO:K6 op op' h ρ x y=(op x y).bind (HF op' h ρ y):=aV rfl
def KN:HF op' h ρ y (.bl true)=(h ρ).bind (op' y):=aV rfl
def KL:HF op' h ρ y (.bl false)=.ok (.bl false):=aV rfl
def KH{o:Int->Int->D}:vY (λ_ _=>true) o (.int a) (.int b)=.ok (o a b):=aV rfl
def KS:bf (.int a) (.int b)=.ok (.int (a+b)):=aV rfl
def zE{es:ac}(h:decide (ds.length+es.length<=1000)=true):bf (.lst ds) (.lst es)=.ok (.lst (ds++es)):=if_pos (PB (of_decide_eq_true h) (by decide))
def MS{m:D->aj D}:m1 m [x]=m x:=aV rfl
def MR{m:D->D->aj D}:m2 m [x,y]=m x y:=aV rfl
def GZ:bz (.lst ds)=.ok (.int ds.length):=aV rfl
def GY:bz (.tup ds)=.ok (.int ds.length):=aV rfl
def Kl(h:decide (ds.length<=1000)=true):j6 ds=.ok (.tup ds):=if_pos (PB (of_decide_eq_true h) (by decide))
def KG(h:decide (ds.length<=1000)=true):cY ds=.ok (.lst ds):=if_pos (PB (of_decide_eq_true h) (by decide))
def rL{z:Pj}:gA "str" (.str z)=.ok (.bl true):=aV rfl
def oz:gA "tuple" (.tup ds)=.ok (.bl true):=aV rfl
def qp:gA "list" (.lst ds)=.ok (.bl true):=aV rfl
def yf:mE (.tup ds) .non=.ok (.bl false):=aV rfl
def dI:mE x .non=.ok (.bl (fL x)):=aV rfl
def DH(h:jK a b=true):eB (.int a) (.int b)=.ok (.int (a*b)):=if_pos h
def nj(h:(b==0)=false):cZ (.int a) (.int b)=.ok (.int (a.fmod b)):=jh (λz=>by rw[z]at h;cases h)
def GB{is:ci}(h:(ds.length==is.length)=true):BN is ρ (.lst ds)=.ok (.nx (eU ρ is ds)):=by
 unfold BN fE;simp only[if_pos (eq_of_beq h)]
def GA{is:ci}(h:(ds.length==is.length)=true):BN is ρ (.tup ds)=.ok (.nx (eU ρ is ds)):=by
 unfold BN fE;simp only[if_pos (eq_of_beq h)]
def MN{is:ci}:eU ρ (i::is) (d::ds)=eU (ρ.set i (.sh d)) is ds:=aV rfl
def Kr:eU ρ [] ds=ρ:=aV rfl
def Hh{x0:D}:aG (.lst (x0::xs)) (.int 0)=.ok x0:=by
 unfold aG;simp only[show atI (x0::xs) 0=some x0 from bO (j:=0) rfl]
def G4{x0:D}:aG (.tup (x0::xs)) (.int 0)=.ok x0:=by
 unfold aG;simp only[show atI (x0::xs) 0=some x0 from bO (j:=0) rfl]
def Hg{x0 x1:D}:aG (.lst (x0::x1::xs)) (.int 1)=.ok x1:=by
 unfold aG;simp only[show atI (x0::x1::xs) 1=some x1 from bO (j:=1) rfl]
def G3{x0 x1:D}:aG (.tup (x0::x1::xs)) (.int 1)=.ok x1:=by
 unfold aG;simp only[show atI (x0::x1::xs) 1=some x1 from bO (j:=1) rfl]
def Hf{x0 x1 x2:D}:aG (.lst (x0::x1::x2::xs)) (.int 2)=.ok x2:=by
 unfold aG;simp only[show atI (x0::x1::x2::xs) 2=some x2 from bO (j:=2) rfl]
def G2{x0 x1 x2:D}:aG (.tup (x0::x1::x2::xs)) (.int 2)=.ok x2:=by
 unfold aG;simp only[show atI (x0::x1::x2::xs) 2=some x2 from bO (j:=2) rfl]
def Hd{x0 x1 x2 x3:D}:aG (.lst (x0::x1::x2::x3::xs)) (.int 3)=.ok x3:=by
 unfold aG;simp only[show atI (x0::x1::x2::x3::xs) 3=some x3 from bO (j:=3) rfl]
def G1{x0 x1 x2 x3:D}:aG (.tup (x0::x1::x2::x3::xs)) (.int 3)=.ok x3:=by
 unfold aG;simp only[show atI (x0::x1::x2::x3::xs) 3=some x3 from bO (j:=3) rfl]
def Hc{x0 x1 x2 x3 x4:D}:aG (.lst (x0::x1::x2::x3::x4::xs)) (.int 4)=.ok x4:=by
 unfold aG;simp only[show atI (x0::x1::x2::x3::x4::xs) 4=some x4 from bO (j:=4) rfl]
def G0{x0 x1 x2 x3 x4:D}:aG (.tup (x0::x1::x2::x3::x4::xs)) (.int 4)=.ok x4:=by
 unfold aG;simp only[show atI (x0::x1::x2::x3::x4::xs) 4=some x4 from bO (j:=4) rfl]
def G9{x0 x1 x2 x3 x4 x5:D}:aG (.lst (x0::x1::x2::x3::x4::x5::xs)) (.int 5)=.ok x5:=by
 unfold aG;simp only[show atI (x0::x1::x2::x3::x4::x5::xs) 5=some x5 from bO (j:=5) rfl]
def G8{x0 x1 x2 x3 x4 x5 x6:D}:aG (.lst (x0::x1::x2::x3::x4::x5::x6::xs)) (.int 6)=.ok x6:=by
 unfold aG;simp only[show atI (x0::x1::x2::x3::x4::x5::x6::xs) 6=some x6 from bO (j:=6) rfl]
def G7{x0 x1 x2 x3 x4 x5 x6 x7:D}:aG (.lst (x0::x1::x2::x3::x4::x5::x6::x7::xs)) (.int 7)=.ok x7:=by
 unfold aG;simp only[show atI (x0::x1::x2::x3::x4::x5::x6::x7::xs) 7=some x7 from bO (j:=7) rfl]
def G6{x0 x1 x2 x3 x4 x5 x6 x7 x8:D}:aG (.lst (x0::x1::x2::x3::x4::x5::x6::x7::x8::xs)) (.int 8)=.ok x8:=by
 unfold aG;simp only[show atI (x0::x1::x2::x3::x4::x5::x6::x7::x8::xs) 8=some x8 from bO (j:=8) rfl]
def G5{x0 x1 x2 x3 x4 x5 x6 x7 x8 x9:D}:aG (.lst (x0::x1::x2::x3::x4::x5::x6::x7::x8::x9::xs)) (.int 9)=.ok x9:=by
 unfold aG;simp only[show atI (x0::x1::x2::x3::x4::x5::x6::x7::x8::x9::xs) 9=some x9 from bO (j:=9) rfl]
def DP{x0 x1 x2 x3 x4 x5 x6 x7 x8 x9 x10:D}:aG (.lst (x0::x1::x2::x3::x4::x5::x6::x7::x8::x9::x10::xs)) (.int 10)=.ok x10:=by
 unfold aG;simp only[show atI (x0::x1::x2::x3::x4::x5::x6::x7::x8::x9::x10::xs) 10=some x10 from bO (j:=10) rfl]
def DN{x0 x1 x2 x3 x4 x5 x6 x7 x8 x9 x10 x11:D}:aG (.lst (x0::x1::x2::x3::x4::x5::x6::x7::x8::x9::x10::x11::xs)) (.int 11)=.ok x11:=by
 unfold aG;simp only[show atI (x0::x1::x2::x3::x4::x5::x6::x7::x8::x9::x10::x11::xs) 11=some x11 from bO (j:=11) rfl]
def DM{x0 x1 x2 x3 x4 x5 x6 x7 x8 x9 x10 x11 x12:D}:aG (.lst (x0::x1::x2::x3::x4::x5::x6::x7::x8::x9::x10::x11::x12::xs)) (.int 12)=.ok x12:=by
 unfold aG;simp only[show atI (x0::x1::x2::x3::x4::x5::x6::x7::x8::x9::x10::x11::x12::xs) 12=some x12 from bO (j:=12) rfl]
def DJ{x0 x1 x2 x3 x4 x5 x6 x7 x8 x9 x10 x11 x12 x13:D}:aG (.lst (x0::x1::x2::x3::x4::x5::x6::x7::x8::x9::x10::x11::x12::x13::xs)) (.int 13)=.ok x13:=by
 unfold aG;simp only[show atI (x0::x1::x2::x3::x4::x5::x6::x7::x8::x9::x10::x11::x12::x13::xs) 13=some x13 from bO (j:=13) rfl]
def MZ:((1:Nat):Int)=1:=aV rfl
def MY:((2:Nat):Int)=2:=aV rfl
def MX:((4:Nat):Int)=4:=aV rfl
def MW:((5:Nat):Int)=5:=aV rfl
def MV:((6:Nat):Int)=6:=aV rfl
def Kv:uT (.int 10) (.int 60)=.ok (.int (iP:Int)):=by
 have e:(10:Int) ^ (60:Int).toNat=(iP:Int):=by decide
 rw[←e];rfl
end
def Ir(fa:Ev->aj (ac))(ρ:Ev)(x:D):aj D:=match x with
 |.str z=>(fa ρ).bind (jL z)
 |_=>.stuck
def kR{f:am}{fa:Ev->aj (ac)}{ρ:Ev}:mD f fa ρ=(f ρ).bind (Ir fa ρ):=aV rfl
def i8{fa:Ev->aj (ac)}{ρ:Ev}{z:Pj}:Ir fa ρ (.str z)=(fa ρ).bind (jL z):=aV rfl
def L8(g:am)(ρ:Ev)(x:D):aj D:=match x with
 |.lst ds=>(g ρ).bind (wA (.lst ds))
 |_=>.stuck
def Ku{f g:am}{ρ:Ev}:Ci f g ρ=(f ρ).bind (L8 g ρ):=aV rfl
def GS{g:am}{ρ:Ev}{ds:ac}:L8 g ρ (.lst ds)=(g ρ).bind (wA (.lst ds)):=aV rfl
theorem wg{α:Type}{x:α}:∀{n:Nat},(PH n [x]).flatten=PH n x
 |0=>rfl
 |n+1=>by rw[QB,Rv,wg,QB];rfl
def GR{x:D}{k:Int}(h:(decide (0<=k)&&decide (k<=1000))=true):wA (.lst [x]) (.int k)=.ok (.lst (PH k.toNat x)):=by
 simp only[Pr,decide_eq_true_eq]at h;unfold wA;have:([x]:ac).length*k.toNat<=line/\-9223372036854775808<=k/\k<9223372036854775808:=⟨by
  have h2:k.toNat<=1000:=by omega
  show 1*k.toNat<=line;have:(1000:Nat)<=line:=by decide
  omega,by omega,by omega⟩
 simp only[if_pos this,wg]
end Com
def b6{a b:Prop}(x:a)(y:b):a/\b:=⟨x,y⟩
def Lj:=(b6 (b6 (b6 (b6 (b6 (b6 @cT (b6 @lK @jv)) (b6 (b6 @GN @GX) (b6 @Kq @GL))) (b6 (b6 @Kt (b6 @GQ @Hn)) (b6 (b6 @DX @MT) (b6 @KJ @KI)))) (b6 (b6 (b6 @Kw (b6 @GV @KQ)) (b6 (b6 @GU @Kk) (b6 @M3 @M1))) (b6 (b6 @KP (b6 @M0 @KD)) (b6 (b6 @Ho @DZ) (b6 @DY @KR))))) (b6 (b6 (b6 (b6 @Hr (b6 @Hq @MP)) (b6 (b6 @KA @Kz) (b6 @KC @GW))) (b6 (b6 @DQ (b6 @Hj @Hi)) (b6 (b6 @Kj @Gz) (b6 @Ol @GK)))) (b6 (b6 (b6 @Kp (b6 @GJ @GI)) (b6 (b6 @GH @Ks) (b6 @GP @GO))) (b6 (b6 @MO (b6 @Ky @MQ)) (b6 (b6 @MM @Ko) (b6 @Kn @Km)))))) (b6 (b6 (b6 (b6 (b6 @D0 (b6 @MU @KO)) (b6 (b6 @KN @KL) (b6 @KH @KS))) (b6 (b6 @MS (b6 @MR @GZ)) (b6 (b6 @GY @Kv) (b6 @KY @xK)))) (b6 (b6 (b6 @Kl (b6 @KG @zE)) (b6 (b6 @uL @nj) (b6 @GB @GA))) (b6 (b6 @MN (b6 @Kr @Hh)) (b6 (b6 @Hg @Hf) (b6 @Hd @Hc))))) (b6 (b6 (b6 (b6 @G9 (b6 @G8 @G7)) (b6 (b6 @G6 @G5) (b6 @DP @DN))) (b6 (b6 @DM (b6 @DJ @G4)) (b6 (b6 @G3 @G2) (b6 @G1 @G0)))) (b6 (b6 (b6 @rL (b6 @oz @qp)) (b6 (b6 @yf @MZ) (b6 @MY @MX))) (b6 (b6 @MW (b6 @MV @kR)) (b6 (b6 @i8 @Ku) (b6 @GS @GR)))))))
local macro_rules|`(tactic|open_line with[$xs,*])=>`(tactic|simp only[Lj,Qr,SX,PU,RL,QB,Ta,Qj,Qc,Sd,QP,Th,Ti,Tz,Nat.reduceSub,Nat.reduceAdd,UI,Tw,PC,Px,decide_true,decide_false,Nat.reduceLeDiff,Nat.reduceBEq,Int.reduceBEq,beq_self_eq_true,DL.dOne,DL.mYes,Int.reduceLT,Int.reduceLE,Int.reduceSub,Int.reduceAdd,Int.reduceMul,Int.reduceNeg,Int.reduceToNat,Up,$[$xs:term],*])
namespace Com
open PySem L2 DL
noncomputable def ja:bd :=
 (aw (dP (eZ (cB (aW (ae 0) (gA "str"))) (cB (gF Bx Bx (dC (.int 1)) (ak (ag (ae 0) av) (m1 bz)) (dC (.int 8)))))
 (aw (bG (dC (.bl false)))
 au)
 au)
 (aw (bG (ak (ag (eW 1 [] (tY (ae 0)) (eC 0) mYes (aa (ae 0) (dC (.str "abcdefghijklmnopqrstuvwxyz")) wU)) av) (m1 rM)))
 au))
def m_is_name:ac->aj D:=cD 1 ja
noncomputable def eM:bd :=
 (aw (dP (eZ (cB (aW (ae 0) (gA "tuple"))) (aa (ak (ag (ae 0) av) (m1 bz)) (dC (.int 2)) ir))
 (aw (bG (dC (.bl false)))
 au)
 au)
 (aw (dP (eZ (cB (ak (ag (aa (ae 0) (dC (.int 0)) aG) av) m_is_whole)) (cB (ak (ag (aa (ae 0) (dC (.int 1)) aG) av) m_is_whole)))
 (aw (bG (dC (.bl false)))
 au)
 au)
 (aw (bG (dm (aa (aa (ae 0) (dC (.int 1)) aG) (dC (.int 1)) HC) (aa (ak (ag (aa (ae 0) (dC (.int 0)) aG) (ag (aa (ae 0) (dC (.int 1)) aG) av)) m_common_divisor) (dC (.int 1)) cQ)))
 au)))
def m_is_ratio:ac->aj D:=cD 1 eM
def Pb:Pj:="abcdefghijklmnopqrstuvwxyz"
def kc(c:Nat):Bool:=Ik ⟨#[c]⟩ Pb
def cj(z:Pj):Bool:=decide (1<=z.length)&&(decide (z.length<=8)&&z.cps.toList.all kc)
def sH:D->Bool
 |.str z=>cj z
 |_=>false
def Lo:D->Bool
 |.str z=>decide (z.length<=line)
 |_=>true
theorem tm{b:Ev}{tg:Ev->D->aj Ev}{tt fe:am}{F:D->D}:∀{ds:ac},(∀d∈ds,∃ρ1,tg b d=.ok ρ1/\tt ρ1=.ok (.bl true)/\fe ρ1=.ok (F d))->bX b tg tt fe ds=.ok (ds.map F)
 |[],_=>rfl
 |d::r,h=>by
  obtain⟨ρ1,h1,h2,h3⟩:=h d P0;rw[gR h1 h2 h3,tm (λe he=>h e (Pw _ he))];rfl
theorem iF{α:Type}(F:α->Bool):∀(cs:List α),e8 (cs.map λc=>D.bl (F c))=some (cs.map F)
 |[]=>rfl
 |c::r=>by
  show(e8 (r.map λc=>D.bl (F c))).map (F c::·)=_;rw[iF F r];rfl
def xN{z:Pj}(hz:z.length<=line):eW 1 [] (tY (ae 0)) (eC 0) mYes (aa (ae 0) (dC (.str "abcdefghijklmnopqrstuvwxyz")) wU) [.sh (.str z)]=.ok (.lst (z.cps.toList.map λc=>.bl (kc c))):=by
 have hl:(c8 z).length<=line:=by rw[fY];exact hz
 unfold eW;show(if(c8 z).length<=line then _ else _)=_;rw[if_pos hl];have:bX (dq 1 [] [.sh (.str z)]) (eC 0) mYes (aa (ae 0) (dC (.str "abcdefghijklmnopqrstuvwxyz")) wU) (c8 z)=.ok (z.cps.toList.map λc=>D.bl (kc c)):=by
  unfold c8
  induction z.cps.toList with
  |nil=>rfl
  |cons c r ih=>
   rw[Qr,gR (x:=.bl (kc c)) rfl rfl rfl,ih];rfl
 rw[this]
def bV{d:D}(h:Lo d=true):m_is_name [d]=.ok (.bl (sH d)):=by
 cases d with
 |str z=>
  have hz:z.length<=line:=of_decide_eq_true h;have hlen:bz (.str z)=.ok (.int z.length):=if_pos hz;show cD 1 ja _=.ok (.bl (cj z));unfold cj
  by_cases h1:1<=z.length
  .by_cases h8:z.length<=8
   .have e1:decide ((1:Int)<=(z.length:Int))=true:=decide_eq_true (by omega)
    have e2:decide ((z.length:Int)<=8)=true:=decide_eq_true (by omega);open_line with[ja,hlen,e1,e2,xN hz,rM,iF,decide_eq_true h1,decide_eq_true h8,Pt]
    simp[SY,TF]
   .have e1:decide ((1:Int)<=(z.length:Int))=true:=decide_eq_true (by omega)
    have e2:decide ((z.length:Int)<=8)=false:=decide_eq_false (by omega);open_line with[ja,hlen,e1,e2,decide_eq_true h1,decide_eq_false h8,Pk,PR]
  .have e1:decide ((1:Int)<=(z.length:Int))=false:=decide_eq_false (by omega)
   open_line with[ja,hlen,e1,decide_eq_false h1,Pk]
 |ob k _=>cases k<;>rfl
 |_=>rfl
def dB:D->Bool
 |.tup [.int p,.int q]=>decide (1<=q)&&(Qn p q==1)
 |_=>false
def KW{g:Nat}:((g:Int)==1)=(g==1):=by
 cases h:(g==1) with
 |true=>rw[eq_of_beq h];rfl
 |false=>
  have:g≠1:=λz=>by rw[z]at h;cases h
  exact beq_eq_false_iff_ne.mpr (by omega)
def BO{xs:ac}:(∃x y,xs=[x,y])∨xs.length≠2:=by
 match xs with
 |[]=>exact .inr (by decide)
 |[x]=>exact .inr (by simp)
 |[x,y]=>exact .inl ⟨x,y,rfl⟩
 |x::y::z::r=>exact .inr (by simp)
theorem vz:∀{xs:ac},xs.length≠2->dB (.tup xs)=false
 |[],_=>rfl
 |[x],_=>by cases x<;>rfl
 |[x,y],h=>absurd rfl h
 |x::y::z::r,_=>by cases x<;>cases y<;>rfl
def pH{x y:D}:dB (.tup [x,y])=(MD x&&(MD y&&dB (.tup [x,y]))):=by
 cases x<;>cases y<;>rfl
def dU(d:D):m_is_ratio [d]=.ok (.bl (dB d)):=by
 cases d with
 |tup xs=>
  rcases BO (xs:=xs) with⟨x,y,rfl⟩|h
  .rw[pH]
   show cD 1 eM _=_;cases hx:MD x with
   |false=>open_line with[eM,iz,hx,Pk]
   |true=>
    cases hy:MD y with
    |false=>open_line with[eM,iz,hx,hy,Pk,Pt]
    |true=>
     cases x<;>first|(cases hx;done)|skip
     cases y<;>first|(cases hy;done)|skip
     rename_i p q;show _=aj.ok (D.bl (decide (1<=q)&&(Qn p q==1)))
     by_cases hq:1<=q
     .open_line with[eM,iz,hx,hy,tf,Pt,decide_eq_true hq,KW]
     .open_line with[eM,iz,hx,hy,tf,Pt,decide_eq_false hq,Pk]
  .have e2:((xs.length:Int)==2)=false:=beq_eq_false_iff_ne.mpr (by omega)
   rw[vz h];show cD 1 eM _=_;open_line with[eM,e2]
 |ob k _=>cases k<;>rfl
 |_=>rfl
def LY{sz:List Int}(h:(sz.all λs=>decide (0<s)&&decide (s<=(iP:Int)))=true):∀s∈sz,0<s/\s.natAbs<B9:=λs hs=>by
 have:=Qf.mp h s hs;simp only[Pr,decide_eq_true_eq]at this;refine⟨this.1,SA (show s.natAbs<=iP by omega) ?_⟩;exact Py (show iP<2 ^ 200 by decide) (by rw[zV];exact Rg (by decide) (by decide))
def zM{α:Type}{F:α->D}{xs:List α}{lo hi:Option Int}:rN (xs.map F) lo hi=((xs.drop (HT.sIx xs.length 0 lo)).take (HT.sIx xs.length xs.length hi-HT.sIx xs.length 0 lo)).map F:=by
 unfold rN;rw[Ph,←List.map_drop,←List.map_take]
end Com
namespace DL
open PySem PySem.Spec PyProof.Rows L2
def c7.there{P:Qi}{w:Qv}{H:Hp}{h:PF}{a:Pg}{o:HO}(x:c7 P w H h a o):∃u,h.get? a=some u:=by
 cases o with|lst xs=>obtain⟨_,_,_,_,e⟩:=x;exact⟨_,e⟩|tup xs=>obtain⟨_,_,_,ob,e,_⟩:=x;exact⟨_,e⟩|dK kvs|dT kvs=>obtain⟨_,_,_,_,o,_,_,e,_⟩:=x;exact⟨_,e⟩|set S n=>obtain⟨o,_,_,_,e,_⟩:=x;exact⟨_,e⟩|ins C dx fs=>obtain⟨_,_,_,e,_⟩:=x;exact⟨_,e⟩|own y=>obtain⟨_,e⟩:=x;exact⟨_,e⟩|xd fs=>obtain⟨_,⟨_,_,_,e,_⟩,_⟩:=x;exact⟨_,e⟩|rng lo hi=>obtain⟨_,_,_,e⟩:=x;exact⟨_,e⟩|frz ob u=>obtain⟨e,_⟩:=x;exact⟨_,e⟩|tbl ps|met f y=>exact⟨_,show h.get? a=some _ from x⟩|ext φ=>obtain⟨_,⟨_,e⟩,_⟩:=x;exact⟨_,e⟩
noncomputable def iO(P:Qi) (w:Qv):rR:=λouter H s E e s'=>∃(ea C:Pg) (a0:Pd) (B:PF) (H':Hp),e=.ref ea/\s'.os=s.os/\AllBare s'.gens/\Un (ip outer) [] H H' s.heap s'.heap/\gO P w H' s'.heap/\H' ea=none /\
 RK B outer ea (.ref C) a0 s'.heap/\(∀b,b∉ip outer->(H' b≠none∨∃o,s.heap.get? b=some o)->∃o,B.get? b=some o)/\∃ox,Nk s'.heap ea ox/\E (.ref C) ox H'
def Gy{l:List QL}:∀env∈l,∀a,env.frame=some a->a∈ip l:=λenv he a hf=>Tj.mpr ⟨env,he,hf⟩
section
variable {P:Qi}{w:Qv}{K:Pl}{mg:Pj->Option Pd}{base:PF}{N:bv}{qual:Pj}{scope:Sk}{f:Pg}{cd:Pd}{A:Qp}{outer:List QL}{s0:Pm}{H0:Hp}{E:XK}
 {π:List (Pg×Obj)}{σ:L2.St}{H:Hp}{s:Pm}
def gP{B h h':PF}(k:B.StaysIn h)(k':B.StaysIn h'){b:Pg}{o:Obj}(hb:∃u,B.get? b=some u)(e:h.get? b=some o):h'.get? b=some o:=by
 obtain⟨u,q⟩:=hb;have:=k b u q;rw[e]at this;cases this;exact k' b o q
def ID{X:Cx}(hX:X=fy (iO P w) P w K mg base N qual scope f cd A outer s0 H0 E)(I:Inv X π σ H s){s1:Pm}{H1:Hp}{ea C:Pg}{a0:Pd}{B h':PF}(os:s1.os=s.os)(bare:AllBare s1.gens)
  (un:Un (ip X.stack) [] H H1 s.heap s1.heap)(hok:gO P w H1 s1.heap)(hne:H1 ea=none)(hst:B.StaysIn s1.heap)(hfr:s1.heap.FunFrames B X.stack)
  (hB:∀b,b∉ip X.stack->(H1 b≠none∨∃o,s.heap.get? b=some o)->∃o,B.get? b=some o)(fl:RK B outer ea (.ref C) a0 h')(up:s1.heap.UpToSlots h')(hE:∃ox,Nk h' ea ox/\E (.ref C) ox H1) :
  iO P w outer H0 s0 E (.ref ea) { s1 with heap:=h' }:=by
 subst hX;have hL:(envOfC qual scope s0.heap.objs.size f cd).frame=some (envOfC qual scope s0.heap.objs.size f cd).locals:=rfl;have hstk:∀b,b∈ip (envOfC qual scope s0.heap.objs.size f cd::outer)->b=(envOfC qual scope s0.heap.objs.size f cd).locals∨b∈ip outer:=λb hb=>by
  unfold ip at hb;rw[RZ,hL]at hb;exact PL.mp hb
 have hsub:∀b,b∈ip outer->b∈ip (envOfC qual scope s0.heap.objs.size f cd::outer):=λb hb=>by
  unfold ip;rw[RZ,hL];exact Pw _ hb
 have old:∀b o,s0.heap.get? b=some o->b≠(envOfC qual scope s0.heap.objs.size f cd).locals:=λb o e=>Qg (Py (PM e) I.ok.above);have nofr:∀b o,s0.heap.get? b=some o->b∉ip outer->b∉ip (envOfC qual scope s0.heap.objs.size f cd::outer):=λb o e hb hm=>(hstk b hm).elim (old b o e) hb;have thr:∀b o,s0.heap.get? b=some o->∃o',s.heap.get? b=some o':=λb o e=>I.base.there b o e (by intro z;exact nomatch z);have fst:∀b,b∈ip outer->∀o,s1.heap.get? b=some o->∃sl,h'.get? b=some { o with slots:=sl }:=λb hb o e=>by
  obtain⟨_,o',ho',hd⟩:=hfr.mem (hsub b hb);rw[e]at ho';cases ho';exact up b o e hd
 have free1:∀b∈ip (envOfC qual scope s0.heap.objs.size f cd::outer),H1 b=none:=λb hb=>by
  obtain⟨_,o,ho,_⟩:=I.stack.mem hb;exact un.free b o ho (I.stkFree b hb) (by simp)
 have B0:∀b o,s0.heap.get? b=some o->b∉ip outer->∃u,B.get? b=some u:=λb o e hb=>hB b (nofr b o e hb) (.inr (thr b o e));refine⟨ea,C,a0,B,H1,rfl,os.trans I.os,bare,⟨λb o e n hb hx=>?_,λb o e n hb hx=>?_,λb o e n hx=>?_,λb o e hx=>?_,λb xs e=>un.tups b xs (I.base.tups b xs e),λb o u e=>un.frzs b o u (I.base.frzs b o u e),λb ps e=>?_⟩,λa o e=>?_,hne,fl,λb hb h=>?_,hE⟩
 .have e1:=I.base.keep b o e n hb (by intro z;exact nomatch z)
  have n1:=I.base.free b o e n (by intro z;exact nomatch z);have e2:=un.keep b o e1 n1 (nofr b o e hb) (by simp);exact gP hst fl.1 (B0 b o e hb) e2
 .obtain⟨sl,e1⟩:=I.base.slot b o e n hb (by intro z;exact nomatch z)
  have n1:=I.base.free b o e n (by intro z;exact nomatch z);obtain⟨sl2,e2⟩:=un.any e1 n1 (by simp);obtain⟨sl3,e3⟩:=fst b hb _ e2;exact⟨sl3,e3⟩
 .obtain⟨o',e1⟩:=thr b o e
  exact un.free b o' e1 (I.base.free b o e n (by intro z;exact nomatch z)) (by simp)
 .obtain⟨o',e1⟩:=thr b o e
  obtain⟨o2,e2⟩:=un.there b o' e1 (by simp)
  by_cases hb:b∈ip outer
  .obtain⟨sl,e3⟩:=fst b hb _ e2
   exact⟨_,e3⟩
  .exact⟨_,gP hst fl.1 (B0 b o e hb) e2⟩
 .obtain⟨m1,e1⟩:=I.base.tbls b ps e
  obtain⟨m2,e2⟩:=un.tbls b _ e1;exact⟨m1++m2,by rw[e2,Tr]⟩
 .refine(hok a o e).stay (λb u hb q=>?_) (λ_ q=>q) λ_ _ q=>q
  have hn:H1 b≠none:=by
   rcases hb with rfl|hb
   .rw[e];simp
   .rw[hb];simp
  exact gP hst fl.1 (hB b (λhm=>hn (free1 b hm)) (.inl hn)) q
 .by_cases hm:b∈ip (envOfC qual scope s0.heap.objs.size f cd::outer)
  .rcases hstk b hm with z|z
   .rcases h with h|⟨o,h⟩
    .exact absurd (free1 b hm) h
    .exact absurd z (old b o h)
   .exact absurd z hb
  .exact hB b hm (h.elim .inl λ⟨o,h⟩=>.inr (thr b o h))
def yZ:gH (iO P w) (fy (iO P w) P w K mg base N qual scope f cd A outer s0 H0 E) E:=by
 intro π σ H s e s' I h;obtain⟨ea,C,a0,B,H',rfl,os,bare,un,hok,hne,fl,hB,ox,⟨dc,hdc,hox⟩,hE⟩:=h;refine A8 I.ok.frames rfl fl hdc λh' fl' up hd'=>?_;exact ID rfl I os bare un hok hne fl.1 fl.2.2.1 hB fl' up ⟨ox,⟨dc,hd',hox⟩,hE⟩
end
def xF{X:Cx}{E:XK}:gH CX0 X E:=λ_ _ _ _ _ _ _ h=>h.elim
def yc{P:Qi}{w:Qv}{K:Pl}{mg:Pj->Option Pd}{base:PF}{x qual:Pj}{st:QQ}{f:Pg}{fd:Qo}{N ps:bv}{k:Nat}{s:bd}(F:zU K x qual st f fd)(S:eT N ps (defScope st))
  (hbody:∀(cdv:Pd) (A:Qp) (outer:List QL) (s0:Pm) (H Ha:Hp) (E:XK),dz k (A.deeper (envOfC qual (defScope st) s0.heap.objs.size f cdv)) ->
   yB (fy (iO P w) P w K mg base N qual (defScope st) f cdv A outer s0 H E) E H Ha (defBody st) s):FnOk P w K mg base (iO P w) (k+1) f fd ps (spD K ps.length (cD N.length s)):=by
 have hpl:ps.length<=N.length:=by have:=congrArg RT S.pre;rw[Ro]at this;omega
 obtain⟨oc,od,kV,doc,pm,an,cdv,ct,osl,rfl,lk,hcd⟩:=F.ex;refine IC lk hcd S (λvs H Q E h=>h.1) λA outer s0 H vs Q E hr h=>?_;obtain⟨hn,Ha,ds,hs,hv,q⟩:=h;refine⟨_,(hbody cdv A outer s0 H Ha E hr).o,Ha,ds.map Sl.sh++PH (N.length-ds.length) .no,?_,?_⟩
 .refine⟨bq.refl hs,nG hv,λi d e=>?_,λi j d d' hij e=>?_,?_,OX.none rZ ph⟩
  .by_cases hi:i<ds.length
   .rw[PY (by simpa using hi),P7]at e
    cases q:ds[i]? with|none|some d'=>rw[q]at e;cases e
   .rw[Qa (by simpa using hi),Qk]at e
    split at e<;>cases e
  .by_cases hi:i<ds.length
   .rw[PY (by simpa using hi),P7]at e
    cases q:ds[i]? with|none|some d'=>rw[q]at e;cases e
   .rw[Qa (by simpa using hi),Qk]at e
    split at e<;>cases e
  .unfold L2.start
   have:=hv.length;simp only[P1,Ph,QV];omega
 .unfold cD at q
  cases e1:s (ds.map Sl.sh++PH (N.length-ds.length) .no) with
  |stuck|exn x=>rw[e1]at q;exact q
  |ok r=>
   rw[e1]at q;cases r with|nx ρ'=>exact λσ' H' Ha' _ h'=>q .non H' Ha' h'.g (aN.mpr rfl)|rt d=>exact λv H' Ha' g rp=>q v H' Ha' g rp|bk ρ'|ct ρ'=>exact q.elim
def noX(m:ac->aj D)(ds:ac):aj D:=match m ds with
 |.exn _=>.stuck
 |r=>r
def yK{K:Pl}{n:Nat}{m:ac->aj D}{vs:al}{H:Hp}{Q:VK}{E E':XK}(h:spD K n (noX m) vs H Q E):spD K n m vs H Q E':=by
 obtain⟨hn,Ha,ds,hs,hv,q⟩:=h;refine⟨hn,Ha,ds,hs,hv,?_⟩;unfold noX at q;cases e:m ds with|stuck=>rw[e]at q;exact q|exn x=>rw[e]at q;exact q.elim|ok d=>rw[e]at q;exact q
theorem FnOk.noX{P:Qi}{w:Qv}{K:Pl}{mg:Pj->Option Pd}{base:PF}{k n:Nat}{f:Pg}{fd:Qo}{ps:bv}{m:ac->aj D}(F:FnOk P w K mg base (iO P w) k f fd ps (spD K n m)) :
  FnOk P w K mg base CX0 k f fd ps (spD K n (DL.noX m)) :=
 ⟨λvs H Q E h=>F.len vs H Q E0 (yK h),λA outer s H args us vs Q E hr he hb hv h=>codeAny_mono (F.run A outer s H args us vs Q E0 hr he hb hv (yK h)) λr s' q=>by
  cases r with
  |ok fl=>cases fl<;>exact q
  |error e=>obtain⟨_,_,_,_,_,_,_,_,_,_,_,_,_,_,_,hE⟩:=q;exact hE.elim⟩
section
variable {P:Qi}{w:Qv}{st:List QL}{H H':Hp}{h g g' B:PF}
def Un.fly(un:Un (ip st) [] H H' h g)(k:B.StaysIn g)(hfr:g.FunFrames B st)(hB:∀b,b∉ip st->(H' b≠none∨∃o,h.get? b=some o)->∃o,B.get? b=some o)(k':B.StaysIn g')(up:g.UpToSlots g'):Un (ip st) [] H H' h g':=by
 have fst:∀b,b∈ip st->∀o,g.get? b=some o->∃sl,g'.get? b=some { o with slots:=sl }:=λb hb o e=>by
  obtain⟨_,o',ho',hd⟩:=hfr.mem hb;rw[e]at ho';cases ho';exact up b o e hd
 refine⟨λb o e n hb hx=>?_,λb o e n hb hx=>?_,un.free,λb o e hx=>?_,un.tups,un.frzs,un.tbls⟩
 .exact gP k k' (hB b hb (.inr ⟨o,e⟩)) (un.keep b o e n hb hx)
 .obtain⟨sl,e1⟩:=un.slot b o e n hb hx
  obtain⟨sl2,e2⟩:=fst b hb _ e1;exact⟨sl2,e2⟩
 .obtain⟨o',e1⟩:=un.there b o e hx
  by_cases hb:b∈ip st
  .obtain⟨sl,e2⟩:=fst b hb _ e1
   exact⟨_,e2⟩
  .exact⟨_,gP k k' (hB b hb (.inr ⟨o,e⟩)) e1⟩
def gO.fly(ok:gO P w H' g)(hf:∀b∈ip st,H' b=none)(k:B.StaysIn g)(hB:∀b,b∉ip st->(H' b≠none∨∃o,h.get? b=some o)->∃o,B.get? b=some o)(k':B.StaysIn g'):gO P w H' g':=λa o e=>by
 refine(ok a o e).stay (λb u hb q=>?_) (λ_ q=>q) λ_ _ q=>q;have hn:H' b≠none:=by
  rcases hb with rfl|hb
  .rw[e];simp
  .rw[hb];simp
 exact gP k k' (hB b (λhm=>hn (hf b hm)) (.inl hn)) q
def gO.ext(ok:gO P w H g){a:Pg}{φ:PF->Prop}(hn:H a=none)(p:φ g)(ht:∃o,g.get? a=some o)(hm:∀h1 h2:PF,φ h1->(∀o,h1.get? a=some o->h2.get? a=some o)->φ h2):gO P w (upd H a (.ext φ)) g:=λb u e=>by
 by_cases hb:b=a
 .subst hb;rw[ay]at e;cases e;exact⟨p,ht,hm⟩
 .rw[ax hb]at e
  exact(ok b u e).stay (λc v _ q=>q) (λc q=>by rw[ax (bj q hn)];exact q) λc xs q=>by rw[ax (bj q hn)];exact q
def Un.ext{fs:List Pg}(un:Un fs [] H H' h g){a:Pg}{o:HO}(hn:H' a=none)(ha:h.get? a=none):Un fs [] H (upd H' a o) h g :=
 ⟨un.keep,un.slot,λb ob e n hx=>by rw[ax (λz=>by subst z;rw[ha]at e;cases e)];exact un.free b ob e n hx,un.there,λb xs q=>by rw[ax (bj (un.tups b xs q) hn)];exact un.tups b xs q,
  λb ob u q=>by rw[ax (bj (un.frzs b ob u q) hn)];exact un.frzs b ob u q,λb ps q=>by
   obtain⟨m,e⟩:=un.tbls b ps q;exact⟨m,by rw[ax (bj e hn)];exact e⟩⟩
def Ba{a C:Pg}{dc:Option Pg}:∀h1 h2:PF,wZ a C dc h1->(∀o,h1.get? a=some o->h2.get? a=some o)->wZ a C dc h2:=λh1 h2 ⟨o,vs,e,c,d⟩ k=>⟨o,vs,k o e,c,d⟩
end
def hand(X:Cx)(e:Pg):Cx:={ X with A:=X.A.mark (some (.ref e)),calm:=false,xe:=λ_ _=>False }
section
variable {X:Cx}{π:List (Pg×Obj)}{σ:L2.St}{H:Hp}{s:Pm}{e:Pg}
def Gw(ok:X.Ok):(hand X e).Ok :=
 ⟨ok.mod,ok.kind,ok.glob,ok.blt,ok.above,ok.inj,ok.has,ok.cab,λz=>Bool.noConfusion z,ok.frames,ok.stk,ok.exf,ok.bs,ok.bsz,ok.noex,ok.exfs,ok.funs,ok.frf⟩
def Inv.hand(I:Inv X π σ H s):Inv (DL.hand X e) π σ H s:=⟨Gw I.ok,I.os,I.bare,I.base,I.loc,I.cell,I.free,I.freeC,I.pin,I.hok,I.len⟩
def il(ok:X.Ok)(I:Inv (DL.hand X e) π σ H s):Inv X π σ H s:=⟨ok,I.os,I.bare,I.base,I.loc,I.cell,I.free,I.freeC,I.pin,I.hok,I.len⟩
def Ez{i:Nat}{x:Pj}{m:Pj->Option Pd}{v:Option Pd}{h':PF}{t':Nat}(I:Inv X π σ H s)(hN:X.N.Nodup)(hi:X.N[i]?=some x)
  (hm:∀(j:Nat) (y:Pj) (v:V),X.N[j]?=some y->σ[j]?=some (some v)->wJ X.env.scope y->∃u,bS v u/\Nl X.env s.heap m y u)(hn:h'.Ns X.env.locals (λy=>if y=x then v else m y))(hs:Sh X.env.locals s.heap h') :
  Inv X π (σ.set i none) H { s with heap:=h',toks:=t' }:=by
 have cne:=I.cne;obtain⟨m0,⟨oL,_,_,hoL,_⟩,_⟩:=id I.loc;have tracked:gO X.prog X.w H h':=λb ob e=>by
  refine(I.hok b ob e).stay (λc w' hc q=>(hs.2 c ?_).trans q) (λ_ q=>q) λ_ _ q=>q;rintro rfl;have hfree:=I.free;rcases hc with rfl|hc
  .rw[hfree]at e;cases e
  .rw[hfree]at hc;cases hc
 refine⟨I.ok,I.os,I.bare,⟨λb o e n hb hx=>?_,λb o e n hb hx=>?_,I.base.free,λb o e hx=>?_,I.base.tups,I.base.frzs,I.base.tbls⟩,⟨_,hn,λj y v' e1 e2 e3=>?_⟩,λy c e=>?_,I.free,I.freeC,λp hp=>?_,tracked,by simpa using I.len⟩
 .exact(hs.2 b (Qg (Py (PM e) I.ok.above))).trans (I.base.keep b o e n hb hx)
 .obtain⟨sl,e1⟩:=I.base.slot b o e n hb hx
  exact⟨sl,(hs.2 b (Qg (Py (PM e) I.ok.above))).trans e1⟩
 .obtain⟨o',e1⟩:=I.base.there b o e hx
  exact⟨o',(hs.2 b (Qg (Py (PM e) I.ok.above))).trans e1⟩
 .by_cases hj:j=i
  .subst hj
   have hiσ:j<σ.length:=by rw[I.len];exact(PJ.mp hi).1
   rw[Qw hiσ]at e2;cases e2
  .rw[PD (Qq hj)]at e2
   obtain⟨u',r',q⟩:=hm j y v' e1 e2 e3;refine⟨u',r',?_⟩;rcases q with⟨k,e⟩|⟨k,c,e,z⟩
   .refine .inl ⟨k,?_⟩
    have:y≠x:=λe=>hj (pW hN e1 (e▸hi));simp[this,e]
   .exact .inr ⟨k,c,e,z.sameBut hs (cne y c e)⟩
 .obtain⟨w',z⟩:=I.cell y c e
  exact⟨w',z.sameBut hs (cne y c e)⟩
 .obtain⟨e,n,ne,nf,d⟩:=I.pin p hp
  exact⟨(hs.2 p.1 ne).trans e,n,ne,nf,d⟩
def K9{H1:Hp}{s1 s':Pm}{Ex:XK}{ev:Pd}{c n:Pj}{np hpos:Pos}{ba:QQ}{suite:List QQ}{rest:List ExceptHandler}{cv:Pd}{ni:Nat}{D:gI}(hstk:X.stack=X.env::X.outer/\X.env.frame=some X.env.locals)(I:Inv X π σ H1 s1)
  (h:iO X.prog X.w X.stack H1 s1 Ex ev s')(hg:Gl X c)(hm:X.mg c=some cv)(hx:∀C ox H',Ex (.ref C) ox H'->Ts X.K (.ref C) cv=some true)
  (hN:X.N.Nodup)(hi:X.N[ni]?=some n)(hlo:X.env.scope.names.lookup n=some .local)
  (hs:∀ea C dc ox H' s2,Ex (.ref C) ox H'->(ox=none∨ox=dc)->H' ea=none->Inv (DL.hand X ea) π (σ.set ni (some (.ref ea))) (upd H' ea (.ext (wZ ea C dc))) s2 ->
   PZ (PN X.prog X.w) (X.A.mark (some (.ref ea))) (execs (ba::suite) X.env) (SP (DL.hand X ea) π { nx:=λσ' H=>D.nx (σ'.set ni none) H,rt:=D.rt,bk:=λσ' H=>D.bk (σ'.set ni none) H,ct:=λσ' H=>D.ct (σ'.set ni none) H }) (λ_ _=>False) s2)
  (hdb:(c==("__debug__" : Pj))=false:=by decide) :
  PZ (PN X.prog X.w) X.A (noteFrame ev X.env) (λ_ si=>PZ (PN X.prog X.w) X.A (setFlight ev none) (λ_ sj=>
   PZ (PN X.prog X.w) X.A (handleBy ev X.env (.ExceptHandler (some (.Name c np)) (some n) (ba::suite) hpos::rest)) (SP X π D) X.xe sj) X.xe si) X.xe s':=by
 obtain⟨ea,C,a0,B,H',rfl,os,bare,un,hok,hne,fl,hB,ox,⟨dc,hdc,hox⟩,hE⟩:=h;have hA:X.A.frames=some (X.env::X.outer):=by rw[←hstk.1];exact I.ok.frames
 have fl0:=fl;rw[hstk.1]at fl;have hf1:∀b∈ip X.stack,H' b=none:=λb hb=>by
  obtain⟨_,o,ho,_⟩:=I.stack.mem hb;exact un.free b o ho (I.stkFree b hb) (by simp)
 have hnew:s1.heap.get? ea=none:=by
  cases q:s1.heap.get? ea with
  |none=>rfl
  |some o=>
   by_cases hb:ea∈ip X.stack
   .obtain⟨_,o',ho',hd⟩:=fl0.2.2.1.mem hb
    obtain⟨oe,vs,he,_,hd',_⟩:=fl0.first
    rw[ho']at he;cases he;exact absurd hd' (hd vs)
   .obtain⟨u,hu⟩:=hB ea hb (.inr ⟨o,q⟩)
    rw[fl.2.1]at hu;cases hu
 have inv:∀g,B.StaysIn g->s'.heap.UpToSlots g->Inv X π σ H' { s' with heap:=g }:=λg k up=>
  I.call' (ch:=[]) os (Un.fly un fl0.1 fl0.2.2.1 hB k up) (gO.fly hok hf1 fl0.1 hB k) bare (λ_ z=>nomatch z)
 have invx:∀g,B.StaysIn g->s'.heap.UpToSlots g->wZ ea C dc g->Inv X π σ (upd H' ea (.ext (wZ ea C dc))) { s' with heap:=g }:=λg k up p=>
  I.call' (ch:=[]) os (Un.ext (Un.fly un fl0.1 fl0.2.2.1 hB k up) hne hnew) (gO.ext (gO.fly hok hf1 fl0.1 hB k) hne p (let ⟨o,_,e,_⟩:=p;⟨o,e⟩) Ba) bare (λ_ z=>nomatch z)
 refine wm hA hstk.2 fl hdc λh4 held4 up4 dc4=>?_;refine wo held4 dc4 λh5 fl5 up5 dc5=>?_;have I5:Inv (DL.hand X ea) π σ H' { s' with heap:=h5 }:=Inv.hand (inv h5 fl5.1 (up4.trans up5));refine wpAny_handleBy_cons (codeAny_handlers_test ?_) (by intro q;cases q);refine iu I5 hg hm ?_ hdb;obtain⟨ob,hob,hoc⟩:=fl5.there;have LT:Su (PN X.prog X.w) h5 (typeOf (.ref ea)) (.ref C):=hoc▸(Su.ld hob).andThen .now;refine(W.exm_one I5.kIn LT (hx C ox H' hE)).here ?_;refine codeAny_handlers_suite_as ?_;refine wt fl5 dc5 λh6 fl6 up6 dc6=>?_;obtain⟨oe,vs,he,hc,hd,_⟩:=fl6.first
 have I6:Inv (DL.hand X ea) π σ (upd H' ea (.ext (wZ ea C dc))) { s' with heap:=h6 }:=Inv.hand (invx h6 fl6.1 ((up4.trans up5).trans up6) ⟨oe,vs,he,hc,hd,(by obtain⟨o6,e6,d6,_⟩:=dc6;rw[he]at e6;cases e6;exact d6)⟩);refine gS (X:=DL.hand X ea) (v:=.ref ea) I6 hN hi (.inl hlo) rfl (λs7 I7=>?_) (.inr hlo);refine QC (hs ea C dc ox H' s7 hE hox hne I7) (λf s8 h8=>?_) λ_ _ z=>z.elim;have hcls:(X.env.scope.kind==.class||(X.env.scope.kind==.module&&X.env.locals != X.env.globals))=false:=by rw[I.ok.kind];rfl
 have fin:∀{σ':L2.St}{H2:Hp}{Q:Unit->Pm->Prop},Inv (DL.hand X ea) π σ' H2 s8->(∀s9,Inv X π (σ'.set ni none) H2 s9->Q () s9) ->
   PZ (PN X.prog X.w) X.A (do bindName X.env n .none;unbindBehindTheSuite X.env n hpos) Q X.xe s8:=λ{σ' H2 Q} J q=>by
  have J':=il I.ok J;obtain⟨m,hn,hl⟩:=id J'.loc;exact wpAny_nameGoes_keeps hlo hn hcls λh' v hn' hs'=>q _ (Ez J' hN hi hl hn' hs')
 cases f with|next=>obtain⟨σ',H2,J,q⟩:=h8;exact fin J λs9 J9=>⟨_,H2,J9,q⟩|brk=>obtain⟨σ',H2,J,q⟩:=h8;exact fin J λs9 J9=>⟨_,H2,J9,q⟩|cont=>obtain⟨σ',H2,J,q⟩:=h8;exact fin J λs9 J9=>⟨_,H2,J9,q⟩|ret u=>obtain⟨v,σ',H2,J,r,q⟩:=h8;exact fin J λs9 J9=>⟨v,_,H2,J9,r,q⟩
end
def PA.nox{X:Cx}{es:List Qe}{t:TA}(h:PA X.nox es t):PA X es t:=λpos π s σ H Q I hw=>
 QC (h pos π s σ H Q (I.wish _) hw) (λ_ _ ⟨v,H',I',r,q⟩=>⟨v,H',I'.unwish,r,q⟩) λ_ _ z=>QE z
section
variable {X:Cx}{π:List (Pg×Obj)}{σ:L2.St}{H:Hp}{s:Pm}{CX:rR}{k:Nat}{f:Pg}{fd:Qo}{ps:bv}{sp:Sp}{Ex:XK}{x:Pj}{p pos:Pos}{e:Qe}{es:List Qe}{t:TA}
def zP{Q:VK}{XE:Pd->Pm->Prop}(F:FnOk X.prog X.w X.K X.mg X.base CX k f fd ps sp)(hr:dz k X.A)(hg:Gl X x)(hm:X.mg x=some (.ref f))(hk:R1 X.K (.ref f)=true)(hb:fV X.K fd ps [])(ha:PA X.nox (e::es) t)
  (I:Inv X π σ H s)(h:t σ H λvs H1=>sp vs H1 Q Ex)(hx:∀H1 s1 e s',Inv X π σ H1 s1->CX X.stack H1 s1 Ex e s'->XE e s')
  (hdb:(x==("__debug__" : Pj))=false:=by decide)(he:Po (e::es) X.env=(false,eval e X.env)::Po es X.env:=by exact aI rfl)(hpl:(Qy pos (Po es X.env)).any (·.1)=false:=by exact bB rfl) :
  PZ (PN X.prog X.w) X.A (eval (.Call (.Name x p) (e::es) [] pos) X.env) (EP X π σ Q) XE s:=by
 refine wpAny_Call_Name_kw (iu I hg hm ?_ hdb);have ha':PA (X.wish XE) (e::es) t:=PA.nox (X:=X.wish XE) ha;refine W.callWith_K (h₀:=X.base) I.ok.mod.kin hk (dw (ha' pos π s σ H _ (I.wish XE) h) λus s1 z9=>?_) he hpl;obtain⟨vs,H1,I1,r,q⟩:=z9;refine⟨I1.unwish.kIn,?_⟩;have I1:=I1.unwish;have hl:us.length=ps.length:=by rw[←r.length];exact F.len _ _ _ _ q
 have hb1:=hb s1 us I1.kIn (by simpa using hl);rw[Rr]at hb1;refine wpAny_call (codeAny_mono (F.run X.A X.stack s1 H1 ⟨us,[]⟩ us vs Q Ex hr I1.env0 hb1 r q) λr s' hq=>?_);cases r with
 |error e=>exact hx H1 s1 e s' I1 hq
 |ok fl=>
  cases fl with|ret u=>exact I1.after hq|next|brk|cont=>exact QE hq
end
def lA(K:Pl)(He η Ha:Hp)(r:aj Fl)(D:gI):Prop:=match r with
 |.exn _=>True
 |r=>cu K E0 He η Ha r D
def LH(K:Pl)(He η Ha:Hp)(σ:L2.St)(ρ:Ev)(r:aj Fl):XK:=λC ox H'=>∃x Ha',r=.exn x/\aF Ha Ha'/\fT K He η Ha' σ H' ρ/\wY K Ha' x C ox
structure TB (X:Cx) (st:QQ) (g:bd):Prop where
 o:∀(π:List (Pg×Obj)) (s:Pm) (σ:L2.St) (H He η Ha:Hp) (ρ:Ev) (D:gI) (XE:Pd->Pm->Prop),Inv X π σ H s->fT X.K He η Ha σ H ρ->lA X.K He η Ha (g ρ) D ->
  (∀H1 s1 e s',Inv X π σ H1 s1->iO X.prog X.w X.stack H1 s1 (LH X.K He η Ha σ ρ (g ρ)) e s'->XE e s')->PZ (PN X.prog X.w) X.A (exec st X.env) (SP X π D) XE s
def jS(i:Nat)(fa:Ev->aj (ac))(m:ac->aj D):bd:=λρ=>match fa ρ with
 |.ok ds=>(m ds).bind λd=>.ok (.nx (ρ.set i (.sh d)))
 |_=>.stuck
section
variable {X:Cx}{E:XK}{e:Qe}{es:List Qe}{fa:Ev->aj (ac)}{pos:Pos}
def Jk{i:Nat}{y:Pj}{pos':Pos}{k n:Nat}{fn:Pg}{fd:Qo}{ps:bv}{m:ac->aj D}{x:Pj}{p cpos:Pos}(hN:X.N.Nodup)(hi:X.N[i]?=some y)(hy:zT X.env.scope y)
  (F:FnOk X.prog X.w X.K X.mg X.base (iO X.prog X.w) k fn fd ps (spD X.K n m))(hr:dz k X.A)(hg:Gl X x)(hm:X.mg x=some (.ref fn))
  (hk:R1 X.K (.ref fn)=true)(hb:fV X.K fd ps [])(ha:DA X.nox E0 (e::es) fa)(hn:(e::es).length=n:=by rfl)(hl:∀ρ ds,fa ρ=.ok ds->ds.length=(e::es).length)
  (hdb:(x==("__debug__" : Pj))=false:=by decide)(he:Po (e::es) X.env=(false,eval e X.env)::Po es X.env:=by exact aI rfl)(hpl:(Qy cpos (Po es X.env)).any (·.1)=false:=by exact bB rfl)
  (hs:QK (.Call (.Name x p) (e::es) [] cpos) (some (.Name y pos')) pos.line X.env=pure false:=by rfl)
  (hf:X.fn y=true∨X.env.scope.names.lookup y=some .local := by first|exact .inl rfl|exact .inr rfl|assumption):TB X (.Assign [.Name y pos'] (.Call (.Name x p) (e::es) [] cpos) pos) (jS i fa m):=by
 refine⟨λπ s σ H He η Ha ρ D XE I h q hx=>?_⟩;refine wpAny_Assign_Name (dw (zP (Q:=λv H1=>D.nx (σ.set i (some v)) H1) F hr hg hm hk hb ha.o I ?_ hx hdb he hpl) λv s1 ⟨y,H1,I1,r1,q1⟩=>?_) hs
 .refine⟨Ha,ρ,h.g.sub,h.rd,?_⟩
  unfold jS at q ⊢;cases e1:fa ρ with
  |stuck=>rw[e1]at q;exact q|exn x=>rw[e1]at q;exact q.elim
  |ok ds=>
   rw[e1]at q;intro vs H1 H01 g1 r1;refine⟨?_,H01,ds,g1.sub,r1,?_⟩
   .have:=r1.length
    have:=hl ρ ds e1;omega
   .show post _ _ _ _ (m ds) _
    cases e2:m ds with
    |stuck=>simp only[e2]at q;exact q
    |exn x=>exact λC ox H' Ha' g ex=>⟨x,Ha',by simp only[e2];rfl,g1.z.trans g.z,h.grow (g1.trans g),ex⟩
    |ok d=>
     simp only[e2]at q;exact λv H' Ha' g rp=>q _ H' Ha' (g1.z.trans g.z) ((h.grow (g1.trans g)).put rp)
 .exact gS I1 hN hi hy r1 (λs2 I2=>⟨_,H1,I2,q1⟩) hf
def fT.drop{K:Pl}{He η Ha H:Hp}{σ:L2.St}{ρ:Ev}(h:fT K He η Ha σ H ρ){i:Nat}:fT K He η Ha (σ.set i none) H (ρ.set i .no):=by
 have key:∀(j:Nat) (s:Sl),(ρ.set i .no)[j]?=some s->s≠.no->j≠i/\ρ[j]?=some s:=λj s e hs=>by
  by_cases hj:i=j
  .subst hj
   rw[Sa]at e;cases q:ρ[i]? with|none=>rw[q]at e;cases e|some s'=>rw[q]at e;cases e;exact absurd rfl hs
  .rw[PD hj]at e
   exact⟨λz=>hj z.symm,e⟩
 refine⟨h.g,λj d' e=>?_,λj d' e=>?_,λj k d1 d2 hn e1 e2=>?_,by simp[h.ln],h.ex.upd (λj s e=>?_) (aF.refl _) (λa vs _ e=>e) λp us _ h0 hp _=>⟨hp,h0⟩⟩
 rotate_left 3
 .by_cases hs:s=.no
  .exact .inr (.inr (.inl hs))
  .obtain⟨hj,e'⟩:=key j s e hs
   exact .inl ⟨e',by rw[PD (Qq hj)]⟩
 .obtain⟨hj,e'⟩:=key j _ e (by simp)
  obtain⟨v',h1,h2⟩:=h.rd j d' e';exact⟨v',by rw[PD (Qq hj)];exact h1,h2⟩
 .obtain⟨hj,e'⟩:=key j _ e (by simp)
  obtain⟨a,h1,h2⟩:=h.ow j d' e';exact⟨a,by rw[PD (Qq hj)];exact h1,h2⟩
 .obtain⟨hj,e1'⟩:=key j _ e1 (by simp)
  obtain⟨hk,e2'⟩:=key k _ e2 (by simp);rw[PD (Qq hj),PD (Qq hk)];exact h.ap j k d1 d2 hn e1' e2'
def CN(ni:Nat)(r:Fl):aj Fl:=match r with
 |.nx ρ=>.ok (.nx (ρ.set ni .no))
 |.rt d=>.ok (.rt d)
 |.bk ρ=>.ok (.bk (ρ.set ni .no))
 |.ct ρ=>.ok (.ct (ρ.set ni .no))
def rK(x:IU):D:=match x.flds with
 |[]=>.exc x.cls
 |f::fs=>if((f::fs).map (·.1)).Nodup then .ob (.exf x.cls ((f::fs).map (·.1))) ((f::fs).map (·.2)) else .exc x.cls
theorem sL{β:Type}:∀{l:List (Pj×β)}{f:Pj}{d:β},(l.map (·.1)).Nodup->(f,d)∈l->l.lookup f=some d
 |(g,e)::l,f,d,nd,h=>by
  rw[Qr,Q8]at nd;rcases PL.mp h with h|h
  .cases h;rw[Q2,beq_self_eq_true]
  .have:f≠g:=λz=>nd.1 (z▸Qt.mpr ⟨(f,d),h,rfl⟩)
   rw[Q2,beq_eq_false_iff_ne.mpr this];exact sL nd.2 h
theorem we{K:Pl}{H:Hp}{fs:List (Pj×V)}:∀(l:List (Pj×D)),(∀n d,(n,d)∈l->∃v,fs.lookup n=some v/\Rep K H d v)->∃vs,Reps K H (l.map (·.2)) vs/\l.length=vs.length/\∀(i:Nat) (f:Pj) (v:V),(l.map (·.1))[i]?=some f->vs[i]?=some v->fs.lookup f=some v
 |[],_=>⟨[],Reps.nil_iff.mpr rfl,rfl,λi f v e=>by simp at e⟩
 |(n,d)::l,h=>by
  obtain⟨v,h1,h2⟩:=h n d P0;obtain⟨vs,h3,h4,h5⟩:=we l λn d hm=>h n d (Pw _ hm);refine⟨v::vs,aD.mpr ⟨v,vs,rfl,h2,h3⟩,by simp[h4],λi f w e1 e2=>?_⟩;cases i with|zero=>simp at e1 e2;rw[←e1,←e2];exact h1|succ i=>exact h5 i f w (by simpa using e1) (by simpa using e2)
def Dz{K:Pl}{H:Hp}{x:IU}{C ea:Pg}{ox dc:Option Pg}(xc:XC K x.cls C)(ex:wY K H x (.ref C) ox)(hox:ox=none∨ox=dc)(hne:H ea=none):Rep K (upd H ea (.ext (wZ ea C dc))) (rK x) (.ref ea):=by
 have plain:Rep K (upd H ea (.ext (wZ ea C dc))) (.exc x.cls) (.ref ea):=gC.mpr ⟨ea,C,dc,rfl,xc,.inl ay⟩;have sm:aF H (upd H ea (.ext (wZ ea C dc))):=λb o q=>by rw[ax (bj q hne)];exact q
 obtain⟨cls,flds⟩:=x;unfold rK;cases flds with
 |nil=>exact plain
 |cons f fs=>
  show Rep _ _ (if((f::fs).map (·.1)).Nodup then D.ob (.exf cls ((f::fs).map (·.1))) ((f::fs).map (·.2)) else .exc cls) _
  by_cases nd:((f::fs).map (·.1)).Nodup
  .rw[if_pos nd]
   obtain⟨_,hm⟩:=ex;cases ox with
   |none=>cases hm
   |some a=>
    obtain⟨gs,h1,h2⟩:=hm;have hdc:dc=some a:=by
     rcases hox with z|z
     .cases z
     .exact z.symm
    obtain⟨vs,k1,k2,k3⟩:=we (K:=K) (H:=H) (fs:=gs) (f::fs) λn d hmm=>h2 n d (sL nd hmm);exact cg.mpr ⟨ea,vs,rfl,⟨C,a,gs,xc,hdc▸.inl ay,sm _ _ h1,by rw[Ph];exact k2,k3⟩,k1.mono sm⟩
  .rw[if_neg nd];exact plain
def Ai(g:bd)(hit:Pj->Bool)(ni:Nat)(sh:bd):bd:=λρ=>match g ρ with
 |.exn x=>if hit x.cls=true then(sh (ρ.set ni (.sh (rK x)))).bind (CN ni) else .stuck
 |r=>r
def KZ{He η:Hp}{st ba:QQ}{suite:List QQ}{g sh:bd}{hit:Pj->Bool}{ni:Nat}{c n:Pj}{np hpos:Pos}{cv:Pd}(hstk:X.stack=X.env::X.outer/\X.env.frame=some X.env.locals)(hb:TB X st g)
  (hg:Gl X c)(hm:X.mg c=some cv)(hhit:∀x C,hit x=true->XC X.K x C->Ts X.K (.ref C) cv=some true)(hN:X.N.Nodup)(hi:X.N[ni]?=some n)(hlo:X.env.scope.names.lookup n=some .local)
  (hh:∀ea,yB (DL.hand X ea) E He η (ba::suite) sh)(hdb:(c==("__debug__" : Pj))=false:=by decide) :
  DS X E He η (.Try [st] [.ExceptHandler (some (.Name c np)) (some n) (ba::suite) hpos] [] [] pos) (Ai g hit ni sh):=by
 refine⟨?_⟩;intro π s σ H D I ⟨Ha,ρ,h,q⟩;have hq:lA X.K He η Ha (g ρ) D:=by
  unfold Ai at q;cases e1:g ρ with
  |exn x=>trivial|stuck=>rw[e1]at q;exact q
  |ok r=>rw[e1]at q;cases r<;>exact q
 refine wpAny_Try_except (wpAny_execs_cons (dw (hb.o π s σ H He η Ha ρ D _ I h hq λH1 s1 e s' I1 hc=>?_) λf s1 hf=>?_))
 .have hit1:∀x,g ρ=.exn x->hit x.cls=true:=λx e1=>by
   unfold Ai at q;rw[e1]at q
   by_cases z:hit x.cls=true
   .exact z
   .simp only[if_neg z]at q;exact q.elim
  refine K9 hstk I1 hc hg hm (λC ox H' ⟨x,Ha',e1,_,_,⟨⟨c',ec,xc⟩,_⟩⟩=>?_) hN hi hlo (λea C dc ox H' s2 ⟨x,Ha',e1,sm,srx,⟨⟨c',ec,xc⟩,hm2⟩⟩ hox hne I2=>?_) hdb
  .cases ec;exact hhit _ _ (hit1 x e1) xc
  .cases ec
   refine(hh ea).o π s2 _ _ _ I2 ⟨upd Ha' ea (.ext (wZ ea C dc)),ρ.set ni (.sh (rK x)),(srx.grow (aX srx.g.sub hne)).put (Dz xc ⟨⟨C,rfl,xc⟩,hm2⟩ hox (srx.g.sub.free hne)),?_⟩;have sm2:aF Ha (upd Ha' ea (.ext (wZ ea C dc))):=sm.trans (aX srx.g.sub hne).z;unfold Ai at q;rw[e1]at q;simp only[if_pos (hit1 x e1)]at q;cases e2:sh (ρ.set ni (.sh (rK x))) with
   |stuck|exn z=>rw[e2]at q;exact q
   |ok r=>
    rw[e2]at q;cases r with|nx ρ'=>exact λσ' H2 H02 s2 h2=>q _ H2 H02 (sm2.trans s2) (fT.drop h2)|rt d=>exact q|bk ρ'=>exact λσ' H2 H02 s2 h2=>q _ H2 H02 (sm2.trans s2) (fT.drop h2)|ct ρ'=>exact λσ' H2 H02 s2 h2=>q _ H2 H02 (sm2.trans s2) (fT.drop h2)
 .cases f with
  |next=>exact wpAny_execs_nil (wpAny_execs_nil hf)
  |brk=>exact hf
  |cont=>exact hf
  |ret u=>exact hf
end
structure Nh (k:Nat) (A:Qp):Prop where
 dp:A.depth+3*k+5<recursionLimit
 un:A.units+16*k+200<S0
def dz.h{k:Nat}{A:Qp}(r:dz k A):Nh k A:=⟨r.dp,r.un⟩
def qD(tab:Pj->Option Bool)(x:D):aj D:=match x with
 |.exc c=>(match tab c with
  |some b=>.ok (.bl b)
  |none=>.stuck)
 |.ob (.exf c _) _=>(match tab c with
  |some b=>.ok (.bl b)
  |none=>.stuck)
 |_=>.stuck
def oh(K:Pl)(tab:Pj->Option Bool)(cv:Pd):Prop:=∀c C b,tab c=some b->XC K c C->UY K (.ref C) cv=some b
section
variable {X:Cx}{E:XK}{e a:Qe}{es:List Qe}{f:am}{pos:Pos}{tab:Pj->Option Bool}
def Gr{cV:V}{cv:Pd}(hrel:∀u,bS cV u->u=cv)(ht:oh X.K tab cv):jc X (.builtin "isinstance") (λvs H Q=>∃c v b,vs=[v,cV]/\Rep X.K H (.exc c) v/\tab c=some b/\Q (.bl b) H):=by
 intro π s σ H xs us Q I r h;obtain⟨c,v,b,rfl,h1,h2,q⟩:=h;cases r with
 |cons r1 r2=>
  cases r2 with
  |cons r3 r4=>
   cases r4;rename_i u1 u2;obtain rfl:=hrel _ r3;obtain⟨ad,C,dc,rfl,hc,hr⟩:=gC.mp h1;cases (show u1=Qh ad from r1);obtain⟨p,_,_⟩:=hr.ok I.hok;exact Q1 (qc hc.ek hc.ek.isCls) I.kIn p (ht c C b h2 hc) (λz=>nomatch z) λtk=>⟨.bl b,H,I.tok _,rfl,q⟩
def Dh{cV:V}{σ:L2.St}{H:Hp}{Q:VK}(h:tD X.K E (aW f (qD tab)) σ H Q):tD X.K E f σ H λv H1=>∃c v' b,[v,cV]=[v',cV]/\Rep X.K H1 (.exc c) v'/\tab c=some b/\Q (.bl b) H1:=by
 obtain⟨Ha,ρ,hs,hr,q⟩:=h;refine⟨Ha,ρ,hs,hr,?_⟩;unfold aW at q;cases e1:f ρ with
 |stuck|exn x=>rw[e1]at q;exact q
 |ok d=>
  rw[e1]at q;intro v H1 H01 g1 r1;have q:post X.K E H Ha (qD tab d) Q:=q;cases d with
  |exc c=>
   unfold qD at q;cases e2:tab c with|none=>simp only[e2]at q;exact q.elim|some b=>simp only[e2]at q;exact⟨c,v,b,rfl,r1.mono g1.sub,e2,q _ H1 H01 g1 (rb _)⟩
  |ob k ds=>
   cases k with
   |exf c ks=>
    replace r1:=r1.exf_exc;unfold qD at q;cases e2:tab c with|none=>simp only[e2]at q;exact q.elim|some b=>simp only[e2]at q;exact⟨c,v,b,rfl,r1.mono g1.sub,e2,q _ H1 H01 g1 (rb _)⟩
   |_=>exact q.elim
  |_=>exact q.elim
def Eb{x:Pj}{p1 p2:Pos}{cV:V}{cv:Pd}(hrel:∀u,bS cV u->u=cv)(ht:oh X.K tab cv)(hc:PE X (.Name x p2) (tC cV))(hgi:Gl X "isinstance")(hmi:X.mg "isinstance"=none)(ha:DE X E a f)
  (he:Po [a,.Name x p2] X.env=(false,eval a X.env)::Po [.Name x p2] X.env:=by exact aI rfl)(he2:Po [.Name x p2] X.env=(false,eval (.Name x p2) X.env)::Po [] X.env:=by exact aI rfl)(hpl:(Qy pos (Po [.Name x p2] X.env)).any (·.1)=false:=by exact bB rfl) :
  DE X E (.Call (.Name "isinstance" p1) [a,.Name x p2] [] pos) (aW f (qD tab)):=by
 refine⟨?_⟩;exact bh (pP (Gr hrel ht) hgi hmi PyProof.Rows.Boot.«isinstance» (b8 ha.o (b8 hc dD he2) he) (by decide) (by decide) he hpl) λσ H Q h=>Dh h
def Bd{x:Pj}{p1 p2:Pos}{C:Pg}(hg:Gl X x)(hm:X.mg x=some (.ref C))(ht:oh X.K tab (.ref C))(hgi:Gl X "isinstance")(hmi:X.mg "isinstance"=none)(ha:DE X E a f)(hdb:(x==("__debug__" : Pj))=false:=by decide)
  (he:Po [a,.Name x p2] X.env=(false,eval a X.env)::Po [.Name x p2] X.env:=by exact aI rfl):DE X E (.Call (.Name "isinstance" p1) [a,.Name x p2] [] pos) (aW f (qD tab)) :=
 Eb (cV:=.ref C) (λu h=>h) ht (yW hg hm rfl hdb) hgi hmi ha he
def Be{x:Pj}{p1 p2:Pos}{T:String}(hg:Gl X x)(hm:X.mg x=none)(hv:bootBuiltins x=some (.type T))(ht:oh X.K tab (.type T))(hgi:Gl X "isinstance")(hmi:X.mg "isinstance"=none)(ha:DE X E a f)(hn:x≠"__name__":=by decide)(hdb:(x==("__debug__" : Pj))=false:=by decide)
  (he:Po [a,.Name x p2] X.env=(false,eval a X.env)::Po [.Name x p2] X.env:=by exact aI rfl):DE X E (.Call (.Name "isinstance" p1) [a,.Name x p2] [] pos) (aW f (qD tab)) :=
 Eb (cV:=.ty T) (λu h=>h) ht (yY hg hm hv rfl hn hdb) hgi hmi ha he
end
end DL
namespace DL
open PySem PySem.Spec PyProof.Rows L2 PySem.W
structure lS (K:Frag) (x:Pj) (C:Pg):Prop where
 ns:nsIn K PK x=some (some (.ref C))
 ty:typeIn K (.ref C)=some (.type "type")
 ob:mroIn K C (.type "object")=some true
 be:subIn K (.ref C) (.type "BaseException")=some true
def lS.isCls{K:Frag}{x:Pj}{C:Pg}(Z:lS K x C):(clsIn K C).isSome=true:=by
 obtain⟨cd,a,b⟩:=Uv.mp Z.ob;rw[a];rfl
def lS.kitCls{K:Frag}{x:Pj}{C:Pg}(Z:lS K x C){t:Pd}:W.kitCls K t (.ref C)=subIn K t (.ref C):=by
 show(if((clsIn K C).isSome&&typeIn K (.ref C)==some (.type "type"))=true then subIn K t (.ref C) else none)=_;rw[Z.isCls,Z.ty];rfl
def lS.exm{K:Frag}{x:Pj}{C:Pg}(Z:lS K x C){t:Pd}{b:Bool}(h:subIn K t (.ref C)=some b):exmOne K t (.ref C)=some b:=by
 unfold exmOne;rw[Z.be,if_pos (by decide),Z.kitCls,h]
def lS.kit{K:Frag}{x:Pj}{C R:Pg}(Z:lS K x C){b:Bool}(hR:subIn K (.ref R) (.ref R)=some true)(h:subIn K (.ref R) (.ref C)=some b):kitOne K (.ref R) (.ref C)=some b:=by
 unfold kitOne
 by_cases e:(Qh R==Qh C)=true
 .rw[if_pos e]
  cases (Qh.inj (beq_iff_eq.mp e));rw[←hR,h]
 .rw[if_neg e,Z.kitCls,h]
def xR{K:Frag}{C:Pg}{T:String}{b:Bool}(hm:kitMeta T=true)(h:subIn K (.ref C) (.type T)=some b):kitOne K (.ref C) (.type T)=some b:=by
 unfold kitOne;rw[if_neg (by intro z;cases beq_iff_eq.mp z)];show(if kitMeta T=true then subIn K (.ref C) (.type T) else none)=_;rw[if_pos hm,h]
def nT:∀T∈gG,kitMeta T=true:=by decide +kernel
def xS:kitMeta "ValueError"=true:=by decide +kernel
def XC.inj{K:Frag}{x:Pj}{C C':Pg}(a:XC K x C)(b:XC K x C'):C=C':=by
 have:=a.ns.symm.trans b.ns;simpa using this
def lg:List (Pj×Bool)->Pj->Option Bool
 |[],_=>none
 |(x,b)::r,c=>if x=c then some b else lg r c
theorem iR{K:Frag}{p:Pj->Pg->Bool->Prop}:∀{l:List (Pj×Bool)},(∀q∈l,∃C,XC K q.1 C/\p q.1 C q.2)->∀c C b,lg l c=some b->XC K c C->p c C b
 |[],_,c,C,b,h,_=>by cases h
 |(x,v)::r,H,c,C,b,h,xc=>by
  unfold lg at h
  by_cases e:x=c
  .subst e
   rw[if_pos rfl]at h;cases h;obtain⟨C',xc',q⟩:=H _ P0;obtain rfl:=XC.inj xc xc';exact q
  .rw[if_neg e]at h
   exact iR (λq hq=>H q (Pw _ hq)) c C b h xc
def iA(l:List (Pj×Bool))(c:Pj):Bool:=lg l c==some true
def Dl{K:Frag}{l:List (Pj×Bool)}{cv:Pd}(H:∀q∈l,∃C,XC K q.1 C/\exmOne K (.ref C) cv=some q.2):∀x C,iA l x=true->XC K x C->exmOne K (.ref C) cv=some true:=λx C h xc=>
 iR (p:=λ_ C b=>exmOne K (.ref C) cv=some b) H x C true (by unfold iA at h;exact beq_iff_eq.mp h) xc
end DL
namespace Com
open PySem L2 DL
section
variable {α β:Type}
def iL{x:IU}{f:α->aj β}:(aj.exn x:aj α).bind f=.exn x:=aV rfl
end
def Fc(hit:Pj->Bool)(ni:Nat)(sh:bd)(ρ:Ev)(r:aj Fl):aj Fl:=match r with
 |.exn x=>if hit x.cls=true then(sh (ρ.set ni (.sh (rK x)))).bind (CN ni) else .stuck
 |r=>r
def DB{g:bd}{hit:Pj->Bool}{ni:Nat}{sh:bd}{ρ:Ev}:Ai g hit ni sh ρ=Fc hit ni sh ρ (g ρ):=aV rfl
def GD{hit:Pj->Bool}{ni:Nat}{sh:bd}{ρ:Ev}{r:Fl}:Fc hit ni sh ρ (.ok r)=.ok r:=aV rfl
def Kx{ni:Nat}{ρ:Ev}:CN ni (.nx ρ)=.ok (.nx (ρ.set ni .no)):=aV rfl
def Ig(i:Nat)(m:ac->aj D)(ρ:Ev)(r:aj (ac)):aj Fl:=match r with
 |.ok ds=>(m ds).bind (Fv i ρ)
 |_=>.stuck
def iB{i:Nat}{fa:Ev->aj (ac)}{m:ac->aj D}{ρ:Ev}:jS i fa m ρ=Ig i m ρ (fa ρ):=aV rfl
def gz{i:Nat}{m:ac->aj D}{ρ:Ev}{ds:ac}:Ig i m ρ (.ok ds)=(m ds).bind (Fv i ρ):=aV rfl
end Com
namespace DL
open PySem PySem.Spec PyProof.Rows L2
section
variable {X:Cx}{π:List (Pg×Obj)}{σ:L2.St}{H:Hp}{s:Pm}{h':PF}
def zZ{t':Nat}{fp:List Pg}{T:Pg}{xs:al}(I:Inv X π σ H s)(k:∀b o,b∉fp->s.heap.get? b=some o->h'.get? b=some o)(hf:∀b∈fp,nE X π H b)(hT:s.heap.objs.size<=T)
  (new:c7 X.prog X.w (upd H T (.tup xs)) h' T (.tup xs)):Inv X π σ (upd H T (.tup xs)) { s with heap:=h',toks:=t' }:=by
 have hn:H T=none:=I.hok.fresh hT;have nit:∀b u,H b=some u->b∉fp:=λb u e z=>by rw[(hf b z).1]at e;cases e
 refine I.step (g':=s.gens) (d':=s.drawn) (ch:=fp) (λb hb=>?_) (λb o _ _ hc e _=>k b o hc e) (λb o _ _ hc e _=>⟨o.slots,k b o hc e⟩) (λb o _ e n=>?_)
  (λb o hc e=>⟨o,k b o hc e⟩) (λb xs e=>by rw[ax (bj e hn)];exact e) (λb o u e=>by rw[ax (bj e hn)];exact e) (λb ps e=>⟨#[],by rw[ax (bj e hn),e];simp⟩) (λm hm=>?_) (λb u e=>?_) I.bare
 .obtain⟨_,f1,_,f3,f4,f5⟩:=hf b hb
  exact⟨f3,f1,f4,f5⟩
 .rw[ax (Qg (Py (PM e) hT))];exact n
 .obtain⟨o,es,ep,ho,r⟩:=hm
  exact⟨o,es,ep,k _ o (λz=>(hf _ z).2.1 rfl) ho,r⟩
 .by_cases hb:b=T
  .subst hb;rw[ay]at e;cases e;exact new
  .rw[ax hb]at e
   refine(I.hok b u e).stay (λc v hc q=>k c v ?_ q) (λc q=>by rw[ax (bj q hn)];exact q) λc xs q=>by rw[ax (bj q hn)];exact q
   rcases hc with z|z
   .rw[z];exact nit b u e
   .exact nit c _ z
def E8{t':Nat}{fp:List Pg}(I:Inv X π σ H s)(k:∀b o,b∉fp->s.heap.get? b=some o->h'.get? b=some o)(hf:∀b∈fp,nE X π H b):Inv X π σ H { s with heap:=h',toks:=t' }:=by
 have nit:∀b u,H b=some u->b∉fp:=λb u e z=>by rw[(hf b z).1]at e;cases e
 refine I.step (g':=s.gens) (d':=s.drawn) (ch:=fp) (λb hb=>?_) (λb o _ _ hc e _=>k b o hc e) (λb o _ _ hc e _=>⟨o.slots,k b o hc e⟩) (λb o _ e n=>n)
  (λb o hc e=>⟨o,k b o hc e⟩) (λb xs e=>e) (λb o u e=>e) (λb ps e=>⟨#[],by rw[e];simp⟩) (λm hm=>?_) (λb u e=>?_) I.bare
 .obtain⟨_,f1,_,f3,f4,f5⟩:=hf b hb
  exact⟨f3,f1,f4,f5⟩
 .obtain⟨o,es,ep,ho,r⟩:=hm
  exact⟨o,es,ep,k _ o (λz=>(hf _ z).2.1 rfl) ho,r⟩
 .refine(I.hok b u e).stay (λc v hc q=>k c v ?_ q) (λ_ q=>q) λ_ _ q=>q
  rcases hc with z|z
  .rw[z];exact nit b u e
  .exact nit c _ z
end
def OM(K:Pl)(a:Pg):It :=
 ⟨λi H=>∃xs x,gJ K H a xs/\xs[i]?=some x,λi H x H'=>∃p y,H p=none/\x=.ref p/\(∀xs,gJ K H a xs->xs[i]?=some y)/\H'=upd H p (.tup [.int i,y]),λi H=>∃xs,gJ K H a xs/\xs.length<=i⟩
def z8{P:Qi}{w:Qv}{K:Pl}{elts:List Qe}{k:Nat}{pos:Pos}(a it e:Pg)(hne:e≠it)(hae:a≠e)(hai:a≠it) :
  Bq P w K (.Tuple elts k pos) (OM K a) [e,it] e (λi h=>(∃old,IsEnum h e it i old)/\h.IsListIter it a i) where
 mem:=by simp
 obj:=λi h st b hb=>by
  obtain⟨⟨old,he⟩,o,h1,h2,h3⟩:=st;rcases PL.mp hb with rfl|hb
  .exact⟨_,he,λv z=>by cases z⟩
  .rcases PL.mp hb with rfl|hb
   .exact⟨o,h1,λv z=>by rw[h3]at z;cases z⟩
   .cases hb
 keep:=λi h h' st k=>by
  obtain⟨⟨old,he⟩,hi⟩:=st;exact⟨⟨old,k e (by simp) _ he⟩,hi.at λo y=>k it (by simp) o y⟩
 item:=by
  intro X hP hw hK hc i π s σ H E I hf st hg;subst hP hw hK;obtain⟨xs,x,hq,hx⟩:=hg;obtain⟨its,rv,p,hz⟩:=I.list hq;obtain⟨u,hu,ru⟩:=rv.get hx;have W:=WalksT.enumerate (prog:=X.prog) (w:=X.w) (I.ok.hd hc) e it a hne hae hai its.toArray;have hil:i<its.toArray.size:=by simpa using (PJ.mp hu).1
  refine W.item i s _ _ hil ⟨st.1,st.2,p.isList⟩ λT vals h' tk hPt hT hTup hMid hk=>?_;refine⟨_,rfl,W.go elts k pos i T _ _ _ hMid λh'' st'' hk''=>?_⟩;obtain⟨t,y,hy,rfl⟩:=hPt;have hyu:y=u:=by
   have:its[i]?=some y:=by simpa using hy
   rw[hu]at this;cases this;rfl
  subst hyu;obtain⟨o,ho,hr⟩:=hTup;have ho':=hk'' T o (W.apart i T _ hMid) ho;refine⟨.ref T,upd H T (.tup [.int i,x]),zZ (s:=s) (h':=h'') (t':=tk) I (λb o hb e=>hk'' b o hb (hk b o hb e)) hf hT ⟨by show 2<=sizeLine;decide,[.int i t,y],.cons ⟨t,rfl⟩ (.cons ru .nil),o,ho',hr⟩,rfl,⟨T,x,I.hok.fresh hT,rfl,λys hy=>by rw[I.list_inj hy hq];exact hx,rfl⟩,⟨st''.1,st''.2.1⟩,λb hb=>?_⟩;have hb0:=(hf b hb).1;obtain⟨ob,hob,_⟩:∃o,s.heap.get? b=some o/\∀v,o.data≠.cell v:=by
   obtain⟨⟨old,he⟩,o,h1,h2,h3⟩:=st;rcases PL.mp hb with rfl|hb
   .exact⟨_,he,λv z=>by cases z⟩
   .rcases PL.mp hb with rfl|hb
    .exact⟨o,h1,λv z=>by rw[h3]at z;cases z⟩
    .cases hb
  rw[ax (Qg (Py (PM hob) hT))];exact hb0
 done:=by
  intro X hP hw hK hc i π s σ H E I hf st hg;subst hP hw hK;obtain⟨xs,hq,hx⟩:=hg;obtain⟨its,rv,p,hz⟩:=I.list hq;have hl:=rv.length;obtain⟨⟨old,he⟩,hi⟩:=st;exact wpAny_pyNext_enum_end (I.ok.hd hc) he hi p.isList (by simp;omega) λh' hx=>⟨rfl,E8 (t':=s.toks) I (λb o hb e=>hx b o (λz=>hb (by simp[z])) e) hf⟩
 self:=λ_ _ _ _ _ st h=>by
  obtain⟨⟨old,he⟩,_⟩:=st;exact wpAny_pyIter_enum he h
section
variable {X:Cx}{E:XK}{elts:List Qe}{k:Nat}{tp:Pos}{e a b:Qe}{f g:am}
def MG(K:Pl)(ta:TA):TI:=λσ H R=>ta σ H λvs H1=>∃a,vs=[.ref a]/\(∃xs,gJ K H1 a xs)/\R (OM K a) H1
def FN{ta:TA}{p pos:Pos}(hg:Gl X "enumerate")(hm:X.mg "enumerate"=none)(ha:PA X [a] ta)(hs:Po [a] X.env=[(false,eval a X.env)]:=by rfl):PI X (.Tuple elts k tp) (.Call (.Name "enumerate" p) [a] [] pos) (MG X.K ta):=by
 intro π s σ H R I h;refine Call_ (pZ I hg hm PyProof.Rows.Boot.«enumerate» (Sv (dw (ha pos π s σ H _ I h) λus s1 z9=>?_) hs rfl));obtain⟨vs,H1,I1,r1,q1⟩:=z9;obtain⟨l,e,⟨xs,hq⟩,q⟩:=q1;subst e;cases r1 with
 |cons r rr=>
  cases rr;cases r;obtain⟨its,rv,p,hz⟩:=I1.list hq;have hlt:l<s1.heap.objs.size:=by obtain⟨o,n,e,_⟩:=p;exact PM e
  refine call_enumerate_list p.isList λh' he hi hsz hk=>?_;refine wpAny_pyIter_enum he ?_;refine⟨s1.heap.objs.size+1,[s1.heap.objs.size+1,s1.heap.objs.size],_,_,H1,rfl,I1.kept (t':=s1.toks) hk,z8 l s1.heap.objs.size (s1.heap.objs.size+1) (Nat.succ_ne_self _) (Qg (Nat.lt_succ_of_lt hlt)) (Qg hlt),⟨⟨_,he⟩,hi⟩,λb hb=>?_,q⟩;have hb':s1.heap.objs.size<=b:=by
   rcases PL.mp hb with rfl|hb
   .omega
   .rcases PL.mp hb with rfl|hb
    .exact P9 _
    .cases hb
  exact I1.fpOk hb' (I1.hok.fresh hb')
def numbered(n:Nat):ac->ac
 |[]=>[]
 |d::ds=>.tup [.int n,d]::numbered (n+1) ds
theorem jf:∀(ds:ac) (n:Nat),(numbered n ds).length=ds.length
 |[],_=>rfl
 |d::ds,n=>by simp[numbered,jf ds]
theorem jg:∀(ds:ac) (n i:Nat),(numbered n ds)[i]?=(ds[i]?).map λd=>D.tup [.int (n+i:Nat),d]
 |[],_,_=>by simp[numbered]
 |d::ds,n,0=>by simp[numbered]
 |d::ds,n,i+1=>by simp only[numbered,QP];rw[jg ds (n+1) i,show n+1+i=n+(i+1) by omega]
def pk(f:am):Ev->aj (ac):=λρ=>(f ρ).bind λd=>match d with
 |.lst ds=>.ok (numbered 0 ds)
 |_=>.stuck
def Fb{K:Pl}{H Ha:Hp}{p:Pg}{vs:al}{ds:ac}(hs:aF Ha H)(hp:H p=none)(r:Reps K Ha ds vs):∃H₀2,bq H Ha (upd H p (.tup vs)) H₀2/\Rep K H₀2 (.tup ds) (.ref p) :=
 ⟨upd Ha p (.tup vs),aX hs hp,aJ.mpr ⟨p,vs,rfl,lT.of ay,r.mono (aX (o:=.tup vs) hs hp).z⟩⟩
def uR{p pos:Pos}(hg:Gl X "enumerate")(hm:X.mg "enumerate"=none)(h:DE X E a f)(hn:Lm a=true:=by exact rfl):DI X E (.Tuple elts k tp) (.Call (.Name "enumerate" p) [a] [] pos) (pk f):=by
 refine⟨oP (FN hg hm (b8 h.o dD (iS hn)) (iS hn)) λσ H R z9=>?_⟩;obtain⟨Ha,ρ,hs,hr,q⟩:=z9;refine⟨Ha,ρ,hs,hr,?_⟩;unfold pk at q;cases e1:f ρ with
 |stuck|exn x=>rw[e1]at q;exact q
 |ok d=>
  rw[e1]at q;intro v H1 H01 g1 r1;cases d with
  |lst ds=>
   obtain⟨l,vs,rfl,hv,hrv⟩:=aH.mp r1;refine⟨l,rfl,⟨vs,aF.sqL g1.sub hv⟩,q _ H1 H01 g1 ⟨λi H' Ha' s1 s2 hi=>?_,λi H' Ha' x H2 d s1 s2 hd hy=>?_,λi H' Ha' s1 s2 hi=>?_⟩⟩
   .rw[jf]at hi
    exact⟨vs,vs[i]'(by rw[←hrv.length];exact hi),aF.sqL (s1.trans s2) hv,by simp⟩
   .obtain⟨p,y,hp,rfl,hy,rfl⟩:=hy
    rw[jg]at hd;cases ei:ds[i]? with
    |none=>rw[ei]at hd;cases hd
    |some d'=>
     rw[ei]at hd;cases hd;obtain⟨u,k1,k2⟩:=hrv.get ei;have:=hy vs (aF.sqL (s1.trans s2) hv);rw[k1]at this;cases this;exact Fb s2 hp (Reps.cons (az.mpr (by simp)) (Reps.cons (k2.mono s1) Reps.nil))
   .rw[jf]at hi
    exact⟨vs,aF.sqL (s1.trans s2) hv,by rw[←hrv.length];exact hi⟩
  |_=>exact q.elim
end
def nh(f:Pj):bv->ac->Option D
 |k::ks,d::ds=>if f=k then some d else nh f ks ds
 |_,_=>none
theorem uJ{K:Pl}{H:Hp}{f:Pj}:∀{ks:bv}{ds:ac}{vs:al}{d:D},ks.length=vs.length->Reps K H ds vs->nh f ks ds=some d->∃v,(ks.zip vs).lookup f=some v/\Rep K H d v/\f∈ks
 |[],ds,vs,d,_,_,h=>by unfold nh at h;cases h
 |k::ks,[],vs,d,_,_,h=>by unfold nh at h;cases h
 |k::ks,x::ds,vs,d,hl,r,h=>by
  obtain⟨v,r',rfl,r1,r2⟩:=aD.mp r;unfold nh at h
  by_cases c:f=k
  .rw[if_pos c]at h
   cases h;exact⟨v,by rw[RI,Q2,beq_iff_eq.mpr c],r1,by rw[c];exact P0⟩
  .rw[if_neg c]at h
   obtain⟨u,h1,h2,h3⟩:=uJ (by simpa using hl) r2 h;exact⟨u,by rw[RI,Q2,beq_eq_false_iff_ne.mpr c];exact h1,h2,Pw _ h3⟩
def gb(f:Pj)(x:D):aj D:=match x with
 |.ob (.ins c ks) ds=>match nh f ks ds with
  |some d=>.ok d
  |none=>.stuck
 |_=>.stuck
section
variable {X:Cx}{E:XK}{e a b o:Qe}{es:List Qe}{fe fo:am}{fa:Ev->aj (ac)}{pos:Pos}
def fO{f:Pj}(he:DE X E e fe)(hb:QN e f X.env (eval e X.env)=eval e X.env:=by rfl):DE X E (.Attribute e f pos) (aW fe (gb f)):=by
 refine⟨bh (CG he.o hb) λσ H Q z9=>?_⟩;obtain⟨Ha,ρ,hs,hr,q⟩:=z9;refine⟨Ha,ρ,hs,hr,?_⟩;unfold aW at q;cases e1:fe ρ with
 |stuck|exn x=>rw[e1]at q;exact q
 |ok d=>
  rw[e1]at q;intro v H1 H01 g1 r1;replace q:post X.K E H Ha (gb f d) Q:=q;unfold gb at q;cases d with
  |ob k ds=>
   cases k with
   |ins c ks=>
    replace q:post X.K E H Ha (match nh f ks ds with|some d=>aj.ok d|none=>.stuck) Q:=q;cases e2:nh f ks ds with
    |none=>rw[e2]at q;exact q.elim
    |some d=>
     rw[e2]at q;obtain⟨p,vs,rfl,⟨C,dx,h0,h1,h2,h3⟩,h4⟩:=cg.mp r1;obtain⟨u,k1,k2,k3⟩:=uJ h3 h4 e2;exact⟨p,C,dx,_,u,rfl,g1.sub _ _ h2,h1.cls,h1.no f k3,k1,q u H1 H01 g1 k2⟩
   |_=>exact q.elim
  |_=>exact q.elim
def putAll:bv->al->List (Pj×V)->List (Pj×V)
 |f::fs,v::vs,l=>putAll fs vs (eN f v l)
 |_,_,l=>l
theorem lZ{f:Pj}{v:V}:∀{l:List (Pj×V)},f∉l.map (·.1)->eN f v l=l++[(f,v)]
 |[],_=>rfl
 |(k,x)::l,h=>by
  simp only[Qr,PL,not_or]at h;unfold eN;rw[if_neg (λz=>h.1 z.symm),lZ h.2];rfl
theorem pJ:∀{fs:bv}{vs:al}{l:List (Pj×V)},fs.Nodup->(∀f∈fs,f∉l.map (·.1))->fs.length=vs.length->putAll fs vs l=l++fs.zip vs
 |[],[],l,_,_,_=>by simp[putAll]
 |[],v::vs,l,_,_,h=>by simp at h
 |f::fs,[],l,_,_,h=>by simp at h
 |f::fs,v::vs,l,nd,hn,h=>by
  rw[Q8]at nd;unfold putAll;rw[lZ (hn f P0),pJ nd.2 (λg hg=>?_) (by simpa using h),RI,Rx]
  .rfl
  .simp only[Qx,Qr,SX,Q9,Qd,not_or]
   exact⟨hn g (Pw _ hg),λz=>nd.1 (z▸hg)⟩
def va{H:Hp}{a:Pg}{o:HO}(h:H a=some o):upd H a o=H:=by
 funext b
 by_cases hb:b=a
 .subst hb;rw[ay,h]
 .rw[ax hb]
def mQ{H:Hp}{a:Pg}{o u:HO}:upd (upd H a o) a u=upd H a u:=by
 funext b
 by_cases hb:b=a
 .subst hb;rw[ay,ay]
 .rw[ax hb,ax hb,ax hb]
theorem pI{f:Pj}{v:V}:∀{l:List (Pj×V)},(eN f v l).length<=l.length+1
 |[]=>by simp[eN]
 |(k,x)::l=>by
  unfold eN;split
  .simp
  .have:=pI (f:=f) (v:=v) (l:=l)
   simp;omega
end
structure Ni (K:Pl) (x:Pj) (ks:bv) (C:Pg):Prop where
 ns:QM K PK x=some (some (.ref C))
 recC:Lh K ks C
def noL_nil{K:Pl}{C:Pg}:∀f∈([]:bv),eh K C f:=λ_ h=>nomatch h
def noL_cons{K:Pl}{C:Pg}{f:Pj}{ks:bv}(h:QW K (.ref C) f=some none)(r:∀f∈ks,eh K C f):∀g∈f::ks,eh K C g:=λg hg=>by
 rcases PL.mp hg with rfl|hg
 .exact h
 .exact r g hg
def Fz{K:Pl}{x:Pj}{ks:bv}{C:Pg}(ns:QM K PK x=some (some (.ref C)))(pg:Td K C Sn=true)(hd:RF K C=true)(po:TU K C=true)(sa:QW K (.ref C) "__setattr__"=some (some (.builtin "object.__setattr__")))
  (gc:QW K (.ref C) "__class__"=some (some (.builtin "object.__class__")))(gn:SI K (.builtin "object.__class__") "__get__"=some (some (.builtin "getset_descriptor.__get__")))(tk:Uq K (.builtin "object.__class__")=some true)(mo:Uy K C (.type "object")=some true)
  (t1:Ra K (.ref C) (.type "NoneType")=some false)(t2:Ra K (.ref C) (.type "bool")=some false)(t3:Ra K (.ref C) (.type "int")=some false)(t4:Ra K (.ref C) (.type "str")=some false)(t5:Ra K (.ref C) (.type "tuple")=some false)
  (t6:Ra K (.ref C) (.type "list")=some false)(t7:Ra K (.ref C) (.type "dict")=some false)(no:∀f∈ks,eh K C f):Ni K x ks C :=
 ⟨ns,⟨⟨pg,hd,po,sa⟩,no,gc,gn,tk,mo,λT hT=>by
  refine xR (nT T hT) ?_;simp only[gG,PL,QT,or_false]at hT;rcases hT with rfl|rfl|rfl|rfl|rfl|rfl|rfl
  .exact t1
  .exact t2
  .exact t3
  .exact t4
  .exact t5
  .exact t6
  .exact t7⟩⟩
end DL
namespace Com
open PySem L2 DL
def IA(tg:Ev->D->aj Ev)(s:bd)(ρ:Ev)(ds:ac):aj Fl:=ef tg s ds ρ
def Ic(d:D):aj (ac):=match d with
 |.lst ds=>.ok (numbered 0 ds)
 |_=>.stuck
def Ib(d:D):aj (ac):=match d with
 |.lst ds=>.ok ds
 |_=>.stuck
def jN(n:Nat)(fr:ci)(tg:Ev->D->aj Ev)(tt fe:am)(ρ:Ev)(ds:ac):aj D:=if ds.length<=line then match bX (dq n fr ρ) tg tt fe ds with
  |.ok es=>.ok (.lst es)
  |_=>.stuck
 else .stuck
def Dt(tg:Ev->D->aj Ev)(s:bd)(ρ:Ev)(d:D):aj Fl:=match d with
 |.int j=>if -4611686018427387904<=j/\j<4611686018427387904 then ef tg s (intsFrom 0 j.toNat) ρ else .stuck
 |_=>.stuck
section
variable {s t:bd}{f g h:am}{src:Ev->aj (ac)}{fa:Ev->aj (ac)}{ρ r:Ev}{i j n:Nat}{d x y:D}{ds es xs:ac}{a b:Int}{tg:Ev->D->aj Ev}{tt fe:am}{fr:ci}
def Hl:lX src tg s ρ=(src ρ).bind (IA tg s ρ):=aV rfl
def DU:IA tg s ρ ds=ef tg s ds ρ:=aV rfl
def GG:pk f ρ=(f ρ).bind Ic:=aV rfl
def DD:Ic (.lst ds)=.ok (numbered 0 ds):=aV rfl
def GF:xp f ρ=(f ρ).bind Ib:=aV rfl
def DC:Ib (.lst ds)=.ok ds:=aV rfl
def zD:eW n fr src tg tt fe ρ=(src ρ).bind (jN n fr tg tt fe ρ):=aV rfl
def DR{is:ci}(h:(ds.length==is.length)=true):k7 is ρ (.tup ds)=.ok (eU ρ is ds):=by
 show(match (if ds.length=is.length then some ds else none) with|some ds=>aj.ok (eU ρ is ds)|none=>.stuck)=_;rw[if_pos (eq_of_beq h)]
def zC:pE f tg s ρ=(f (kE ρ)).bind (Dt tg s ρ):=aV rfl
def wc{k:Nat}(h:k<=1000000):Dt tg s ρ (.int (k:Int))=ef tg s (intsFrom 0 k) ρ:=by
 unfold Dt;dsimp only;rw[if_pos ⟨by omega,by omega⟩,Ry]
def eA{x y:Pj}(h:decide (x.length+y.length<=1000)=true):bf (.str x) (.str y)=.ok (.str (x++y)):=if_pos (PB (of_decide_eq_true h) (by decide))
def qF{F:D->D}(hl:ds.length<=1000000)(h:∀d∈ds,∃ρ1,tg (dq n fr ρ) d=.ok ρ1/\tt ρ1=.ok (.bl true)/\fe ρ1=.ok (F d)):jN n fr tg tt fe ρ ds=.ok (.lst (ds.map F)):=by
 unfold jN;rw[if_pos (show ds.length<=line from hl),tm h]
theorem n6{B:Ev}{F:D->D}{p:D->Bool}:∀{ds:ac},(∀d∈ds,∃ρ1,tg B d=.ok ρ1/\tt ρ1=.ok (.bl (p d))/\(p d=true->fe ρ1=.ok (F d)))->bX B tg tt fe ds=.ok ((ds.filter p).map F)
 |[],_=>rfl
 |d::ds,h=>by
  obtain⟨ρ1,h1,h2,h3⟩:=h d P0;have ih:=n6 (ds:=ds) λd hd=>h d (Pw _ hd);unfold bX;rw[h1,Ei,h2,Ei];cases hp:p d with
  |true=>
   show(fe ρ1).bind _=_;rw[h3 hp,Ei,ih,Ei,SU hp];rfl
  |false=>
   show bX B tg tt fe ds=_;rw[ih,SV (by rw[hp];decide)]
def nY{F:D->D}{p:D->Bool}(hl:ds.length<=1000000)(h:∀d∈ds,∃ρ1,tg (dq n fr ρ) d=.ok ρ1/\tt ρ1=.ok (.bl (p d))/\(p d=true->fe ρ1=.ok (F d))):jN n fr tg tt fe ρ ds=.ok (.lst ((ds.filter p).map F)):=by
 unfold jN;rw[if_pos (show ds.length<=line from hl),n6 h]
end
end Com
def Nq:=(b6 (b6 (b6 @Hl @DU) (b6 @GG (b6 @DD @GF))) (b6 (b6 @DC @zD) (b6 @DR (b6 @zC @eA))))
local macro_rules|`(tactic|open_line with[$xs,*])=>`(tactic|simp only[Lj,Nq,Qr,SX,PU,RL,QB,Ta,Qj,Qc,Sd,QP,Th,Ti,Tz,Nat.reduceSub,Nat.reduceAdd,UI,Tw,PC,Px,decide_true,decide_false,Nat.reduceLeDiff,Nat.reduceBEq,Int.reduceBEq,beq_self_eq_true,DL.dOne,DL.mYes,Int.reduceLT,Int.reduceLE,Int.reduceSub,Int.reduceAdd,Int.reduceMul,Int.reduceNeg,Int.reduceToNat,Up,$[$xs:term],*])
local macro_rules|`(tactic|open_line with[$xs,*] seeing $h)=>`(tactic|simp only[Lj,Nq,Qr,SX,PU,RL,QB,Ta,Qj,Qc,Sd,QP,Th,Ti,Tz,Nat.reduceSub,Nat.reduceAdd,UI,Tw,PC,Px,decide_true,decide_false,Nat.reduceLeDiff,Nat.reduceBEq,Int.reduceBEq,beq_self_eq_true,DL.dOne,DL.mYes,Int.reduceLT,Int.reduceLE,Int.reduceSub,Int.reduceAdd,Int.reduceMul,Int.reduceNeg,Int.reduceToNat,Up,$[$xs:term],*] at $(⟨h⟩):ident)
namespace Com
open PySem L2 DL
noncomputable def mJ:bd :=
 (aw (bb 2 (dC (.str "abcdefghijklmnopqrstuvwxyz")))
 (aw (bb 3 (ak (ag (ae 0) (ag (aa (aa (ak (ag (dC (.int 8)) (ag (dC (.int 8)) (ag (dC (.int 12)) (ag (dC (.int 26)) (ag (dC (.int 2)) av))))) cY) (Ci (ak (ag (dC (.int 26)) av) cY) (dC (.int 8))) bf) (Ci (ak (ag (dC (.int 8)) av) cY) (dC (.int 8))) bf) av)) bT))
 (aw (bb 4 (aa (ak (ag (dC (.int 1)) (ag (dC (.int 3)) (ag (dC (.int 5)) (ag (dC (.int 7)) (ag (dC (.int 9)) (ag (dC (.int 11)) (ag (dC (.int 15)) (ag (dC (.int 17)) (ag (dC (.int 19)) (ag (dC (.int 21)) (ag (dC (.int 23)) (ag (dC (.int 25)) av)))))))))))) cY) (aa (ae 3) (dC (.int 2)) aG) aG))
 (aw (bb 5 (mD (dC (.str "")) (ag (eW 1 [2] (xp (hZ (ae 3) (dG (dC (.int 5))) (dG (dC (.int 13))))) (eC 0) mYes (aa (ae 1) (ae 0) aG)) av)))
 (aw (t9 6 (ak av cY))
 (aw (pE (ae 1) (eC 7)
 (aw (bb 8 (aa (dC (.int 1)) (aa (ae 3) (dC (.int 0)) aG) bf))
 (aw (dP (aa (aa (ae 3) (dC (.int 4)) aG) (dC (.int 1)) cQ)
 (aw (bb 8 (aa (dC (.int 1)) (aa (ae 3) (aa (dC (.int 13)) (ae 7) bf) aG) bf))
 au)
 au)
 (aw (bb 9 (aa (aa (ae 3) (dC (.int 1)) aG) (ae 8) cZ))
 (aw (bb 10 (aa (ae 2) (aa (aa (aa (ae 3) (dC (.int 3)) aG) (aa (ae 7) (ae 4) eB) bf) (dC (.int 26)) cZ) aG))
 (aw (eX 6 (aa (aa (hZ (ae 5) fu (dG (ae 9))) (ae 10) bf) (hZ (ae 5) (dG (aa (ae 9) (dC (.int 1)) bf)) (dG (ae 8))) bf))
 au))))))
 (aw (bG (ae 6))
 au)))))))
def dS:ac->aj D:=cD 11 mJ
def Gd{a:Int}(h0:0<=a)(h1:a<(iP:Int)):a.natAbs<EE:=Py (show a.natAbs<iP by omega) HS
def zt{i:Nat}{body:bd}(P:Nat->Ev->Prop){n:Nat}(h:∀k,k<n->∀ρ,P k ρ->∃ρ2,body (ρ.set i (.sh (.int (k:Int))))=.ok (.nx ρ2)/\P (k+1) ρ2){ρ:Ev}(h0:P 0 ρ):∃ρ',ef (eC i) body (intsFrom 0 n) ρ=.ok (.nx ρ')/\P n ρ':=by
 have key:∀(m k:Nat) (ρ:Ev),k+m=n->P k ρ->∃ρ',ef (eC i) body ((intsFrom 0 n).drop k) ρ=.ok (.nx ρ')/\P n ρ':=by
  intro m
  induction m with
  |zero=>
   intro k ρ hk hp;have:k=n:=by omega
   subst this;rw[vZ];exact⟨ρ,rfl,hp⟩
  |succ m ih=>
   intro k ρ hk hp;obtain⟨ρ2,h1,h2⟩:=h k (by omega) ρ hp;rw[sP (by omega),uI (tg:=eC i) rfl h1];exact ih (k+1) ρ2 (by omega) h2
 exact key n 0 ρ (by omega) h0
def zu{tg:Ev->D->aj Ev}{body:bd}{ds:ac}(P:Nat->Ev->Prop)(h:∀k d,ds[k]?=some d->∀ρ,P k ρ->∃ρ1 ρ2,tg ρ d=.ok ρ1/\body ρ1=.ok (.nx ρ2)/\P (k+1) ρ2){ρ:Ev}(h0:P 0 ρ):∃ρ',ef tg body ds ρ=.ok (.nx ρ')/\P ds.length ρ':=by
 have key:∀(m k:Nat) (ρ:Ev),k+m=ds.length->P k ρ->∃ρ',ef tg body (ds.drop k) ρ=.ok (.nx ρ')/\P ds.length ρ':=by
  intro m
  induction m with
  |zero=>
   intro k ρ hk hp;have:k=ds.length:=by omega
   subst this;rw[TN];exact⟨ρ,rfl,hp⟩
  |succ m ih=>
   intro k ρ hk hp;have hlt:k<ds.length:=by omega
   obtain⟨ρ1,ρ2,h1,h2,h3⟩:=h k ds[k] (Pu hlt) ρ hp;rw[QD hlt,uI h1 h2];exact ih (k+1) ρ2 (by omega) h3
 exact key ds.length 0 ρ (by omega) h0
structure Drawn (sz vs:List Int):Prop where
 len:vs.length=sz.length
 bnd:∀(i:Nat) (v s:Int),vs[i]?=some v->sz[i]?=some s->0<=v/\v<s
def Drawn.at{sz vs:List Int}(W:Drawn sz vs)(i:Nat){s:Int}(h:sz[i]?=some s):∃v,vs[i]?=some v/\(0<=v/\v<s)/\aG (.lst (vs.map D.int)) (.int (i:Int))=.ok (.int v):=by
 have hi:i<vs.length:=by rw[W.len];exact(PJ.mp h).1
 refine⟨vs[i],Pu hi,W.bnd i _ _ (Pu hi) h,ka ?_⟩;rw[P7,Pu hi];rfl
def Drawn.ix{sz vs:List Int}(W:Drawn sz vs)(k:Int)(i:Nat){s:Int}(hk:k=(i:Int))(h:sz[i]?=some s):∃v,vs[i]?=some v/\(0<=v/\v<s)/\aG (.lst (vs.map D.int)) (.int k)=.ok (.int v):=by
 subst hk;exact W.at i h
def qv(c:Int)(sz:List Int)(h:(sz.all λs=>decide (0<s)&&decide (s<=(iP:Int)))=true)(hn:sz.length<=1000):∃vs,bT [.int c,.lst (sz.map D.int)]=.ok (.lst (vs.map D.int))/\Drawn sz vs:=by
 obtain⟨vs,h1,h2,h3⟩:=D3 c sz (LY h) hn;exact⟨vs,h3,h1,h2⟩
def HL:("abcdefghijklmnopqrstuvwxyz" : Pj).cps.toList=(Q0 26).map (97 + ·):=by decide +kernel
def En:∀n,n<26->kc (97+n)=true:=by decide +kernel
def Em{v:Int}(h0:0<=v)(h1:v<26):aG (.str "abcdefghijklmnopqrstuvwxyz") (.int v)=.ok (.str ⟨#[97+v.toNat]⟩):=by
 obtain⟨n,rfl⟩:=RD h0;have hn:n<26:=by omega
 have e:atI ("abcdefghijklmnopqrstuvwxyz" : Pj).cps.toList ((n:Nat):Int)=some (97+n):=bO (by rw[HL];simp[hn]);show(if("abcdefghijklmnopqrstuvwxyz" : Pj).length<=line then(match atI ("abcdefghijklmnopqrstuvwxyz" : Pj).cps.toList ((n:Nat):Int) with|some c=>aj.ok (D.str ⟨#[c]⟩)|none=>.stuck) else .stuck)=_;rw[if_pos (by decide),e];rfl
theorem zl:∀cs:ci,SQ "" (cs.map λc=>(⟨#[c]⟩:Pj))=⟨cs.toArray⟩
 |[]=>rfl
 |[c]=>rfl
 |c::d::cs=>by
  show(⟨#[c]⟩:Pj)++""++SQ "" ((d::cs).map λc=>(⟨#[c]⟩:Pj))=_;rw[zl (d::cs)];apply Str.ext';show(#[c]++("" : Pj).cps)++(d::cs).toArray=_;have:("" : Pj).cps=#[]:=rfl;rw[this];simp
theorem yI:∀cs:ci,fW (cs.map λc=>D.str ⟨#[c]⟩)=some (cs.map λc=>(⟨#[c]⟩:Pj))
 |[]=>rfl
 |c::cs=>by
  show(fW (cs.map λc=>D.str ⟨#[c]⟩)).map _=_;rw[yI cs];rfl
def xT{cs:ci}(h:cs.length<=1000):jL "" [.lst (cs.map λc=>D.str ⟨#[c]⟩)]=.ok (.str ⟨cs.toArray⟩):=by
 have Lo:gh "" (cs.map λc=>(⟨#[c]⟩:Pj))=true:=by
  unfold gh;have e:((cs.map λc=>(⟨#[c]⟩:Pj)).map (·.length)).sum=cs.length:=by
   clear h
   induction cs with
   |nil=>rfl
   |cons c cs ih=>
    simp only[Qr,List.sum_cons,PU,ih];show 1+cs.length=_;omega
  rw[e,Pr];exact⟨by decide,decide_eq_true (by rw[Ph];omega)⟩
 show(match fW (cs.map λc=>D.str ⟨#[c]⟩) with|some ys=>if gh "" ys=true then aj.ok (D.str (Rt "" ys)) else .stuck|none=>.stuck)=_;rw[yI];show(if gh "" _=true then aj.ok (D.str (Rt "" _)) else .stuck)=_;rw[if_pos Lo];show aj.ok (D.str (Builtin.Str.glued "" _))=_;rw[Sj,zl]
def B8{cs:ci}{a b:Nat}(hab:a<=b)(hb:b<=cs.length):Ql ⟨cs.toArray⟩ (some (a:Int)) (some (b:Int))=⟨((cs.drop a).take (b-a)).toArray⟩ :=
 StrLaws.sliceText_nat ⟨cs.toArray⟩ hab (by show b<=cs.toArray.size;simpa using hb)
def B7{cs:ci}{b:Nat}(hb:b<=cs.length):Ql ⟨cs.toArray⟩ none (some (b:Int))=⟨(cs.take b).toArray⟩:=by
 have:=U0 (x:=⟨cs.toArray⟩) (j:=(b:Int)) ⟨by omega,by simpa using hb⟩;refine Eq.trans this ?_;simp
def oR(vs:List Int)(k:Nat):Nat:=if vs[4]?=some 1 then 1+((vs[13+k]?).getD 0).toNat else 1+((vs[0]?).getD 0).toNat
def gq(vs:List Int)(k:Nat):Nat:=((vs[1]?).getD 0).toNat % oR vs k
def zc(vs:List Int)(by_:Int)(k:Nat):Nat:=(((vs[3]?).getD 0).toNat+k*by_.toNat) % 26
def xM(vs:List Int)(by_:Int)(B:ci)(k:Nat):ci:=B.take (gq vs k)++(97+zc vs by_ k)::(B.drop (gq vs k+1)).take (oR vs k-(gq vs k+1))
def pV:List Int:=[8,8,12,26,2,26,26,26,26,26,26,26,26,8,8,8,8,8,8,8,8]
def Mx:List Int:=[1,3,5,7,9,11,15,17,19,21,23,25]
def AS:∀b∈Mx,∀k,k<8->∀j,j<8->∀d,d<26->(d+k*b.toNat) % 26=(d+j*b.toNat) % 26->k=j:=by
 have key:∀b∈Mx,∀k,k<8->∀j,j<8->(k*b.toNat) % 26=(j*b.toNat) % 26->k=j:=by decide +kernel
 intro b hb k hk j hj d hd h;refine key b hb k hk j hj ?_;omega
structure mM (zs:bv):Prop where
 nd:zs.Nodup
 nm:∀z∈zs,cj z=true
def uy{vs:List Int}{by_:Int}{B:ci}{k:Nat}(hB:B.length=8)(hs:oR vs k<=8)(h1:1<=oR vs k):(xM vs by_ B k).length=oR vs k:=by
 have:gq vs k<oR vs k:=Sz _ (by omega);unfold xM;simp only[P1,Ro,PU,Sq];omega
def CU{vs:List Int}{by_:Int}{B:ci}{k:Nat}(hB:B.length=8)(hs:oR vs k<=8)(h1:1<=oR vs k):(xM vs by_ B k)[gq vs k]?=some (97+zc vs by_ k):=by
 have:gq vs k<oR vs k:=Sz _ (by omega);unfold xM;rw[Qa (by simp;omega)];have e:gq vs k-(B.take (gq vs k)).length=0:=by simp;omega
 rw[e];rfl
def wI{x y:Pj}(h:x.length+y.length<=1000):bf (.str x) (.str y)=.ok (.str (x++y)):=if_pos (PB h (by decide))
def sZ(a b:ci):(⟨a.toArray⟩:Pj)++⟨b.toArray⟩=⟨(a++b).toArray⟩:=by
 apply Str.ext';show a.toArray++b.toArray=_;simp
def lO(a:ci):(⟨a.toArray⟩:Pj).length=a.length:=by show a.toArray.size=_;simp
def yL{z:Pj}{l h:Option Int}(hz:z.length<=1000):pw (.str z) l h=.ok (.str (Ql z l h)):=by
 show(if z.length<=line then _ else _)=_;rw[if_pos (PB hz (by decide))]
set_option maxHeartbeats 1000000 in
def CV(c:Int)(n:Nat)(hn:n<=8):∃zs:bv,dS [.int c,.int (n:Int)]=.ok (.lst (zs.map D.str))/\zs.length=n/\mM zs:=by
 obtain⟨vs,hd,W⟩:=qv c pV (by decide) (by decide);obtain⟨d0,g0,b0,i0⟩:=W.ix 0 0 rfl rfl;obtain⟨d1,g1,b1,i1⟩:=W.ix 1 1 rfl rfl;obtain⟨d2,g2,b2,i2⟩:=W.ix 2 2 rfl rfl;obtain⟨d3,g3,b3,i3⟩:=W.ix 3 3 rfl rfl;obtain⟨d4,g4,b4,i4⟩:=W.ix 4 4 rfl rfl;obtain⟨byD,hby1,hby2⟩:=ix_mem (ds:=Mx.map D.int) (k:=d2) b2.1 (by simpa[Mx] using b2.2);obtain⟨by_,hbm,rfl⟩:=Qt.mp hby1;have hby0:0<=by_/\by_<=25:=by
  have:∀b∈Mx,0<=b/\b<=25:=by decide
  exact this by_ hbm
 have hlen:vs.length=21:=W.len;have hL:(vs.map D.int).length=21:=by rw[Ph,hlen]
 have hcut:rN (vs.map D.int) (some 5) (some 13)=((vs.drop 5).take 8).map D.int:=by
  rw[zM,hlen];rfl
 have hdig:∀v∈(vs.drop 5).take 8,0<=v/\v<26:=λv hv=>by
  obtain⟨j,hj2⟩:=UR.mp hv;have hj:j<8:=by
   have:=(PJ.mp hj2).1;simp at this;omega
  rw[SO hj,List.getElem?_drop]at hj2;have hs:pV[5+j]?=some 26:=by
   have:∀j,j<8->pV[5+j]?=some 26:=by decide
   exact this j hj
  exact W.bnd _ _ _ hj2 hs
 generalize hBd:((vs.drop 5).take 8).map (λv=>97+v.toNat)=B;have hB:B.length=8:=by rw[←hBd];simp;omega
 have hBin:∀x∈B,kc x=true:=λx hx=>by
  rw[←hBd]at hx;obtain⟨v,hv,rfl⟩:=Qt.mp hx;have:=hdig v hv;exact En _ (by omega)
 have hcomp:jN 1 [2] (eC 0) mYes (aa (ae 1) (ae 0) aG) [.sh (.int c),.sh (.int (n:Int)),.sh (.str "abcdefghijklmnopqrstuvwxyz"),.sh (.lst (vs.map D.int)),.sh (.int by_),.no,.no,.no,.no,.no,.no] (((vs.drop 5).take 8).map D.int)=.ok (.lst (B.map λc=>D.str ⟨#[c]⟩)):=by
  rw[qF (F:=λd=>match d with|.int v=>.str ⟨#[97+v.toNat]⟩|d=>d) (by simp;omega)]
  .rw[←hBd,RJ,RJ];rfl
  .intro d hd'
   obtain⟨v,hv,rfl⟩:=Qt.mp hd';have hv2:=hdig v hv;exact⟨[.sh (.int v),.sh (.str "abcdefghijklmnopqrstuvwxyz")],rfl,rfl,Em hv2.1 hv2.2⟩
 have hsz:∀k,k<n->1<=oR vs k/\oR vs k<=8:=λk hk=>by
  unfold oR;have h13:∀j,j<8->pV[13+j]?=some 8:=by decide
  obtain⟨e,ge,be,_⟩:=W.at (13+k) (h13 k (by omega));rw[ge,g0];simp only[RW];split<;>omega
 obtain⟨ρ',hloop,a1,a2,a3,a4,hρ⟩:=zt (i:=7) (n:=n) (ρ:=[.sh (.int c),.sh (.int (n:Int)),.sh (.str "abcdefghijklmnopqrstuvwxyz"),.sh (.lst (vs.map D.int)),.sh (.int by_),.sh (.str ⟨B.toArray⟩),.ow (.lst []),.no,.no,.no,.no])
  (body:=(aw (bb 8 (aa (dC (.int 1)) (aa (ae 3) (dC (.int 0)) aG) bf))
   (aw (dP (aa (aa (ae 3) (dC (.int 4)) aG) (dC (.int 1)) cQ)
   (aw (bb 8 (aa (dC (.int 1)) (aa (ae 3) (aa (dC (.int 13)) (ae 7) bf) aG) bf))
   au)
   au)
   (aw (bb 9 (aa (aa (ae 3) (dC (.int 1)) aG) (ae 8) cZ))
   (aw (bb 10 (aa (ae 2) (aa (aa (aa (ae 3) (dC (.int 3)) aG) (aa (ae 7) (ae 4) eB) bf) (dC (.int 26)) cZ) aG))
   (aw (eX 6 (aa (aa (hZ (ae 5) fu (dG (ae 9))) (ae 10) bf) (hZ (ae 5) (dG (aa (ae 9) (dC (.int 1)) bf)) (dG (ae 8))) bf))
   au))))))
  (λk ρ=>∃a1 a2 a3 a4,ρ=[.sh (.int c),.sh (.int (n:Int)),.sh (.str "abcdefghijklmnopqrstuvwxyz"),.sh (.lst (vs.map D.int)),.sh (.int by_),.sh (.str ⟨B.toArray⟩),.ow (.lst ((Q0 k).map λj=>D.str ⟨(xM vs by_ B j).toArray⟩)),a1,a2,a3,a4])
  (by
   rintro k hk ρ ⟨a1,a2,a3,a4,rfl⟩;have h13:∀j,j<8->pV[13+j]?=some 8:=by decide
   obtain⟨e,ge,be,ie⟩:=W.at (13+k) (h13 k (by omega));have ie':aG (.lst (vs.map D.int)) (.int (13+(k:Int)))=.ok (.int e):=by
    have:(13+(k:Int))=((13+k:Nat):Int):=by omega
    rw[this];exact ie
   have hs:=hsz k hk;have hat:gq vs k<oR vs k:=Sz _ (by omega);have hmul:jK (k:Int) by_=true:=gX (by omega) (by omega);have hsg:zc vs by_ k<26:=Sz _ (by decide);have hsgI:(d3+(k:Int)*by_).fmod 26=(zc vs by_ k:Int):=by
    unfold zc;rw[g3,RW,Ua _ (by decide)];obtain⟨x,rfl⟩:=RD b3.1;obtain⟨y,rfl⟩:=RD hby0.1;simp only[Ry];omega
   have hsig:=Em (v:=(zc vs by_ k:Int)) (by omega) (by omega);rw[Ry]at hsig;have hz0:((oR vs k:Int)==0)=false:=beq_eq_false_iff_ne.mpr (by omega);have hatI:d1.fmod (oR vs k:Int)=(gq vs k:Int):=by
    unfold gq;rw[g1,RW,Ua _ (by omega)];obtain⟨x,rfl⟩:=RD b1.1;simp only[Ry];omega
   have s1:pw (.str ⟨B.toArray⟩) none (some (gq vs k:Int))=.ok (.str ⟨(B.take (gq vs k)).toArray⟩):=by
    rw[yL (by rw[lO];omega),B7 (by omega)]
   have s2:pw (.str ⟨B.toArray⟩) (some ((gq vs k:Int)+1)) (some (oR vs k:Int))=.ok (.str ⟨((B.drop (gq vs k+1)).take (oR vs k-(gq vs k+1))).toArray⟩):=by
    have:((gq vs k:Int)+1)=((gq vs k+1:Nat):Int):=by omega
    rw[yL (by rw[lO];omega),this,B8 (by omega) (by omega)]
   have t1:bf (.str ⟨(B.take (gq vs k)).toArray⟩) (.str ⟨#[97+zc vs by_ k]⟩)=.ok (.str ⟨(B.take (gq vs k)++[97+zc vs by_ k]).toArray⟩):=by
    have e1:(⟨#[97+zc vs by_ k]⟩:Pj)=⟨([97+zc vs by_ k]:ci).toArray⟩:=rfl;rw[e1,wI (by rw[lO,lO];simp;omega),sZ]
   have t2:bf (.str ⟨(B.take (gq vs k)++[97+zc vs by_ k]).toArray⟩) (.str ⟨((B.drop (gq vs k+1)).take (oR vs k-(gq vs k+1))).toArray⟩)=.ok (.str ⟨(xM vs by_ B k).toArray⟩):=by
    rw[wI (by rw[lO,lO];simp;omega),sZ];unfold xM;rw[Rx];rfl
   have happ:((Q0 k).map λj=>D.str ⟨(xM vs by_ B j).toArray⟩)++[D.str ⟨(xM vs by_ B k).toArray⟩]=(Q0 (k+1)).map λj=>D.str ⟨(xM vs by_ B j).toArray⟩:=by
    rw[List.range_succ,Qx];rfl
   have hlt:decide (((Q0 k).map λj=>D.str ⟨(xM vs by_ B j).toArray⟩).length<=999)=true:=decide_eq_true (by simp;omega);cases h4:(d4==1) with
   |true=>
    have hz:1+e=(oR vs k:Int):=by unfold oR;rw[g4,eq_of_beq h4,if_pos rfl,ge];simp only[RW];omega
    open_line with[i0,i1,i3,i4,h4,ie',hz,hz0,hatI,DH hmul,hsgI,hsig,s1,s2,t1,t2,uL hlt,happ]
    exact⟨_,rfl,_,_,_,_,rfl⟩
   |false=>
    have hz:1+d0=(oR vs k:Int):=by unfold oR;rw[g4,if_neg (by intro z;cases z;simp at h4),g0];simp only[RW];omega
    open_line with[i0,i1,i3,i4,h4,hz,hz0,hatI,DH hmul,hsgI,hsig,s1,s2,t1,t2,uL hlt,happ]
    exact⟨_,rfl,_,_,_,_,rfl⟩)
  ⟨.no,.no,.no,.no,rfl⟩
 subst hρ;have hby3:aG (.lst [.int 1,.int 3,.int 5,.int 7,.int 9,.int 11,.int 15,.int 17,.int 19,.int 21,.int 23,.int 25]) (.int d2)=.ok (.int by_):=hby2;have hd':bT [.int c,.lst [D.int 8,D.int 8,D.int 12,D.int 26,D.int 2,D.int 26,D.int 26,D.int 26,D.int 26,D.int 26,D.int 26,D.int 26,D.int 26,D.int 8,D.int 8,D.int 8,D.int 8,D.int 8,D.int 8,D.int 8,D.int 8]]=.ok (.lst (vs.map D.int)):=hd;refine⟨(Q0 n).map λj=>⟨(xM vs by_ B j).toArray⟩,?_,by simp,?_⟩
 .rw[dS,mJ]
  open_line with[P1,QV]
  rw[hd'];open_line with[i2,hby3,hcut]
  rw[hcomp];open_line with[xT (show B.length<=1000 by omega),wc (show n<=1000000 by omega)]
  rw[hloop];open_line with[RJ]
  rfl
 .refine⟨?_,λz hz=>?_⟩
  .rw[List.nodup_iff_pairwise_ne,List.pairwise_map]
   refine List.Pairwise.imp_of_mem ?_ List.pairwise_lt_range;intro k j hk hj hlt heq;rw[T9]at hk hj;have hs:=hsz k hk;have hs':=hsz j hj;have e:xM vs by_ B k=xM vs by_ B j:=by
    have:=congrArg (λs:Pj=>s.cps.toList) heq;simpa using this
   have el:oR vs k=oR vs j:=by rw[←uy (by_:=by_) hB hs.2 hs.1,e,uy hB hs'.2 hs'.1]
   have ea:gq vs k=gq vs j:=by unfold gq;rw[el]
   have h1:=CU (by_:=by_) hB hs.2 hs.1;have h2:=CU (by_:=by_) hB hs'.2 hs'.1;rw[e,ea,h2]at h1;have h3:zc vs by_ k=zc vs by_ j:=by have:=QI h1;omega
   unfold zc at h3;have hd3:((vs[3]?).getD 0).toNat<26:=by rw[g3,RW];omega
   have:=AS by_ hbm k (by omega) j (by omega) _ hd3 h3;omega
  .obtain⟨k,hk,rfl⟩:=Qt.mp hz
   rw[T9]at hk;have hs:=hsz k hk;unfold cj;rw[lO,uy hB hs.2 hs.1];simp only[Pr,decide_eq_true_eq];refine⟨hs.1,hs.2,Qf.mpr λx hx=>?_⟩;simp only[xM,Q9,PL]at hx;rcases hx with hx|rfl|hx
   .exact hBin x (U2 hx)
   .exact En _ (Sz _ (by decide))
   .exact hBin x (List.mem_of_mem_drop (U2 hx))
structure wX where
 a:Pj
 b:Pj
 w:Pj
 l:By
 o:Option By
def je:Option By->D
 |none=>.non
 |some x=>fr x
def dy(t:wX):D:=.tup [.str t.a,.str t.b,.str t.w,fr t.l,je t.o]
structure qY (zs:bv) (t:wX):Prop where
 a:t.a∈zs
 b:t.b∈zs
 ne:t.a≠t.b
 w:t.w="one"∨t.w="both"
 l:rk t.l
 l0:0<=t.l.1
 o:∀x,t.o=some x->rk x/\0<x.1
def CP{α:Type}{zs:List α}(nd:zs.Nodup){i j:Nat}{x y:α}(hi:zs[i]?=some x)(hj:zs[j]?=some y)(hij:i≠j):x≠y:=by
 intro e;subst e;obtain⟨h1,e1⟩:=PJ.mp hi;obtain⟨h2,e2⟩:=PJ.mp hj;exact hij ((List.getElem_inj nd).mp (e1.trans e2.symm))
def iG:bd :=
 (aw (bG (dm (ak (ag (ae 0) av) m_is_ratio) (aa (aa (ae 0) (dC (.int 0)) aG) (dC (.int 0)) HC)))
 au)
def m_is_length:ac->aj D:=cD 1 iG
def ik:bd :=
 (aw (bG (eZ (aa (ae 0) (dC (.non)) mE) (dm (ak (ag (ae 0) av) m_is_ratio) (aa (aa (ae 0) (dC (.int 0)) aG) (dC (.int 0)) wV))))
 au)
def m_is_worth:ac->aj D:=cD 1 ik
noncomputable def fP:bd :=
 (aw (dP (eZ (cB (aW (ae 0) (gA "tuple"))) (aa (ak (ag (ae 0) av) (m1 bz)) (dC (.int 5)) ir))
 (aw (bG (dC (.bl false)))
 au)
 au)
 (aw (dP (eZ (cB (ak (ag (aa (ae 0) (dC (.int 0)) aG) av) m_is_name)) (eZ (cB (ak (ag (aa (ae 0) (dC (.int 1)) aG) av) m_is_name)) (aa (aa (ae 0) (dC (.int 0)) aG) (aa (ae 0) (dC (.int 1)) aG) cQ)))
 (aw (bG (dC (.bl false)))
 au)
 au)
 (aw (dP (eZ (cB (aW (aa (ae 0) (dC (.int 2)) aG) (gA "str"))) (aa (aa (ae 0) (dC (.int 2)) aG) (dC (.tup [(.str "one"),(.str "both")])) b5))
 (aw (bG (dC (.bl false)))
 au)
 au)
 (aw (bG (dm (ak (ag (aa (ae 0) (dC (.int 3)) aG) av) m_is_length) (ak (ag (aa (ae 0) (dC (.int 4)) aG) av) m_is_worth)))
 au))))
def m_is_tie:ac->aj D:=cD 1 fP
noncomputable def b_look_at_places:bd :=
 (aw (dP (eZ (cB (aW (ae 0) (gA "list"))) (cB (gF Bx Bx (dC (.int 2)) (ak (ag (ae 0) av) (m1 bz)) (dC (.int 7)))))
 (aw iJ
 au)
 au)
 (aw (lX (pk (ae 0)) (k7 [1,2])
 (aw (dP (eZ (cB (ak (ag (ae 2) av) m_is_name)) (aa (ae 2) (hZ (ae 0) fu (dG (ae 1))) wU))
 (aw iJ
 au)
 au)
 au))
 au))
def m_look_at_places:ac->aj D:=cD 3 b_look_at_places
noncomputable def b_look_at_ties:bd :=
 (aw (dP (eZ (cB (aW (ae 0) (gA "list"))) (aa (ak (ag (ae 0) av) (m1 bz)) (dC (.int 14)) wV))
 (aw iJ
 au)
 au)
 (aw (lX (pk (ae 0)) (k7 [2,3])
 (aw (dP (eZ (cB (ak (ag (ae 3) av) m_is_tie)) (eZ (aa (aa (ae 3) (dC (.int 0)) aG) (ae 1) b5) (aa (aa (ae 3) (dC (.int 1)) aG) (ae 1) b5)))
 (aw iJ
 au)
 au)
 au))
 au))
def m_look_at_ties:ac->aj D:=cD 4 b_look_at_ties
def qU:bd :=
 (aw (bG (dm (ak (ag (ae 0) av) m_is_name) (aa (ae 0) (ae 1) wU)))
 au)
def m_is_place:ac->aj D:=cD 2 qU
noncomputable def b_look_at_web:bd :=
 (aw (dP (eZ (cB (aW (ae 0) (gA "tuple"))) (aa (ak (ag (ae 0) av) (m1 bz)) (dC (.int 4)) ir))
 (aw iJ
 au)
 au)
 (aw (lY (ak (ag (aa (ae 0) (dC (.int 0)) aG) av) m_look_at_places))
 (aw (lY (ak (ag (aa (ae 0) (dC (.int 1)) aG) (ag (aa (ae 0) (dC (.int 0)) aG) av)) m_look_at_ties))
 (aw (dP (cB (ak (ag (aa (ae 0) (dC (.int 2)) aG) (ag (aa (ae 0) (dC (.int 0)) aG) av)) m_is_place))
 (aw iJ
 au)
 au)
 (aw (dP (eZ (cB (ak (ag (aa (ae 0) (dC (.int 3)) aG) (ag (aa (ae 0) (dC (.int 0)) aG) av)) m_is_place)) (aa (aa (ae 0) (dC (.int 3)) aG) (aa (ae 0) (dC (.int 2)) aG) cQ))
 (aw iJ
 au)
 au)
 au)))))
def m_look_at_web:ac->aj D:=cD 1 b_look_at_web
structure HN where
 ps:bv
 ts:List wX
 fi:Pj
 la:Pj
def o9(w:HN):D:=.tup [.lst (w.ps.map D.str),.lst (w.ts.map dy),.str w.fi,.str w.la]
structure qX (w:HN):Prop where
 n2:2<=w.ps.length
 n7:w.ps.length<=7
 nm:mM w.ps
 t14:w.ts.length<=14
 ts:∀t∈w.ts,qY w.ps t
 fi:w.fi∈w.ps
 la:w.la∈w.ps
 ne:w.fi≠w.la
def kJ{z:Pj}(h:cj z=true):m_is_name [.str z]=.ok (.bl true):=by
 have hl:z.length<=8:=by
  unfold cj at h;simp only[Pr,decide_eq_true_eq]at h;exact h.2.1
 rw[bV (show Lo (.str z)=true from decide_eq_true (PB hl (by decide)))];show aj.ok (D.bl (cj z))=_;rw[h]
def pG{x:By}(h:Low x):m_is_ratio [fr x]=.ok (.bl true):=by
 rw[dU];show aj.ok (D.bl (dB (.tup [.int x.1,.int x.2])))=_;have h1:=h.q1;have h2:=h.g1;show aj.ok (D.bl (decide (1<=x.2)&&(Qn x.1 x.2==1)))=_;rw[decide_eq_true h1,h2];rfl
def vS{x:By}(h:Low x)(h0:0<=x.1):m_is_length [fr x]=.ok (.bl true):=by
 have e:fr x=.tup [.int x.1,.int x.2]:=rfl;have h1:=pG h;rw[e]at h1 ⊢;open_line with[m_is_length,iG,h1,decide_eq_true h0,decide_eq_true (show x.1≥0 from h0)]
def w8{o:Option By}(h:∀x,o=some x->Low x/\0<x.1):m_is_worth [je o]=.ok (.bl true):=by
 cases o with
 |none=>rfl
 |some x=>
  obtain⟨hx,h0⟩:=h x rfl;have e:je (some x)=.tup [.int x.1,.int x.2]:=rfl;have h1:=pG hx;rw[show fr x=.tup [.int x.1,.int x.2] from rfl]at h1;rw[e];open_line with[m_is_worth,ik,h1,decide_eq_true h0]
def zF{x y:Pj}:cQ (.str x) (.str y)=.ok (.bl (x==y)):=by unfold cQ;rw[if_pos ⟨rfl,rfl⟩,cC]
def BR{zs:bv}{t:wX}(nm:mM zs)(h:qY zs t):m_is_tie [dy t]=.ok (.bl true):=by
 obtain⟨a,b,w,l,o⟩:=t;obtain⟨ha,hb,hne,hw,hl,hl0,ho⟩:=h;have h1:=kJ (nm.nm a ha);have h2:=kJ (nm.nm b hb);have h3:=vS hl.toLow hl0;have h4:=w8 (o:=o) λx hx=>⟨(ho x hx).1.toLow,(ho x hx).2⟩
 have h5:(a==b)=false:=beq_eq_false_iff_ne.mpr hne;have h6:b5 (.str w) (.tup [.str "one",.str "both"])=.ok (.bl false):=by
  rcases hw with rfl|rfl<;>rfl
 have e:dy ⟨a,b,w,l,o⟩=.tup [.str a,.str b,.str w,fr l,je o]:=rfl;rw[e];open_line with[m_is_tie,fP,h1,h2,zF,h5,h6,h3,h4]
def zR{zs:bv}{z:Pj}:(zs.map D.str).any (λd=>cC d (.str z))=decide (z∈zs):=by
 induction zs with
 |nil=>rfl
 |cons y zs ih=>
  rw[Qr,Uo,ih];show((y==z)||decide (z∈zs))=_
  by_cases h:y=z
  .subst h;simp
  .have:(y==z)=false:=beq_eq_false_iff_ne.mpr h
   rw[this,Tc];have:z∈y::zs↔z∈zs:=by simp[Qq h]
   exact decide_eq_decide.mpr this.symm
def r8{n:Nat}{zs:bv}:(zs.map D.str).all (bg n)=true:=Qf.mpr λd hd=>by
 obtain⟨z,_,rfl⟩:=Qt.mp hd;cases n<;>rfl
def oY{zs:bv}{z:Pj}:wU (.str z) (.lst (zs.map D.str))=.ok (.bl (decide (z∈zs))):=by
 have e:Di (.str z) (.lst (zs.map D.str))=some (decide (z∈zs)):=(if_pos ⟨rfl,r8⟩).trans (congrArg some zR);unfold wU;rw[e]
def eF{zs:bv}{z:Pj}:b5 (.str z) (.lst (zs.map D.str))=.ok (.bl (!(decide (z∈zs)))):=by
 have e:Di (.str z) (.lst (zs.map D.str))=some (decide (z∈zs)):=(if_pos ⟨rfl,r8⟩).trans (congrArg some zR);unfold b5;rw[e]
def pL{zs:bv}{z:Pj}(h:cj z=true)(hz:z∈zs):m_is_place [.str z,.lst (zs.map D.str)]=.ok (.bl true):=by
 open_line with[m_is_place,qU,kJ h,oY,decide_eq_true hz]
def mi{α:Type}{F:α->D}{xs:List α}{k:Nat}{d:D}(h:(numbered 0 (xs.map F))[k]?=some d):∃x,xs[k]?=some x/\d=.tup [.int (k:Int),F x]:=by
 rw[jg,P7]at h;cases e:xs[k]? with
 |none=>rw[e]at h;cases h
 |some x=>
  rw[e]at h;cases h;exact⟨x,rfl,by simp⟩
def K5{α:Type}{F:α->D}{xs:List α}{k:Nat}(h:k<=xs.length):rN (xs.map F) none (some (k:Int))=(xs.take k).map F:=by
 rw[zM,HT.sIx_none,HT.sIx_nat,Nat.min_eq_left h,SE,Tz]
def AI{zs:bv}(h2:2<=zs.length)(h7:zs.length<=7)(nm:mM zs):m_look_at_places [.lst (zs.map D.str)]=.ok .non:=by
 obtain⟨ρ',hl,_⟩:=zu (ds:=numbered 0 (zs.map D.str)) (tg:=k7 [1,2]) (ρ:=[.sh (.lst (zs.map D.str)),.no,.no])
  (body:=(aw (dP (eZ (cB (ak (ag (ae 2) av) m_is_name)) (aa (ae 2) (hZ (ae 0) fu (dG (ae 1))) wU)) (aw iJ au) au) au))
  (λk ρ=>∃a b,ρ=[.sh (.lst (zs.map D.str)),a,b]) (by
   rintro k d hd ρ ⟨a,b,rfl⟩;obtain⟨z,hz,rfl⟩:=mi hd;refine⟨_,[.sh (.lst (zs.map D.str)),.sh (.int (k:Int)),.sh (.str z)],DR rfl,?_,_,_,rfl⟩;have hk:k<zs.length:=(PJ.mp hz).1;have hnot:decide (z∈zs.take k)=false:=decide_eq_false λhm=>by
    obtain⟨j,hj⟩:=UR.mp hm;have hjk:j<k:=by have:=(PJ.mp hj).1;simp at this;omega
    rw[SO hjk]at hj;exact CP nm.nd hj hz (by omega) rfl
   open_line with[kJ (nm.nm z (Qs hz)),K5 (TC hk),oY,hnot]) ⟨.no,.no,rfl⟩
 have e1:decide ((2:Int)<=(zs.length:Int))=true:=decide_eq_true (by omega);have e2:decide ((zs.length:Int)<=7)=true:=decide_eq_true (by omega);open_line with[m_look_at_places,b_look_at_places,Ph,e1,e2,hl]
def Fe{zs:bv}{ts:List wX}(h14:ts.length<=14)(nm:mM zs)(ht:∀t∈ts,qY zs t):m_look_at_ties [.lst (ts.map dy),.lst (zs.map D.str)]=.ok .non:=by
 obtain⟨ρ',hl,_⟩:=zu (ds:=numbered 0 (ts.map dy)) (tg:=k7 [2,3]) (ρ:=[.sh (.lst (ts.map dy)),.sh (.lst (zs.map D.str)),.no,.no])
  (body:=(aw (dP (eZ (cB (ak (ag (ae 3) av) m_is_tie)) (eZ (aa (aa (ae 3) (dC (.int 0)) aG) (ae 1) b5) (aa (aa (ae 3) (dC (.int 1)) aG) (ae 1) b5))) (aw iJ au) au) au))
  (λk ρ=>∃a b,ρ=[.sh (.lst (ts.map dy)),.sh (.lst (zs.map D.str)),a,b]) (by
   rintro k d hd ρ ⟨a,b,rfl⟩;obtain⟨t,ht',rfl⟩:=mi hd;refine⟨_,[.sh (.lst (ts.map dy)),.sh (.lst (zs.map D.str)),.sh (.int (k:Int)),.sh (dy t)],DR rfl,?_,_,_,rfl⟩;have hT:=ht t (Qs ht');have h1:=BR nm hT;rw[show dy t=.tup [.str t.a,.str t.b,.str t.w,fr t.l,je t.o] from rfl]at h1 ⊢;open_line with[h1,eF,decide_eq_true hT.a,decide_eq_true hT.b]) ⟨.no,.no,rfl⟩
 have e1:decide ((14:Int)<(ts.length:Int))=false:=decide_eq_false (by omega);open_line with[m_look_at_ties,b_look_at_ties,Ph,e1,decide_eq_false (show ¬(ts.length:Int) > 14 by omega),hl]
def Jf{w:HN}(h:qX w):m_look_at_web [o9 w]=.ok .non:=by
 obtain⟨ps,ts,fi,la⟩:=w;have h1:=AI h.n2 h.n7 h.nm;have h2:=Fe h.t14 h.nm h.ts;have h3:=pL (h.nm.nm fi h.fi) h.fi;have h4:=pL (h.nm.nm la h.la) h.la;have h5:(la==fi)=false:=beq_eq_false_iff_ne.mpr (Qq h.ne);rw[show o9 ⟨ps,ts,fi,la⟩=.tup [.lst (ps.map D.str),.lst (ts.map dy),.str fi,.str la] from rfl];open_line with[m_look_at_web,b_look_at_web,h1,h2,h3,h4,zF,h5]
end Com
namespace DL
open PySem PySem.Spec PyProof.Rows L2
section
variable {X:Cx}{E:XK}{He η:Hp}{e a b:Qe}{es:List Qe}{f g:am}{fa:Ev->aj (ac)}{pos:Pos}
def K4(x y:D):aj D:=match x,y with
 |.int i,.int j=>.ok (.int (if j<i then j else i))
 |_,_=>.stuck
def K7:kv X E (λxs H Q=>∃i j,xs=[.int i,.int j]/\Q (.int (if j<i then j else i)) H) (m2 K4):=IK λx y v u H Ha Q hs r r' q=>by
 cases x with
 |int i=>
  cases y with|int j=>exact⟨i,j,by rw[az.mp r,az.mp r'],bR hs q (ri _)⟩| _=>exact q.elim
 |_=>exact q.elim
end
def PT.nox{X:Cx}{e:Qe}{t:TT}(h:PT X.nox e t):PT X e t:=λπ s σ H Q I hw=>
 QC (h π s σ H Q (I.wish _) hw) (λ_ _ ⟨H',I',q⟩=>⟨H',I'.unwish,q⟩) λ_ _ z=>QE z
section
variable {prog:Qi}{w:Qv}{A:Qp}{E:Pd->Pm->Prop}{h:PF}{g:Array GenState}{d:Drawn}{t:Nat}{os:OsState}
variable {nm q:Pj}{C N:Pg}{bs bm bmB:List Pd}{hdct:Bool}{sn:bv}{sub:List Pd}{ab:Bool}{col:Option Bool}{dd:Option Pg}{k0 k1 k2 k3 k5:Option Pd}{B newId initId:String}{mN:Pj->Option Pd}{rest:List Pd}{fI:Pg}{oI:Obj}
def EU{Q:Fin->Pm->Prop}(F:ExcBaseFacts B newId initId bmB)(T:OwnTail h bmB bm)(hC:h.get? C=some (excClassObj nm q C N bs bm hdct sn sub ab col dd k0 k1 k2 k3 k5 newId))(hn:h.Ns N mN)(hi:mN "__init__"=some (.ref fI))(hfI:h.get? fI=some oI)(hfc:oI.cls=.type "function")(hrest:rest.length<=sizeLine)
  (hq:∀h' e,Uc h h' e (.ref C) rest->PZ (PN prog w) A (call (.ref fI) (.ref e::rest)) (λr s'=>r=.none/\Q (.done (.ret (.ref e))) s') E ⟨h',g,d,t,os⟩):PZ (PN prog w) A (Builtin.«type.__call__» ⟨.ref C::rest,[]⟩) Q E ⟨h,g,d,t,os⟩:=by
 repeat (first|with_reducible refine Q5 hC ?_|with_reducible refine wpAny_madeBy_exc hC ?_|wp_step)
 refine codeAny_call_builtin_code (Tp _ F.quiet) (wpAny_check_new_subT F T hC (codeAny_exc_new_subT F T hC ?_ hrest));generalize hT0:({ cls:=.type "tuple",data:=.seq rest.toArray }:Obj)=o0;generalize hX0:({ cls:=.ref C,data:=.fields #[.ref h.objs.size,.none,.none,.none,.bool false,.none] }:Obj)=o1;have kp:∀b o,h.get? b=some o->((h.push o0).push o1).get? b=some o:=λb o hb=>Pq o1 (Pq o0 hb);have hget:((h.push o0).push o1).get? (h.objs.size+1)=some o1:=by subst hX0 hT0;heap_get
 have hc1:o1.cls=.ref C:=by subst hX0;rfl
 have hcC:(Qh C::bm).contains (.ref C)=true:=by simp
 show PZ _ _ _ _ _ _;unfold isInstance
 repeat (first|(with_reducible refine Q5 hget ?_;try rw[hc1])|(with_reducible refine wpAny_isSubtype_exc (kp _ _ hC) ?_;rw[hcC])|wp_step)
 show PZ _ _ (Sm (.ref C) _) _ _ _;refine wpAny_typeLookup_tail (kp _ _ hC) (hn.keeps kp) (T.keeps kp) F.mroIs F.init.lookup ?_;rw[hi];refine Rz (Pp (show PZ _ _ (bindSpecial _ _) _ _ _ from ?_));unfold bindSpecial;refine Pp (wpAny_typeOf (T:="function") ⟨_,kp _ _ hfI,hfc⟩ ?_);rw[if_pos (by decide)];refine PX (Pp (QC (hq _ (h.objs.size+1) ⟨kp,Ss (Nat.le_succ _),h.objs.size,by rw[hX0];exact hget,Ss (P9 _),?_⟩) (λr s' hr=>?_) λ_ _ x=>x))
 .subst hT0;exact Pq _ (Heap.get?_push_at rfl rfl)
 .obtain⟨rfl,hQ⟩:=hr
  wp_walk
  exact hQ
def EY{Q:Pd->Pm->Prop}(F:ExcBaseFacts B newId initId bmB)(T:OwnTail h bmB bm)(hC:h.get? C=some (excClassObj nm q C N bs bm hdct sn sub ab col dd k0 k1 k2 k3 k5 newId))(hn:h.Ns N mN)(hi:mN "__init__"=some (.ref fI))(hfI:h.get? fI=some oI)(hfc:oI.cls=.type "function")(hrest:rest.length<=sizeLine)
  (hq:∀h' e,Uc h h' e (.ref C) rest->PZ (PN prog w) (A.under (.builtin "type.__call__" ⟨.ref C::rest,[]⟩)) (call (.ref fI) (.ref e::rest)) (λr s'=>r=.none/\Q (.ref e) s') E ⟨h',g,d,t,os⟩):PZ (PN prog w) A (call (.ref C) rest) Q E ⟨h,g,d,t,os⟩:=by
 have f1:=tc_lookup;have f2:=tc_bind (.ref C);have hT:(⟨h,g,d,t,os⟩:Pm).TypeIs (.ref C) "type":=⟨_,hC,rfl⟩
 refine wpAny_call (codeAny_of_tree (show PZ _ _ (callAny (.ref C) _) _ _ _ from ?_))
 repeat (any_goals (first|assumption|with_reducible refine Q5 hC ?_|wp_step))
 exact⟨rfl,codeAny_call_builtin_at (Tp _ (by decide +kernel)) entry_typeCall (wpAny_check_type_call_sub hC (EU F T hC hn hi hfI hfc hrest λh' e hm=>hq h' e hm))⟩
end
section
variable {M:Model}{A:Qp}{E:Pd->Pm->Prop}{env:QL}
variable {nm q:Pj}{C N:Pg}{bs bm:List Pd}{hdct:Bool}{sn:bv}{sub:List Pd}{ab:Bool}{col:Option Bool}{dd:Option Pg}{k0 k1 k2 k3 k5:Option Pd}{newId:String}
def BE{s:Pm}{x:Sem Pd}{Q:Flow->Pm->Prop}(hbase:bm.contains (.type "BaseException")=true)(hh:A.handled=none)
  (h:PZ M A x (λv sg=>∃e dc t,v=.ref e/\sg.heap.get? C=some (excClassObj nm q C N bs bm hdct sn sub ab col dd k0 k1 k2 k3 k5 newId)/\sg.heap.get? e=some ⟨.ref C,dc,.fields #[.ref t,.none,.none,.none,.bool false,.none],#[]⟩/\E (.ref e) sg) E s):PZ M A (raiseStmt env (some x) none) Q E s:=by
 have hcB:(Qh C::bm).contains (.type "BaseException")=true:=by rw[List.contains_cons,hbase,Bool.or_true]
 unfold raiseStmt;refine Pp (QC h (λv sg ⟨e,dc,t,hv,hC,he,hE⟩=>?_) λ_ _ x=>x);subst hv;obtain⟨hp,g,d,tk,os⟩:=sg
 repeat (first|with_reducible refine Q5 he ?_|with_reducible refine Q5 hC ?_|(with_reducible refine wpAny_isSubtype_exc hC ?_;rw[hcB])|wp_step)
 exact wpAny_raiseNew_none hh hE
end
def jP:List Pd->Bool
 |.ref _::r=>jP r
 |l=>l==[.type "ValueError",.type "Exception",.type "BaseException",.type "object"]
theorem sr(self:Pd):∀{l:List Pd},jP l=true->refuseLoop self "__setattr__" l=pure ()
 |[],e=>by cases e
 |x::r,e=>by
  cases x with|ref c=>rw[refuseLoop_ref];exact sr self (l:=r) (by unfold jP at e;exact e)| _=>unfold jP at e;rw[beq_iff_eq.mp e];exact PySem.F.store_ValueError.passes self
theorem BL:∀{l:List Pd},jP l=true->l.contains (.type "object")=true
 |[],e=>by cases e
 |x::r,e=>by
  cases x with|ref c=>rw[List.contains_cons,BL (l:=r) (by unfold jP at e;exact e),Bool.or_true]| _=>unfold jP at e;rw[beq_iff_eq.mp e];decide
structure Ep (K:Pl) (C:Pg) (ks:bv):Prop where
 sa:QW K (.ref C) "__setattr__"=some (some (.builtin "object.__setattr__"))
 hd:RF K C=true
 mr:(W.clsIn K C).any (λcd=>jP cd.mro)=true
 no:∀f∈ks,eh K C f
section
variable {prog:Qi}{w:Qv}{A:Qp}{K:Pl}{C x:Pg}{s:Pm}{R:Tf->Pm->Prop}
def yD{ox:Obj}{od:Option Obj}{name:Pj}{tk:Tok}{v:Pd}{ks:bv}(X:K.In s.heap)(I:T7 s.heap x ox C od)(c:Ep K C ks)(hf:name∈ks)
  (h:∀b,PZ (PN prog w) A.in1 (Builtin.ObjectAttr.storeInOwnDict (.ref x) (.ref C) (.str name tk) name v b) (λfin s'=>match fin with|.done f=>R (.ok f) s'|.again c'=>c'.quiet=true/\RO (PN prog w) A c' R s') (λe s'=>R (.error e) s') s) :
  RO (PN prog w) A (.call (.builtin "object.__setattr__") ⟨[.ref x,.str name tk,v],[]⟩) R s:=by
 have SF:=PySem.F.store_object;obtain⟨cd,hc,ho⟩:=T6 c.mr;have ne:cd.mro.isEmpty=false:=by cases q:cd.mro with|nil=>rw[q]at ho;cases ho|cons _ _=>rfl
 have sub:Su (PN prog w) s.heap (isInstance (.ref x) (.type "object")) true:=I.type.andThen (W.looks_mroIn X (by unfold Uy;rw[hc,Option.bind_some,if_neg (by rw[ne];decide),BL ho]));refine codeAny_call_builtin SF.slot.plain SF.entry (@W.check_slot (PN prog w) _ _ s "object.__setattr__" "object" "__setattr__" (.ref x) [.str name tk,v] [] _ SF.kind SF.split sub (SF.args (.ref x) (.str name tk) v) ?_);have hm:Su (PN prog w) s.heap (mroOf (.ref C)) cd.mro:=(Tb X hc).andThen .now;rw[W.osa_eq,refuse_eq];refine Pp (Pp (I.type.here (Pp (hm.here ?_))));rw[sr _ ho];refine PX ?_;have L3:Su (PN prog w) s.heap (Builtin.ObjectAttr.storeTaker? none) none:=.now;have L2:Su (PN prog w) s.heap (Sm (.ref C) name) none:=W.looks_findIn X (c.no name hf);refine Pp (I.type.here (Pp (L2.here (Pp (L3.here ?_)))));exact h _
def EX{E:Pd->Pm->Prop}{Q:Unit->Pm->Prop}{name:Pj}{v:Pd}{ks:bv}{fs:Array Pd}(X:K.In s.heap)(hx:s.heap.get? x=some ⟨.ref C,none,.fields fs,#[]⟩)(c:Ep K C ks)(hf:name∈ks)
  (h:∀h',h'.get? x=some ⟨.ref C,some s.heap.objs.size,.fields fs,#[]⟩->h'.Ns1 s.heap.objs.size (λy=>if y=name then some v else none)->(∀b o,b≠x->s.heap.get? b=some o->h'.get? b=some o)->Q () { s with heap:=h',toks:=s.toks+2 }) :
  PZ (PN prog w) A (setAttr (.ref x) name v) Q E s:=by
 have J:T7 s.heap x ⟨.ref C,none,.fields fs,#[]⟩ C none:=⟨hx,rfl,rfl,trivial⟩
 refine UT X J c.sa (yD (s:={ s with toks:=s.toks+1 }) X J c hf λb=>?_);obtain⟨cd,hc,hd'⟩:=T6 c.hd;refine Pp (PX (Pp (Pp (wpAny_loadPart hx (Pp (UB (s:={ s with toks:=s.toks+1 }) (Tb X hc) ?_))))));rw[hd'];have hx₁:(s.heap.push Q7).get? x=some ⟨.ref C,none,.fields fs,#[]⟩:=Pq _ hx;have hxs:x≠s.heap.objs.size:=Qg (PM hx);have hgd:((s.heap.push Q7).update x λo=>{ o with dict:=some s.heap.objs.size }).get? s.heap.objs.size=some Q7:=(U4 _ _ _ _ hxs.symm).trans (Heap.get?_push_at rfl rfl);have hnd:((s.heap.push Q7).update x λo=>{ o with dict:=some s.heap.objs.size }).Ns s.heap.objs.size (λ_=>none):=⟨_,#[],_,hgd,rfl,λe he=>absurd he (by simp),λ_=>rfl⟩
 have hx2:((s.heap.push Q7).update x λo=>{ o with dict:=some s.heap.objs.size }).get? x=some ⟨.ref C,some s.heap.objs.size,.fields fs,#[]⟩:=Rq _ hx₁ rfl;refine Pp (wpAny_alloc' (Pp (wpAny_update' hx₁ (PX ?_))));refine Pp (PX (Pp (wpAny_nsSet1 (Heap.Ns1.of_empty hnd) λh' hn' hs=>?_)));obtain⟨oD,esD,epD,hoD,hdD,hcD⟩:=hn'.count (Tu name v Ru.nil);refine Pp (wpAny_lookBehind hoD (by rw[hdD];exact pastItsLine_dict (PB hcD (by rw[PU,RL,sizeLine_eq];omega))) (PX (h h' ?_ hn' λb o hb e=>?_)))
 .exact(hs.2 x hxs).trans hx2
 .exact(hs.2 b (Qg (PM e))).trans ((U4 _ _ _ _ hb).trans (Pq _ e))
def EW{E:Pd->Pm->Prop}{Q:Unit->Pm->Prop}{name:Pj}{v:Pd}{ks ns:bv}{fs:Array Pd}{dx:Pg}{mA:Pj->Option Pd}(X:K.In s.heap)(hx:s.heap.get? x=some ⟨.ref C,some dx,.fields fs,#[]⟩)(hn:s.heap.Ns1 dx mA)(hne:dx≠x)(hw:Ru mA ns)(hsz:ns.length<=sizeLine)(c:Ep K C ks)(hf:name∈ks)
  (h:∀h',h'.Ns1 dx (λy=>if y=name then some v else mA y)->Sh dx s.heap h'->Q () { s with heap:=h',toks:=s.toks+2 }):PZ (PN prog w) A (setAttr (.ref x) name v) Q E s:=by
 obtain⟨od,hod,hl⟩:=m5 hn;have J:T7 s.heap x ⟨.ref C,some dx,.fields fs,#[]⟩ C (some od):=⟨hx,rfl,rfl,hod⟩
 refine UT X J c.sa (yD (s:={ s with toks:=s.toks+1 }) X J c hf λb=>?_);obtain⟨cd,hc,hd'⟩:=T6 c.hd;refine Pp (PX (Pp (Pp (wpAny_loadPart hx (Pp (UB (s:={ s with toks:=s.toks+1 }) (Tb X hc) ?_))))));rw[hd'];refine PX (a:=some dx) (Pp (PX (Pp (wpAny_nsSet1 (s:={ s with toks:=s.toks+1 }) hn λh' hn2 hs2=>?_))));obtain⟨oD,esD,epD,hoD,hdD,hcD⟩:=hn2.count (Tu name v hw);exact Pp (wpAny_lookBehind hoD (by rw[hdD];exact pastItsLine_dict (PB hcD (by rw[PU];omega))) (PX (h _ hn2 hs2)))
end
def rl(a C:Pg)(dc:Option Pg)(h:PF):Prop:=∃t,h.get? a=some ⟨.ref C,dc,.fields #[.ref t,.none,.none,.none,.bool false,.none],#[]⟩
def wW(a:Pg)(fs:List (Pj×V))(h:PF):Prop:=∃mA,h.Ns1 a mA/\(∀f,yx (fs.lookup f) (mA f))/\Ru mA (fs.map (·.1))
def qo{a C:Pg}{dc:Option Pg}:∀h1 h2:PF,rl a C dc h1->(∀o,h1.get? a=some o->h2.get? a=some o)->rl a C dc h2:=λ_ _ ⟨t,e⟩ k=>⟨t,k _ e⟩
def u5{a:Pg}{fs:List (Pj×V)}:∀h1 h2:PF,wW a fs h1->(∀o,h1.get? a=some o->h2.get? a=some o)->wW a fs h2:=λ_ _ ⟨m,n,r⟩ k=>⟨m,n.at k,r⟩
def mP{a:Pg}{fs:List (Pj×V)}{h:PF}(x:wW a fs h):∃o,h.get? a=some o:=let ⟨_,⟨o,_,_,e,_⟩,_⟩:=x;⟨o,e⟩
def oC{a:Pg}{fs:List (Pj×V)}{h:PF}{mA:Pj->Option Pd}{f:Pj}{y:V}{u:Pd}(ry:bS y u)(r:∀f,yx (fs.lookup f) (mA f))(wi:Ru mA (fs.map (·.1)))(n:h.Ns1 a (λz=>if z=f then some u else mA z)):wW a (eN f y fs) h:=by
 refine⟨_,n,λg=>?_,λg hg=>?_⟩
 .rw[j7]
  by_cases q:g=f
  .rw[if_pos q];simp only[if_pos q];exact ry
  .rw[if_neg q];simp only[if_neg q];exact r g
 .by_cases q:g=f
  .rw[q];exact(iW f y fs).1
  .exact(iW f y fs).2 g (wi g λz=>hg (by simp only[if_neg q];exact z))
section
variable {X:Cx}{o value:Qe}{f:Pj}{pos pos':Pos}{ta tv:TE}
noncomputable def OY(K:Pl) (ta tv:TE) (f:Pj):TS:=λD σ H=>tv σ H λy H1=>ta σ H1 λx H2=>∃a C dx l ks,x=.ref a/\H2 a=some (.ext (rl a C (some dx)))/\H2 dx=some (.ext (wW dx l))/\dx≠a/\Ep K C ks/\f∈ks/\l.length<1000/\D.nx σ (upd H2 dx (.ext (wW dx (eN f y l))))
def OZ(K:Pl)(ta tv:TE)(f:Pj):TS:=λD σ H=>tv σ H λy H1=>ta σ H1 λx H2=>∃a C ks,x=.ref a/\H2 a=some (.ext (rl a C none))/\Ep K C ks/\f∈ks/\∀dx,H2 dx=none->D.nx σ (upd (upd H2 a (.ext (rl a C (some dx)))) dx (.ext (wW dx [(f,y)])))
def Mj(ha:PE X o ta)(hv:PE X value tv)(hs:QK value (some (.Attribute o f pos')) pos.line X.env=pure false):PS X (.Assign [.Attribute o f pos'] value pos) (OY X.K ta tv f):=by
 intro π s σ H D I h;refine plainObj_wpAny_Assign_Attribute (dw (hv π s σ H _ I h) λu s1 ⟨y,H1,I1,ry,q⟩=>dw (ha π s1 σ H1 _ I1 q) λov s2 z9=>?_) hs;obtain⟨x,H2,I2,rx,a,C,dx,l,ks,ex,ea,ed,hne,c,hf,hl,q2⟩:=z9;subst ex;obtain rfl:ov=Qh a:=rx;obtain⟨⟨t,hx⟩,_,_⟩:=(show c7 X.prog X.w H2 s2.heap a (.ext _) from I2.hok a _ ea)
 obtain⟨⟨mA,n,r,wi⟩,_,_⟩:=(show c7 X.prog X.w H2 s2.heap dx (.ext _) from I2.hok dx _ ed)
 refine EW I2.kIn hx n hne wi (by rw[Ph,sizeLine_eq];omega) c hf λh' n' sb=>⟨σ,_,I2.write (o:=.ext (wW dx (eN f y l))) (x:=dx) (e:=dx) (by rw[ed];exact RH) (.inl rfl) (λb q hb z=>(sb.2 b hb).trans z) (mP (oC ry r wi n')) ⟨oC ry r wi n',mP (oC ry r wi n'),u5⟩,q2⟩
def Ml(ha:PE X o ta)(hv:PE X value tv)(hs:QK value (some (.Attribute o f pos')) pos.line X.env=pure false):PS X (.Assign [.Attribute o f pos'] value pos) (OZ X.K ta tv f):=by
 intro π s σ H D I h;refine plainObj_wpAny_Assign_Attribute (dw (hv π s σ H _ I h) λu s1 ⟨y,H1,I1,ry,q⟩=>dw (ha π s1 σ H1 _ I1 q) λov s2 z9=>?_) hs;obtain⟨x,H2,I2,rx,a,C,ks,ex,ea,c,hf,q2⟩:=z9;subst ex;obtain rfl:ov=Qh a:=rx;obtain⟨⟨t,hx⟩,_,_⟩:=(show c7 X.prog X.w H2 s2.heap a (.ext _) from I2.hok a _ ea)
 have fr:H2 s2.heap.objs.size=none:=I2.hok.fresh (P9 _);have hne:s2.heap.objs.size≠a:=λz=>R3 _ (z▸PM hx);refine EX I2.kIn hx c hf λh' e' n' k'=>⟨σ,_,?_,q2 s2.heap.objs.size fr⟩
 have p:wW s2.heap.objs.size [(f,y)] h':=oC (fs:=[]) (mA:=λ_=>none) ry (λ_=>RH) (λ_ z=>absurd rfl z) n';have mu:Lq (H2 a):=by rw[ea];exact RH
 have fr':(upd H2 a (.ext (rl a C (some s2.heap.objs.size)))) s2.heap.objs.size=none:=by rw[ax hne];exact fr
 exact I2.un (Un.ext (Un.write mu (.inl rfl) (λb q hb z=>k' b q hb z) ⟨_,e'⟩) fr' (Ss (P9 _))) (gO.ext (I2.hok.write (o':=.ext (rl a C (some s2.heap.objs.size))) mu (.inl rfl) (λb q hb z=>k' b q hb z) ⟨_,e'⟩ ⟨⟨t,e'⟩,⟨_,e'⟩,qo⟩) fr' p (mP p) u5)
end
def LJ(is:ci):TA:=λσ H Q=>∃vs,is.map (λi=>σ[i]?)=vs.map (λv=>some (some v))/\Q vs H
structure PV (X:Cx) (es:List Qe) (is:ci):Prop where
 o:PA X es (LJ is)
section
variable {X:Cx}
def Cr:PV X [] []:=⟨λpos π s σ H Q I ⟨vs,e,h⟩=>by
 cases vs with
 |nil=>exact dD pos π s σ H Q I h
 |cons v vs=>simp at e⟩
def oM{es:List Qe}{is:ci}{i:Nat}{y:Pj}{p:Pos}(hN:X.N[i]?=some y)(hv:wJ X.env.scope y)(h:PV X es is)(hd:(y==("__debug__" : Pj))=false:=by decide)(hcd:(y==("__classdict__" : Pj))=false:=by decide):PV X (.Name y p::es) (i::is) :=
 ⟨λpos π s σ H Q I ⟨vs,e,q⟩=>by
  cases vs with
  |nil=>simp at e
  |cons v vs=>
   simp only[Qr,T2]at e;exact b8 (gE hN hv hd hcd) h.o (aI rfl) pos π s σ H Q I ⟨v,e.1,vs,e.2,q⟩⟩
structure Er (K:Pl) (CE:Pg):Prop where
 rd:W.readsIn K CE (.type "type")=true
 fc:W.findCls K (.ref CE) (.type "type") "__init__"=some (.val (.builtin "ValueError.__init__"))
 sp:SI K (.ref CE) "__getattribute__"=some (some (.builtin "type.__getattribute__"))
structure IP (K:Pl) (C fn:Pg):Prop where
 ex:∃CE nm q N bs hdct sn sub ab col dd k0 k1 k2 k3 k5,K.lookup C=some (excClassObj nm q C N bs [.ref CE,.type "ValueError",.type "Exception",.type "BaseException",.type "object"] hdct sn sub ab col dd k0 k1 k2 k3 k5 "ValueError.__new__")/\W.nsOkIn K N=true/\QM K N "__init__"=some (some (.ref fn)) /\
  UA K CE [.type "ValueError",.type "Exception",.type "BaseException",.type "object"] "ValueError.__new__"=true
def F4{K:Pl}{h:PF}{N:Pg}{mg:Pj->Option Pd}{n:Pj}{v:Pd}(X:K.In h)(G:h.Ns N mg)(e:QM K N n=some (some v)):mg n=some v:=by
 obtain⟨o,es,ep,ho,hd,_,hf⟩:=G;unfold QM at e;split at e
 .rename_i c d es' n' sl q
  have:=X _ _ q;rw[ho]at this;cases this;cases hd;split at e
  .rename_i en he
   rw[←hf];unfold nsFind findBy;rw[←Array.find?_toList,he];simpa using e
  .split at e<;>cases e
 .cases e
structure Ot (h:PF) (C fn:Pg):Prop where
 ex:∃bm N nm q bs hdct sn sub ab col dd k0 k1 k2 k3 k5 mN,h.get? C=some (excClassObj nm q C N bs bm hdct sn sub ab col dd k0 k1 k2 k3 k5 "ValueError.__new__")/\h.Ns N mN/\mN "__init__"=some (.ref fn)/\OwnTail h [.type "ValueError",.type "Exception",.type "BaseException",.type "object"] bm
def BV{K:Pl}{CE:Pg}{h:PF}(X:K.In h)(q:UA K CE [.type "ValueError",.type "Exception",.type "BaseException",.type "object"] "ValueError.__new__"=true):OwnTail h [.type "ValueError",.type "Exception",.type "BaseException",.type "object"] [.ref CE,.type "ValueError",.type "Exception",.type "BaseException",.type "object"]:=by
 unfold UA at q;split at q
 .rename_i dd cd sl ho
  split at q
  .simp only[Pr,beq_iff_eq,QU]at q
   obtain⟨⟨⟨⟨_,_⟩,_⟩,hok⟩,hni⟩:=q;exact .own (X _ _ ho) (.of_isNs (Uz X hok)) (W.nsMap_none_of_in X hok hni) .base
  .cases q
 .cases q
def yC{K:Pl}{C fn:Pg}{h:PF}(X:K.In h)(q:IP K C fn):Ot h C fn:=by
 obtain⟨CE,nm,qn,N,bs,hdct,sn,sub,ab,col,dd,k0,k1,k2,k3,k5,ho,hok,hi,he⟩:=q.ex;exact⟨_,N,nm,qn,bs,hdct,sn,sub,ab,col,dd,k0,k1,k2,k3,k5,_,X _ _ ho,.of_isNs (Uz X hok),F4 X (.of_isNs (Uz X hok)) hi,BV X he⟩
def OW(K:Pl)(t:TA):TE:=λσ H Q=>t σ H λvs H1=>∃a C rest fn,vs=.ref a::rest/\rest.length<=line/\H1 a=some (.ext (rl a C none))/\IP K C fn/\Q .non (upd H1 a (.ext (rl a C none)))
def Mn{ce:Pj}{CE:Pg}{np apos cpos:Pos}{e:Qe}{es:List Qe}{t:TA}{pl:Sem Bool}(b:Er X.K CE)(hg:Gl X ce)(hm:X.mg ce=some (.ref CE))(ha:PA X (e::es) t)(hdb:(ce==("__debug__" : Pj))=false:=by decide)
  (he:Po (e::es) X.env=(false,eval e X.env)::Po es X.env:=by exact aI rfl)(hpl:(Qy cpos (Po es X.env)).any (·.1)=false:=by exact bB rfl)
  (ht:eval (.Call (.Attribute (.Name ce np) "__init__" apos) (e::es) [] cpos) X.env=(do
   let ov ←eval (.Name ce np) X.env
   standAt apos.atName
   let (f,first) ←Uw [ov] (getMethod ov "__init__" pl)
   callWith cpos f first (Qy cpos (Po (e::es) X.env)) (R0 cpos (Rc [] X.env))):=by rfl) :
  PE X (.Call (.Attribute (.Name ce np) "__init__" apos) (e::es) [] cpos) (OW X.K t):=by
 intro π s σ H Q I h;refine W.methodCall_KW (pl:=pl) (iu I hg hm (W.method_cls I.kIn b.sp (W.cls_value I.kIn b.rd b.fc rfl ?_)) hdb) ht;have I0:=I.tok (s.toks+1);have hA:=ha cpos π _ σ H _ I0 h;rw[he]at hA ⊢;refine UN (by show(false||(Qy cpos (Po es X.env)).any (·.1))=false;rw[hpl];rfl) (S9 (dw hA λus s1 ⟨vs,H1,I1,r,a,C,rest,fn,ev,hl,ea,hx,q⟩=>?_));subst ev;obtain⟨_,us',rfl,ra,r'⟩:∃u us',us=u::us'/\bS (.ref a) u/\bM rest us':=by cases r with|cons r1 r2=>exact⟨_,_,rfl,r1,r2⟩
 obtain rfl:_=Qh a:=ra;obtain⟨bm,N,nm,qn,bs,hdct,sn,sub,ab,col,dd,k0,k1,k2,k3,k5,mN,hC,hn,hi,T⟩:=(yC I1.kIn hx).ex;obtain⟨⟨t0,hae⟩,_,_⟩:=(show c7 X.prog X.w H1 s1.heap a (.ext _) from I1.hok a _ ea)
 have F:=Sy;have hz:us'.length<=sizeLine:=by rw[←r'.length];exact fJ hl
 obtain⟨hp,g,d,tk,os⟩:=s1;refine wpAny_call (codeAny_call_builtin F.init.plain F.initEntry (wpAny_check_init_subT F T hC hae rfl ?_))
 wp_walk
 have mu:Lq (H1 a):=by rw[ea];exact RH
 have hne:a≠hp.objs.size:=Qg (PM hae);refine⟨.non,upd H1 a (.ext (rl a C none)),I1.write (o:=.ext (rl a C none)) (x:=a) (e:=a) mu (.inl rfl) (λb u hb e=>(Rm _ _ (Qq hb)).trans (Pq _ e)) ⟨_,Rq _ (Pq _ hae) rfl⟩ ⟨⟨hp.objs.size,?_⟩,⟨_,Rq _ (Pq _ hae) rfl⟩,qo⟩,rfl,q⟩;rw[Rq _ (Pq _ hae) rfl];rfl
end
section
variable {X:Cx}
noncomputable def OO(K:Pl) (fs:bv) (is:ci):TS:=λD σ H=>∃a C dx l ks vs,σ[0]?=some (some (V.ref a))/\H a=some (.ext (rl a C (some dx)))/\H dx=some (.ext (wW dx l))/\dx≠a/\Ep K C ks/\(∀f∈fs,f∈ks)/\l.length+fs.length<1000/\fs.length=vs.length /\
 is.map (λi=>σ[i]?)=vs.map (λv=>some (some v))/\D.nx σ (upd H dx (.ext (wW dx (putAll fs vs l))))
structure XR (X:Cx) (sts:List QQ) (fs:bv) (is:ci):Prop where
 o:rP X sts (OO X.K fs is)
def BC:XR X [] [] []:=⟨fD kG λD σ H ⟨a,C,dx,l,ks,vs,h1,h2,h3,h4,h5,h6,h7,h8,h9,q⟩=>by
 cases vs with
 |nil=>unfold putAll at q;rw[va h3]at q;exact q
 |cons v vs=>simp at h8⟩
def ET{sts:List QQ}{fs:bv}{is:ci}{f:Pj}{i:Nat}{x y:Pj}{p1 p2 p3 pos:Pos}(hN:X.N[i]?=some y)(hN0:X.N[0]?=some x)(hv:wJ X.env.scope y)(hv0:wJ X.env.scope x)(h:XR X sts fs is)
  (hd:(y==("__debug__" : Pj))=false:=by decide)(hcd:(y==("__classdict__" : Pj))=false:=by decide)(hd0:(x==("__debug__" : Pj))=false:=by decide)(hcd0:(x==("__classdict__" : Pj))=false:=by decide)
  (hs:QK (.Name y p3) (some (.Attribute (.Name x p1) f p2)) pos.line X.env=pure false:=by rfl):XR X (.Assign [.Attribute (.Name x p1) f p2] (.Name y p3) pos::sts) (f::fs) (i::is):=by
 refine⟨fD (eD (Mj (gE hN0 hv0 hd0 hcd0) (gE hN hv hd hcd) hs) h.o) λD σ H z9=>?_⟩;obtain⟨a,C,dx,l,ks,vs,h1,h2,h3,h4,h5,h6,h7,h8,h9,q⟩:=z9;cases vs with
 |nil=>simp at h8
 |cons v vs=>
  simp only[Qr,T2]at h9;simp only[PU]at h7 h8;refine⟨v,h9.1,.ref a,h1,a,C,dx,l,ks,rfl,h2,h3,h4,h5,h6 f P0,by omega,a,C,dx,_,ks,vs,h1,?_,ay,h4,h5,λg hg=>h6 g (Pw _ hg),?_,by omega,h9.2,?_⟩
  .rw[ax h4.symm];exact h2
  .have:=pI (f:=f) (v:=v) (l:=l);omega
  .rw[mQ];exact q
noncomputable def OP(K:Pl) (ks:bv) (is:ci):TS:=λD σ H=>∃a C fn vs,σ[0]?=some (some (V.ref a))/\H a=some (.ext (rl a C none))/\Ep K C ks/\IP K C fn/\ks.length=vs.length/\ks.length<=60 /\
 is.map (λi=>σ[i]?)=vs.map (λv=>some (some v))/\∀dx,H dx=none->D.nx σ (upd (upd H a (.ext (rl a C (some dx)))) dx (.ext (wW dx (putAll ks vs []))))
structure XB (X:Cx) (sts:List QQ) (ks:bv) (is:ci):Prop where
 o:rP X sts (OP X.K ks is)
def HW{sts:List QQ}{fs:bv}{is:ci}{f:Pj}{i:Nat}{x y ce:Pj}{CE:Pg}{p1 p2 p3 pos np apos cpos spos sp0:Pos}{es:List Qe}{pl:Sem Bool}(b:Er X.K CE)(hg:Gl X ce)(hm:X.mg ce=some (.ref CE))(hpv:PV X es (i::is))(hN:X.N[i]?=some y)(hN0:X.N[0]?=some x)(hv:wJ X.env.scope y)(hv0:wJ X.env.scope x)(h:XR X sts fs is)
  (hd:(y==("__debug__" : Pj))=false:=by decide)(hcd:(y==("__classdict__" : Pj))=false:=by decide)(hd0:(x==("__debug__" : Pj))=false:=by decide)(hcd0:(x==("__classdict__" : Pj))=false:=by decide)(hdb:(ce==("__debug__" : Pj))=false:=by decide)
  (hs:QK (.Name y p3) (some (.Attribute (.Name x p1) f p2)) pos.line X.env=pure false:=by rfl)(hs0:QK (.Call (.Attribute (.Name ce np) "__init__" apos) (.Name x sp0::es) [] cpos) none spos.line X.env=pure false:=by rfl)(hpl:(Qy cpos (Po es X.env)).any (·.1)=false:=by exact bB rfl)
  (ht:eval (.Call (.Attribute (.Name ce np) "__init__" apos) (.Name x sp0::es) [] cpos) X.env=(do
   let ov ←eval (.Name ce np) X.env
   standAt apos.atName
   let (f,first) ←Uw [ov] (getMethod ov "__init__" pl)
   callWith cpos f first (Qy cpos (Po (.Name x sp0::es) X.env)) (R0 cpos (Rc [] X.env))):=by rfl) :
  XB X (.Expr (.Call (.Attribute (.Name ce np) "__init__" apos) (.Name x sp0::es) [] cpos) spos::.Assign [.Attribute (.Name x p1) f p2] (.Name y p3) pos::sts) (f::fs) (i::is):=by
 refine⟨fD (eD (l7 (Mn b hg hm (oM (p:=sp0) hN0 hv0 hpv hd0 hcd0).o hdb (aI rfl) hpl ht) hs0) (eD (Ml (gE hN0 hv0 hd0 hcd0) (gE hN hv hd hcd) hs) h.o)) λD σ H ⟨a,C,fn,vs,h1,h2,h3,h4,h5,h6,h7,q⟩=>?_⟩;refine⟨.ref a::vs,(show σ[0]?::(i::is).map (λi=>σ[i]?)=some (some (V.ref a))::vs.map (λv=>some (some v)) by rw[h1,h7]),a,C,vs,fn,rfl,?_,h2,h4,?_⟩
 .have:vs.length<=60:=by omega
  exact PB this (by decide)
 .cases vs with
  |nil=>simp at h5
  |cons v vs=>
   simp only[Qr,T2]at h7;simp only[PU]at h5 h6;rw[va h2];refine⟨v,h7.1,.ref a,h1,a,C,f::fs,rfl,h2,h3,P0,λdx hdx=>?_⟩;have hne:dx≠a:=λz=>by subst z;rw[h2]at hdx;cases hdx
   refine⟨a,C,dx,[(f,v)],f::fs,vs,h1,?_,ay,hne,h3,λg hg=>Pw _ hg,?_,by omega,h7.2,?_⟩
   .rw[ax hne.symm,ay]
   .simp only[PU,RL];omega
   .rw[mQ]
    have:=q dx hdx;unfold putAll at this;exact this
end
noncomputable def B6(K:Pl) (ks:bv):Sp:=λvs H Q _=>∃a C fn args,vs=.ref a::args/\args.length=ks.length/\H a=some (.ext (rl a C none))/\Ep K C ks/\IP K C fn/\∀dx,H dx=none->Q .non (upd (upd H a (.ext (rl a C (some dx)))) dx (.ext (wW dx (putAll ks args []))))
def IB{P:Qi}{w:Qv}{K:Pl}{mg:Pj->Option Pd}{base:PF}{x qual:Pj}{st:QQ}{f:Pg}{fd:Qo}{ps:bv}{ks:bv}(F:zU K x qual st f fd)(S:eT ps ps (defScope st))(hps:ps.length=ks.length+1)(hf:ks.length<=60)
  (hbody:∀(cdv:Pd) (A:Qp) (outer:List QL) (s0:Pm) (H:Hp) (E:XK),XB (fy CX0 P w K mg base ps qual (defScope st) f cdv A outer s0 H E).nox (defBody st) ks ((Q0 ks.length).map (· + 1))):FnOk P w K mg base CX0 1 f fd ps (B6 K ks):=by
 refine F.ok S (λvs H Q E h=>?_) λcdv A outer s0 H vs Q E hr h=>?_
 .obtain⟨a,C,fn,args,rfl,hl,_⟩:=h
  simp[hl,hps]
 .obtain⟨a,C,fn,args,rfl,hl,hH,hC,hn,q⟩:=h
  refine⟨_,(hbody cdv A outer s0 H E).o,a,C,fn,args,?_,hH,hC,hn,hl.symm,hf,?_,q⟩
  .unfold L2.start;simp
  .unfold L2.start
   apply List.ext_getElem?;intro i;simp only[P7,RJ]
   by_cases hi:i<ks.length
   .have hia:i<args.length:=by omega
    simp[hi,hia,PY,QP]
   .have hia:¬i<args.length:=by omega
    simp[hi,hia]
section
variable {prog:Qi}{w:Qv}{A:Qp}{E:Pd->Pm->Prop}{s:Pm}{env:QL}
variable {nm q:Pj}{C N:Pg}{bs bm bmB:List Pd}{hdct:Bool}{sn:bv}{sub:List Pd}{ab:Bool}{col:Option Bool}{dd:Option Pg}{k0 k1 k2 k3 k5:Option Pd}{B newId initId:String}{mN:Pj->Option Pd}{fI:Pg}{oI:Obj}
def BF(F:ExcBaseFacts B newId initId bmB){x:Pj}{np cpos pos:Pos}{args:List Qe}{Q:Flow->Pm->Prop}(hbase:bm.contains (.type "BaseException")=true)(hh:A.handled=none)(hplain:(Qy cpos (Po args env)).any (·.1)=false)(hi:mN "__init__"=some (.ref fI))
  (h:PZ (PN prog w) A (eval (.Name x np) env) (λf sg=>f=.ref C/\PZ (PN prog w) A (evalArgs (.ref C) true (Qy cpos (Po args env)) []) (λa si=>a.kw=[]/\a.pos.length<=sizeLine/\si.heap.get? C=some (excClassObj nm q C N bs bm hdct sn sub ab col dd k0 k1 k2 k3 k5 newId)/\si.heap.Ns N mN/\OwnTail si.heap bmB bm/\si.heap.get? fI=some oI/\oI.cls=.type "function" /\
    ∀h' e,Uc si.heap h' e (.ref C) a.pos->PZ (PN prog w) (A.under (.builtin "type.__call__" ⟨.ref C::a.pos,[]⟩)) (call (.ref fI) (.ref e::a.pos)) (λr s'=>r=.none/\s'.heap.get? C=some (excClassObj nm q C N bs bm hdct sn sub ab col dd k0 k1 k2 k3 k5 newId)/\(∃dc t,s'.heap.get? e=some ⟨.ref C,dc,.fields #[.ref t,.none,.none,.none,.bool false,.none],#[]⟩)/\E (.ref e) s') E { si with heap:=h' }) E sg) E s) :
  PZ (PN prog w) A (exec (.Raise (some (.Call (.Name x np) args [] cpos)) none pos) env) Q E s:=by
 rw[arm_exec_Raise];refine Pp (wpAny_standAt (BE (C:=C) (nm:=nm) (q:=q) (N:=N) (bs:=bs) (bm:=bm) (hdct:=hdct) (sn:=sn) (sub:=sub) (ab:=ab) (col:=col) (dd:=dd) (k0:=k0) (k1:=k1) (k2:=k2) (k3:=k3) (k5:=k5) (newId:=newId) hbase hh (Pp (QC (wpAny_Call_ofName (QC h (λf sg h₁=>?_) λ_ _ x=>x)) (λv sj hU=>Pp (wpAny_standAt (PX hU))) λ_ _ x=>x))));obtain⟨rfl,h₁⟩:=h₁;unfold callWith;refine Pp (Rz (QC h₁ (λ⟨apos,akw⟩ si ⟨hkw,hlen,hC,hn,T,hf,hfc,hG⟩=>Pp (wpAny_standAt ?_)) λ_ _ x=>x));obtain rfl:akw=[]:=hkw;obtain⟨hp,g,d,tk,os⟩:=si;simp only[hplain];refine Pp (wpAny_keeperOf_exc hC (Pp (EY F T hC hn hi hf hfc hlen λh' e hm=>QC (hG h' e hm) (λr s' hr=>?_) λ_ _ z=>z)));obtain⟨rfl,hC',⟨dc,t,he⟩,hE⟩:=hr;exact⟨rfl,Pp (Rz (wpAny_point (PX ⟨e,dc,t,rfl,hC',he,hE⟩)))⟩
end
structure qW (K:Pl) (x:Pj) (C:Pg):Prop where
 i:lS K x C
 cls:QW K (.ref C) "__class__"=some (some (.builtin "object.__class__"))
 ga:QW K (.ref C) "__getattribute__"=some (some (.builtin "BaseException.__getattribute__"))
 gt:QW K (.ref C) "__getattr__"=some none
 t1:Ra K (.ref C) (.type "NoneType")=some false
 t2:Ra K (.ref C) (.type "bool")=some false
 t3:Ra K (.ref C) (.type "int")=some false
 t4:Ra K (.ref C) (.type "str")=some false
 t5:Ra K (.ref C) (.type "tuple")=some false
 t6:Ra K (.ref C) (.type "list")=some false
 t7:Ra K (.ref C) (.type "dict")=some false
 ve:Ra K (.ref C) (.type "ValueError")=some true
 self:Ra K (.ref C) (.ref C)=some true
def qW.xc{K:Pl}{x:Pj}{C:Pg}(Z:qW K x C):XC K x C :=
 ⟨Z.i.ns,⟨Z.cls,Z.ga,Z.gt,Z.i.ob,Z.i.be⟩,λT hT=>by
  refine xR (nT T hT) ?_;simp only[gG,PL,QT,or_false]at hT;rcases hT with rfl|rfl|rfl|rfl|rfl|rfl|rfl
  all_goals first|exact Z.t1|exact Z.t2|exact Z.t3|exact Z.t4|exact Z.t5|exact Z.t6|exact Z.t7⟩
def IZ{K:Pl}{C fn:Pg}{ks:bv}(z:IP K C fn)(sa:QW K (.ref C) "__setattr__"=some (some (.builtin "object.__setattr__")))(hd:RF K C=true)(no:∀f∈ks,eh K C f):Ep K C ks:=by
 obtain⟨CE,nm,qn,N,bs,hdct,sn,sub,ab,col,dd,k0,k1,k2,k3,k5,ho,_⟩:=z.ex;refine⟨sa,hd,?_,no⟩;unfold W.clsIn;rw[ho];rfl
section
variable {P:Qi}{w:Qv}{K:Pl}{mg:Pj->Option Pd}{base:PF}{N:bv}{qual:Pj}{scope:Sk}{f:Pg}{cd:Pd}{A:Qp}{outer:List QL}{s0:Pm}{H0:Hp}{E:XK}{He η:Hp}
def Dj{H:Hp}{h:PF}{e dx:Pg}{o1 o2:HO}(ok:gO P w (upd (upd H e o1) dx o2) h)(he:H e=none)(hd:H dx=none)(n1:∀b,o1≠.own b)(n2:∀b,o2≠.own b)(m1:∀b,o1≠.tup b)(m2:∀b,o2≠.tup b):gO P w H h:=λa o q=>by
 have a1:a≠e:=λz=>by subst z;rw[he]at q;cases q
 have a2:a≠dx:=λz=>by subst z;rw[hd]at q;cases q
 refine(ok a o (by rw[ax a2,ax a1];exact q)).stay (λb u _ z=>z) (λb z=>?_) λb xs z=>?_
 .by_cases b2:b=dx
  .subst b2;rw[ay]at z;exact absurd (QI z) (n2 _)
  .rw[ax b2]at z
   by_cases b1:b=e
   .subst b1;rw[ay]at z;exact absurd (QI z) (n1 _)
   .rw[ax b1]at z;exact z
 .by_cases b2:b=dx
  .subst b2;rw[ay]at z;exact absurd (QI z) (m2 _)
  .rw[ax b2]at z
   by_cases b1:b=e
   .subst b1;rw[ay]at z;exact absurd (QI z) (m1 _)
   .rw[ax b1]at z;exact z
def Bp{fs:List Pg}{H H2:Hp}{h h2:PF}(u:Un fs [] H H2 h h2):Un fs [] H H h h2:=⟨u.keep,u.slot,λ_ _ _ n _=>n,u.there,λ_ _ q=>q,λ_ _ _ q=>q,λ_ ps q=>⟨#[],by rw[q];simp⟩⟩
end
def Il(e:TR):Bool:=match e.key with
 |.str _ _=>true
 |_=>false
def Jb{K:Pl}{C CE fn N:Pg}{nm q:Pj}{bs sub:List Pd}{hdct ab:Bool}{sn:bv}{col:Option Bool}{dd dn:Option Pg}{k0 k1 k2 k3 k5:Option Pd}{cn:Pd}{es:Array TR}{ep:Nat}{st:Array (Option Pd)}
  (xl:K.lookup C=some (excClassObj nm q C N bs [.ref CE,.type "ValueError",.type "Exception",.type "BaseException",.type "object"] hdct sn sub ab col dd k0 k1 k2 k3 k5 "ValueError.__new__"))(xn:K.lookup N=some ⟨cn,dn,.dict es ep,st⟩)(xk:es.toList.all Il=true)(xv:QM K N "__init__"=some (some (.ref fn)))
  (xb:UA K CE [.type "ValueError",.type "Exception",.type "BaseException",.type "object"] "ValueError.__new__"=true):IP K C fn:=by
 refine⟨CE,nm,q,N,bs,hdct,sn,sub,ab,col,dd,k0,k1,k2,k3,k5,xl,?_,xv,xb⟩;unfold W.nsOkIn;rw[xn];rw[Array.all_toList]at xk;exact xk
def bI(x:Pj)(ks:bv)(fa:Ev->aj (ac)):bd:=λρ=>(fa (kE ρ)).bind λds=>if ds.length=ks.length then .exn ⟨x,ks.zip ds⟩ else .stuck
theorem u3{K:Pl}{H:Hp}:∀{ks:bv}{ds:ac}{vs:al}{n:Pj}{d:D},Reps K H ds vs->(ks.zip ds).lookup n=some d->∃v,(ks.zip vs).lookup n=some v/\Rep K H d v
 |[],ds,vs,n,d,r,h=>by rw[List.zip_nil_left]at h;cases h
 |k::ks,[],vs,n,d,r,h=>by rw[List.zip_nil_right]at h;cases h
 |k::ks,e::ds,vs,n,d,r,h=>by
  obtain⟨v,vs',rfl,r1,r2⟩:=aD.mp r;rw[RI,Q2]at h;rw[RI];cases q:n==k with
  |true=>rw[q]at h;cases h;exact⟨v,by rw[Q2,q],r1⟩
  |false=>
   rw[q]at h;obtain⟨u,h1,h2⟩:=u3 r2 h;exact⟨u,by rw[Q2,q];exact h1,h2⟩
def gO.xd{P:Qi}{w:Qv}{H:Hp}{g:PF}(ok:gO P w H g){a:Pg}{fs:List (Pj×V)}(hn:H a=none)(p:wW a fs g):gO P w (upd H a (.xd fs)) g:=λb u e=>by
 by_cases hb:b=a
 .subst hb;rw[ay]at e;cases e;obtain⟨m,n,r,_⟩:=p;exact⟨m,n,r⟩
 .rw[ax hb]at e
  exact(ok b u e).stay (λc v _ q=>q) (λc q=>by rw[ax (bj q hn)];exact q) λc xs q=>by rw[ax (bj q hn)];exact q
section
variable {P:Qi}{w:Qv}{K:Pl}{mg:Pj->Option Pd}{base:PF}{N:bv}{qual:Pj}{scope:Sk}{f:Pg}{cd:Pd}{A:Qp}{outer:List QL}{s0:Pm}{H0:Hp}{E:XK}{He η:Hp}
def c9{x:Pj}{C fn:Pg}{np cpos pos:Pos}{e:Qe}{es:List Qe}{fa:Ev->aj (ac)}{k:Nat}{fd:Qo}{ps ks:bv}(xc:XC K x C)(z:IP K C fn)(st:Ep K C ks)(hfn:W.isFn K (.ref fn)=true)(F:FnOk P w K mg base CX0 k fn fd ps (B6 K ks))(hb:fV K fd ps [])(hks:ks.length<=60)(hnd:ks.Nodup)(hr:dz (k+1) (fy (iO P w) P w K mg base N qual scope f cd A outer s0 H0 E).A)(hm:mg x=some (.ref C))(hh:A.handled=none)
  (hg:Gl (fy (iO P w) P w K mg base N qual scope f cd A outer s0 H0 E) x)(ha:DA (fy (iO P w) P w K mg base N qual scope f cd A outer s0 H0 E) E (e::es) fa)
  (hdb:(x==("__debug__" : Pj))=false:=by decide)(he:Po (e::es) (fy (iO P w) P w K mg base N qual scope f cd A outer s0 H0 E).env=(false,eval e (fy (iO P w) P w K mg base N qual scope f cd A outer s0 H0 E).env)::Po es (fy (iO P w) P w K mg base N qual scope f cd A outer s0 H0 E).env:=by exact aI rfl)
  (hpl:(Qy cpos (Po es (fy (iO P w) P w K mg base N qual scope f cd A outer s0 H0 E).env)).any (·.1)=false:=by exact bB rfl) :
  DS (fy (iO P w) P w K mg base N qual scope f cd A outer s0 H0 E) E He η (.Raise (some (.Call (.Name x np) (e::es) [] cpos)) none pos) (bI x ks fa):=by
 refine⟨?_⟩;intro π s σ H D I ⟨Ha,ρ,hr',q⟩;obtain⟨bm,Nn,nm,qn,bs,hdct,sn,sub,ab,col,dd,k0,k1,k2,k3,k5,mN,hC,hN,hi,T⟩:=(yC I.ok.mod.kin z).ex;obtain⟨oI,hoI,hoc⟩:∃oI,base.get? fn=some oI/\oI.cls=.type "function":=by
  have:=beq_iff_eq.mp hfn;obtain⟨o,ho,hc⟩:=Option.map_eq_some_iff.mp this;exact⟨o,I.ok.mod.kin _ _ ho,hc⟩
 refine BF (C:=C) (nm:=nm) (q:=qn) (N:=Nn) (bs:=bs) (bm:=bm) (hdct:=hdct) (sn:=sn) (sub:=sub) (ab:=ab) (col:=col) (dd:=dd) (k0:=k0) (k1:=k1) (k2:=k2) (k3:=k3) (k5:=k5)
  Sy (mN:=mN) (oI:=oI) (T.hasType Sy.hasBase) hh (by rw[he];show(false||(Qy cpos (Po es (fy (iO P w) P w K mg base N qual scope f cd A outer s0 H0 E).env)).any (·.1))=false;rw[hpl];rfl) hi (iu I hg hm ⟨rfl,?_⟩ hdb)
 have hq:sC K E H (frz He Ha H) (fa (kE ρ)) (λvs H1=>vs.length=ks.length/\∀dx,H1 dx=none->E (.ref C) (some dx) (upd H1 dx (.xd (ks.zip vs)))):=by
  unfold bI at q;cases e1:fa (kE ρ) with
  |stuck=>rw[e1]at q;exact q|exn z=>rw[e1]at q;exact λC ox H' Ha' g ex=>q C ox H' Ha' (hr'.frz_grow.trans g) ex
  |ok ds=>
   rw[e1]at q;intro vs H1 H01 g rp;have q:cu K E He η Ha (if ds.length=ks.length then aj.exn ⟨x,ks.zip ds⟩ else .stuck) D:=q
   by_cases hl:ds.length=ks.length
   .rw[if_pos hl]at q
    refine⟨by rw[←rp.length];exact hl,λdx hdx=>?_⟩;have ga:=aX (o:=.xd (ks.zip vs)) g.sub hdx;refine q (.ref C) (some dx) _ _ (hr'.frz_grow.trans (g.trans ga)) ⟨⟨C,rfl,xc⟩,ks.zip vs,ay,λn d hn=>?_⟩;obtain⟨v,k1,k2⟩:=u3 rp hn;exact⟨v,k1,k2.mono ga.z⟩
   .rw[if_neg hl]at q;exact q.elim
 have h1:=ha.o cpos π s σ H _ I ⟨frz He Ha H,kE ρ,hr'.frz_le,hr'.looks,hq⟩;rw[he]at h1 ⊢;refine S9 (QC h1 (λus s2 h2=>?_) λ_ _ y=>y);obtain⟨vs,H1,I1,rv,hl,hE⟩:=h2;have hz:us.length<=sizeLine:=by rw[←rv.length,hl,sizeLine_eq];omega
 refine⟨rfl,hz,I1.bk _ _ hC,hN.keeps I1.bk,T.keeps I1.bk,I1.bk _ _ hoI,hoc,λh' ee hx=>?_⟩;have hn:H1 ee=none:=by
  cases q:H1 ee with|none=>rfl|some o=>obtain⟨u,hu⟩:=c7.there (I1.hok ee o q);rw[hx.new]at hu;cases hu
 obtain⟨t,ht,_,_⟩:=hx.there;have hxn:rl ee C none h':=⟨t,ht⟩
 have un1:Un (ip (fy (iO P w) P w K mg base N qual scope f cd A outer s0 H0 E).stack) [] H1 (upd H1 ee (.ext (rl ee C none))) s2.heap h':=Un.ext (Un.kept hx.keeps) hn hx.new;have I2:Inv (fy (iO P w) P w K mg base N qual scope f cd A outer s0 H0 E) π σ (upd H1 ee (.ext (rl ee C none))) { s2 with heap:=h' } :=
  I1.call' (ch:=[]) rfl un1 (gO.ext (I1.hok.kept hx.keeps) hn hxn ⟨_,ht⟩ qo) I1.bare (λ_ z=>nomatch z)
 have rv2:bM (V.ref ee::vs) (Qh ee::us):=.cons rfl rv;have hsp:B6 K ks (V.ref ee::vs) (upd H1 ee (.ext (rl ee C none))) (λv H2=>v=.non/\∃dx,H1 dx=none/\dx≠ee/\H2=upd (upd (upd H1 ee (.ext (rl ee C none))) ee (.ext (rl ee C (some dx)))) dx (.ext (wW dx (putAll ks vs [])))) E :=
  ⟨ee,C,fn,vs,rfl,hl,ay,st,z,λdx hdx=>by
   have c:dx≠ee:=λc=>by rw[c,ay]at hdx;cases hdx
   rw[ax c]at hdx;exact⟨rfl,dx,hdx,c,rfl⟩⟩
 have hl2:(Qh ee::us).length=ps.length:=by rw[←rv2.length];exact F.len _ _ _ _ hsp
 have hbb:=hb { s2 with heap:=h' } (Qh ee::us) I2.kIn (by simpa using hl2);rw[Rr]at hbb;refine wpAny_call (codeAny_mono (F.run _ _ { s2 with heap:=h' } _ ⟨Qh ee::us,[]⟩ (Qh ee::us) _ _ E (hr.make C us []) (I2.env0.make C us []) hbb rv2 hsp) λr s3 hq3=>?_);cases r with
 |error e=>exact QE hq3
 |ok fl=>
  cases fl with
  |next|brk|cont=>exact QE hq3
  |ret u=>
   obtain⟨v,H2,os3,bare3,un3,hok3,rel3,rfl,dx,hdx,hdne,rfl⟩:=hq3;obtain rfl:u=QY:=rel3;rw[mQ]at hok3 un3;have un4:=Bp (un1.trans un3);have hok4:gO P w H1 s3.heap:=Dj hok3 hn hdx (λ_ z=>by cases z) (λ_ z=>by cases z) (λ_ z=>by cases z) (λ_ z=>by cases z);obtain⟨⟨t3,ht3⟩,_,_⟩:=(show c7 P w _ s3.heap ee (.ext (rl ee C (some dx))) from hok3 ee _ (by rw[ax hdne.symm,ay]))
   have I3:=I1.call' (ch:=[]) os3 un4 hok4 bare3 (λ_ z=>nomatch z);refine⟨rfl,I3.bk _ _ hC,⟨_,t3,ht3⟩,?_⟩;have hin:=Gy (l:=envOfC qual scope s0.heap.objs.size f cd::outer);have hfr:s3.heap.FunFrames (Ur s3.heap (ee::ip (envOfC qual scope s0.heap.objs.size f cd::outer))) (envOfC qual scope s0.heap.objs.size f cd::outer):=W.funFrames_hide I3.stack λenv he a hf=>Pw _ (hin env he a hf);have hst:(Ur s3.heap (ee::ip (envOfC qual scope s0.heap.objs.size f cd::outer))).StaysIn s3.heap:=λb o q=>W.of_hideAll _ q;have hen:(Ur s3.heap (ee::ip (envOfC qual scope s0.heap.objs.size f cd::outer))).get? ee=none:=W.hideAll_none _ (.head _);obtain⟨pX,_,_⟩:=(show c7 P w _ s3.heap dx (.ext (wW dx (putAll ks vs []))) from hok3 dx _ ay)
   rw[pJ hnd (λ_ _ z=>by simp at z) hl.symm,Qj]at pX;have hok5:=gO.xd hok4 hdx pX;have dfresh:s2.heap.get? dx=none:=by
    cases qd:s2.heap.get? dx with
    |none=>rfl
    |some o=>
     have:=un3.free dx o (hx.keeps dx o qd) (by rw[ax hdne];exact hdx) (by simp);rw[ay]at this;cases this
   have un5:=Un.ext (o:=.xd (ks.zip vs)) un4 hdx dfresh;refine ye (a0:=.ref t3) I3.ok.frames hfr rfl ht3 hst hen rfl rfl rfl (λ_=>rfl) λh4 fl4 up4 dc4=>?_;refine ID rfl I1 (s1:=s3) (H1:=upd H1 dx (.xd (ks.zip vs))) os3 bare3 un5 hok5 (by rw[ax hdne.symm];exact hn) hst hfr (λb hb hy=>?_) fl4 up4 ⟨some dx,⟨some dx,dc4,.inr rfl⟩,hE dx hdx⟩;have hbe:b≠ee:=λc=>by
    subst c;rcases hy with hy|⟨o,hy⟩
    .exact hy (by rw[ax hdne.symm];exact hn)
    .rw[hx.new]at hy;cases hy
   have hth:∃o,s3.heap.get? b=some o:=by
    rcases hy with hy|⟨o,hy⟩
    .cases q:(upd H1 dx (.xd (ks.zip vs))) b with
     |none=>exact absurd q hy
     |some o=>exact c7.there (hok5 b o q)
    .exact un4.there b o hy (by simp)
   obtain⟨o,q⟩:=hth;exact⟨o,W.hideAll_get _ q (List.not_mem_cons_of_ne_of_not_mem hbe hb)⟩
end
end DL
namespace DL
open PySem PySem.Spec PySem.Calls PySem.W PyProof.Rows Builtin Builtin.ObjectAttr Builtin.Getset_descriptor
section
variable {prog:Qi}{w:Qv}{A:Qp}{E:Pd->Pm->Prop}{h:PF}{g:Array GenState}{d:Drawn}{t:Nat}{os:OsState}{a C:Pg}{o:Obj}{od:Option Obj}{K:Frag}{name:Pj}{v:Pd}
def BG{tk:Tok}{Q:Fin->Pm->Prop}(X:K.In h)(J:InstAt h a o C od)(hf:findObj K C od name=some (.value v))(hq:Q (.done (.ret v)) ⟨h,g,d,t,os⟩) :
  PZ (PN prog w) A (Builtin.«object.__getattribute__» ⟨[.ref a,.str name tk],[]⟩) Q E ⟨h,g,d,t,os⟩:=by
 have L0:=J.type (M:=PN prog w);have L1:=looks_find (M:=PN prog w) X J hf;unfold Builtin.«object.__getattribute__»
 repeat (any_goals (first|assumption|(with_reducible refine L0.at ?_)|(with_reducible refine L1.at ?_)|wp_step))
def EZ{tk:Tok}{R:Tf->Pm->Prop}(X:K.In h)(Z:mO K C)(J:InstAt h a o C od)(hx:h.get? a=some o)(hc:o.cls=.ref C)(hf:findObj K C od name=some (.value v))(hq:R (.ok (.ret v)) ⟨h,g,d,t,os⟩) :
  RO (PN prog w) A (.call (.builtin "BaseException.__getattribute__") ⟨[.ref a,.str name tk],[]⟩) R ⟨h,g,d,t,os⟩ :=
 codeAny_call_builtin SM.ga.plain F.entry_bexc_ga (u6 X Z hx hc (BG X J hf hq))
def Lw{tk:Tok}{b ex:Bool}{Q:Pd->Pm->Prop}(X:K.In h)(Z:mO K C)(J:InstAt h a o C od)(hx:h.get? a=some o)(hc:o.cls=.ref C)(hf:findObj K C od name=some (.value v))(hh:handedIn v=true)(hq:Q v ⟨h,g,d,t,os⟩) :
  PZ (PN prog w) A (getAttrBy (.ref a) (.str name tk) b ex) Q E ⟨h,g,d,t,os⟩:=by
 have f3:=SM.ga.bind (.ref a);have hx2:(RN "BaseException.__getattribute__"==RN "object.__getattribute__")=false:=by decide +kernel
 have hx1:(onTheHeap (Qh C)&&RN "BaseException.__getattribute__"==RN "object.__getattribute__")=false:=by rw[hx2];rfl
 have L1:Looks (PN prog w) h (Sm (.ref C) "__getattribute__") (some (.builtin "BaseException.__getattribute__")):=looks_findIn X Z.ga;have L2:Looks (PN prog w) h (Sm (.ref C) "__getattr__") none:=looks_findIn X Z.gt;have hho:=handedOut_of hh
 repeat (any_goals (first|assumption|(with_reducible refine Q5 hx ?_;rw[hc])|(with_reducible refine L1.at ?_)|(with_reducible refine L2.at ?_)|wp_step))
 rw[if_neg (by cases ex<;>decide)]
 repeat (any_goals (first|assumption|wp_step))
 refine EZ X Z J hx hc hf ?_
 repeat (any_goals (first|assumption|wp_step))
def Jc{ex:Bool}{Q:Pd->Pm->Prop}(X:K.In h)(Z:mO K C)(J:InstAt h a o C od)(hx:h.get? a=some o)(hc:o.cls=.ref C)(hf:findObj K C od name=some (.value v))(hh:handedIn v=true)(hq:Q v ⟨h,g,d,t+1,os⟩) :
  PZ (PN prog w) A (Ux (.ref a) name ex) Q E ⟨h,g,d,t,os⟩:=by
 unfold Ux
 repeat (any_goals (first|assumption|with_reducible apply Lw X Z J hx hc hf hh|wp_step))
end
end DL
namespace DL
open PySem PySem.Spec PyProof.Rows L2
def IT(K:Pl)(tab:Pj->Option Bool)(f:Pj):Prop:=∀c C b,tab c=some b->XC K c C->RF K C=true/\eh K C f
def qE(tab:Pj->Option Bool)(f:Pj)(x:D):aj D:=match x with
 |.ob (.exf c ks) ds=>(match tab c,nh f ks ds with
  |some _,some d=>.ok d
  |_,_=>.stuck)
 |_=>.stuck
theorem Bz:∀{ks:bv}{vs:al}{f:Pj}{u:V},(ks.zip vs).lookup f=some u->∃i:Nat,ks[i]?=some f/\vs[i]?=some u
 |[],vs,f,u,h=>by rw[List.zip_nil_left]at h;cases h
 |k::ks,[],f,u,h=>by rw[List.zip_nil_right]at h;cases h
 |k::ks,v::vs,f,u,h=>by
  rw[RI,Q2]at h;cases q:f==k with
  |true=>rw[q]at h;cases h;exact⟨0,by rw[beq_iff_eq.mp q];rfl,rfl⟩
  |false=>
   rw[q]at h;obtain⟨i,h1,h2⟩:=Bz h;exact⟨i+1,h1,h2⟩
section
variable {X:Cx}{E:XK}{e:Qe}{fe:am}{pos:Pos}{f:Pj}{ta:TE}{tab:Pj->Option Bool}
def LR(K:Pl)(ta:TE)(f:Pj):TE:=λσ H Q=>ta σ H λx H1=>∃a C dx fs v,x=.ref a/\Rd H1 a (.ext (wZ a C (some dx)))/\H1 dx=some (.xd fs)/\mO K C/\RF K C=true/\eh K C f/\fs.lookup f=some v/\Q v H1
def FQ(he:PE X e ta)(hb:QN e f X.env (eval e X.env)=eval e X.env):PE X (.Attribute e f pos) (LR X.K ta f):=by
 intro π s σ H Q I h;refine zQ hb (dw (he π s σ H _ I h) λu s1 z9=>?_);obtain⟨x,H1,I1,rx,a,C,dx,fs,v,ex,ea,ed,Z,hd,n,l,q⟩:=z9;subst ex;obtain rfl:u=Qh a:=rx;obtain⟨⟨o,vs,ho,hcl,hda,hdi⟩,_,_⟩:=ea.ok I1.hok;obtain⟨mA,hn,r⟩:=(show c7 X.prog X.w H1 s1.heap dx (.xd fs) from I1.hok dx _ ed)
 obtain⟨u',hu,ru⟩:=mL (v:=v) (o:=mA f) (by rw[←l];exact r f);obtain⟨od,hod,hl⟩:=m5 hn;have J:T7 s1.heap a o C (some od):=⟨ho,hcl,by unfold W.notCls;rw[hda],by rw[hdi];exact hod⟩
 have I2:=I1.tok (s1.toks+1);have K1:=I1.kIn;obtain⟨hh,g,d,t,os⟩:=s1;exact Jc K1 Z J ho hcl (W.findObj_own hd n rfl (by show UW f od=_;rw[hl,hu])) (sQ ru) ⟨v,H1,I2,ru,q⟩
def Hz(ht:IT X.K tab f)(he:DE X E e fe)(hb:QN e f X.env (eval e X.env)=eval e X.env:=by rfl):DE X E (.Attribute e f pos) (aW fe (qE tab f)):=by
 refine⟨bh (FQ he.o hb) λσ H Q z9=>?_⟩;obtain⟨Ha,ρ,hs,hr,q⟩:=z9;refine⟨Ha,ρ,hs,hr,?_⟩;unfold aW at q;cases e1:fe ρ with
 |stuck|exn x=>rw[e1]at q;exact q
 |ok d=>
  rw[e1]at q;intro v H1 H01 g1 r1;replace q:post X.K E H Ha (qE tab f d) Q:=q;unfold qE at q;cases d with
  |ob k ds=>
   cases k with
   |exf c ks=>
    replace q:post X.K E H Ha (match tab c,nh f ks ds with|some _,some d=>aj.ok d|_,_=>.stuck) Q:=q;cases e2:tab c with
    |none=>rw[e2]at q;exact q.elim
    |some b=>
     cases e3:nh f ks ds with
     |none=>rw[e2,e3]at q;exact q.elim
     |some d=>
      rw[e2,e3]at q;obtain⟨p,vs,rfl,⟨C,dx,fs,h1,h2,h3,h4,h5⟩,h6⟩:=cg.mp r1;obtain⟨u,k1,k2,k3⟩:=uJ h4 h6 e3;obtain⟨i,i1,i2⟩:=Bz k1;obtain⟨m1,m2⟩:=ht c C b e2 h1;exact⟨p,C,dx,fs,u,rfl,aF.rd g1.sub h2,g1.sub _ _ h3,h1.ek,m1,m2,h5 i f u i1 i2,q u H1 H01 g1 k2⟩
   |_=>exact q.elim
  |_=>exact q.elim
end
def N9{α:Type}{us:List α}(h:us.length=1):∃a,us=[a]:=List.length_eq_one_iff.mp h
def N8{α:Type}{us:List α}(h:us.length=2):∃a b,us=[a,b]:=by
 cases us with|nil=>cases h|cons a us=>obtain⟨b,rfl⟩:=N9 (UG h);exact⟨a,b,rfl⟩
def N7{α:Type}{us:List α}(h:us.length=3):∃a b c,us=[a,b,c]:=by
 cases us with|nil=>cases h|cons a us=>obtain⟨b,c,rfl⟩:=N8 (UG h);exact⟨a,b,c,rfl⟩
def O2{α:Type}{us:List α}(h:us.length=4):∃a b c d,us=[a,b,c,d]:=by
 cases us with|nil=>cases h|cons a us=>obtain⟨b,c,d,rfl⟩:=N7 (UG h);exact⟨a,b,c,d,rfl⟩
end DL
namespace Com
open PySem L2 DL
def ML{c f:Pj}{d:D}:rK ⟨c,[(f,d)]⟩=.ob (.exf c [f]) [d]:=by
 show(if([f]:bv).Nodup then D.ob (.exf c [f]) [d] else .exc c)=_;rw[if_pos (by simp)]
def GC{hit:Pj->Bool}{ni:Nat}{sh:bd}{ρ:Ev}{x:IU}(h:hit x.cls=true):Fc hit ni sh ρ (.exn x)=(sh (ρ.set ni (.sh (rK x)))).bind (CN ni):=if_pos h
def zB{tab:Pj->Option Bool}{c:Pj}{ks:bv}{ds:ac}{b:Bool}(h:tab c=some b):qD tab (.ob (.exf c ks) ds)=.ok (.bl b):=by unfold qD;simp only[h]
def yQ(x:Pj)(ks:bv)(ds:ac):aj Fl:=if ds.length=ks.length then .exn ⟨x,ks.zip ds⟩ else .stuck
def gQ{x:Pj}{ks:bv}{fa:Ev->aj (ac)}{ρ:Ev}:bI x ks fa ρ=(fa (kE ρ)).bind (yQ x ks):=aV rfl
def f9{x f:Pj}{d:D}:yQ x [f] [d]=.exn ⟨x,[(f,d)]⟩:=if_pos rfl
def DV{tab:Pj->Option Bool}{c f:Pj}{d:D}{b:Bool}(h:tab c=some b):qE tab f (.ob (.exf c [f]) [d])=.ok d:=by
 unfold qE;simp only[h];rw[show nh f [f] [d]=some d by unfold nh;rw[if_pos rfl]]
end Com
namespace DL
open PySem PySem.Spec PyProof.Rows L2
section
variable {X:Cx}{E:XK}{e o:Qe}{fe fo:am}{pos:Pos}
def jy(x:D):aj D:=match x with
 |.int i=>if i.natAbs.log2<1920 then .ok (.str (toString i)) else .stuck
 |_=>.stuck
def nB:kv X E (λxs H Q=>∃i,xs=[.int i]/\i.natAbs.log2<1920/\Q (.str (toString i)) H) (m1 jy):=wF λx v H Ha Q hs r q=>by
 unfold jy at q;cases x with
 |int i=>
  by_cases c:i.natAbs.log2<1920
  .simp only[if_pos c]at q
   exact⟨i,by rw[az.mp r],c,bR hs q (Rep.str_iff.mpr rfl)⟩
  .simp only[if_neg c]at q;exact q.elim
 |_=>exact q.elim
def dk(x:D):aj D:=match x with
 |.str z=>if z.length<=640 then(match RA z with
  |some n=>.ok (.int n)
  |none=>.stuck) else .stuck
 |.int i=>.ok (.int i)
 |.bl b=>.ok (.int (if b then 1 else 0))
 |_=>.stuck
def fw:jc X (.type "int") (λxs H Q=>((∃i,xs=[.int i]/\Q (.int i) H)∨∃k,xs=[.bl k]/\Q (.int (if k then 1 else 0)) H)∨∃z n,xs=[.str z]/\RA z=some n/\z.length<=640/\Q (.int n) H):=by
 intro π s σ H xs us Q I r h;rcases h with h|⟨z,n,rfl,h1,h2,q⟩
 .exact Bl π s σ H xs us Q I r h
 .obtain⟨u,rfl,t,rfl⟩:=r.one
  exact W.KIN.call_text h1 h2 ⟨.int n,H,I.tok _,⟨_,rfl⟩,q⟩
def iD:kv X E (λxs H Q=>((∃i,xs=[.int i]/\Q (.int i) H)∨∃k,xs=[.bl k]/\Q (.int (if k then 1 else 0)) H)∨∃z n,xs=[.str z]/\RA z=some n/\z.length<=640/\Q (.int n) H) (m1 dk):=wF λx v H Ha Q hs r q=>by
 unfold dk at q;cases x with
 |int i=>exact .inl (.inl ⟨i,by rw[az.mp r],bR hs q (ri _)⟩)|bl k=>exact .inl (.inr ⟨k,by rw[aC.mp r],bR hs q (ri _)⟩)
 |str z=>
  by_cases c:z.length<=640
  .simp only[if_pos c]at q
   cases hn:RA z with|none=>simp only[hn]at q;exact q.elim|some n=>simp only[hn]at q;exact .inr ⟨z,n,by rw[Rep.str_iff.mp r],hn,c,bR hs q (ri _)⟩
  .simp only[if_neg c]at q;exact q.elim
 |_=>exact q.elim
def kU(m:Pj->Pj->aj D)(fo fe:am):am:=λρ=>(fo ρ).bind λx=>match x with
 |.str z=>(fe ρ).bind λy=>match y with
  |.str w=>m z w
  |_=>.stuck
 |_=>.stuck
def D7{name:Pj}{id:String}{r:V->al->Hp->VK->Prop}{m:Pj->Pj->aj D}{apos cpos:Pos}(slot:Slot "str" name id)(hty:typeOf (.builtin id)=pure (.type "method_descriptor"))(hm:Lr X id r)
  (hr:∀z w H Ha Q,aF Ha H->post X.K E H Ha (m z w) Q->r (.str z) [.str w] H Q)(ho:DE X E o fo)(he:DE X E e fe)
  (hbase:QN o name X.env (eval o X.env)=eval o X.env:=by rfl)
  (hfew:((Qy cpos (Po [e] X.env)).all (λx=>!x.1)&&(R0 cpos (Rc [] X.env)).all (λx=>x.1.isSome)
  &&decide ([e].length+([]:List Rp).length+(if([]:List Rp).isEmpty then 0 else 1)<30))=true:=by exact gw rfl)
  (hline:(apos.endLine==cpos.line)=true:=by rfl) (hs:Po [e] X.env=(false,eval e X.env)::Po [] X.env:=by exact aI rfl) (hplain:(Qy cpos (Po [] X.env)).any (·.1)=false:=by exact bB rfl) :
  DE X E (.Call (.Attribute o name apos) [e] [] cpos) (kU m fo fe):=by
 refine⟨bh (vG UE slot hty hm ho.o (b8 he.o dD hs) hbase hfew hline hs hplain) λσ H Q z9=>?_⟩;obtain⟨Ha,ρ,hs,hrd,q⟩:=z9;refine⟨Ha,ρ,hs,hrd,?_⟩;unfold kU at q;cases e1:fo ρ with
 |stuck|exn x=>rw[e1]at q;exact q
 |ok x=>
  rw[e1]at q;intro v H1 H01 g1 r1;cases x with
  |str z=>
   replace q:post X.K E H Ha ((fe ρ).bind λy=>match y with|.str w=>m z w|_=>.stuck) Q:=q;replace q:=q.grow g1;have ev:=Rep.str_iff.mp r1;subst ev;refine⟨(rfl:("str" : String)="str"),H01,ρ,g1.sub,hrd.mono g1.z,?_⟩;cases e2:fe ρ with
   |stuck|exn x=>rw[e2]at q;exact q
   |ok y=>
    rw[e2]at q;intro u H2 H02 g2 r2;cases y with
    |str w=>
     replace q:=post.grow (r:=m z w) q g2;have eu:=Rep.str_iff.mp r2;subst eu;exact hr z w H2 H02 Q g2.sub q
    |_=>exact q.elim
  |_=>exact q.elim
def kK(z w:Pj):aj D:=.ok (.bl (Se z w))
def FC:V->al->Hp->VK->Prop:=λx vs H Q=>∃z w,x=.str z/\vs=[.str w]/\Q (.bl (Se z w)) H
def AU:Lr X "str.startswith" FC:=by
 intro π s σ H x vs v us Q I rx rv h;obtain⟨z,w,rfl,rfl,q⟩:=h;obtain⟨u,rfl,t',rfl⟩:=rv.one;obtain⟨t,rfl⟩:=rx;exact SC.startswith ⟨.bl (Se z w),H,I,rfl,q⟩
def Bc{apos cpos:Pos}(ho:DE X E o fo)(he:DE X E e fe)(hbase:QN o "startswith" X.env (eval o X.env)=eval o X.env:=by rfl)(hline:(apos.endLine==cpos.line)=true:=by rfl)
  (hs:Po [e] X.env=(false,eval e X.env)::Po [] X.env:=by exact aI rfl)
  (hfew:((Qy cpos (Po [e] X.env)).all (λx=>!x.1)&&(R0 cpos (Rc [] X.env)).all (λx=>x.1.isSome)
  &&decide ([e].length+([]:List Rp).length+(if([]:List Rp).isEmpty then 0 else 1)<30))=true:=by exact gw rfl) (hplain:(Qy cpos (Po [] X.env)).any (·.1)=false:=by exact bB rfl):DE X E (.Call (.Attribute o "startswith" apos) [e] [] cpos) (kU kK fo fe) :=
 D7 PySem.F.slot_str_startswith PySem.F.type_str_startswith AU (λz w H Ha Q hs q=>⟨z,w,rfl,rfl,bR hs q (rb _)⟩) ho he hbase hfew hline hs hplain
end
end DL
namespace DL
open PySem PySem.Spec PyProof.Rows L2 PySem.Builtin PySem.Builtin.Str
section
variable {prog:Qi}{w:Qv}{A:Qp}{E:Pd->Pm->Prop}{s:Pm}{x y:Pj}{t u:Tok}{Q:Pd->Pm->Prop}
def Ad(hy:(y.length==0)=false)(hx:x.length+2<=sizeLine)
  (h:∀(l:List (Pj×Tok)) (k:Nat),l.map (·.1)=QO x y->Q (.ref s.heap.objs.size) { s with heap:=s.heap.push { cls:=.type "list",data:=.seq (strValues l).toArray },toks:=k }) :
  PZ (PN prog w) A (call (.builtin "str.split") [.str x t,.str y u]) Q E s:=by
 have hn:(partsBetween x (occurrences x y 0 x.length (x.length+1)) y.length).length<=sizeLine:=by
  have:=UP x y 0 x.length (x.length+1);rw[length_partsBetween];omega
 cases h1:(decide (x.length<y.length)||decide (strKind x<strKind y)) with
 |true=>exact call_meets TQ (typeIs_str _ _ _) TH (To _ _) (meets_str_split_cannot_occur x y t u h1) (h [(x,t)] s.toks (if_pos h1).symm)
 |false=>
  cases hf:(occurrences x y 0 x.length (x.length+1)).isEmpty with
  |true=>exact call_meets TQ (typeIs_str _ _ _) TH (To _ _) (meets_str_split_not_found x y t u h1 hy hf) (h [(x,t)] s.toks ((if_neg (ne_true_of_eq_false h1)).trans (if_pos hf)).symm)
  |false=>
   refine call_meets TQ (typeIs_str _ _ _) TH (To _ _) (meets_str_split_sep x y t u h1 hy hf (by omega) hn) ?_;have:=h (PySem.numbered s.toks _) (s.toks+(partsBetween x (occurrences x y 0 x.length (x.length+1)) y.length).length) ((numbered_texts s.toks _).trans ((if_neg (ne_true_of_eq_false h1)).trans (if_neg (ne_true_of_eq_false hf))).symm);rw[←strsFrom_eq]at this;exact this
def split_len:(QO x y).length<=x.length+2:=by
 unfold QO;split
 .simp
 .split
  .simp
  .have:=UP x y 0 x.length (x.length+1)
   rw[length_partsBetween];omega
def CJ(hy:(y.length==0)=false)(hx:x.length<=sizeLine)
  (h:∀(a b c:Tok) (k:Nat),Q (.ref s.heap.objs.size) { s with heap:=s.heap.push { cls:=.type "tuple",data:=.seq [.str (Qu x y).1 a,.str (Qu x y).2.1 b,.str (Qu x y).2.2 c].toArray },toks:=k }) :
  PZ (PN prog w) A (call (.builtin "str.partition") [.str x t,.str y u]) Q E s:=by
 refine call_meets F.slot_str_partition (typeIs_str _ _ _) F.entry_str_partition (F.args_str_partition_2 _ _) (meets_str_partition x y t u hy hx) ?_;unfold Qu at h;cases q:occurrences x y 0 x.length 1 with|nil|cons i r=>rw[q]at h;exact h _ _ _ _
end
section
variable {X:Cx}{E:XK}{e o:Qe}{fe fo:am}{pos:Pos}
def bN(z w:Pj):aj D:=if(w.length==0)=false/\z.length<=1000000 then .ok (.lst ((QO z w).map D.str)) else .stuck
def JJ:V->al->Hp->VK->Prop:=λx vs H Q=>∃z w,x=.str z/\vs=[.str w]/\(w.length==0)=false/\z.length<=1000000/\∀p,H p=none->Q (.ref p) (upd H p (.lst ((QO z w).map V.str)))
theorem rS:∀(l:List (Pj×Tok)),bM ((l.map (·.1)).map V.str) (strValues l)
 |[]=>.nil
 |(z,t)::l=>.cons ⟨t,rfl⟩ (rS l)
theorem mV{K:Pl}{H:Hp}:∀(zs:bv),Reps K H (zs.map D.str) (zs.map V.str)
 |[]=>Reps.nil_iff.mpr rfl
 |z::zs=>aD.mpr ⟨_,_,rfl,Rep.str_iff.mpr rfl,mV zs⟩
def CW:Lr X "str.split" JJ:=by
 intro π s σ H x vs v us Q I rx rv h;obtain⟨z,w,rfl,rfl,hy,hz,q⟩:=h;obtain⟨u,rfl,t',rfl⟩:=rv.one;obtain⟨t,rfl⟩:=rx;refine Ad hy (by rw[sizeLine_eq];omega) λl k hl=>?_;have hn:H s.heap.objs.size=none:=I.hok.fresh (P9 _);refine⟨.ref s.heap.objs.size,_,?_,rfl,q _ hn⟩;rw[←hl];refine I.laid (λb o e=>Pq _ e) (P9 _) ⟨?_,strValues l,0,rS l,Qm s.heap rfl⟩;rw[Ph,hl,sizeLine_eq];have:=split_len (x:=z) (y:=w);omega
def sI(z w:Pj):aj D:=if(w.length==0)=false/\z.length<=1000000 then .ok (.tup [.str (Qu z w).1,.str (Qu z w).2.1,.str (Qu z w).2.2]) else .stuck
def L9:V->al->Hp->VK->Prop:=λx vs H Q=>∃z w,x=.str z/\vs=[.str w]/\(w.length==0)=false/\z.length<=1000000/\∀p,H p=none->Q (.ref p) (upd H p (.tup [.str (Qu z w).1,.str (Qu z w).2.1,.str (Qu z w).2.2]))
def F7:Lr X "str.partition" L9:=by
 intro π s σ H x vs v us Q I rx rv h;obtain⟨z,w,rfl,rfl,hy,hz,q⟩:=h;obtain⟨u,rfl,t',rfl⟩:=rv.one;obtain⟨t,rfl⟩:=rx;refine CJ hy (by rw[sizeLine_eq];omega) λa b c k=>?_;have hn:H s.heap.objs.size=none:=I.hok.fresh (P9 _);refine⟨.ref s.heap.objs.size,_,?_,rfl,q _ hn⟩;refine I.laid (λb o e=>Pq _ e) (P9 _) ⟨by simp only[PU,RL];rw[sizeLine_eq];decide,_,.cons ⟨a,rfl⟩ (.cons ⟨b,rfl⟩ (.cons ⟨c,rfl⟩ .nil)),?_⟩;exact⟨_,Qm s.heap rfl,rfl,0,rfl⟩
def km{apos cpos:Pos}(ho:DE X E o fo)(he:DE X E e fe)(hbase:QN o "split" X.env (eval o X.env)=eval o X.env:=by rfl)(hline:(apos.endLine==cpos.line)=true:=by rfl)
  (hs:Po [e] X.env=(false,eval e X.env)::Po [] X.env:=by exact aI rfl)
  (hfew:((Qy cpos (Po [e] X.env)).all (λx=>!x.1)&&(R0 cpos (Rc [] X.env)).all (λx=>x.1.isSome)
  &&decide ([e].length+([]:List Rp).length+(if([]:List Rp).isEmpty then 0 else 1)<30))=true:=by exact gw rfl) (hplain:(Qy cpos (Po [] X.env)).any (·.1)=false:=by exact bB rfl):DE X E (.Call (.Attribute o "split" apos) [e] [] cpos) (kU bN fo fe) :=
 D7 PySem.F.slot_str_split PySem.F.type_str_split CW (λz w H Ha Q hs q=>by
  unfold bN at q
  by_cases c:(w.length==0)=false/\z.length<=1000000
  .rw[if_pos c]at q
   refine⟨z,w,rfl,rfl,c.1,c.2,λp hp=>?_⟩;exact q _ _ _ (aX hs hp) (aH.mpr ⟨p,_,rfl,.inl (.inl ay),mV _⟩)
  .rw[if_neg c]at q;exact q.elim) ho he hbase hfew hline hs hplain
def Hw{apos cpos:Pos}(ho:DE X E o fo)(he:DE X E e fe)(hbase:QN o "partition" X.env (eval o X.env)=eval o X.env:=by rfl)(hline:(apos.endLine==cpos.line)=true:=by rfl)
  (hs:Po [e] X.env=(false,eval e X.env)::Po [] X.env:=by exact aI rfl)
  (hfew:((Qy cpos (Po [e] X.env)).all (λx=>!x.1)&&(R0 cpos (Rc [] X.env)).all (λx=>x.1.isSome)
  &&decide ([e].length+([]:List Rp).length+(if([]:List Rp).isEmpty then 0 else 1)<30))=true:=by exact gw rfl) (hplain:(Qy cpos (Po [] X.env)).any (·.1)=false:=by exact bB rfl):DE X E (.Call (.Attribute o "partition" apos) [e] [] cpos) (kU sI fo fe) :=
 D7 PySem.F.slot_str_partition PySem.F.type_str_partition F7 (λz w H Ha Q hs q=>by
  unfold sI at q
  by_cases c:(w.length==0)=false/\z.length<=1000000
  .rw[if_pos c]at q
   refine⟨z,w,rfl,rfl,c.1,c.2,λp hp=>?_⟩;exact q _ _ _ (aX hs hp) (aJ.mpr ⟨p,_,rfl,.inl (.inl ay),mV [(Qu z w).1,(Qu z w).2.1,(Qu z w).2.2]⟩)
  .rw[if_neg c]at q;exact q.elim) ho he hbase hfew hline hs hplain
end
end DL
namespace DL
open PySem PySem.Spec PyProof.Rows L2
def iZ(s:Option Sl)(a:Pg):Bool:=match s with
 |some (.pt b)=>b==a
 |_=>false
section
variable {X:Cx}{E:XK}{He η:Hp}{a:Pg}{st:QQ}{e l b:Qe}{rest es:List Qe}{pos:Pos}{f:am}{fm gm:Ev->ac->aj (D×ac)}{fa:Ev->ac->aj (ac×ac)}{s t:Ev->ac->aj MFl}
def oW{s:Option Sl}{a:Pg}(h:iZ s a=true):s=some (.pt a):=by
 unfold iZ at h;split at h
 .rw[eq_of_beq h]
 .cases h
end
open Classical in
noncomputable def vR(F:Pg->aj Fl):aj Fl:=if h:∃r,∀a,F a=r then h.choose else .stuck
def uz{F:Pg->aj Fl}{r:aj Fl}(h:∀a,F a=r):vR F=r:=by
 have hx:∃r,∀a,F a=r:=⟨r,h⟩
 unfold vR;rw[dif_pos hx];exact(hx.choose_spec 0).symm.trans (h 0)
def F9{F:Pg->aj Fl}(h:vR F≠.stuck)(a:Pg):F a=vR F:=by
 unfold vR at h ⊢
 by_cases hx:∃r,∀a,F a=r
 .rw[dif_pos hx];exact hx.choose_spec a
 .rw[dif_neg hx]at h;exact absurd rfl h
structure FT (K:Pl) (mg:Pj->Option Pd) (x:Pj) (st:QQ) (ps:bv) (a:Pg) (d:Qo):Prop where
 F:zU K x x st a d
 b:fV K d ps []
 g:mg x=some (.ref a)
noncomputable def QA(K:Pl) (x:Pj) (st:QQ) (a:Pg):Prop:=QM K PK x=some (some (.ref a))/\R1 K (.ref a)=true/\∃oc kV dc pm cd ct od an sl,K.lookup a=some ⟨oc,od,.func (RY x x (defArgs st) (defBody st) (defScope st) .none kV dc pm an cd ct),sl⟩/\T5 K cd x=true
def MJ{K:Pl}{h:PF}{mg:Pj->Option Pd}{x:Pj}{st:QQ}{ps:bv}{a:Pg}(X:K.In h)(G:h.Ns PK mg)(q:QA K x st a)
  (hb:∀(kV doc pm:Pd) (an:Option Pg) (cdv ct:Pd) (us:List Pd),us.length=ps.length->bindArgs (RY x x (defArgs st) (defBody st) (defScope st) .none kV doc pm an cdv ct) ⟨us,[]⟩=pure (ps.zip us)) :
  ∃d,FT K mg x st ps a d/\∃kV doc pm an cdv ct,d=RY x x (defArgs st) (defBody st) (defScope st) .none kV doc pm an cdv ct:=by
 obtain⟨e1,e4,oc,kV,dc,pm,cd,ct,od,an,sl,e2,e3⟩:=q;exact⟨_,⟨qm e2 e3 e4,(qm (st:=st) e2 e3 e4).binds hb,Rh X G e1⟩,_,_,_,_,_,_,rfl⟩
section
variable {X:Cx}{E:XK}{e:Qe}{es:List Qe}{fa:Ev->aj (ac)}{f g h i j:am}{pos:Pos}{CX:rR}{k n:Nat}{fn:Pg}{fd:Qo}{ps:bv}{m:ac->aj D}{x:Pj}{p:Pos}{st:QQ}
def Ng(ρ:Ev)(ds:ac)(h:ag f av ρ=.ok ds):ds.length=1:=kX (λ_ h=>Eo h) h
def Nf(ρ:Ev)(ds:ac)(q:ag f (ag g av) ρ=.ok ds):ds.length=2:=kX (Ng ρ) q
def Nd(ρ:Ev)(ds:ac)(q:ag f (ag g (ag h av)) ρ=.ok ds):ds.length=3:=kX (Nf ρ) q
def Nx(ρ:Ev)(ds:ac)(q:ag f (ag g (ag h (ag i av))) ρ=.ok ds):ds.length=4:=kX (Nd ρ) q
end
def iO.imp{P:Qi}{w:Qv}{outer:List QL}{H:Hp}{s s':Pm}{E E':XK}{e:Pd}(h:∀C ox H',E C ox H'->E' C ox H')(c:iO P w outer H s E e s'):iO P w outer H s E' e s':=by
 obtain⟨a,C,a0,B,H',h1,h2,h3,h4,h5,h6,h7,h8,h9,h10,hE⟩:=c;exact⟨a,C,a0,B,H',h1,h2,h3,h4,h5,h6,h7,h8,h9,h10,h _ _ _ hE⟩
structure Rw where
 x:Pj
 st:QQ
 N:bv
 n:Nat
abbrev Rw.ps(r:Rw):bv:=r.N.take r.n
instance {N P:bv}{sc:Sk}:Decidable (eT N P sc) :=
 decidable_of_iff (sc.kind=.function/\sc.isCoroutine=false/\sc.isGenerator=false/\N.Nodup/\N.take P.length=P/\(∀x∈P,sc.names.lookup x=some .local ∨ sc.names.lookup x=some .cell)/\∀y∈sc.names,y.2≠.free)
  ⟨λ⟨a,b,c,d,e,f,g⟩=>⟨a,b,c,d,e,f,g⟩,λ⟨a,b,c,d,e,f,g⟩=>⟨a,b,c,d,e,f,g⟩⟩
def Nz(rows:List Rw):Prop:=∀r∈rows,eT r.N r.ps (defScope r.st)
instance {rows:List Rw}:Decidable (Nz rows):=inferInstanceAs (Decidable (∀r∈rows,_))
def TG(rows:List Rw)(K:Pl)(mg:Pj->Option Pd)(A:Nat->Pg)(Q:Nat->Qo):Prop:=∀i r,rows[i]?=some r->FT K mg r.x r.st r.ps (A i) (Q i)
def Ls(r:Rw):Prop:=∀(kV doc pm:Pd) (an:Option Pg) (cdv ct:Pd) (us:List Pd),us.length=r.ps.length->bindArgs (RY r.x r.x (defArgs r.st) (defBody r.st) (defScope r.st) .none kV doc pm an cdv ct) ⟨us,[]⟩=pure (r.ps.zip us)
def QAs(K:Pl):List Rw->List Pg->Prop
 |[],_=>True
 |r::rs,a::as=>QA K r.x r.st a/\QAs K rs as
 |_::_,[]=>False
def QAs.cons{K:Pl}{x:Pj}{st:QQ}{N:bv}{n:Nat}{rs:List Rw}{a:Pg}{as:List Pg}(q:QA K x st a)(t:QAs K rs as):QAs K (⟨x,st,N,n⟩::rs) (a::as):=⟨q,t⟩
theorem HZ{K:Pl}{h:PF}{mg:Pj->Option Pd}(X:K.In h)(G:h.Ns PK mg):∀{rows:List Rw}{as:List Pg},(∀r∈rows,Ls r)->QAs K rows as ->
  ∃Q:Nat->Qo,∀i r,rows[i]?=some r->FT K mg r.x r.st r.ps (as.getD i 0) (Q i)/\∃kV doc pm an cdv ct,Q i=RY r.x r.x (defArgs r.st) (defBody r.st) (defScope r.st) .none kV doc pm an cdv ct
 |[],as,_,_=>⟨λ_=>default,λi r e=>by simp at e⟩
 |r::rs,[],_,q=>q.elim
 |r::rs,a::as,hb,q=>by
  obtain⟨Q,h⟩:=HZ X G (λr hr=>hb r (Pw _ hr)) q.2;obtain⟨d,h1,h2⟩:=MJ X G q.1 (hb r P0);refine⟨λi=>match i with|0=>d|i+1=>Q i,λi r' e=>?_⟩;cases i with|zero=>rw[Sd]at e;cases e;exact⟨h1,h2⟩|succ i=>rw[QP]at e;exact h i r' e
structure gD (P:Qi) (w:Qv) (K:Pl) (mg:Pj->Option Pd) (base:PF) (CX:rR) (k:Nat) (fn:Pg) (fd:Qo) (ps:bv) (sp:Sp) (x:Pj) (st:QQ):Prop where
 F:FnOk P w K mg base CX k fn fd ps sp
 t:FT K mg x st ps fn fd
section
variable {P:Qi}{w:Qv}{K:Pl}{mg:Pj->Option Pd}{base:PF}{rows:List Rw}{A:Nat->Pg}{Q:Nat->Qo}{i k n:Nat}{r:Rw}{s:bd}{sM:Pg->Ev->ac->aj MFl}
variable (T:TG rows K mg A Q) (S:Nz rows) (h:rows[i]?=some r)
include T S h
theorem oD(b:∀(cdv:Pd) (A':Qp) (outer:List QL) (s0:Pm) (H Ha:Hp) (E:XK),dz k (A'.deeper (envOfC r.x (defScope r.st) s0.heap.objs.size (A i) cdv)) ->
   yB (fy CX0 P w K mg base r.N r.x (defScope r.st) (A i) cdv A' outer s0 H E).nox E H Ha (defBody r.st) s):gD P w K mg base CX0 (k+1) (A i) (Q i) r.ps (spD K r.ps.length (cD r.N.length s)) r.x r.st :=
 ⟨A7 (T i r h).F (S r (Qs h)) b,T i r h⟩
theorem oE(b:∀(cdv:Pd) (A':Qp) (outer:List QL) (s0:Pm) (H Ha:Hp) (E:XK),dz k (A'.deeper (envOfC r.x (defScope r.st) s0.heap.objs.size (A i) cdv)) ->
   yB (fy (iO P w) P w K mg base r.N r.x (defScope r.st) (A i) cdv A' outer s0 H E) E H Ha (defBody r.st) s):gD P w K mg base (iO P w) (k+1) (A i) (Q i) r.ps (spD K r.ps.length (cD r.N.length s)) r.x r.st :=
 ⟨yc (T i r h).F (S r (Qs h)) b,T i r h⟩
end
section
variable {P:Qi}{w:Qv}{K:Pl}{mg:Pj->Option Pd}{base:PF}{CX:rR}{k:Nat}{fn:Pg}{fd:Qo}{ps:bv}{n:Nat}{m:ac->aj D}{x:Pj}{st:QQ}
def gD.noX(B:gD P w K mg base (iO P w) k fn fd ps (spD K n m) x st):gD P w K mg base CX0 k fn fd ps (spD K n (DL.noX m)) x st:=⟨DL.FnOk.noX B.F,B.t⟩
end
section
variable {X:Cx}{E:XK}{e:Qe}{es:List Qe}{fa:Ev->aj (ac)}{pos:Pos}{CX:rR}{k k0 n:Nat}{fn:Pg}{fd:Qo}{ps:bv}{m:ac->aj D}{x:Pj}{p:Pos}{st:QQ}
def rC(B:gD X.prog X.w X.K X.mg X.base CX k0 fn fd ps (spD X.K n m) x st)(hr:dz k X.A)(ha:DA X E (e::es) fa)(hle:k0<=k:=by decide)(hx:gH CX X E:=by first|exact Ij|exact xF|exact yZ)(hl:∀ρ ds,fa ρ=.ok ds->ds.length=(e::es).length:=by first|exact Ng|exact Nf|exact Nd|exact Nx|exact al5)(hn:(e::es).length=n:=by rfl)
  (hg:Gl X x:=by exact rfl)(hdb:(x==("__debug__" : Pj))=false:=by decide)(he:Po (e::es) X.env=(false,eval e X.env)::Po es X.env:=by exact aI rfl)(hpl:(Qy pos (Po es X.env)).any (·.1)=false:=by exact bB rfl) :
  DE X E (.Call (.Name x p) (e::es) [] pos) (ak fa m):=HA (B.F.mono hle) hr hg B.t.g B.t.F.kp B.t.b hx ha hn hl hdb he hpl
def rT{y:Pj}{pos' cpos:Pos}(hN:X.N.Nodup){i:Nat}(hi:X.N[i]?=some y)(hy:zT X.env.scope y)(B:gD X.prog X.w X.K X.mg X.base (iO X.prog X.w) k0 fn fd ps (spD X.K n m) x st)(hr:dz k X.A)(ha:DA X.nox E0 (e::es) fa)(hle:k0<=k:=by decide)(hl:∀ρ ds,fa ρ=.ok ds->ds.length=(e::es).length:=by first|exact Ng|exact Nf|exact Nd|exact Nx|exact al5)(hn:(e::es).length=n:=by rfl)
  (hg:Gl X x:=by exact rfl)(hdb:(x==("__debug__" : Pj))=false:=by decide)(he:Po (e::es) X.env=(false,eval e X.env)::Po es X.env:=by exact aI rfl)(hpl:(Qy cpos (Po es X.env)).any (·.1)=false:=by exact bB rfl)
  (hs:QK (.Call (.Name x p) (e::es) [] cpos) (some (.Name y pos')) pos.line X.env=pure false:=by rfl)
  (hf:X.fn y=true∨X.env.scope.names.lookup y=some .local := by first|exact .inl rfl|exact .inr rfl|assumption):TB X (.Assign [.Name y pos'] (.Call (.Name x p) (e::es) [] cpos) pos) (jS i fa m):=Jk hN hi hy (B.F.mono hle) hr hg B.t.g B.t.F.kp B.t.b ha hn hl hdb he hpl hs hf
end
def Pa{r:Rw}(hn:r.ps.length=1:=by rfl)(hb:∀(kV doc pm:Pd) (an:Option Pg) (cdv ct b:Pd),bindArgs (RY r.x r.x (defArgs r.st) (defBody r.st) (defScope r.st) .none kV doc pm an cdv ct) ⟨[b],[]⟩=pure (r.ps.zip [b]):=by intros;rfl):Ls r:=λ_ _ _ _ _ _ us hl=>by
 obtain⟨b,rfl⟩:=N9 (hl.trans hn);exact hb ..
def O9{r:Rw}(hn:r.ps.length=2:=by rfl)(hb:∀(kV doc pm:Pd) (an:Option Pg) (cdv ct b c:Pd),bindArgs (RY r.x r.x (defArgs r.st) (defBody r.st) (defScope r.st) .none kV doc pm an cdv ct) ⟨[b,c],[]⟩=pure (r.ps.zip [b,c]):=by intros;rfl):Ls r:=λ_ _ _ _ _ _ us hl=>by
 obtain⟨b,c,rfl⟩:=N8 (hl.trans hn);exact hb ..
def O8{r:Rw}(hn:r.ps.length=3:=by rfl)(hb:∀(kV doc pm:Pd) (an:Option Pg) (cdv ct b c d:Pd),bindArgs (RY r.x r.x (defArgs r.st) (defBody r.st) (defScope r.st) .none kV doc pm an cdv ct) ⟨[b,c,d],[]⟩=pure (r.ps.zip [b,c,d]):=by intros;rfl):Ls r:=λ_ _ _ _ _ _ us hl=>by
 obtain⟨b,c,d,rfl⟩:=N7 (hl.trans hn);exact hb ..
def O7{r:Rw}(hn:r.ps.length=4:=by rfl)(hb:∀(kV doc pm:Pd) (an:Option Pg) (cdv ct b c d e:Pd),bindArgs (RY r.x r.x (defArgs r.st) (defBody r.st) (defScope r.st) .none kV doc pm an cdv ct) ⟨[b,c,d,e],[]⟩=pure (r.ps.zip [b,c,d,e]):=by intros;rfl):Ls r:=λ_ _ _ _ _ _ us hl=>by
 obtain⟨b,c,d,e,rfl⟩:=O2 (hl.trans hn);exact hb ..
end DL
namespace DL
open PySem L2
section
variable {α β:Type}
def Rf(a b:aj α):Prop:=a=.stuck∨a=b
def dA{a b:aj α}{f g:α->aj β}(h:Rf a b)(k:∀x,Rf (f x) (g x)):Rf (a.bind f) (b.bind g):=by
 rcases h with rfl|rfl
 .exact .inl rfl
 .cases a with
  |ok x=>exact k x
  |exn x=>exact .inr rfl
  |stuck=>exact .inl rfl
structure kY (f g:Ev->aj α):Prop where
 o:∀ρ,Rf (f ρ) (g ρ)
end
structure IQ (f g:ac->aj D):Prop where
 o:∀ds,Rf (f ds) (g ds)
def IQ.ok{f g:ac->aj D}(h:IQ f g){ds:ac}{d:D}(e:f ds=.ok d):g ds=.ok d:=by
 rcases h.o ds with q|q
 .rw[q]at e;cases e
 .rw[←q];exact e
def rfm_refl{f:ac->aj D}:IQ f f:=⟨λ_=>.inr rfl⟩
def rf_refl{α:Type}{f:Ev->aj α}:kY f f:=⟨λ_=>.inr rfl⟩
section
variable {s s' t t':bd}{c c' f f':am}{fa fa':Ev->aj (ac)}{m m':ac->aj D}
def rf_stuck:kY iJ s:=⟨λ_=>.inl rfl⟩
def rf_seq(h1:kY s s')(h2:kY t t'):kY (aw s t) (aw s' t'):=⟨λρ=>dA (h1.o ρ) λr=>by
 cases r with
 |nx ρ'=>exact h2.o ρ'
 |_=>exact .inr rfl⟩
def rf_if(hc:kY c c')(h1:kY s s')(h2:kY t t'):kY (dP c s t) (dP c' s' t'):=⟨λρ=>dA (hc.o _) λr=>by
 cases r with
 |bl b=>cases b with
  |true=>exact h1.o ρ
  |false=>exact h2.o ρ
 |_=>exact .inr rfl⟩
theorem oK{tg:Ev->D->aj Ev}(h:kY s s'):∀(ds:ac) (ρ:Ev),Rf (ef tg s ds ρ) (ef tg s' ds ρ)
 |[],ρ=>.inr rfl
 |d::r,ρ=>by
  unfold ef;refine dA (.inr rfl) λρ1=>dA (h.o ρ1) λx=>?_;cases x with|nx ρ2|ct ρ2=>exact oK h r ρ2|bk ρ2|rt d=>exact .inr rfl
def rf_for{tg:Ev->D->aj Ev}(hf:kY f f')(h:kY s s'):kY (L6 f tg s) (L6 f' tg s'):=⟨λρ=>dA (hf.o ρ) λd=>by
 cases d with
 |lst ds=>exact oK h ds ρ
 |_=>exact .inr rfl⟩
def rf_forI{tg:Ev->D->aj Ev}{src:Ev->aj (ac)}(h:kY s s'):kY (lX src tg s) (lX src tg s'):=⟨λρ=>dA (.inr rfl) λds=>oK h ds ρ⟩
def rf_drop(h:kY f f'):kY (lY f) (lY f'):=⟨λρ=>dA (h.o _) λ_=>.inr rfl⟩
def rf_ret(h:kY f f'):kY (bG f) (bG f'):=⟨λρ=>dA (h.o _) λ_=>.inr rfl⟩
def rf_set{i:Nat}(h:kY f f'):kY (bb i f) (bb i f'):=⟨λρ=>dA (h.o _) λ_=>.inr rfl⟩
def rf_b1{op:D->aj D}(h:kY f f'):kY (aW f op) (aW f' op):=⟨λρ=>dA (h.o _) λ_=>.inr rfl⟩
def rf_not(h:kY f f'):kY (cB f) (cB f'):=rf_b1 h
def rf_b2{op:D->D->aj D}(h:kY f f')(h2:kY c c'):kY (aa f c op) (aa f' c' op):=⟨λρ=>dA (h.o _) λ_=>dA (h2.o _) λ_=>.inr rfl⟩
def rf_bA(h:kY fa fa')(hm:IQ m m'):kY (ak fa m) (ak fa' m'):=⟨λρ=>dA (h.o _) λds=>hm.o ds⟩
def rf_cons(h:kY f f')(h2:kY fa fa'):kY (ag f fa) (ag f' fa'):=⟨λρ=>dA (h.o _) λ_=>dA (h2.o _) λ_=>.inr rfl⟩
def xx{n:Nat}(h:kY s s'):IQ (cD n s) (cD n s'):=⟨λds=>dA (h.o _) λr=>.inr rfl⟩
end
end DL
local macro_rules|`(tactic|open_line with[rf_go])=>`(tactic|repeat (first|with_reducible exact DL.rf_refl|with_reducible exact DL.rf_stuck|with_reducible assumption|with_reducible exact DL.rfm_refl|with_reducible refine DL.rf_seq ?_ ?_|with_reducible refine DL.rf_if ?_ ?_ ?_|with_reducible refine DL.rf_for ?_ ?_|with_reducible refine DL.rf_forI ?_|with_reducible refine DL.rf_drop ?_|with_reducible refine DL.rf_ret ?_|with_reducible refine DL.rf_set ?_|with_reducible refine DL.rf_not ?_|with_reducible refine DL.rf_bA ?_ ?_|with_reducible refine DL.rf_cons ?_ ?_|with_reducible refine DL.rf_b1 ?_|with_reducible refine DL.rf_b2 ?_ ?_))
namespace Cod
open PySem L2 DL Com
def first(es:List Int)(m:Nat):ci:=(Q0 m).map λj=>97+((es[2+j]?).getD 0).toNat
end Cod
namespace Nwb
open PySem L2 DL Com
noncomputable def b_look_at_places:bd :=
 (aw (dP (eZ (cB (aW (ae 0) (gA "list"))) (cB (gF Bx Bx (dC (.int 2)) (ak (ag (ae 0) av) (m1 bz)) (dC (.int 7)))))
 (aw (bI "NoWeb" ["part","number"] (ag (dC (.str "places")) (ag (dC (.non)) av)))
 au)
 au)
 (aw (lX (pk (ae 0)) (k7 [1,2])
 (aw (dP (eZ (cB (ak (ag (ae 2) av) m_is_name)) (aa (ae 2) (hZ (ae 0) fu (dG (ae 1))) wU))
 (aw (bI "NoWeb" ["part","number"] (ag (dC (.str "places")) (ag (ae 1) av)))
 au)
 au)
 au))
 au))
def m_look_at_places:ac->aj D:=cD 3 b_look_at_places
noncomputable def b_look_at_ties:bd :=
 (aw (dP (eZ (cB (aW (ae 0) (gA "list"))) (aa (ak (ag (ae 0) av) (m1 bz)) (dC (.int 14)) wV))
 (aw (bI "NoWeb" ["part","number"] (ag (dC (.str "ties")) (ag (dC (.non)) av)))
 au)
 au)
 (aw (lX (pk (ae 0)) (k7 [2,3])
 (aw (dP (eZ (cB (ak (ag (ae 3) av) m_is_tie)) (eZ (aa (aa (ae 3) (dC (.int 0)) aG) (ae 1) b5) (aa (aa (ae 3) (dC (.int 1)) aG) (ae 1) b5)))
 (aw (bI "NoWeb" ["part","number"] (ag (dC (.str "ties")) (ag (ae 2) av)))
 au)
 au)
 au))
 au))
def m_look_at_ties:ac->aj D:=cD 4 b_look_at_ties
noncomputable def b_look_at_web:bd :=
 (aw (dP (eZ (cB (aW (ae 0) (gA "tuple"))) (aa (ak (ag (ae 0) av) (m1 bz)) (dC (.int 4)) ir))
 (aw (bI "NoWeb" ["part","number"] (ag (dC (.str "web")) (ag (dC (.non)) av)))
 au)
 au)
 (aw (lY (ak (ag (aa (ae 0) (dC (.int 0)) aG) av) m_look_at_places))
 (aw (lY (ak (ag (aa (ae 0) (dC (.int 1)) aG) (ag (aa (ae 0) (dC (.int 0)) aG) av)) m_look_at_ties))
 (aw (dP (cB (ak (ag (aa (ae 0) (dC (.int 2)) aG) (ag (aa (ae 0) (dC (.int 0)) aG) av)) m_is_place))
 (aw (bI "NoWeb" ["part","number"] (ag (dC (.str "first")) (ag (dC (.non)) av)))
 au)
 au)
 (aw (dP (eZ (cB (ak (ag (aa (ae 0) (dC (.int 3)) aG) (ag (aa (ae 0) (dC (.int 0)) aG) av)) m_is_place)) (aa (aa (ae 0) (dC (.int 3)) aG) (aa (ae 0) (dC (.int 2)) aG) cQ))
 (aw (bI "NoWeb" ["part","number"] (ag (dC (.str "last")) (ag (dC (.non)) av)))
 au)
 au)
 au)))))
def m_look_at_web:ac->aj D:=cD 1 b_look_at_web
def AB:IQ Com.m_look_at_places m_look_at_places:=xx (by unfold Com.b_look_at_places b_look_at_places;open_line with[rf_go])
def Fy:IQ Com.m_look_at_ties m_look_at_ties:=xx (by unfold Com.b_look_at_ties b_look_at_ties;open_line with[rf_go])
def JH:IQ Com.m_look_at_web m_look_at_web:=by
 have h1:=AB;have h2:=Fy;exact xx (by unfold Com.b_look_at_web b_look_at_web;open_line with[rf_go])
def webX{w:HN}(W:qX w):m_look_at_web [o9 w]=.ok .non:=JH.ok (Jf W)
end Nwb
namespace DL
open PySem PySem.Spec PyProof.Rows L2
def k6(ρ:Ev):Bool:=ρ.all λs=>match s with
 |.ow _=>false
 |.ox _ _=>false
 |_=>true
section
variable {K:Pl}{He η Ha H H2:Hp}{σ:L2.St}{ρ:Ev}{a:Pg}{st:ac}{vs:al}
def k6.ow(h:k6 ρ=true){i:Nat}{d:D}(e:ρ[i]?=some (.ow d)):False:=by
 have:=Qf.mp h _ (Qs e);cases this
def k6.ox(h:k6 ρ=true){i j:Nat}{ds:ac}(e:ρ[i]?=some (.ox j ds)):False:=by
 have:=Qf.mp h _ (Qs e);cases this
end
mutual
/-- .. seen as any list -/
def fgt:D->D
 |.tup ds=>.tup (fgts ds)
 |.lst ds=>.lst (fgts ds)
 |.dic ks ds=>.dic ks (fgts ds)
 |.ob k ds=>match k with
  |.pl=>.lst (fgts ds)
  |k=>.ob k (fgts ds)
 |.non=>.non
 |.bl b=>.bl b
 |.int i=>.int i
 |.str x=>.str x
 |.exc x=>.exc x
def fgts:ac->ac
 |[]=>[]
 |d::ds=>fgt d::fgts ds
end
mutual
theorem Rep.fgt{K:Pl}{H:Hp}:∀{d:D}{v:V},Rep K H d v->Rep K H (fgt d) v
 |.non,_,h=>by rw[DL.fgt];exact h
 |.bl _,_,h=>by rw[DL.fgt];exact h
 |.int _,_,h=>by rw[DL.fgt];exact h
 |.str _,_,h=>by rw[DL.fgt];exact h
 |.exc _,_,h=>by rw[DL.fgt];exact h
 |.tup ds,_,h=>by
  obtain⟨a,vs,e1,e2,e3⟩:=aJ.mp h;rw[DL.fgt];exact aJ.mpr ⟨a,vs,e1,e2,Reps.fgt e3⟩
 |.lst ds,_,h=>by
  obtain⟨a,vs,e1,e2,e3⟩:=aH.mp h;rw[DL.fgt];exact aH.mpr ⟨a,vs,e1,e2,Reps.fgt e3⟩
 |.dic ks ds,_,h=>by
  rw[Rep]at h;obtain⟨a,kvs,vs,e1,e2,e3,e4,e5⟩:=h;rw[DL.fgt,Rep];exact⟨a,kvs,vs,e1,e2,e3,e4,Reps.fgt e5⟩
 |.ob k ds,_,h=>by
  obtain⟨a,vs,e1,e2,e3⟩:=cg.mp h;cases k with
  |pl=>rw[DL.fgt];exact aH.mpr ⟨a,vs,e1,gJ.of e2,Reps.fgt e3⟩
  |ins c ks=>rw[DL.fgt]<;>first|exact cg.mpr ⟨a,vs,e1,e2,Reps.fgt e3⟩|(intro z;cases z)
  |dint ks=>rw[DL.fgt]<;>first|exact cg.mpr ⟨a,vs,e1,e2,Reps.fgt e3⟩|(intro z;cases z)
  |exf c ks=>rw[DL.fgt]<;>first|exact cg.mpr ⟨a,vs,e1,e2,Reps.fgt e3⟩|(intro z;cases z)
theorem Reps.fgt{K:Pl}{H:Hp}:∀{ds:ac}{vs:al},Reps K H ds vs->Reps K H (fgts ds) vs
 |[],_,h=>by rw[fgts];exact h
 |d::ds,_,h=>by
  obtain⟨v,r,rfl,h1,h2⟩:=aD.mp h;rw[fgts];exact Reps.cons (Rep.fgt h1) (Reps.fgt h2)
end
section
variable {X:Cx}{E:XK}{e:Qe}{f:am}
def HD(f:am):am:=λρ=>(f ρ).bind λd=>.ok (fgt d)
def ym(he:DE X E e f):DE X E e (HD f):=⟨bh he.o λσ H Q ⟨Ha,ρ,hs,hr,q⟩=>⟨Ha,ρ,hs,hr,by
 unfold HD at q;cases e1:f ρ with
 |stuck|exn x=>rw[e1]at q;exact q
 |ok d=>rw[e1]at q;exact λv H' Ha' g r=>q v H' Ha' g r.fgt⟩⟩
end
section
variable {X:Cx}{π:List (Pg×Obj)}{σ:L2.St}{H:Hp}{s:Pm}{e:Pg}
def HG{H1:Hp}{s1 s':Pm}{Ex:XK}{ev:Pd}{c:Pj}{np hpos:Pos}{ba:QQ}{suite:List QQ}{rest:List ExceptHandler}{cv:Pd}{D:gI}(hstk:X.stack=X.env::X.outer/\X.env.frame=some X.env.locals)(I:Inv X π σ H1 s1)
  (h:iO X.prog X.w X.stack H1 s1 Ex ev s')(hg:Gl X c)(hm:X.mg c=some cv)(hx:∀C ox H',Ex (.ref C) ox H'->Ts X.K (.ref C) cv=some true)
  (hs:∀ea C dc oc ox H' s2,Ex (.ref C) ox H'->(ox=none∨ox=dc)->H' ea=none->kq s2.heap ea dc->s2.heap.get? ea=some oc->Inv (DL.hand X ea) π σ (upd H' ea (.ext (λg=>g.get? ea=some oc))) s2 ->
   PZ (PN X.prog X.w) (X.A.mark (some (.ref ea))) (execs (ba::suite) X.env) (SP (DL.hand X ea) π D) (notedBy (PN X.prog X.w) (X.A.mark (some (.ref ea))) X.env λx s3=>cameBackBy (PN X.prog X.w) X.A X.env X.xe x s3) s2)
  (hdb:(c==("__debug__" : Pj))=false:=by decide) :
  PZ (PN X.prog X.w) X.A (noteFrame ev X.env) (λ_ si=>PZ (PN X.prog X.w) X.A (setFlight ev none) (λ_ sj=>
   PZ (PN X.prog X.w) X.A (handleBy ev X.env (.ExceptHandler (some (.Name c np)) none (ba::suite) hpos::rest)) (SP X π D) X.xe sj) X.xe si) X.xe s':=by
 obtain⟨ea,C,a0,B,H',rfl,os,bare,un,hok,hne,fl,hB,ox,⟨dc,hdc,hox⟩,hE⟩:=h;have hA:X.A.frames=some (X.env::X.outer):=by rw[←hstk.1];exact I.ok.frames
 have fl0:=fl;rw[hstk.1]at fl;have hf1:∀b∈ip X.stack,H' b=none:=λb hb=>by
  obtain⟨_,o,ho,_⟩:=I.stack.mem hb;exact un.free b o ho (I.stkFree b hb) (by simp)
 have hnew:s1.heap.get? ea=none:=by
  cases q:s1.heap.get? ea with
  |none=>rfl
  |some o=>
   by_cases hb:ea∈ip X.stack
   .obtain⟨_,o',ho',hd⟩:=fl0.2.2.1.mem hb
    obtain⟨oe,vs,he,_,hd',_⟩:=fl0.first
    rw[ho']at he;cases he;exact absurd hd' (hd vs)
   .obtain⟨u,hu⟩:=hB ea hb (.inr ⟨o,q⟩)
    rw[fl.2.1]at hu;cases hu
 have inv:∀g,B.StaysIn g->s'.heap.UpToSlots g->Inv X π σ H' { s' with heap:=g }:=λg k up=>
  I.call' (ch:=[]) os (Un.fly un fl0.1 fl0.2.2.1 hB k up) (gO.fly hok hf1 fl0.1 hB k) bare (λ_ z=>nomatch z)
 have invx:∀g oc,B.StaysIn g->s'.heap.UpToSlots g->g.get? ea=some oc->Inv X π σ (upd H' ea (.ext (λg=>g.get? ea=some oc))) { s' with heap:=g }:=λg oc k up p=>
  I.call' (ch:=[]) os (Un.ext (Un.fly un fl0.1 fl0.2.2.1 hB k up) hne hnew) (gO.ext (gO.fly hok hf1 fl0.1 hB k) hne p ⟨oc,p⟩ (λg1 g2 x y=>y oc x)) bare (λ_ z=>nomatch z)
 refine wm hA hstk.2 fl hdc λh4 held4 up4 dc4=>?_;refine wo held4 dc4 λh5 fl5 up5 dc5=>?_;have I5:Inv (DL.hand X ea) π σ H' { s' with heap:=h5 }:=Inv.hand (inv h5 fl5.1 (up4.trans up5));refine wpAny_handleBy_cons (codeAny_handlers_test ?_) (by intro q;cases q);refine iu I5 hg hm ?_ hdb;obtain⟨ob,hob,hoc⟩:=fl5.there;have LT:Su (PN X.prog X.w) h5 (typeOf (.ref ea)) (.ref C):=hoc▸(Su.ld hob).andThen .now;refine(W.exm_one I5.kIn LT (hx C ox H' hE)).here ?_;refine codeAny_handlers_suite ?_;refine wt fl5 dc5 λh6 fl6 up6 dc6=>?_;obtain⟨oe,vs,he,hc,hd,_⟩:=fl6.first
 have I6:Inv (DL.hand X ea) π σ (upd H' ea (.ext (λg=>g.get? ea=some oe))) { s' with heap:=h6 }:=Inv.hand (invx h6 oe fl6.1 ((up4.trans up5).trans up6) he);refine QC (hs ea C dc oe ox H' _ hE hox hne dc6 he I6) (λf s8 h8=>?_) λ_ _ z=>z;cases f with|next|brk|cont=>obtain⟨σ',H2,J,q⟩:=h8;exact⟨σ',H2,il I.ok J,q⟩|ret u=>obtain⟨v,σ',H2,J,r,q⟩:=h8;exact⟨v,σ',H2,il I.ok J,r,q⟩
end
end DL
namespace DL
open PySem PySem.Spec PyProof.Rows L2 PySem.W
noncomputable abbrev XQ(K:Frag) (q:Pj) (C CE f:Pg) (s:QQ) (ks:bv):Prop :=
 ∃(oc kV doc pm cd ct:Pd) (od an:Option Pg) (sl:Array (Option Pd)) (nm qn:Pj) (n:Pg) (bs su:List Pd) (hq ab:Bool) (sn:bv) (col:Option Bool) (dd dn:Option Pg) (k0 k1 k2 k3 k5:Option Pd) (cn:Pd) (es:Array TR) (ep:Nat) (st:Array (Option Pd)),
  K.lookup C=some (excClassObj nm qn C n bs [.ref CE,.type "ValueError",.type "Exception",.type "BaseException",.type "object"] hq sn su ab col dd k0 k1 k2 k3 k5 "ValueError.__new__")/\K.lookup n=some ⟨cn,dn,.dict es ep,st⟩/\es.toList.all Il=true/\nsIn K n "__init__"=some (some (.ref f)) /\
  isFn K (.ref f)=true/\K.lookup f=some ⟨oc,od,.func (fnOf "__init__" q (defArgs s) (defBody s) (defScope s) .none kV doc pm an cd ct),sl⟩/\codeIn K cd q=true/\keepIn K (.ref f)=true /\
  findIn K (.ref C) "__setattr__"=some (some (.builtin "object.__setattr__"))/\hasDictIn K C=true/\∀g∈ks,eh K C g
structure Ou (K:Frag) (q:Pj) (C f:Pg) (fd:Qo) (s:QQ) (ps ks:bv):Prop where
 Fi:zU K "__init__" q s f fd
 bi:fV K fd ps []
 xi:IP K C f
 xs:Ep K C ks
 xf:isFn K (.ref f)=true
def OB{K:Frag}{q:Pj}{C CE f:Pg}{s:QQ}{ps ks:bv}(hb:∀{fd},zU K "__init__" q s f fd->fV K fd ps [])(x:XQ K q C CE f s ks)
  (be:excIn K CE [.type "ValueError",.type "Exception",.type "BaseException",.type "object"] "ValueError.__new__"=true):∃fd,Ou K q C f fd s ps ks:=by
 obtain⟨_,_,_,_,_,_,_,_,_,_,_,_,_,_,_,_,_,_,_,_,_,_,_,_,_,_,_,_,_,a,b,c,d,e,g,h,i,j,k,l⟩:=x;have F:=qm g h i;have I:=Jb a b c d be;exact⟨_,F,hb F,I,IZ I j k l,e⟩
def Sb(K:Frag)(r:Pg):List Pg->List Bool->Prop
 |[],_=>True
 |_,[]=>False
 |c::cs,b::bs=>subIn K (.ref r) (.ref c)=some b/\Sb K r cs bs
def sb_c{K:Frag}{r c:Pg}{b:Bool}{cs:List Pg}{bs:List Bool}(h:subIn K (.ref r) (.ref c)=some b)(h':Sb K r cs bs):Sb K r (c::cs) (b::bs):=⟨h,h'⟩
theorem Cd{K:Frag}{r c:Pg}:∀{cs:List Pg}{bs:List Bool},Sb K r cs bs->∀n:Nat,cs[n]?=some c->subIn K (.ref r) (.ref c)=some (bs.getD n false)
 |[],_,_,_,e=>by cases e
 |_::_,[],h,_,_=>h.elim
 |_::_,_::_,h,0,e=>by cases e;exact h.1
 |_::_,_::_,h,n+1,e=>Cd h.2 n e
structure Oq (K:Frag) (x:Pj) (r:Pg) (cs:List Pg) (bs:List Bool):Prop where
 xc:XC K x r
 self:subIn K (.ref r) (.ref r)=some true
 ve:subIn K (.ref r) (.type "ValueError")=some true
 sb:Sb K r cs bs
def EI(K:Frag)(cs:List Pg)(l:List (Pj×Pg×List Bool)):Prop:=∀q∈l,Oq K q.1 q.2.1 cs q.2.2
def Ja{K:Frag}{cs:List Pg}:EI K cs []:=λ_ h=>nomatch h
def ND{K:Frag}{cs:List Pg}{l:List (Pj×Pg×List Bool)}{x:Pj}{r:Pg}{bs:List Bool}(z:Oq K x r cs bs)(h:EI K cs l):EI K cs ((x,r,bs)::l):=λq hq=>by
 rcases PL.mp hq with rfl|hq
 .exact z
 .exact h q hq
def OA{K:Frag}{cs:List Pg}{l:List (Pj×Pg×List Bool)}{x:Pj}{r:Pg}{bs:List Bool}(z:qW K x r)(p:Sb K r cs bs)(h:EI K cs l):EI K cs ((x,r,bs)::l):=ND ⟨z.xc,z.self,z.ve,p⟩ h
def ua{K:Frag}{cs:List Pg}{l:List (Pj×Pg×List Bool)}(h:EI K cs l)(g:List Bool->Bool){p:Pg->Bool->Prop}(hp:∀{x r bs},Oq K x r cs bs->p r (g bs)):∀q∈l.map λq=>(q.1,g q.2.2),∃C,XC K q.1 C/\p C q.2:=λq hq=>by
 obtain⟨y,hy,rfl⟩:=Qt.mp hq;exact⟨_,(h y hy).xc,hp (h y hy)⟩
def Dk{K:Frag}{cs:List Pg}{l:List (Pj×Pg×List Bool)}{x:Pj}{C:Pg}{l':List (Pj×Bool)}(h:EI K cs l)(z:lS K x C)(n:Nat)(hc:cs[n]?=some C)(hl:l'=l.map λq=>(q.1,q.2.2.getD n false)):∀x D,iA l' x=true->XC K x D->exmOne K (.ref D) (.ref C)=some true :=
 Dl (hl▸ua h (·.getD n false) (p:=λr b=>exmOne K (.ref r) (.ref C)=some b) λy=>z.exm (Cd y.sb n hc))
def Jm{K:Frag}{cs:List Pg}{l:List (Pj×Pg×List Bool)}{x:Pj}{C:Pg}{t:Pj->Option Bool}(h:EI K cs l)(z:lS K x C)(n:Nat)(hc:cs[n]?=some C)(hl:t=lg (l.map λq=>(q.1,q.2.2.getD n false))):oh K t (.ref C) :=
 hl▸iR (p:=λ_ r b=>kitOne K (.ref r) (.ref C)=some b) (ua h (·.getD n false) (p:=λr b=>kitOne K (.ref r) (.ref C)=some b) λy=>z.kit y.self (Cd y.sb n hc))
def Jl{K:Frag}{cs:List Pg}{l:List (Pj×Pg×List Bool)}{t:Pj->Option Bool}(h:EI K cs l)(hl:t=lg (l.map λq=>(q.1,true))):oh K t (.type "ValueError") :=
 hl▸iR (p:=λ_ r b=>kitOne K (.ref r) (.type "ValueError")=some b) (ua h (λ_=>true) (p:=λr b=>kitOne K (.ref r) (.type "ValueError")=some b) λy=>xR xS y.ve)
end DL
namespace DL
open PySem PySem.Spec PyProof.Rows L2
structure S3 where
 p:ac
 t:ac
 e:ac
def S3.at(s:S3):Nat->ac
 |0=>s.p
 |1=>s.t
 |_=>s.e
def S3.add(s:S3)(k:Nat)(d:D):S3:=match k with
 |0=>⟨s.p++[d],s.t,s.e⟩
 |1=>⟨s.p,s.t++[d],s.e⟩
 |_=>⟨s.p,s.t,s.e++[d]⟩
def Bs{s:S3}{k j:Nat}{d:D}(hk:k<3)(hj:j<3):(s.add k d).at j=if j=k then s.at k++[d] else s.at j:=by
 rcases(show k=0∨k=1∨k=2 by omega) with rfl|rfl|rfl<;>rcases(show j=0∨j=1∨j=2 by omega) with rfl|rfl|rfl<;>rfl
inductive Hk where
 |ins (c:Pj) (ks:bv)|tup
def rj(K:Pl)(H:Hp):Hk->Pg->al->Prop
 |.ins c ks,a,vs=>yy K H (.ins c ks) a vs
 |.tup,a,vs=>lT K H a vs
def dO:Hk->S3->D
 |.ins c ks,s=>.ob (.ins c ks) [.lst s.p,.lst s.t,.lst s.e]
 |.tup,s=>.tup [.lst s.p,.lst s.t,.lst s.e]
theorem rj.mono{K:Pl}{H H':Hp}(e:aF H H'):∀{h:Hk}{a:Pg}{vs:al},rj K H h a vs->rj K H' h a vs
 |.ins c ks,a,vs,h=>yy.mono (k:=.ins c ks) e h
 |.tup,a,vs,h=>aF.sqT e h
def Dm(He:Hp)(q:Nat->Pg)(vs:Nat->al):Hp:=λc=>if c=q 0 then some (.lst (vs 0)) else if c=q 1 then some (.lst (vs 1)) else if c=q 2 then some (.lst (vs 2)) else He c
def EH(q:Nat->Pg)(H:Hp):Hp:=λc=>if c=q 0∨c=q 1∨c=q 2 then none else H c
structure yz (q:Nat->Pg):Prop where
 a:q 0≠q 1
 b:q 0≠q 2
 c:q 1≠q 2
def k3{k:Nat}(h:k<3):k=0∨k=1∨k=2:=by omega
section
variable {He:Hp}{q:Nat->Pg}{vs:Nat->al}
def nc(j:yz q){k:Nat}(h:k<3):Dm He q vs (q k)=some (.lst (vs k)):=by
 unfold Dm;rcases k3 h with rfl|rfl|rfl
 .rw[if_pos rfl]
 .rw[if_neg (Qq j.a),if_pos rfl]
 .rw[if_neg (Qq j.b),if_neg (Qq j.c),if_pos rfl]
def jr{c:Pg}(h:∀k,k<3->c≠q k):Dm He q vs c=He c:=by
 unfold Dm;rw[if_neg (h 0 (by decide)),if_neg (h 1 (by decide)),if_neg (h 2 (by decide))]
def uM{H:Hp}{c:Pg}(h:∀k,k<3->c≠q k):EH q H c=H c:=by
 unfold EH;exact if_neg (λz=>by rcases z with z|z|z;exact h 0 (by decide) z;exact h 1 (by decide) z;exact h 2 (by decide) z)
def KU{H:Hp}{k:Nat}(h:k<3):EH q H (q k)=none:=by
 unfold EH;exact if_pos (by rcases k3 h with rfl|rfl|rfl<;>simp)
def Iz(q:Nat->Pg)(c:Pg):(∃k,k<3/\c=q k)∨∀k,k<3->c≠q k:=by
 by_cases h0:c=q 0
 .exact .inl ⟨0,by decide,h0⟩
 by_cases h1:c=q 1
 .exact .inl ⟨1,by decide,h1⟩
 by_cases h2:c=q 2
 .exact .inl ⟨2,by decide,h2⟩
 refine .inr λk hk=>?_;rcases k3 hk with rfl|rfl|rfl<;>assumption
def wa(j:yz q){c:Pg}(h:Dm He q vs c=none):He c=none/\∀k,k<3->c≠q k:=by
 rcases Iz q c with⟨k,hk,rfl⟩|h'
 .rw[nc j hk]at h;cases h
 .rw[jr h']at h;exact⟨h,h'⟩
def Dp(hn:∀k,k<3->He (q k)=none):aF He (Dm He q vs):=λc o e=>by
 rcases Iz q c with⟨k,hk,rfl⟩|h'
 .rw[hn k hk]at e;cases e
 .rw[jr h'];exact e
end
structure JX (K:Pl) (He η Ha:Hp) (σ:L2.St) (H:Hp) (ρ:Ev) (h:Hk) (a:Pg) (q:Nat->Pg) (st:S3) (vs:Nat->al):Prop where
 j:yz q
 hn:∀k,k<3->He (q k)=none/\η (q k)=none
 kr:rj K Ha h a [.ref (q 0),.ref (q 1),.ref (q 2)]
 r:∀k,k<3->Reps K Ha (st.at k) (vs k)
 s:fT K (Dm He q vs) η Ha σ H ρ
section
variable {K:Pl}{He η Ha H H' Ha':Hp}{σ σ':L2.St}{ρ ρ':Ev}{h:Hk}{a:Pg}{q:Nat->Pg}{st st':S3}{vs us:Nat->al}
def JX.hl(x:JX K He η Ha σ H ρ h a q st vs){k:Nat}(hk:k<3):H (q k)=some (.lst (vs k)):=x.s.g.s _ _ (nc x.j hk)
def JX.n0(x:JX K He η Ha σ H ρ h a q st vs){k:Nat}(hk:k<3):Ha (q k)=none:=by
 cases e:Ha (q k) with
 |none=>rfl
 |some o=>
  have:=x.s.g.nw (q k) (by rw[e];simp) (x.hn k hk).2;rw[nc x.j hk]at this;cases this
def JX.back(x:JX K He η Ha σ H ρ h a q st vs)(z:aF Ha Ha')(s':fT K (Dm He q vs) η Ha' σ' H' ρ'):JX K He η Ha' σ' H' ρ' h a q st vs :=
 ⟨x.j,x.hn,x.kr.mono z,λk hk=>(x.r k hk).mono z,s'⟩
def JX.same(x:JX K He η Ha σ H ρ h a q st vs)(s:aF H H'):JX K He η Ha σ H' ρ h a q st vs:=x.back (aF.refl _) (x.s.same s)
def JX.frz_sub(x:JX K He η Ha σ H ρ h a q st vs):aF Ha (frz He Ha H):=λb o e=>by
 unfold frz;cases q:He b with|none=>exact x.s.g.sub _ _ e|some _=>exact e
def JX.frz_le(x:JX K He η Ha σ H ρ h a q st vs):aF (frz He Ha H) H:=λb o e=>by
 unfold frz at e;cases q:He b with|none=>rw[q]at e;exact e|some _=>rw[q]at e;exact x.s.g.sub _ _ e
def JX.he(x:JX K He η Ha σ H ρ h a q st vs):aF He H:=(Dp λk hk=>(x.hn k hk).1).trans x.s.g.s
def JX.g0(x:JX K He η Ha σ H ρ h a q st vs):bq He η H Ha:=⟨x.he,x.s.g.z,x.s.g.sub,λb h1 h2=>(wa x.j (x.s.g.nw b h1 h2)).1⟩
theorem JX.frz_grow(x:JX K He η Ha σ H ρ h a q st vs):bq He η H (frz He Ha H) :=
 ⟨x.he,x.s.g.z.trans x.frz_sub,x.frz_le,λb h1 h2=>by
  cases q:He b with
  |none=>rfl
  |some o=>
   unfold frz at h1;rw[q]at h1;have:=x.g0.nw b h1 h2;rw[q]at this;cases this⟩
def JX.rep(x:JX K He η Ha σ H ρ h a q st vs):Rep K (frz He Ha H) (dO h st) (.ref a):=by
 have e:∀k,k<3->Rep K (frz He Ha H) (.lst (st.at k)) (.ref (q k)):=λk hk=>aH.mpr ⟨q k,vs k,rfl,gJ.of (by unfold frz;rw[(x.hn k hk).1];exact x.hl hk),(x.r k hk).mono x.frz_sub⟩;have rs:Reps K (frz He Ha H) [.lst st.p,.lst st.t,.lst st.e] [.ref (q 0),.ref (q 1),.ref (q 2)]:=Reps.cons (e 0 (by decide)) (Reps.cons (e 1 (by decide)) (Reps.cons (e 2 (by decide)) Reps.nil));have kr:=x.kr.mono x.frz_sub;cases h with|ins c ks=>exact cg.mpr ⟨a,_,rfl,kr,rs⟩|tup=>exact aJ.mpr ⟨a,_,rfl,kr,rs⟩
def ze(h:Hk)(i:Nat)(ρ:Ev)(st:S3):Ev:=(kE ρ).set i (.sh (dO h st))
def JX.looks(x:JX K He η Ha σ H ρ h a q st vs){i:Nat}(hp:iZ ρ[i]? a=true)(n:k6 ρ=true):fU K (frz He Ha H) σ (ze h i ρ st):=λj d e=>by
 unfold ze at e
 by_cases c:i=j
 .subst c
  rw[Sa]at e;cases q:(kE ρ)[i]? with|none=>rw[q]at e;cases e|some s=>rw[q]at e;cases e;exact⟨_,x.s.ex.2 i a (oW hp),x.rep⟩
 .rw[PD c]at e
  unfold kE at e;rw[P7]at e;cases q:ρ[j]? with
  |none=>rw[q]at e;cases e
  |some s=>
   rw[q]at e;cases s with
   |no|pt a=>cases e
   |sh d'=>
    cases e;obtain⟨v,h1,h2⟩:=x.s.rd j d q;exact⟨v,h1,h2.mono x.frz_sub⟩
   |ow d'=>exact(k6.ow n q).elim|ox _ _=>exact(k6.ox n q).elim
def JX.change(x:JX K He η Ha σ H ρ h a q st vs)(n:k6 ρ=true)(s:∀b o,(∀k,k<3->b≠q k)->H b=some o->H' b=some o)(z:aF Ha Ha')(sub:aF Ha' H')(nw:∀b,Ha' b≠none->Ha b=none->He b=none)(n':∀k,k<3->Ha' (q k)=none)(hl:∀k,k<3->H' (q k)=some (.lst (us k)))(r:∀k,k<3->Reps K Ha' (st'.at k) (us k)):JX K He η Ha' σ H' ρ h a q st' us:=by
 refine⟨x.j,x.hn,x.kr.mono z,r,⟨⟨λb o e=>?_,x.s.g.z.trans z,sub,λb h1 h2=>?_⟩,x.s.rd.mono z,λi d e=>(k6.ow n e).elim,λi j d d' _ e=>(k6.ow n e).elim,x.s.ln,⟨λi j ds e=>(k6.ox n e).elim,x.s.ex.2⟩⟩⟩
 .rcases Iz q b with⟨k,hk,rfl⟩|hb
  .rw[nc x.j hk]at e;cases e;exact hl k hk
  .rw[jr hb]at e
   exact s _ _ hb (x.he _ _ e)
 .rcases Iz q b with⟨k,hk,rfl⟩|hb
  .exact absurd (n' k hk) h1
  .rw[jr hb]
   cases q2:Ha b with|some u=>exact x.g0.nw b (by rw[q2];simp) h2|none=>exact nw b h1 q2
def JX.changeG(x:JX K He η Ha σ H ρ h a q st vs)(n:k6 ρ=true)(g:bq (EH q H) Ha H' Ha')(n':∀k,k<3->Ha' (q k)=none)(hl:∀k,k<3->H' (q k)=some (.lst (us k)))(r:∀k,k<3->Reps K Ha' (st'.at k) (us k)):JX K He η Ha' σ H' ρ h a q st' us:=by
 refine x.change n (λb o hb e=>g.s _ _ (by rw[uM hb];exact e)) g.z g.sub (λb h1 h2=>?_) n' hl r;rcases Iz q b with⟨k,hk,rfl⟩|hb
 .exact absurd (n' k hk) h1
 .have:=g.nw b h1 h2
  rw[uM hb]at this;exact x.he.free this
end
inductive fz where
 |nx (ρ:Ev) (st:S3)|rt (d:D) (st:S3)|fr (d:D)
structure Np (K:Pl) (He η Ha H:Hp) (q:Nat->Pg) (st:S3):Prop where
 g:bq He η H Ha
 n:∀k,k<3->Ha (q k)=none
 l:∀k,k<3->∃us,H (q k)=some (.lst us)/\Reps K Ha (st.at k) us
noncomputable def iU(K:Pl) (E:XK) (He η:Hp) (h:Hk) (a:Pg) (q:Nat->Pg) (Ha:Hp) (r:aj fz) (G:gI):Prop:=match r with
 |.ok (.nx ρ st)=>∀σ H Ha' vs,aF Ha Ha'->JX K He η Ha' σ H ρ h a q st vs->G.nx σ H
 |.ok (.rt d st)=>∀v H Ha',aF Ha Ha'->Np K He η Ha' H q st->Rep K Ha' d v->G.rt v H
 |.ok (.fr d)=>∀v H Ha',bq He η H Ha'->Rep K Ha' d v->G.rt v H
 |.exn x=>∀C ox H Ha',bq He η H Ha'->wY K Ha' x C ox->E C ox H
 |.stuck=>False
def iU.grow{K:Pl}{E:XK}{He η Ha Hb:Hp}{h:Hk}{a:Pg}{q:Nat->Pg}{r:aj fz}{G:gI}(x:iU K E He η h a q Ha r G)(s:aF Ha Hb):iU K E He η h a q Hb r G:=by
 cases r with
 |ok f=>
  cases f with|nx ρ st=>exact λσ H Ha' vs s'=>x σ H Ha' vs (s.trans s')|rt d st=>exact λv H Ha' s'=>x v H Ha' (s.trans s')|fr d=>exact x
 |exn y=>exact x
 |stuck=>exact x
def tJ(K:Pl)(E:XK)(He η:Hp)(h:Hk)(a:Pg)(q:Nat->Pg)(g:Ev->S3->aj fz):TS:=λG σ H=>∃Ha ρ st vs,JX K He η Ha σ H ρ h a q st vs/\iU K E He η h a q Ha (g ρ st) G
structure JS (X:Cx) (E:XK) (He η:Hp) (h:Hk) (a:Pg) (q:Nat->Pg) (st:QQ) (g:Ev->S3->aj fz):Prop where
 o:PS X st (tJ X.K E He η h a q g)
structure Ew (X:Cx) (E:XK) (He η:Hp) (h:Hk) (a:Pg) (q:Nat->Pg) (st:List QQ) (g:Ev->S3->aj fz):Prop where
 o:rP X st (tJ X.K E He η h a q g)
section
variable {X:Cx}{E:XK}{He η:Hp}{h:Hk}{a:Pg}{q:Nat->Pg}{st:QQ}{rest b1 b2:List QQ}{c e:Qe}{pos:Pos}{f:am}{s t u:Ev->S3->aj fz}
def aZ:Ev->S3->aj fz:=λρ st=>.ok (.nx ρ st)
def sO(t:Ev->S3->aj fz)(r:fz):aj fz:=match r with
 |.nx ρ st=>t ρ st
 |r=>.ok r
def bw(s t:Ev->S3->aj fz):Ev->S3->aj fz:=λρ st=>(s ρ st).bind (sO t)
def bC:Ew X E He η h a q [] aZ:=⟨fD kG λG σ H ⟨Ha,ρ,st,vs,x,r⟩=>r σ H Ha vs (aF.refl _) x⟩
def aQ(h1:JS X E He η h a q st s)(h2:Ew X E He η h a q rest t):Ew X E He η h a q (st::rest) (bw s t):=by
 refine⟨?_⟩;refine fD (eD h1.o h2.o) ?_;rintro G σ H ⟨Ha,ρ,st,vs,x,r⟩;refine⟨Ha,ρ,st,vs,x,?_⟩;unfold bw at r;generalize s ρ st=z at r;cases z with
 |stuck|exn y=>exact r
 |ok y=>
  cases y with|nx ρ' st'=>exact λσ' H' Ha' vs' s' x'=>⟨Ha',ρ',st',vs',x',iU.grow (r:=t ρ' st') r s'⟩|rt d st'|fr d=>exact r
def xV(st:S3)(r:Fl):aj fz:=match r with
 |.nx ρ=>.ok (.nx ρ st)
 |_=>.stuck
def gZ(g:bd):Ev->S3->aj fz:=λρ st=>(g ρ).bind (xV st)
def mj{g:bd}(y:∀He',DS X E He' η st g):JS X E He η h a q st (gZ g):=by
 refine⟨?_⟩;rintro π sh σ H D I ⟨Ha,ρ,st,vs,x,r⟩;refine(y (Dm He q vs)).o π sh σ H D I ⟨Ha,ρ,x.s,?_⟩;unfold gZ at r;generalize g ρ=z at r;cases z with
 |stuck=>exact r|exn y=>exact λC ox H Ha' g=>r C ox H Ha' ⟨(Dp λk hk=>(x.hn k hk).1).trans g.s,g.z,g.sub,λb n1 n2=>(wa x.j (g.nw b n1 n2)).1⟩
 |ok y=>
  cases y with|nx ρ'=>exact λσ' H' Ha' z x'=>r σ' H' Ha' vs z (x.back z x')|rt d|bk ρ'|ct ρ'=>exact r.elim
end
section
variable {K:Pl}{He η Ha H H' Ha':Hp}{σ:L2.St}{ρ:Ev}{h:Hk}{a:Pg}{q:Nat->Pg}{st:S3}{vs:Nat->al}
def JX.grow(x:JX K He η Ha σ H ρ h a q st vs)(g:bq H Ha H' Ha'):JX K He η Ha' σ H' ρ h a q st vs:=x.back g.z (x.s.grow g)
def JX.out(x:JX K He η Ha σ H ρ h a q st vs):Np K He η Ha H q st:=⟨x.g0,λk hk=>x.n0 hk,λk hk=>⟨vs k,x.hl hk,x.r k hk⟩⟩
end
section
variable {X:Cx}{E:XK}{He η:Hp}{h:Hk}{a:Pg}{q:Nat->Pg}{st:QQ}{rest b1 b2:List QQ}{c e:Qe}{es:List Qe}{pos:Pos}{f:am}{fa:Ev->aj (ac)}{s t u:Ev->S3->aj fz}
def j9(f:am):Ev->S3->aj fz:=λρ st=>(f ρ).bind λd=>.ok (.rt d st)
def gY(he:DE X E e f):JS X E He η h a q (.Return (some e) pos) (j9 f):=by
 refine⟨?_⟩;refine cE (mW he.o) ?_;rintro G σ H ⟨Ha,ρ,st,vs,x,r⟩;refine⟨Ha,ρ,x.s.g.sub,x.s.rd,?_⟩;unfold j9 at r;generalize f ρ=z at r;cases z with|stuck=>exact r|exn y=>exact λC ox H' Ha' g ex=>r C ox H' Ha' (x.g0.trans g) ex|ok d=>exact λv H' Ha' g rp=>r v H' Ha' g.z (x.grow g).out rp
def ml(h:Hk)(i:Nat)(a:Pg)(f:am)(s t:Ev->S3->aj fz):Ev->S3->aj fz:=λρ st=>if iZ ρ[i]? a=true/\k6 ρ=true then(f (ze h i ρ st)).bind λd=>match d with
 |.bl true=>s ρ st
 |.bl false=>t ρ st
 |_=>.stuck
 else .stuck
def iw{i:Nat}(hc:DT X E c f)(h1:Ew X E He η h a q b1 s)(h2:Ew X E He η h a q b2 t):JS X E He η h a q (.If c b1 b2 pos) (ml h i a f s t):=by
 refine⟨?_⟩;refine cE (Cw hc.o h1.o h2.o) ?_;rintro G σ H ⟨Ha,ρ,st,vs,x,r⟩;unfold ml at r
 by_cases hp:iZ ρ[i]? a=true/\k6 ρ=true
 rotate_left
 .rw[if_neg hp]at r;exact r.elim
 rw[if_pos hp]at r;refine⟨frz He Ha H,ze h i ρ st,x.frz_le,x.looks hp.1 hp.2,?_⟩;generalize f (ze h i ρ st)=z at r;cases z with
 |stuck=>exact r|exn y=>exact λC ox H' Ha' g ex=>r C ox H' Ha' (x.frz_grow.trans g) ex
 |ok d=>
  cases d with
  |bl d=>
   intro H' J g;cases d with|true|false=>exact⟨Ha,ρ,st,vs,x.same g.s,r⟩
  |_=>exact r.elim
structure JB (X:Cx) (h:Hk) (a:Pg) (q:Nat->Pg) (i:Nat) (b:Qe) (k:Nat):Prop where
 o:PE X b λσ H Q=>σ[i]?=some (some (.ref a))/\rj X.K H h a [.ref (q 0),.ref (q 1),.ref (q 2)]/\Q (.ref (q k)) H
 k:k<3
def N4{q:Nat->Pg}{k:Nat}(hk:k<3):[V.ref (q 0),.ref (q 1),.ref (q 2)][k]?=some (.ref (q k)):=by
 rcases k3 hk with rfl|rfl|rfl<;>rfl
def qg{i k:Nat}{y:Pj}{n:Int}{jj p0 p1 p2}(hn:n=(k:Int))(hk:k<3)(hN:X.N[i]?=some y)(hv:wJ X.env.scope y)(hd:(y==("__debug__" : Pj))=false:=by decide)(hcd:(y==("__classdict__" : Pj))=false:=by decide)(hix:kZ (.Constant (.int n) jj p2):=by exact λ_ _=>rfl) :
  JB X .tup a q i (.Subscript (.Name y p1) (.Constant (.int n) jj p2) p0) k :=
 ⟨bh (yV Df (gE hN hv hd hcd) uh hix) λσ H Q ⟨e1,e2,e3⟩=>⟨.ref a,e1,a,_,n,.ref (q k),rfl,rfl,e2,by rw[hn];exact bO (N4 hk),e3⟩,hk⟩
def lF{i k:Nat}{y fl cn:Pj}{ks:bv}{p0 p1}(hf:ks[k]?=some fl)(hnd:ks.Nodup)(hl:ks.length=3)(hN:X.N[i]?=some y)(hv:wJ X.env.scope y)(hd:(y==("__debug__" : Pj))=false:=by decide)(hcd:(y==("__classdict__" : Pj))=false:=by decide)
  (hb:QN (.Name y p1) fl X.env (eval (.Name y p1) X.env)=eval (.Name y p1) X.env:=by rfl) :
  JB X (.ins cn ks) a q i (.Attribute (.Name y p1) fl p0) k:=by
 have hk:k<3:=by rw[←hl];exact(PJ.mp hf).1
 refine⟨bh (CG (gE hN hv hd hcd) hb) λσ H Q ⟨e1,e2,e3⟩=>⟨.ref a,e1,?_⟩,hk⟩;obtain⟨C,dx,_,k1,k2,_⟩:=e2;refine⟨a,C,dx,_,.ref (q k),rfl,k2,k1.cls,k1.no fl (Qs hf),?_,e3⟩
 match ks,hl with
 |[f0,f1,f2],_=>
  simp only[Q8,PL,QT,or_false,not_or]at hnd;rcases k3 hk with rfl|rfl|rfl
  .cases hf;simp[List.zip,UJ,RG]
  .cases hf
   have:(fl==f0)=false:=beq_false_of_ne (Qq hnd.1.1);simp[List.zip,UJ,RG,this]
  .cases hf
   have h1:(fl==f0)=false:=beq_false_of_ne (Qq hnd.1.2);have h2:(fl==f1)=false:=beq_false_of_ne (Qq hnd.2.1);simp[List.zip,UJ,RG,h1,h2]
def lG(h:Hk)(i:Nat)(a:Pg)(k:Nat)(f:am):Ev->S3->aj fz:=λρ st=>if iZ ρ[i]? a=true/\k6 ρ=true then(f (ze h i ρ st)).bind λd=>if ju d=true/\(st.at k).length<line then .ok (.nx ρ (st.add k d)) else .stuck
 else .stuck
def Bo{Ha J:Hp}{c:Pg}{us:al}(h0:Ha c=none)(hj:J c=some (.lst us)):oA Ha J c=none:=by
 unfold oA;rw[h0,hj]
def m7{i k:Nat}{b:Qe}{p2 p3 p5:Pos}(hb:JB X h a q i b k)(he:DE X E e f)
  (hbase:QN b "append" X.env (eval b X.env)=eval b X.env:=by rfl)
  (hfew:((Qy p3 (Po [e] X.env)).all (λx=>!x.1)&&(R0 p3 (Rc [] X.env)).all (λx=>x.1.isSome)
  &&decide ([e].length+([]:List Rp).length+(if([]:List Rp).isEmpty then 0 else 1)<30))=true:=by exact gw rfl)
  (hline:(p2.endLine==p3.line)=true:=by rfl) (hs:Po [e] X.env=(false,eval e X.env)::Po [] X.env:=by exact aI rfl) (hplain:(Qy p3 (Po [] X.env)).any (·.1)=false:=by exact bB rfl)
  (hw:QK (.Call (.Attribute b "append" p2) [e] [] p3) none p5.line X.env=pure false:=by rfl) :
  JS X E He η h a q (.Expr (.Call (.Attribute b "append" p2) [e] [] p3) p5) (lG h i a k f):=by
 refine⟨?_⟩;refine cE (l7 (vG SR Uk Uj mZ hb.o (b8 he.o dD hs) hbase hfew hline hs hplain) hw) ?_;rintro G σ H ⟨Ha,ρ,st,vs,x,r⟩;have hk:=hb.k;unfold lG at r
 by_cases hp:iZ ρ[i]? a=true/\k6 ρ=true
 rotate_left
 .rw[if_neg hp]at r;exact r.elim
 rw[if_pos hp]at r;refine⟨x.s.ex.2 i a (oW hp.1),x.kr.mono x.s.g.sub,.inl ⟨rfl,vs k,gJ.of (x.hl hk)⟩,frz He Ha H,ze h i ρ st,x.frz_le,x.looks hp.1 hp.2,?_⟩;generalize f (ze h i ρ st)=z at r;cases z with
 |stuck=>exact r|exn y=>exact λC ox H' Ha' g ex=>r C ox H' Ha' (x.frz_grow.trans g) ex
 |ok d=>
  intro v H' J g rp;replace r:iU X.K E He η h a q Ha (if ju d=true/\(st.at k).length<line then .ok (.nx ρ (st.add k d)) else .stuck) G:=r
  by_cases hf:ju d=true/\(st.at k).length<line
  rotate_left
  .rw[if_neg hf]at r;exact r.elim
  rw[if_pos hf]at r;have hJ:aF Ha J:=x.frz_sub.trans g.z;have le:=HK (Ha:=Ha) (J:=J) hJ;have z:aF Ha (oA Ha J):=λb o e=>by unfold oA;rw[e]
  have hH':∀j,j<3->H' (q j)=some (.lst (vs j)):=λj hj=>g.s _ _ (x.hl hj);have hJq:∀j,j<3->J (q j)=some (.lst (vs j)):=λj hj=>g.z _ _ (by unfold frz;rw[(x.hn j hj).1];exact x.hl hj);have n':∀j,j<3->oA Ha J (q j)=none:=λj hj=>Bo (x.n0 hj) (hJq j hj);refine⟨q k,vs k,v,rfl,rfl,hH' k hk,by rw[←(x.r k hk).length];exact Py hf.2 (by decide),?_⟩;have qi:∀j,j<3->j≠k->q j≠q k:=λj hj hn=>by
   rcases k3 hj with rfl|rfl|rfl<;>rcases k3 hk with rfl|rfl|rfl
   all_goals first|exact absurd rfl hn|exact x.j.a|exact x.j.b|exact x.j.c|exact x.j.a.symm|exact x.j.b.symm|exact x.j.c.symm
  refine r σ _ (oA Ha J) (λj=>if j=k then vs k++[v] else vs j) z (x.change hp.2 (λb o hb e=>?_) z (λb o e=>?_) (λb h1 h2=>?_) n' (λj hj=>?_) λj hj=>?_)
  .rw[ax (hb k hk)];exact g.s _ _ e
  .rw[ax (by intro zz;subst zz;rw[n' k hk]at e;cases e)]
   exact g.sub _ _ (le b o e)
  .cases q1:He b with
   |none=>rfl
   |some o=>
    have hj:J b≠none:=by
     cases q2:oA Ha J b with|none=>exact absurd q2 h1|some o=>rw[le b o q2];simp
    have:=g.nw b hj (by unfold frz;rw[q1];exact h2);rw[x.he b o q1]at this;cases this
  .by_cases hjk:j=k
   .subst hjk;rw[ay,if_pos rfl]
   .rw[ax (qi j hj hjk),if_neg hjk];exact hH' j hj
  .rw[Bs hk hj]
   by_cases hjk:j=k
   .rw[if_pos hjk,if_pos hjk]
    exact((x.r k hk).mono z).app (Reps.cons (rp.flat_to (HJ hJ) hf.1) Reps.nil)
   .rw[if_neg hjk,if_neg hjk]
    exact(x.r j hj).mono z
structure JE (X:Cx) (E:XK) (He η:Hp) (h:Hk) (a:Pg) (q:Nat->Pg) (e:Qe) (f:Ev->S3->aj (D×S3)):Prop where
 o:PE X e λσ H Q=>∃Ha ρ st vs,JX X.K He η Ha σ H ρ h a q st vs/\match f ρ st with
  |.ok (d,st')=>∀v H' Ha' us,aF Ha Ha'->JX X.K He η Ha' σ H' ρ h a q st' us->Rep X.K Ha' d v->Q v H'
  |.exn y=>∀C ox H' Ha',bq He η H' Ha'->wY X.K Ha' y C ox->E C ox H'
  |.stuck=>False
noncomputable def Ie(K:Pl) (n:Nat) (h:Hk) (m:Pg->S3->ac->aj (D×S3)):Sp:=λvs H Q E=>vs.length=n+1/\∃(Ha:Hp) (ds:ac) (a:Pg) (q:Nat->Pg) (st:S3) (us:Nat->al) (vs0:al),vs=.ref a::vs0/\aF Ha H/\Reps K Ha ds vs0/\yz q/\rj K Ha h a [.ref (q 0),.ref (q 1),.ref (q 2)]/\(∀k,k<3->Ha (q k)=none/\H (q k)=some (.lst (us k))/\Reps K Ha (st.at k) (us k))/\match m a st ds with
 |.ok (d,st')=>∀(v:V) (H' Ha':Hp) (us':Nat->al),bq (EH q H) Ha H' Ha'->(∀k,k<3->Ha' (q k)=none/\H' (q k)=some (.lst (us' k))/\Reps K Ha' (st'.at k) (us' k))->Rep K Ha' d v->Q v H'
 |_=>False
def dH(a:Pg)(m:Pg->S3->ac->aj (D×S3))(st:S3)(ds:ac):aj (D×S3):=match m a st ds with
 |.ok p=>.ok p
 |_=>.stuck
def iy(i:Nat)(a:Pg)(fa:Ev->aj (ac))(m:Pg->S3->ac->aj (D×S3)):Ev->S3->aj (D×S3):=λρ st=>if iZ ρ[i]? a=true/\k6 ρ=true then(fa ρ).bind (dH a m st) else .stuck
def Gp{CX:rR}{k n i:Nat}{fn:Pg}{fd:Qo}{ps:bv}{m:Pg->S3->ac->aj (D×S3)}{x y:Pj}{p p1:Pos}(F:FnOk X.prog X.w X.K X.mg X.base CX k fn fd ps (Ie X.K n h m))(hr:dz k X.A)(hg:Gl X x)(hm:X.mg x=some (.ref fn))
  (hk:R1 X.K (.ref fn)=true)(hb:fV X.K fd ps [])(hx:gH CX X E)(hN:X.N[i]?=some y)(hv:wJ X.env.scope y)(ha:DA X E es fa)(hl:∀ρ ds,fa ρ=.ok ds->ds.length=n)
  (hd:(y==("__debug__" : Pj))=false:=by decide)(hcd:(y==("__classdict__" : Pj))=false:=by decide)(hdb:(x==("__debug__" : Pj))=false:=by decide)(he:Po (.Name y p1::es) X.env=(false,eval (.Name y p1) X.env)::Po es X.env:=by exact aI rfl)(hpl:(Qy pos (Po es X.env)).any (·.1)=false:=by exact bB rfl) :
  JE X E He η h a q (.Call (.Name x p) (.Name y p1::es) [] pos) (iy i a fa m):=by
 refine⟨?_⟩;refine bh (yX F hr hg hm hk hb .nil hx (b8 (gE hN hv hd hcd) ha.o he) hdb he hpl) ?_;rintro σ H Q ⟨Ha,ρ,st,vs,x,r⟩;unfold iy at r
 by_cases hp:iZ ρ[i]? a=true/\k6 ρ=true
 rotate_left
 .rw[if_neg hp]at r;exact r.elim
 rw[if_pos hp]at r;refine⟨.ref a,x.s.ex.2 i a (oW hp.1),Ha,ρ,x.s.g.sub,x.s.rd,?_⟩;cases e1:fa ρ with
 |stuck=>rw[e1]at r;exact r|exn y=>rw[e1]at r;exact λC ox H' Ha' g ex=>r C ox H' Ha' (x.g0.trans g) ex
 |ok ds=>
  rw[e1]at r;intro xs H1 H01 g1 r1;have x1:=x.grow g1;refine⟨?_,H01,ds,a,q,st,vs,xs,by simp,x1.s.g.sub,r1,x1.j,x1.kr,λk hk=>⟨x1.n0 hk,x1.hl hk,x1.r k hk⟩,?_⟩
  .have:=r1.length
   have:=hl ρ ds e1;simp only[Rr,PU]at *;omega
  .replace r:match dH a m st ds with
    |.ok (d,st')=>∀v H' Ha' us,aF Ha Ha'->JX X.K He η Ha' σ H' ρ h a q st' us->Rep X.K Ha' d v->Q v H'
    |.exn y=>∀C ox H' Ha',bq He η H' Ha'->wY X.K Ha' y C ox->E C ox H'
    |.stuck=>False:=r
   unfold dH at r;generalize m a st ds=z at r ⊢;cases z with
   |stuck=>exact r|exn y=>exact r.elim
   |ok pr=>
    obtain⟨d,s2⟩:=pr;exact λv H' Ha' us' g l rp=>r v H' Ha' us' (g1.z.trans g.z) (x1.changeG hp.2 g (λk hk=>(l k hk).1) (λk hk=>(l k hk).2.1) λk hk=>(l k hk).2.2) rp
noncomputable def xW(h:Hk) (i:Nat) (a:Pg) (f:am) (g:Ev->S3->aj (D×S3)):Ev->S3->aj (D×S3):=λρ st=>if iZ ρ[i]? a=true/\k6 ρ=true then(f (ze h i ρ st)).bind λd=>match d with
 |.bl true=>g ρ st
 |.bl false=>.ok (.bl false,st)
 |_=>.stuck
 else .stuck
def Dd{i:Nat}{g:Ev->S3->aj (D×S3)}(hc:DE X E c f)(he:JE X E He η h a q e g):JE X E He η h a q (.BoolOp .And [c,e] pos) (xW h i a f g):=by
 refine⟨?_⟩;refine bh (CI hc.o (CC he.o)) ?_;rintro σ H Q ⟨Ha,ρ,st,vs,x,r⟩;unfold xW at r
 by_cases hp:iZ ρ[i]? a=true/\k6 ρ=true
 rotate_left
 .rw[if_neg hp]at r;exact r.elim
 rw[if_pos hp]at r;refine⟨frz He Ha H,ze h i ρ st,x.frz_le,x.looks hp.1 hp.2,?_⟩;generalize f (ze h i ρ st)=z at r;cases z with
 |stuck=>exact r|exn y=>exact λC ox H' Ha' g ex=>r C ox H' Ha' (x.frz_grow.trans g) ex
 |ok d=>
  intro v H' J g1 rp;cases d with
  |bl d=>
   rw[aC.mp rp];cases d with|true=>exact⟨true,rfl,Ha,ρ,st,vs,x.same g1.s,r⟩|false=>exact⟨false,rfl,r (.bl false) H' Ha vs (aF.refl _) (x.same g1.s) (aC.mpr rfl)⟩
  |_=>exact r.elim
def qh(g:Ev->S3->aj (D×S3)):Ev->S3->aj fz:=λρ st=>(g ρ st).bind λp=>.ok (.rt p.1 p.2)
def oU{g:Ev->S3->aj (D×S3)}(he:JE X E He η h a q e g):JS X E He η h a q (.Return (some e) pos) (qh g):=by
 refine⟨?_⟩;refine cE (mW he.o) ?_;rintro G σ H ⟨Ha,ρ,st,vs,x,r⟩;refine⟨Ha,ρ,st,vs,x,?_⟩;unfold qh at r;generalize g ρ st=z at r;cases z with
 |stuck|exn y=>exact r
 |ok p=>
  obtain⟨d,st'⟩:=p;exact λv H' Ha' us s x' rp=>r v H' Ha' s x'.out rp
def A0(g:Ev->S3->aj (D×S3))(s:Ev->S3->aj fz):Ev->S3->aj fz:=λρ st=>(g ρ st).bind λp=>match p.1 with
 |.bl true=>.ok (.nx ρ p.2)
 |.bl false=>s ρ p.2
 |_=>.stuck
def Kc{g:Ev->S3->aj (D×S3)}{p:Pos}(he:JE X E He η h a q e g)(h1:Ew X E He η h a q b1 s)(hw:∀whole,isTrue e X.env whole=(do let v ←whole;standAt e.pos;Uw [v] (truthy v)):=by intro _;rfl):JS X E He η h a q (.If (.UnaryOp .Not e p) b1 [] pos) (A0 g s):=by
 refine⟨?_⟩;refine cE (Cw (Ct (Cs he.o hw)) h1.o kG) ?_;rintro G σ H ⟨Ha,ρ,st,vs,x,r⟩;refine⟨Ha,ρ,st,vs,x,?_⟩;unfold A0 at r;generalize g ρ st=z at r;cases z with
 |stuck|exn y=>exact r
 |ok p=>
  obtain⟨d,st'⟩:=p;intro v H' Ha' us s' x' rp;cases d with
  |bl d=>
   rw[aC.mp rp];refine⟨d,rfl,?_⟩;cases d with|true=>exact r σ H' Ha' us s' x'|false=>exact⟨Ha',ρ,st',us,x',iU.grow (r:=s ρ st') r s'⟩
  |_=>exact r.elim
end
def lJ(tg:Ev->D->aj Ev)(s:Ev->S3->aj fz):ac->Ev->S3->aj fz
 |[],ρ,st=>.ok (.nx ρ st)
 |d::r,ρ,st=>(tg ρ d).bind λρ1=>(s ρ1 st).bind λx=>match x with
  |.nx ρ2 st2=>lJ tg s r ρ2 st2
  |y=>.ok y
def vW(src:Ev->aj (ac))(tg:Ev->D->aj Ev)(s:Ev->S3->aj fz):Ev->S3->aj fz:=λρ st=>(src ρ).bind λds=>lJ tg s ds ρ st
section
variable {X:Cx}{E:XK}{He η:Hp}{h:Hk}{a:Pg}{q:Nat->Pg}{pos:Pos}{s:Ev->S3->aj fz}
noncomputable def IS(K:Pl) (E:XK) (He η:Hp) (h:Hk) (a:Pg) (q:Nat->Pg) (Hb:Hp) (tg:Ev->D->aj Ev) (s:Ev->S3->aj fz) (ds:ac) (D':gI) (i:Nat) (σ:L2.St) (H:Hp):Prop :=
 ∃Ha ρ st vs,aF Hb Ha/\JX K He η Ha σ H ρ h a q st vs/\iU K E He η h a q Ha (lJ tg s (ds.drop i) ρ st) D'
def zj{tgt iter:Qe}{body:List QQ}{tg:Ev->D->aj Ev}{src:Ev->aj (ac)}(hp:PassesOwn (PN X.prog X.w) X.A X.env X.xe)(hc:X.calm=true)(hi:DI X E tgt iter src)(hg:∀He',DG X E He' η tgt tg)(ht:wK tg)(hb:Ew X E He η h a q body s)
  (hs:∀x,foldedSetIterable iter X.env x=pure x:=by intro _;rfl):JS X E He η h a q (.For tgt iter body [] pos) (vW src tg s):=by
 have hgp:PG X tgt λv σ H Q=>∃He',tG X.K He' η tg v σ H Q:=λπ s σ H v u Q I r z=>z.elim λHe' z=>(hg He').o π s σ H v u Q I r z;refine⟨cE (xA hp hc hi.o hgp hb.o hs) ?_⟩;rintro D' σ H ⟨Ha,ρ,st,vs,x,r⟩;refine⟨Ha,ρ,x.s.g.sub,x.s.rd,?_⟩;unfold vW at r;generalize src ρ=z at r;cases z with
 |stuck=>exact r|exn y=>exact λC ox H' Ha' g ex=>r C ox H' Ha' (x.g0.trans g) ex
 |ok ds=>
  intro J H1 H01 g it;refine⟨λi m σ' H'=>m+i=ds.length/\IS X.K E He η h a q H01 tg s ds D' i σ' H',⟨ds.length,rfl,H01,ρ,st,vs,aF.refl _,x.grow g,iU.grow (r:=lJ tg s ds ρ st) r g.z⟩,?_⟩;rintro i m σ' H' ⟨hm,Ha',ρ',st',vs',z,x',r'⟩
  by_cases hlt:i<ds.length
  .refine .inr ⟨it.go i H' Ha' z x'.s.g.sub hlt,λσ2 H2=>IS X.K E He η h a q H01 tg s ds D' (i+1) σ2 H2,λσ2 H2 hl=>⟨m-1,by omega,by omega,hl⟩,λy H2 hy=>?_⟩
   obtain⟨H₀2,g2,rp⟩:=it.yld i H' Ha' y H2 ds[i] z x'.s.g.sub (Pu hlt) hy;have hdr:ds.drop i=ds[i]::ds.drop (i+1):=QD hlt;rw[hdr]at r';replace r':=iU.grow (r:=lJ tg s (ds[i]::ds.drop (i+1)) ρ' st') r' g2.z;have x2:=x'.grow g2;refine⟨Dm He q vs',H₀2,ρ',ds[i],x2.s,rp,?_⟩;unfold lJ at r';rcases ht ρ' ds[i] with e1|⟨ρ1,e1⟩
   .rw[e1]at r';exact r'.elim
   .rw[e1]at r' ⊢
    intro σ3 H3 H₀3 z3 s3;refine⟨H₀3,ρ1,st',vs',x2.back z3 s3,?_⟩;replace r':=iU.grow (r:=(s ρ1 st').bind λx=>match x with
     |.nx ρ2 st2=>lJ tg s (ds.drop (i+1)) ρ2 st2
     |y=>.ok y) r' z3
    generalize s ρ1 st'=zz at r' ⊢;cases zz with
    |stuck|exn y=>exact r'
    |ok y=>
     cases y with|nx ρ2 st2=>exact λσ4 H4 H₀4 vs4 z4 x4=>⟨H₀4,ρ2,st2,vs4,(z.trans g2.z).trans (z3.trans z4),x4,iU.grow (r:=lJ tg s (ds.drop (i+1)) ρ2 st2) r' z4⟩|rt d st2|fr d=>exact r'
  .have e:i=ds.length:=by omega
   refine .inl ⟨it.stop i H' Ha' z x'.s.g.sub (by omega),?_⟩;subst e;rw[TN]at r';unfold lJ at r';exact r' σ' H' Ha' vs' (aF.refl _) x'
end
def pl2(Ha:Hp)(q:Nat->Pg)(vs:Nat->al):Hp:=upd (upd Ha (q 0) (.lst (vs 0))) (q 1) (.lst (vs 1))
def Ln(st:S3)(d0 d1:D):D:=.tup [.ob .pl st.p,.ob .pl st.t,d0,d1]
def Nw(st:S3)(w:Bool):aj fz:=match st.e with
 |d0::d1::_=>.ok (.fr (if w=true then .tup [.non,Ln st d0 d1] else Ln st d0 d1))
 |_=>.stuck
def Bw(i:Nat)(a:Pg)(w:Bool):Ev->S3->aj fz:=λρ st=>if iZ ρ[i]? a=true then Nw st w else .stuck
section
variable {X:Cx}{E:XK}{He η:Hp}{h:Hk}{a:Pg}{q:Nat->Pg}{pos:Pos}
def pM{K:Pl}{Ha H:Hp}{σ:L2.St}{ρ:Ev}{st:S3}{vs:Nat->al}(x:JX K He η Ha σ H ρ h a q st vs):bq H Ha H Ha->bq He η H (pl2 Ha q vs)/\aF Ha (pl2 Ha q vs):=λ_=>by
 have z:aF Ha (pl2 Ha q vs):=λb o e=>by
  unfold pl2;rw[ax (by intro zz;subst zz;rw[x.n0 (k:=1) (by decide)]at e;cases e),ax (by intro zz;subst zz;rw[x.n0 (k:=0) (by decide)]at e;cases e)];exact e
 refine⟨⟨x.he,x.s.g.z.trans z,λb o e=>?_,λb h1 h2=>?_⟩,z⟩
 .unfold pl2 at e
  by_cases c1:b=q 1
  .subst c1;rw[ay]at e;cases e;exact x.hl (by decide)
  .rw[ax c1]at e
   by_cases c0:b=q 0
   .subst c0;rw[ay]at e;cases e;exact x.hl (by decide)
   .rw[ax c0]at e;exact x.s.g.sub _ _ e
 .unfold pl2 at h1
  by_cases c1:b=q 1
  .subst c1;exact(x.hn 1 (by decide)).1
  .rw[ax c1]at h1
   by_cases c0:b=q 0
   .subst c0;exact(x.hn 0 (by decide)).1
   .rw[ax c0]at h1;exact x.g0.nw b h1 h2
def NQ(K:Pl)(He η:Hp)(h:Hk)(a:Pg)(q:Nat->Pg)(i:Nat):TE:=λσ H Q=>∃Ha ρ st vs d0 d1 er,JX K He η Ha σ H ρ h a q st vs/\iZ ρ[i]? a=true/\st.e=d0::d1::er/\∀v H' Ha',bq H (pl2 Ha q vs) H' Ha'->Rep K Ha' (Ln st d0 d1) v->Q v H'
def Ii{i:Nat}{b0 b1 b2 b3:Qe}{k0 k1:Int}{kk j0 j1}{p1 p2 p3 p4 p0:Pos}(h0:JB X h a q i b0 0)(h1:JB X h a q i b1 1)(h2:JB X h a q i b2 2)(h3:JB X h a q i b3 2)(e0:k0=0)(e1:k1=1)
  (hx0:kZ (.Constant (.int k0) j0 p1):=by exact λ_ _=>rfl)(hx1:kZ (.Constant (.int k1) j1 p2):=by exact λ_ _=>rfl)
  (s0:Po [b0,b1,.Subscript b2 (.Constant (.int k0) j0 p1) p3,.Subscript b3 (.Constant (.int k1) j1 p2) p4] X.env=(false,eval b0 X.env)::Po [b1,.Subscript b2 (.Constant (.int k0) j0 p1) p3,.Subscript b3 (.Constant (.int k1) j1 p2) p4] X.env:=by exact aI rfl)
  (s1:Po [b1,.Subscript b2 (.Constant (.int k0) j0 p1) p3,.Subscript b3 (.Constant (.int k1) j1 p2) p4] X.env=(false,eval b1 X.env)::Po [.Subscript b2 (.Constant (.int k0) j0 p1) p3,.Subscript b3 (.Constant (.int k1) j1 p2) p4] X.env:=by exact aI rfl)
  (s2:Po [.Subscript b2 (.Constant (.int k0) j0 p1) p3,.Subscript b3 (.Constant (.int k1) j1 p2) p4] X.env=(false,eval (.Subscript b2 (.Constant (.int k0) j0 p1) p3) X.env)::Po [.Subscript b3 (.Constant (.int k1) j1 p2) p4] X.env:=by exact aI rfl)
  (s3:Po [.Subscript b3 (.Constant (.int k1) j1 p2) p4] X.env=(false,eval (.Subscript b3 (.Constant (.int k1) j1 p2) p4) X.env)::Po [] X.env:=by exact aI rfl) :
  PE X (.Tuple [b0,b1,.Subscript b2 (.Constant (.int k0) j0 p1) p3,.Subscript b3 (.Constant (.int k1) j1 p2) p4] kk p0) (NQ X.K He η h a q i):=by
 refine bh (ug (b8 h0.o (b8 h1.o (b8 (yV uD h2.o uh hx0) (b8 (yV uD h3.o uh hx1) dD s3) s2) s1) s0)) ?_;rintro σ H Q ⟨Ha,ρ,st,vs,d0,d1,er,x,hp,he,r⟩;have hσ:=x.s.ex.2 i a (oW hp);have kr:=x.kr.mono x.s.g.sub;have r2:=x.r 2 (by decide);rw[show st.at 2=st.e from rfl,he]at r2;obtain⟨u0,ur,eu,ru0,r2⟩:=aD.mp r2;obtain⟨u1,ur2,rfl,ru1,r2⟩:=aD.mp r2;have hq2:gJ X.K H (q 2) (vs 2):=gJ.of (x.hl (by decide));refine⟨hσ,kr,hσ,kr,⟨hσ,kr,q 2,vs 2,k0,u0,rfl,rfl,hq2,by rw[e0,eu];exact bO (j:=0) rfl,?_⟩⟩;refine⟨hσ,kr,q 2,vs 2,k1,u1,rfl,rfl,hq2,by rw[e1,eu];exact bO (j:=1) rfl,?_⟩;refine⟨by show 4<=sizeLine;decide,λp hp0=>?_⟩;obtain⟨g,z⟩:=pM x (bq.refl x.s.g.sub);have A:=aX (o:=.tup [.ref (q 0),.ref (q 1),u0,u1]) g.sub hp0;refine r (.ref p) _ _ A (aJ.mpr ⟨p,_,rfl,lT.of ay,?_⟩);have l0:pl2 Ha q vs (q 0)=some (.lst (vs 0)):=by unfold pl2;rw[ax x.j.a,ay]
 have l1:pl2 Ha q vs (q 1)=some (.lst (vs 1)):=by unfold pl2;rw[ay]
 exact Reps.cons (cg.mpr ⟨q 0,vs 0,rfl,A.z _ _ l0,(x.r 0 (by decide)).mono (z.trans A.z)⟩) (Reps.cons (cg.mpr ⟨q 1,vs 1,rfl,A.z _ _ l1,(x.r 1 (by decide)).mono (z.trans A.z)⟩) (Reps.cons (ru0.mono (z.trans A.z)) (Reps.cons (ru1.mono (z.trans A.z)) Reps.nil)))
def MC{i:Nat}{e:Qe}(he:PE X e (NQ X.K He η h a q i)):JS X E He η h a q (.Return (some e) pos) (Bw i a false):=by
 refine⟨cE (mW he) ?_⟩;rintro G σ H ⟨Ha,ρ,st,vs,x,r⟩;unfold Bw at r
 by_cases hp:iZ ρ[i]? a=true
 rotate_left
 .rw[if_neg hp]at r;exact r.elim
 rw[if_pos hp]at r;unfold Nw at r;split at r
 .next d0 d1 er es=>
  exact⟨Ha,ρ,st,vs,d0,d1,er,x,hp,es,λv H' Ha' g rp=>r v H' Ha' ((pM x (bq.refl x.s.g.sub)).1.trans g) rp⟩
 .exact r.elim
def Ke{i:Nat}{e:Qe}{jn kk}{p1 p2:Pos}(he:PE X e (NQ X.K He η h a q i))(s0:Po [.Constant .none jn p1,e] X.env=(false,eval (.Constant .none jn p1) X.env)::Po [e] X.env:=by exact aI rfl)(s1:Po [e] X.env=(false,eval e X.env)::Po [] X.env:=by exact aI rfl) :
  JS X E He η h a q (.Return (some (.Tuple [.Constant .none jn p1,e] kk p2)) pos) (Bw i a true):=by
 refine⟨cE (mW (ug (b8 (xE (j:=jn) (pos:=p1)) (b8 he dD s1) s0))) ?_⟩;rintro G σ H ⟨Ha,ρ,st,vs,x,r⟩;unfold Bw at r
 by_cases hp:iZ ρ[i]? a=true
 rotate_left
 .rw[if_neg hp]at r;exact r.elim
 rw[if_pos hp]at r;unfold Nw at r;split at r
 .next d0 d1 er es=>
  refine⟨Ha,ρ,st,vs,d0,d1,er,x,hp,es,λv H' Ha' g rp=>⟨by show 2<=sizeLine;decide,λp hp0=>?_⟩⟩;have g1:=(pM x (bq.refl x.s.g.sub)).1.trans g;have A:=aX (o:=.tup [.non,v]) g.sub hp0;exact r (.ref p) _ _ (g1.trans A) (aJ.mpr ⟨p,_,rfl,lT.of ay,Reps.cons (aN.mpr rfl) (Reps.cons (rp.mono A.z) Reps.nil)⟩)
 .exact r.elim
end
def wO{K:Pl}{He η Ha H:Hp}{σ:L2.St}{ρ:Ev}{h:Hk}{a:Pg}{q:Nat->Pg}{i:Nat}(x:fT K He η Ha σ H ρ)(n:k6 ρ=true)(hi:i<ρ.length)(j:yz q)(hq:∀k,k<3->He (q k)=none/\Ha (q k)=none/\H (q k)=some (.lst []))
  (kr:rj K Ha h a [.ref (q 0),.ref (q 1),.ref (q 2)]):JX K He η Ha (σ.set i (some (.ref a))) H (ρ.set i (.pt a)) h a q ⟨[],[],[]⟩ λ_=>[]:=by
 have key:∀(j:Nat) (s:Sl),(ρ.set i (.pt a))[j]?=some s->(j=i/\s=.pt a)∨(j≠i/\ρ[j]?=some s):=λj s e=>by
  by_cases hj:i=j
  .subst hj;rw[Qw hi]at e;cases e;exact .inl ⟨rfl,rfl⟩
  .rw[PD hj]at e;exact .inr ⟨λz=>hj z.symm,e⟩
 refine⟨j,λk hk=>⟨(hq k hk).1,x.g.z.free (hq k hk).2.1⟩,kr,λk hk=>?_,⟨⟨λb o e=>?_,x.g.z,x.g.sub,λb h1 h2=>?_⟩,λj d e=>?_,λj d e=>?_,λj k d d' hn e1 e2=>?_,by simp[x.ln],⟨λj k es e=>?_,λj b e=>?_⟩⟩⟩
 .rcases k3 hk with rfl|rfl|rfl<;>exact Reps.nil
 .rcases Iz q b with⟨k,hk,rfl⟩|hb
  .rw[nc j hk]at e;cases e;exact(hq k hk).2.2
  .rw[jr hb]at e;exact x.g.s _ _ e
 .rcases Iz q b with⟨k,hk,rfl⟩|hb
  .exact absurd (hq k hk).2.1 h1
  .rw[jr hb];exact x.g.nw b h1 h2
 .rcases key j _ e with⟨_,e'⟩|⟨hj,e'⟩
  .cases e'
  .obtain⟨v,h1,h2⟩:=x.rd j d e'
   exact⟨v,by rw[PD (Qq hj)];exact h1,h2⟩
 .rcases key j _ e with⟨_,e'⟩|⟨hj,e'⟩
  .cases e'
  .exact(k6.ow n e').elim
 .rcases key j _ e1 with⟨_,e'⟩|⟨hj,e1'⟩
  .cases e'
  .exact(k6.ow n e1').elim
 .rcases key j _ e with⟨_,e'⟩|⟨hj,e'⟩
  .cases e'
  .exact(k6.ox n e').elim
 .rcases key j _ e with⟨rfl,e'⟩|⟨hj,e'⟩
  .cases e'
   rw[Qw (by rw[←x.ln];exact hi)]
  .rw[PD (Qq hj)];exact x.ex.2 j b e'
def sS(r:aj fz):aj Fl:=match r with
 |.ok (.rt d _)=>.ok (.rt d)
 |.ok (.fr d)=>.ok (.rt d)
 |.exn y=>.exn y
 |_=>.stuck
noncomputable def dQ(i:Nat) (g:Pg->Ev->S3->aj fz):bd:=λρ=>if k6 ρ=true/\i<ρ.length then vR λa=>sS (g a (ρ.set i (.pt a)) ⟨[],[],[]⟩) else .stuck
section
variable {X:Cx}{E:XK}{He η:Hp}{rest:List QQ}{pos:Pos}{g:Pg->Ev->S3->aj fz}
def vE{K:Pl}{Ha H01:Hp}{h:Hk}{a:Pg}{q:Nat->Pg}{i:Nat}{ρ:Ev}{G:gI}(r:cu K E He η Ha (vR λa=>sS (g a (ρ.set i (.pt a)) ⟨[],[],[]⟩)) G):iU K E He η h a q H01 (g a (ρ.set i (.pt a)) ⟨[],[],[]⟩) G:=by
 by_cases hs:(vR λa=>sS (g a (ρ.set i (.pt a)) ⟨[],[],[]⟩))=.stuck
 .rw[hs]at r;exact r.elim
 rw[←F9 hs a]at r;generalize g a (ρ.set i (.pt a)) ⟨[],[],[]⟩=z at r ⊢;cases z with
 |stuck|exn y=>exact r
 |ok y=>
  cases y with|nx ρ st=>exact r.elim|rt d st=>exact λv H Ha' _ o rp=>r v H Ha' o.g rp|fr d=>exact r
def yg{i:Nat}{y:Pj}{kk}{p0 p1 p2 p3 pos':Pos}(hN:X.N.Nodup)(hi:X.N[i]?=some y)(hx:zT X.env.scope y)(hr:∀a q,Ew X E He η .tup a q rest (g a))
  (s0:Po [.List [] p1,.List [] p2,.List [] p3] X.env=(false,eval (.List [] p1) X.env)::Po [.List [] p2,.List [] p3] X.env:=by exact aI rfl)(s1:Po [.List [] p2,.List [] p3] X.env=(false,eval (.List [] p2) X.env)::Po [.List [] p3] X.env:=by exact aI rfl)(s2:Po [.List [] p3] X.env=(false,eval (.List [] p3) X.env)::Po [] X.env:=by exact aI rfl)
  (hs:QK (.Tuple [.List [] p1,.List [] p2,.List [] p3] kk p0) (some (.Name y pos')) pos.line X.env=pure false:=by rfl)
  (hf:X.fn y=true∨X.env.scope.names.lookup y=some .local := by first|exact .inl rfl|exact .inr rfl|assumption) :
  yB X E He η (.Assign [.Name y pos'] (.Tuple [.List [] p1,.List [] p2,.List [] p3] kk p0) pos::rest) (dQ i g):=by
 have hrest:rP X rest λG σ H=>∃a q,tJ X.K E He η .tup a q (g a) G σ H:=λπ s σ H G I z=>z.elim λa z=>z.elim λq z=>(hr a q).o π s σ H G I z;refine⟨fD (eD (ud hN hi hx (ug (b8 (jT dD) (b8 (jT dD) (b8 (jT dD) dD s2) s1) s0)) hs hf) hrest) ?_⟩;rintro G σ H ⟨Ha,ρ,x,r⟩;unfold dQ at r
 by_cases hc:k6 ρ=true/\i<ρ.length
 rotate_left
 .rw[if_neg hc]at r;exact r.elim
 rw[if_pos hc]at r;refine⟨by show 0<=sizeLine;decide,λl0 h0=>⟨by show 0<=sizeLine;decide,λl1 h1=>⟨by show 0<=sizeLine;decide,λl2 h2=>⟨by show 3<=sizeLine;decide,λt ht=>?_⟩⟩⟩⟩;have n10:l1≠l0:=by intro z;subst z;rw[ay]at h1;cases h1
 have n20:l2≠l0:=by intro z;subst z;by_cases c:l2=l1;exact n10 c.symm;rw[ax c,ay]at h2;cases h2
 have n21:l2≠l1:=by intro z;subst z;rw[ay]at h2;cases h2
 rw[ax n10]at h1;rw[ax n21,ax n20]at h2;have t2:t≠l2:=by intro z;subst z;rw[ay]at ht;cases ht
 rw[ax t2]at ht;have t1:t≠l1:=by intro z;subst z;rw[ay]at ht;cases ht
 rw[ax t1]at ht;have t0:t≠l0:=by intro z;subst z;rw[ay]at ht;cases ht
 rw[ax t0]at ht
 let q:Nat->Pg:=λk=>match k with
  |0=>l0
  |1=>l1
  |_=>l2
 let H4:=upd (upd (upd (upd H l0 (.lst [])) l1 (.lst [])) l2 (.lst [])) t (.tup [.ref l0,.ref l1,.ref l2])
 have s4:aF H H4:=λb o e=>by
  have c0:b≠l0:=by intro z;subst z;rw[h0]at e;cases e
  have c1:b≠l1:=by intro z;subst z;rw[h1]at e;cases e
  have c2:b≠l2:=by intro z;subst z;rw[h2]at e;cases e
  have c3:b≠t:=by intro z;subst z;rw[ht]at e;cases e
  show upd _ _ _ b=_;rw[ax c3,ax c2,ax c1,ax c0];exact e
 have f0:Ha t=none:=x.g.sub.free ht;have g4:bq H Ha H4 (upd Ha t (.tup [.ref l0,.ref l1,.ref l2])):=⟨s4,λb o e=>by rw[ax (by intro z;subst z;rw[f0]at e;cases e)];exact e,λb o e=>by
  by_cases c:b=t
  .subst c;rw[ay]at e;cases e;exact ay
  .rw[ax c]at e;exact s4 _ _ (x.g.sub _ _ e),λb n1 n2=>by
  by_cases c:b=t
  .subst c;exact ht
  .rw[ax c]at n1;exact absurd n2 n1⟩
 have hq:∀k,k<3->H (q k)=none:=λk hk=>by rcases k3 hk with rfl|rfl|rfl<;>assumption
 have hqt:∀k,k<3->q k≠t:=λk hk=>by rcases k3 hk with rfl|rfl|rfl;exact t0.symm;exact t1.symm;exact t2.symm
 refine⟨t,q,_,_,_,_,wO (h:=.tup) (a:=t) (q:=q) (i:=i) (x.grow g4) hc.1 hc.2 ⟨n10.symm,n20.symm,n21.symm⟩ (λk hk=>⟨x.g.s.free (hq k hk),by rw[ax (hqt k hk)];exact x.g.sub.free (hq k hk),?_⟩) (lT.of ay),vE r⟩;show upd _ _ _ (q k)=_;rw[ax (hqt k hk)];rcases k3 hk with rfl|rfl|rfl
 .show upd _ _ _ l0=_
  rw[ax n20.symm,ax n10.symm,ay]
 .show upd _ _ _ l1=_
  rw[ax n21.symm,ay]
 .exact ay
noncomputable def Jv(K:Pl) (ks:bv):Sp:=λvs H Q _=>∃x dx C,vs=[.ref x]/\H x=some (.ins C dx [])/\HV K C/\(∀f∈ks,eh K C f) /\
 ∀(q:Nat->Pg) (H':Hp),yz q->(∀k,k<3->H (q k)=none/\H' (q k)=some (.lst []))->H' x=some (.ins C dx (ks.zip [.ref (q 0),.ref (q 1),.ref (q 2)]))->(∀b,b≠x->(∀k,k<3->b≠q k)->H' b=H b)->Q .non H'
def Du{P:Qi}{w:Qv}{K:Pl}{mg:Pj->Option Pd}{base:PF}{x qual y f0 f1 f2:Pj}{st:QQ}{f:Pg}{fd:Qo}{p1 p2 p3 p4 p5 p6 p7 p8 p9 p10 p11 p12:Pos}(F:zU K x qual st f fd)(S:eT [y] [y] (defScope st))
  (hbody:defBody st=[.Assign [.Attribute (.Name y p1) f0 p2] (.List [] p3) p4,.Assign [.Attribute (.Name y p5) f1 p6] (.List [] p7) p8,.Assign [.Attribute (.Name y p9) f2 p10] (.List [] p11) p12])(hk:[f0,f1,f2].Nodup)
  (hv:wJ (defScope st) y)(hd:(y==("__debug__" : Pj))=false:=by decide)(hcd:(y==("__classdict__" : Pj))=false:=by decide)
  (hs:∀(cdv:Pd) (A:Qp) (outer:List QL) (s0:Pm) (H:Hp) (E:XK),(QK (.List [] p3) (some (.Attribute (.Name y p1) f0 p2)) p4.line (fy CX0 P w K mg base [y] qual (defScope st) f cdv A outer s0 H E).nox.env=pure false/\QK (.List [] p7) (some (.Attribute (.Name y p5) f1 p6)) p8.line (fy CX0 P w K mg base [y] qual (defScope st) f cdv A outer s0 H E).nox.env=pure false/\QK (.List [] p11) (some (.Attribute (.Name y p9) f2 p10)) p12.line (fy CX0 P w K mg base [y] qual (defScope st) f cdv A outer s0 H E).nox.env=pure false):=by intro _ _ _ _ _ _;exact⟨rfl,rfl,rfl⟩):FnOk P w K mg base CX0 1 f fd [y] (Jv K [f0,f1,f2]):=by
 refine F.ok S (λvs H Q E h=>?_) λcdv A outer s0 H vs Q E hr h=>?_
 .obtain⟨x,dx,C,rfl,_⟩:=h
  rfl
 .obtain⟨x,dx,C,rfl,hH,hC,hn,q⟩:=h
  obtain⟨w0,w1,w2⟩:=hs cdv A outer s0 H E;have hvar:∀p,PE (fy CX0 P w K mg base [y] qual (defScope st) f cdv A outer s0 H E).nox (.Name y p) (LK 0):=λp=>gE rfl hv hd hcd;have hb:=eD (xB (hvar p1) (jT dD (pos:=p3)) w0) (eD (xB (hvar p5) (jT dD (pos:=p7)) w1) (eD (xB (hvar p9) (jT dD (pos:=p11)) w2) kG));rw[←hbody]at hb;have n0:=hn f0 (by simp);have n1:=hn f1 (by simp);have n2:=hn f2 (by simp);simp only[Q8,PL,QT,or_false,not_or]at hk;refine⟨_,hb,?_⟩;refine⟨by show 0<=sizeLine;decide,λl0 h0=>⟨.ref x,rfl,x,C,dx,[],rfl,?_,hC,n0,by decide,?_⟩⟩
  .rw[ax (by intro z;subst z;rw[hH]at h0;cases h0)];exact hH
  have x0:x≠l0:=by intro z;subst z;rw[hH]at h0;cases h0
  refine⟨by show 0<=sizeLine;decide,λl1 h1=>⟨.ref x,rfl,x,C,dx,eN f0 (.ref l0) [],rfl,?_,hC,n1,by show 1<1000;decide,?_⟩⟩
  .rw[ax (by intro z;subst z;rw[ay]at h1;cases h1),ay]
  have x1:x≠l1:=by intro z;subst z;rw[ay]at h1;cases h1
  rw[ax x1.symm]at h1;have n10:l1≠l0:=by intro z;subst z;rw[ay]at h1;cases h1
  rw[ax n10]at h1;refine⟨by show 0<=sizeLine;decide,λl2 h2=>⟨.ref x,rfl,x,C,dx,eN f1 (.ref l1) (eN f0 (.ref l0) []),rfl,?_,hC,n2,(by have:=pI (f:=f1) (v:=V.ref l1) (l:=eN f0 (.ref l0) []);have h':(eN f0 (V.ref l0) []).length=1:=rfl;omega),?_⟩⟩
  .rw[ax (by intro z;subst z;rw[ay]at h2;cases h2),ay]
  have x2:x≠l2:=by intro z;subst z;rw[ay]at h2;cases h2
  rw[ax x2.symm]at h2;have n21:l2≠l1:=by intro z;subst z;rw[ay]at h2;cases h2
  rw[ax n21,ax x2.symm]at h2;have n20:l2≠l0:=by intro z;subst z;rw[ay]at h2;cases h2
  rw[ax n20]at h2;refine q (λk=>match k with
   |0=>l0
   |1=>l1
   |_=>l2) _ ⟨n10.symm,n20.symm,n21.symm⟩ (λk hk=>?_) ?_ λb hb hq=>?_
  .rcases k3 hk with rfl|rfl|rfl
   .exact⟨h0,by show upd _ _ _ l0=_;rw[ax x0.symm,ax n20.symm,ax x0.symm,ax n10.symm,ax x0.symm,ay]⟩
   .exact⟨h1,by show upd _ _ _ l1=_;rw[ax x1.symm,ax n21.symm,ax x1.symm,ay]⟩
   .exact⟨h2,by show upd _ _ _ l2=_;rw[ax x2.symm,ay]⟩
  .rw[ay]
   have q1:eN f1 (V.ref l1) [(f0,V.ref l0)]=[(f0,.ref l0),(f1,.ref l1)]:=lZ (by simpa using Qq hk.1.1);have q2:eN f2 (V.ref l2) [(f0,V.ref l0),(f1,V.ref l1)]=[(f0,.ref l0),(f1,.ref l1),(f2,.ref l2)]:=lZ (by simpa using ⟨Qq hk.1.2,Qq hk.2.1⟩);show some (HO.ins C dx (eN f2 (V.ref l2) (eN f1 (V.ref l1) [(f0,V.ref l0)])))=_;rw[q1,q2];rfl
  .have b0:b≠l0:=hq 0 (by decide)
   have b1:b≠l1:=hq 1 (by decide);have b2:b≠l2:=hq 2 (by decide);rw[ax hb,ax b2,ax hb,ax b1,ax hb,ax b0]
def yh{k i:Nat}{C fn:Pg}{fd:Qo}{ps ks:bv}{x y:Pj}{p cpos pos':Pos}(hl3:ks.length=3)(hN:X.N.Nodup)(hi:X.N[i]?=some y)(hx:zT X.env.scope y)(M:Mk X.K C fn)(F:FnOk X.prog X.w X.K X.mg X.base CX0 k fn fd ps (Jv X.K ks))(hr:dz (k+1) X.A)(hg:Gl X x)(hm:X.mg x=some (.ref C))(hns:QM X.K PK x=some (some (.ref C)))(hb:fV X.K fd ps [])(hC:Lh X.K ks C)(hp:gH CX0 X E)(hrs:∀a q,Ew X E He η (.ins x ks) a q rest (g a))
  (hdb:(x==("__debug__" : Pj))=false:=by decide)(hs:QK (.Call (.Name x p) [] [] cpos) (some (.Name y pos')) pos.line X.env=pure false:=by rfl)
  (hf:X.fn y=true∨X.env.scope.names.lookup y=some .local := by first|exact .inl rfl|exact .inr rfl|assumption) :
  yB X E He η (.Assign [.Name y pos'] (.Call (.Name x p) [] [] cpos) pos::rest) (dQ i g):=by
 have hrest:rP X rest λG σ H=>∃a q,tJ X.K E He η (.ins x ks) a q (g a) G σ H:=λπ s σ H G I z=>z.elim λa z=>z.elim λq z=>(hrs a q).o π s σ H G I z;refine⟨fD (eD (ud hN hi hx (CD M F hr hg hm hb .nil hp hdb) hs hf) hrest) ?_⟩;rintro G σ H ⟨Ha,ρ,z,r⟩;unfold dQ at r
 by_cases hc:k6 ρ=true/\i<ρ.length
 rotate_left
 .rw[if_neg hc]at r;exact r.elim
 rw[if_pos hc]at r;intro a dx ha hdx hne;refine⟨a,dx,C,rfl,ay,hC.cls,hC.no,λq H4 jq hq e1 e2=>⟨rfl,?_⟩⟩;have qa:∀k,k<3->q k≠a:=λk hk e=>by have:=(hq k hk).1;rw[e,ay]at this;cases this
 have qd:∀k,k<3->q k≠dx:=λk hk e=>by have:=(hq k hk).1;rw[e,ax hne,ay]at this;cases this
 have hqH:∀k,k<3->H (q k)=none:=λk hk=>by have:=(hq k hk).1;rw[ax (qa k hk),ax (qd k hk)]at this;exact this
 have s4:aF H H4:=λb o e=>by
  have c0:b≠a:=by intro z;subst z;rw[ha]at e;cases e
  have c1:b≠dx:=by intro z;subst z;rw[hdx]at e;cases e
  rw[e2 b c0 (λk hk z=>by subst z;rw[hqH k hk]at e;cases e),ax c0,ax c1];exact e
 have d4:H4 dx=some (.own a):=by rw[e2 dx hne (λk hk z=>qd k hk z.symm),ax hne,ay]
 have f0:Ha a=none:=z.g.sub.free ha;have g0:Ha dx=none:=z.g.sub.free hdx;have g4:bq H Ha H4 (upd (upd Ha dx (.own a)) a (.ins C dx (ks.zip [.ref (q 0),.ref (q 1),.ref (q 2)]))):=⟨s4,λb o e=>by rw[ax (by intro z;subst z;rw[f0]at e;cases e),ax (by intro z;subst z;rw[g0]at e;cases e)];exact e,λb o e=>by
  by_cases c:b=a
  .subst c;rw[ay]at e;cases e;exact e1
  .rw[ax c]at e
   by_cases c':b=dx
   .subst c';rw[ay]at e;cases e;exact d4
   .rw[ax c']at e;exact s4 _ _ (z.g.sub _ _ e),λb n1 n2=>by
  by_cases c:b=a
  .subst c;exact ha
  .rw[ax c]at n1
   by_cases c':b=dx
   .subst c';exact hdx
   .rw[ax c']at n1;exact absurd n2 n1⟩
 exact⟨a,q,_,_,_,_,wO (h:=.ins x ks) (a:=a) (q:=q) (i:=i) (z.grow g4) hc.1 hc.2 jq (λk hk=>⟨z.g.s.free (hqH k hk),by rw[ax (qa k hk),ax (qd k hk)];exact z.g.sub.free (hqH k hk),(hq k hk).2⟩) ⟨C,dx,hns,hC,ay,hl3⟩,vE r⟩
end
def vn(r:fz):aj (D×S3):=match r with
 |.nx _ st=>.ok (.non,st)
 |.rt d st=>.ok (d,st)
 |_=>.stuck
def vo(n:Nat)(s:Pg->Ev->S3->aj fz)(a:Pg)(st:S3)(ds:ac):aj (D×S3):=(s a (.pt a::ds.map Sl.sh++PH (n-(ds.length+1)) .no) st).bind vn
def Gv{q:Nat->Pg}{H:Hp}{us:Nat->al}(j:yz q)(h:∀k,k<3->H (q k)=some (.lst (us k))):Dm (EH q H) q us=H:=by
 funext c;rcases Iz q c with⟨k,hk,rfl⟩|hb
 .rw[nc j hk,h k hk]
 .rw[jr hb,uM hb]
def yb{P:Qi}{w:Qv}{K:Pl}{mg:Pj->Option Pd}{base:PF}{x qual:Pj}{st:QQ}{f:Pg}{fd:Qo}{N ps:bv}{k n:Nat}{h:Hk}{s:Pg->Ev->S3->aj fz}(F:zU K x qual st f fd)(S:eT N ps (defScope st))(hn:ps.length=n+1)
  (hbody:∀(cdv:Pd) (A:Qp) (outer:List QL) (s0:Pm) (H He Ha:Hp) (a:Pg) (q:Nat->Pg) (E:XK),dz k (A.deeper (envOfC qual (defScope st) s0.heap.objs.size f cdv)) ->
   Ew (fy CX0 P w K mg base N qual (defScope st) f cdv A outer s0 H E).nox E0 He Ha h a q (defBody st) (s a)):FnOk P w K mg base CX0 (k+1) f fd ps (Ie K n h (vo N.length s)):=by
 have hpl:ps.length<=N.length:=by have:=congrArg RT S.pre;rw[Ro]at this;omega
 refine F.ok S (λvs H Q E h=>h.1.trans hn.symm) λcdv A outer s0 H vs Q E hr hh=>?_;obtain⟨hlen,Ha,ds,a,q,sl,us,vs0,rfl,hs,hv,hj,hk,hc,r⟩:=hh;have lv:=hv.length;have hσ:start N (.ref a::vs0)=some (.ref a)::(vs0.map some++PH (N.length-(vs0.length+1)) none):=by
  unfold L2.start;simp
 have hρ0:∀(i:Nat) (z:Sl),(Sl.pt a::ds.map Sl.sh++PH (N.length-(ds.length+1)) Sl.no)[i]?=some z->z=.no∨(i=0/\z=.pt a)∨∃j d,i=j+1/\ds[j]?=some d/\z=.sh d:=λi z e=>by
  cases i with
  |zero=>simp at e;exact .inr (.inl ⟨rfl,e.symm⟩)
  |succ j=>
   rw[Qc,QP]at e
   by_cases hj:j<ds.length
   .rw[PY (by simpa using hj),P7,Pu hj]at e
    cases e;exact .inr (.inr ⟨j,ds[j],rfl,Pu hj,rfl⟩)
   .rw[Qa (by simpa using hj),Qk]at e
    split at e
    .cases e;exact .inl rfl
    .cases e
 have hhe:=Gv hj λk hk=>(hc k hk).2.1;refine⟨_,(hbody cdv A outer s0 H (EH q H) Ha a q E hr).o,Ha,.pt a::ds.map Sl.sh++PH (N.length-(ds.length+1)) .no,sl,us,⟨hj,λk hk=>⟨KU hk,(hc k hk).1⟩,hk,λk hk=>(hc k hk).2.2,?_⟩,?_⟩
 .rw[hhe]
  refine⟨bq.refl hs,λi d e=>?_,λi d e=>?_,λi j d d' hij e=>?_,?_,⟨λi j es e=>?_,λi b e=>?_⟩⟩
  .rcases hρ0 i _ e with h|⟨_,h⟩|⟨j,d',rfl,hd,h⟩
   .cases h
   .cases h
   .cases h
    obtain⟨v,h1,h2⟩:=hv.get hd;refine⟨v,?_,h2⟩;rw[hσ,QP,PY (by rw[Ph];exact(PJ.mp h1).1),P7,h1];rfl
  .rcases hρ0 i _ e with h|⟨_,h⟩|⟨j,d',rfl,hd,h⟩<;>cases h
  .rcases hρ0 i _ e with h|⟨_,h⟩|⟨j,d',rfl,hd,h⟩<;>cases h
  .rw[hσ]
   simp only[PU,P1,Ph,QV];omega
  .rcases hρ0 i _ e with h|⟨_,h⟩|⟨j,d',rfl,hd,h⟩<;>cases h
  .rcases hρ0 i _ e with h|⟨rfl,h⟩|⟨j,d',rfl,hd,h⟩
   .cases h
   .cases h;rw[hσ];rfl
   .cases h
 .unfold vo at r
  generalize s a (.pt a::ds.map Sl.sh++PH (N.length-(ds.length+1)) .no) sl=z at r ⊢;have wk:∀{H' Ha':Hp},bq (EH q H) Ha H' Ha'->bq (EH q H) Ha H' Ha':=λg=>g;cases z with
  |stuck=>exact r|exn y=>exact r.elim
  |ok y=>
   cases y with
   |nx ρ' st'=>exact λσ' H' Ha' vs' _ x'=>r .non H' Ha' vs' x'.g0 (λk hk=>⟨x'.n0 hk,x'.hl hk,x'.r k hk⟩) (aN.mpr rfl)
   |rt d st'=>
    intro v H' Ha' _ o rp;refine r v H' Ha' (λk=>if h:k<3 then(o.l k h).choose else[]) o.g (λk hk=>?_) rp;rw[dif_pos hk];exact⟨o.n k hk,(o.l k hk).choose_spec⟩
   |fr d=>exact r.elim
section
variable {P:Qi}{w:Qv}{K:Pl}{mg:Pj->Option Pd}{base:PF}{rows:List Rw}{A:Nat->Pg}{Q:Nat->Qo}{i k n:Nat}{r:Rw}{h:Hk}{s:Pg->Ev->S3->aj fz}
def oJ(T:TG rows K mg A Q)(S:Nz rows)(hh:rows[i]?=some r)(hn:r.ps.length=n+1)(b:∀(cdv:Pd) (A':Qp) (outer:List QL) (s0:Pm) (H He Ha:Hp) (a:Pg) (q:Nat->Pg) (E:XK),dz k (A'.deeper (envOfC r.x (defScope r.st) s0.heap.objs.size (A i) cdv)) ->
   Ew (fy CX0 P w K mg base r.N r.x (defScope r.st) (A i) cdv A' outer s0 H E).nox E0 He Ha h a q (defBody r.st) (s a)):gD P w K mg base CX0 (k+1) (A i) (Q i) r.ps (Ie K n h (vo r.N.length s)) r.x r.st :=
 ⟨yb (T i r hh).F (S r (Qs hh)) hn b,T i r hh⟩
end
def PE.nox{X:Cx}{e:Qe}{t:TE}(h:PE X.nox e t):PE X e t:=λπ s σ H Q I hw=>
 QC (h π s σ H Q (I.wish _) hw) (λ_ _ ⟨v,H',I',r,q⟩=>⟨v,H',I'.unwish,r,q⟩) λ_ _ z=>QE z
def LF(K:Pl)(He η Ha:Hp)(σ:L2.St)(r:aj Fl):XK:=λC ox H'=>∃x Ha' ρ',r=.exn x/\aF Ha Ha'/\fT K He η Ha' σ H' ρ'/\wY K Ha' x C ox
structure TL (X:Cx) (sts:List QQ) (g:bd):Prop where
 o:∀(π:List (Pg×Obj)) (s:Pm) (σ:L2.St) (H He η Ha:Hp) (ρ:Ev) (D:gI) (XE:Pd->Pm->Prop),Inv X π σ H s->fT X.K He η Ha σ H ρ->lA X.K He η Ha (g ρ) D ->
  (∀σ1 H1 s1 e s',Inv X π σ1 H1 s1->iO X.prog X.w X.stack H1 s1 (LF X.K He η Ha σ1 (g ρ)) e s'->XE e s')->PZ (PN X.prog X.w) X.A (execs sts X.env) (SP X π D) XE s
section
variable {X:Cx}{E:XK}{c e e0:Qe}{es:List Qe}{fc f0:am}{f g:bd}{fa:Ev->aj (ac)}{st:QQ}{sts:List QQ}{pos:Pos}
def Jj:TL X [] au:=⟨λπ s σ H He η Ha ρ D XE I h q hx=>wpAny_execs_nil ⟨σ,H,I,q σ H Ha (aF.refl _) h⟩⟩
def yG(h1:TB X st f)(h2:TL X sts g):TL X (st::sts) (aw f g):=⟨λπ s σ H He η Ha ρ D XE I h q hx=>by
 have q:lA X.K He η Ha ((f ρ).bind λx=>match x with|.nx ρ'=>g ρ'|r=>.ok r) D:=q;have hx:∀σ1 H1 s1 e s',Inv X π σ1 H1 s1->iO X.prog X.w X.stack H1 s1 (LF X.K He η Ha σ1 ((f ρ).bind λx=>match x with|.nx ρ'=>g ρ'|r=>.ok r)) e s'->XE e s':=hx;cases e1:f ρ with
 |stuck=>rw[e1]at q;exact q.elim
 |exn x=>
  rw[e1]at hx;refine wpAny_execs_cons (dw (h1.o π s σ H He η Ha ρ ⟨λ_ _=>False,λ_ _=>False,λ_ _=>False,λ_ _=>False⟩ XE I h (by rw[e1];trivial) λH1 s1 e s' I1 hc=>hx σ H1 s1 e s' I1 (iO.imp (λC ox H' ⟨y,Ha',e2,k⟩=>⟨y,Ha',ρ,by rw[e1]at e2;exact e2,k⟩) hc)) λfl s1 hf=>?_);cases fl with|next|brk|cont=>obtain⟨_,_,_,k⟩:=hf;exact k.elim|ret u=>obtain⟨_,_,_,_,_,k⟩:=hf;exact k.elim
 |ok d=>
  rw[e1]at q hx;cases d with
  |nx ρ1=>
   refine wpAny_execs_cons (dw (h1.o π s σ H He η Ha ρ ⟨λσ' H'=>∃Ha',aF Ha Ha'/\fT X.K He η Ha' σ' H' ρ1,λ_ _=>False,λ_ _=>False,λ_ _=>False⟩ XE I h (by rw[e1];exact λσ' H' Ha' z h'=>⟨Ha',z,h'⟩) λH1 s1 e s' I1 hc=>?_) λfl s1 hf=>?_)
   .refine hx σ H1 s1 e s' I1 (iO.imp (λC ox H' ⟨x,Ha',e2,k⟩=>?_) hc)
    rw[e1]at e2;cases e2
   .cases fl with
    |next=>
     obtain⟨σ',H',I',Ha',z,h'⟩:=hf;refine h2.o π s1 σ' H' He η Ha' ρ1 D XE I' h' ?_ λσ1 H1 s2 e s' I1 hc=>hx σ1 H1 s2 e s' I1 (iO.imp (λC ox H2 ⟨x,H02,ρ2,e2,z2,k⟩=>⟨x,H02,ρ2,e2,z.trans z2,k⟩) hc);have q:lA X.K He η Ha (g ρ1) D:=q;cases e2:g ρ1 with
     |stuck=>rw[e2]at q;exact q|exn x=>trivial
     |ok d2=>
      rw[e2]at q;exact cu.grow (r:=.ok d2) q z
    |brk=>obtain⟨_,_,_,k⟩:=hf;exact k.elim
    |cont=>obtain⟨_,_,_,k⟩:=hf;exact k.elim
    |ret u=>obtain⟨_,_,_,_,_,k⟩:=hf;exact k.elim
  |_=>
   refine wpAny_execs_cons (dw (h1.o π s σ H He η Ha ρ ⟨λ_ _=>False,D.rt,D.bk,D.ct⟩ XE I h (by rw[e1];exact q) λH1 s1 e s' I1 hc=>?_) λfl s1 hf=>?_)
   .refine hx σ H1 s1 e s' I1 (iO.imp (λC ox H' ⟨x,Ha',e2,k⟩=>?_) hc)
    rw[e1]at e2;cases e2
   .cases fl with
    |next=>obtain⟨_,_,_,k⟩:=hf;exact k.elim
    |brk=>exact hf
    |cont=>exact hf
    |ret u=>exact hf⟩
def gT(i:Nat)(fc f0:am)(fa:Ev->aj (ac))(m:ac->aj D):bd:=λρ=>match fc ρ with
 |.ok (.bl true)=>match f0 ρ with
  |.ok d=>.ok (.nx (ρ.set i (.sh d)))
  |_=>.stuck
 |.ok (.bl false)=>jS i fa m ρ
 |_=>.stuck
def BU{i:Nat}{y:Pj}{pos' ipos:Pos}{k n:Nat}{fn:Pg}{fd:Qo}{ps:bv}{m:ac->aj D}{x:Pj}{p cpos:Pos}(hN:X.N.Nodup)(hi:X.N[i]?=some y)(hy:zT X.env.scope y)(hc:DT X.nox E0 c fc)(h0:DE X.nox E0 e0 f0)
  (F:FnOk X.prog X.w X.K X.mg X.base (iO X.prog X.w) k fn fd ps (spD X.K n m))(hr:dz k X.A)(hg:Gl X x)(hm:X.mg x=some (.ref fn))
  (hk:R1 X.K (.ref fn)=true)(hb:fV X.K fd ps [])(ha:DA X.nox E0 (e::es) fa)(hn:(e::es).length=n:=by rfl)(hl:∀ρ ds,fa ρ=.ok ds->ds.length=(e::es).length)
  (hdb:(x==("__debug__" : Pj))=false:=by decide)(he:Po (e::es) X.env=(false,eval e X.env)::Po es X.env:=by exact aI rfl)(hpl:(Qy cpos (Po es X.env)).any (·.1)=false:=by exact bB rfl)
  (hs:QK (.IfExp c e0 (.Call (.Name x p) (e::es) [] cpos) ipos) (some (.Name y pos')) pos.line X.env=pure false:=by rfl)
  (hf:X.fn y=true∨X.env.scope.names.lookup y=some .local := by first|exact .inl rfl|exact .inr rfl|assumption):TB X (.Assign [.Name y pos'] (.IfExp c e0 (.Call (.Name x p) (e::es) [] cpos) ipos) pos) (gT i fc f0 fa m):=by
 refine⟨λπ s σ H He η Ha ρ D XE I h q hx=>?_⟩;have hc':=PT.nox (X:=X.wish XE) hc.o;have h0':=PE.nox (X:=X.wish XE) h0.o;refine wpAny_Assign_Name (dw (Q:=EP X π σ λv H1=>D.nx (σ.set i (some v)) H1) (wpAny_IfExp (dw (hc' π s σ H (λb H1=>fc ρ=.ok (.bl b)/\∃H01,bq H Ha H1 H01) (I.wish XE) ⟨Ha,ρ,h.g.sub,h.rd,?_⟩) λd s1 ⟨H1,I1,eb,H01,g1⟩=>?_)) λv s1 ⟨y,H1,I1,r1,q1⟩=>?_) hs
 .unfold gT at q
  cases e1:fc ρ with
  |stuck|exn x=>rw[e1]at q;exact q.elim
  |ok d=>
   rw[e1]at q;cases d with|bl b=>exact λH' Ha' g=>⟨rfl,Ha',g⟩| _=>exact q.elim
 .have I1:=I1.unwish
  have h1:=h.grow g1;cases d with
  |true=>
   refine QC (h0' π s1 σ H1 _ (I1.wish XE) ⟨H01,ρ,h1.g.sub,h1.rd,?_⟩) (λv s2 ⟨y,H2,I2,r2,q2⟩=>⟨y,H2,I2.unwish,r2,q2⟩) λ_ _ z=>z;unfold gT at q;rw[eb]at q;replace q:lA X.K He η Ha (match f0 ρ with
    |.ok d=>.ok (.nx (ρ.set i (.sh d)))
    |_=>.stuck) D:=q
   cases e2:f0 ρ with
   |stuck|exn x=>rw[e2]at q;exact q.elim
   |ok d=>
    rw[e2]at q;exact λv H' Ha' g rp=>q _ H' Ha' (g1.z.trans g.z) ((h1.grow g).put rp)
  |false=>
   have qq:gT i fc f0 fa m ρ=jS i fa m ρ:=by unfold gT;rw[eb]
   rw[qq]at q hx;refine zP (Q:=λv H1=>D.nx (σ.set i (some v)) H1) (Ex:=LH X.K He η Ha σ ρ (jS i fa m ρ)) F hr hg hm hk hb ha.o I1 ?_ hx hdb he hpl;refine⟨H01,ρ,h1.g.sub,h1.rd,?_⟩;unfold jS at q ⊢;cases e1:fa ρ with
   |stuck=>rw[e1]at q;exact q|exn x=>rw[e1]at q;exact q.elim
   |ok ds=>
    rw[e1]at q;intro vs H2 H02 g2 r1;refine⟨?_,H02,ds,g2.sub,r1,?_⟩
    .have:=r1.length
     have:=hl ρ ds e1;omega
    .show post _ _ _ _ (m ds) _
     cases e2:m ds with
     |stuck=>simp only[e2]at q;exact q
     |exn x=>exact λC ox H' Ha' g ex=>⟨x,Ha',by simp only[e2];rfl,(g1.trans g2).z.trans g.z,h.grow ((g1.trans g2).trans g),ex⟩
     |ok d=>
      simp only[e2]at q;exact λv H' Ha' g rp=>q _ H' Ha' ((g1.trans g2).z.trans g.z) ((h.grow ((g1.trans g2).trans g)).put rp)
 .exact gS I1 hN hi hy r1 (λs2 I2=>⟨_,H1,I2,q1⟩) hf
def rX(hit:Pj->Bool)(r:aj Fl):aj Fl:=match r with
 |.exn x=>if hit x.cls=true then .ok (.rt .non) else .stuck
 |r=>r
def Ce(g:bd)(hit:Pj->Bool):bd:=λρ=>rX hit (g ρ)
def Hu{He η:Hp}{hit:Pj->Bool}{c:Pj}{np hpos rp cp:Pos}{jn}{cv:Pd}(hstk:X.stack=X.env::X.outer/\X.env.frame=some X.env.locals)(hb:TL X sts g)
  (hg:Gl X c)(hm:X.mg c=some cv)(hhit:∀x C,hit x=true->XC X.K x C->Ts X.K (.ref C) cv=some true)(hdb:(c==("__debug__" : Pj))=false:=by decide) :
  DS X E He η (.Try sts [.ExceptHandler (some (.Name c np)) none [.Return (some (.Constant .none jn cp)) rp] hpos] [] [] pos) (Ce g hit):=by
 refine⟨?_⟩;rintro π s σ H D I ⟨Ha,ρ,h,q⟩;have q:cu X.K E He η Ha (rX hit (g ρ)) D:=q;have hq:lA X.K He η Ha (g ρ) D:=by
  cases e1:g ρ with
  |exn x=>trivial|stuck=>rw[e1]at q;exact q
  |ok r=>rw[e1]at q;cases r<;>exact q
 have hit1:∀x,g ρ=.exn x->hit x.cls=true/\cu X.K E He η Ha (.ok (.rt .non)) D:=λx e1=>by
  rw[e1]at q;unfold rX at q
  by_cases z:hit x.cls=true
  .simp only[if_pos z]at q;exact⟨z,q⟩
  .simp only[if_neg z]at q;exact q.elim
 refine wpAny_Try_except (dw (hb.o π s σ H He η Ha ρ D _ I h hq λσ1 H1 s1 e s' I1 hc=>?_) λf s1 hf=>?_)
 .refine HG hstk I1 hc hg hm (λC ox H' ⟨x,Ha',_,e1,_,_,⟨⟨c',ec,xc⟩,_⟩⟩=>?_) (λea C dc oc ox H' s2 ⟨x,Ha',ρ',e1,sm,srx,⟨⟨c',ec,xc⟩,hm2⟩⟩ hox hne hdc hoc I2=>?_) hdb
  .cases ec;exact hhit _ _ (hit1 x e1).1 xc
  .have srx2:=srx.grow (aX (o:=.ext (λg=>g.get? ea=some oc)) srx.g.sub hne)
   have hr:rP (DL.hand X ea) [.Return (some (.Constant .none jn cp)) rp] _:=eD (mW (xE (j:=jn) (pos:=cp))) kG;exact QC (hr π s2 σ1 _ D I2 ((hit1 x e1).2 .non _ _ srx2.g (aN.mpr rfl))) (λ_ _ z=>z) λ_ _ z=>z.elim
 .cases f with
  |next=>exact wpAny_execs_nil hf
  |brk=>exact hf
  |cont=>exact hf
  |ret u=>exact hf
end
section
variable {X:Cx}{E:XK}{He η:Hp}{h:Hk}{a:Pg}{q:Nat->Pg}{e:Qe}{es:List Qe}{fa:Ev->aj (ac)}{pos:Pos}{CX:rR}{k k0 n:Nat}{fn:Pg}{fd:Qo}{ps:bv}{x:Pj}{p:Pos}{ft:QQ}
def rJ(i:Nat){y:Pj}{p1:Pos}{m:Pg->S3->ac->aj (D×S3)}(B:gD X.prog X.w X.K X.mg X.base CX k0 fn fd ps (Ie X.K n h m) x ft)(hr:dz k X.A)(ha:DA X E es fa)(hle:k0<=k:=by decide)(hx:gH CX X E:=by first|exact Ij|exact xF|exact yZ)(hl:∀ρ ds,fa ρ=.ok ds->ds.length=n:=by first|exact Ng|exact Nf|exact Nd|exact Nx|exact al5)
  (hN:X.N[i]?=some y:=by rfl)(hv:wJ X.env.scope y:=by first|exact Pz rfl|exact T8 (Pz rfl)|exact T8 (T8 rfl))(hg:Gl X x:=by exact rfl)
  (hd:(y==("__debug__" : Pj))=false:=by decide)(hcd:(y==("__classdict__" : Pj))=false:=by decide)(hdb:(x==("__debug__" : Pj))=false:=by decide)(he:Po (.Name y p1::es) X.env=(false,eval (.Name y p1) X.env)::Po es X.env:=by exact aI rfl)(hpl:(Qy pos (Po es X.env)).any (·.1)=false:=by exact bB rfl) :
  JE X E He η h a q (.Call (.Name x p) (.Name y p1::es) [] pos) (iy i a fa m):=Gp (B.F.mono hle) hr hg B.t.g B.t.F.kp B.t.b hx hN hv ha hl hd hcd hdb he hpl
def O0{y:Pj}{pos' ipos cpos:Pos}{m:ac->aj D}{c e0:Qe}{fc f0:am}(hN:X.N.Nodup){i:Nat}(hi:X.N[i]?=some y)(hy:zT X.env.scope y)(hc:DT X.nox E0 c fc)(h0:DE X.nox E0 e0 f0)(B:gD X.prog X.w X.K X.mg X.base (iO X.prog X.w) k0 fn fd ps (spD X.K n m) x ft)(hr:dz k X.A)(ha:DA X.nox E0 (e::es) fa)(hle:k0<=k:=by decide)(hl:∀ρ ds,fa ρ=.ok ds->ds.length=(e::es).length:=by first|exact Ng|exact Nf|exact Nd|exact Nx|exact al5)(hn:(e::es).length=n:=by rfl)
  (hg:Gl X x:=by exact rfl)(hdb:(x==("__debug__" : Pj))=false:=by decide)(he:Po (e::es) X.env=(false,eval e X.env)::Po es X.env:=by exact aI rfl)(hpl:(Qy cpos (Po es X.env)).any (·.1)=false:=by exact bB rfl)
  (hs:QK (.IfExp c e0 (.Call (.Name x p) (e::es) [] cpos) ipos) (some (.Name y pos')) pos.line X.env=pure false:=by rfl)
  (hf:X.fn y=true∨X.env.scope.names.lookup y=some .local := by first|exact .inl rfl|exact .inr rfl|assumption):TB X (.Assign [.Name y pos'] (.IfExp c e0 (.Call (.Name x p) (e::es) [] cpos) ipos) pos) (gT i fc f0 fa m):=BU hN hi hy hc h0 (B.F.mono hle) hr hg B.t.g B.t.F.kp B.t.b ha hn hl hdb he hpl hs hf
end
def A9(i:Nat)(ρ:Ev)(ds:ac)(d:D):aj Fl:=match d with
 |.lst es=>if ds.length+es.length<=line then .ok (.nx (ρ.set i (.ow (.lst (ds++es))))) else .stuck
 |_=>.stuck
def Fw(i:Nat)(f:am):bd:=λρ=>vJ ρ i λds=>(f ρ).bind (A9 i ρ ds)
section
variable {X:Cx}{E:XK}{He η:Hp}{e:Qe}{f:am}{pos:Pos}
def sU{i:Nat}{x:Pj}{p1 p2 p3:Pos}(hN:X.N[i]?=some x)(hv:wJ X.env.scope x)(he:DF X E e f)
  (hd:(x==("__debug__" : Pj))=false:=by decide)(hcd:(x==("__classdict__" : Pj))=false:=by decide)
  (hbase:QN (.Name x p1) "extend" X.env (eval (.Name x p1) X.env)=eval (.Name x p1) X.env:=by rfl)
  (hfew:((Qy p3 (Po [e] X.env)).all (λx=>!x.1)&&(R0 p3 (Rc [] X.env)).all (λx=>x.1.isSome)
  &&decide ([e].length+([]:List Rp).length+(if([]:List Rp).isEmpty then 0 else 1)<30))=true:=by exact gw rfl)
  (hline:(p2.endLine==p3.line)=true:=by rfl) (hs:Po [e] X.env=(false,eval e X.env)::Po [] X.env:=by exact aI rfl) (hplain:(Qy p3 (Po [] X.env)).any (·.1)=false:=by exact bB rfl)
  (hw:QK (.Call (.Attribute (.Name x p1) "extend" p2) [e] [] p3) none pos.line X.env=pure false:=by rfl) :
  DS X E He η (.Expr (.Call (.Attribute (.Name x p1) "extend" p2) [e] [] p3) pos) (Fw i f):=by
 refine⟨?_⟩;refine cE (l7 (vG SR PySem.F.slot_list_extend PySem.F.type_list_extend AV (gE hN hv hd hcd) (b8 he.o dD hs) hbase hfew hline hs hplain) hw) λD σ H ⟨Ha,ρ,h,q⟩=>?_;obtain⟨ds,p,vs,e1,e2,e3,e4,e5,e6,q⟩:=vI h q;refine⟨.ref p,e2,.inl ⟨rfl,vs,gJ.of e5⟩,?_⟩;refine⟨Ha,ρ,h.g.sub,h.rd,?_⟩;cases c:f ρ with
 |stuck=>rw[c]at q;exact q|exn x=>rw[c]at q;exact λC ox H' Ha' g ex=>q C ox H' Ha' (h.g.trans g) ex
 |ok d=>
  rw[c]at q;cases d with
  |lst es=>
   intro b zs H' Ha' g hp h0 hv rp;have q:cu X.K E He η Ha (if ds.length+es.length<=line then .ok (.nx (ρ.set i (.ow (.lst (ds++es))))) else .stuck) D:=q
   by_cases hl:ds.length+es.length<=line
   .rw[if_pos hl]at q
    have e5':H' p=some (.lst vs):=g.s _ _ e5;refine⟨p,b,vs,zs,rfl,rfl,e5',hv,by rw[←e6.length,←rp.length];exact PB hl (by decide),?_⟩;exact q σ _ Ha' g.z ((h.grow g).write e1 e2 ((e6.mono g.z).app rp))
   .rw[if_neg hl]at q;exact q.elim
  |_=>exact q
end
def Gu{x y:Pj}{l:List (Pj×Bool)}(h:iA [(y,true)] x=true)(hl:iA l y=true):iA l x=true:=by
 by_cases c:x=y
 .rw[c];exact hl
 .exfalso
  unfold iA lg at h;rw[if_neg (λz=>c z.symm)]at h;have h:false=true:=h;cases h
end DL
namespace K74
open PySem L2 DL
abbrev cc:ac->aj D:=Com.cc
noncomputable def iN:bd :=
 (aw (dP (aa (aa (ae 0) (dC (.int 1)) aG) (dC (.int 1)) cQ)
 (aw (bG (ak (ag (aa (ae 0) (dC (.int 0)) aG) av) (m1 jy)))
 au)
 au)
 (aw (bG (aa (aa (ak (ag (aa (ae 0) (dC (.int 0)) aG) av) (m1 jy)) (dC (.str "/")) bf) (ak (ag (aa (ae 0) (dC (.int 1)) aG) av) (m1 jy)) bf))
 au))
def m_shown_ratio:ac->aj D:=cD 1 iN
noncomputable def qV:bd :=
 (aw (dP (aa (aa (ae 0) (dC (.int 1)) aG) (dC (.int 1)) cQ)
 (aw (bG (ak (ag (aa (ae 0) (dC (.int 0)) aG) av) (m1 jy)))
 au)
 au)
 (aw (bG (aa (aa (ak (ag (aa (ae 0) (dC (.int 0)) aG) av) (m1 jy)) (dC (.str "/")) bf) (ak (ag (aa (ae 0) (dC (.int 1)) aG) av) (m1 jy)) bf))
 au))
def cb:ac->aj D:=cD 1 qV
noncomputable def dM:bd :=
 (aw (dP (eZ (aa (ae 0) (dC (.str "")) cQ) (eZ (aa (ak (ag (ae 0) av) (m1 bz)) (dC (.int 60)) wV) (dm (aa (aa (ae 0) (dC (.int 0)) aG) (dC (.str "0")) cQ) (aa (ae 0) (dC (.str "0")) ir))))
 (aw (bG (dC (.bl false)))
 au)
 au)
 (aw (bG (aa (eW 1 [] (tY (ae 0)) (eC 0) (aa (ae 0) (dC (.str "0123456789")) b5) (ae 0)) (ak av cY) cQ))
 au))
def bK:ac->aj D:=cD 1 dM
noncomputable def bo:bd :=
 (aw (xu [1,2,3] (kU sI (ae 0) (dC (.str "/"))))
 (aw (bb 4 (hZ (ae 1) (dG (ak (ag (aa (hZ (ae 1) fu (dG (dC (.int 1)))) (dC (.str "-")) cQ) av) (m1 dk))) fu))
 (aw (dP (eZ (cB (ak (ag (ae 4) av) bK)) (aa (ae 1) (dC (.str "-0")) cQ))
 (aw (bG (dC (.non)))
 au)
 au)
 (aw (bb 5 (ak (ag (ae 4) av) (m1 dk)))
 (aw (dP (aa (hZ (ae 1) fu (dG (dC (.int 1)))) (dC (.str "-")) cQ)
 (aw (bb 5 (aa (dC (.int 0)) (ae 5) uS))
 au)
 au)
 (aw (dP (aa (ae 2) (dC (.str "")) cQ)
 (aw (bG (ak (ag (ae 5) (ag (dC (.int 1)) av)) j6))
 au)
 au)
 (aw (dP (eZ (cB (ak (ag (ae 3) av) bK)) (eZ (aa (ak (ag (ae 3) av) (m1 dk)) (dC (.int 2)) jO) (aa (ak (ag (ae 5) (ag (ak (ag (ae 3) av) (m1 dk)) av)) cc) (dC (.int 1)) ir)))
 (aw (bG (dC (.non)))
 au)
 au)
 (aw (bG (ak (ag (ae 5) (ag (ak (ag (ae 3) av) (m1 dk)) av)) j6))
 au))))))))
def aE:ac->aj D:=cD 6 bo
noncomputable def gj:bd :=
 (aw (bb 1 (HB (kU kK (ae 0) (dC (.str "-"))) (hZ (ae 0) (dG (dC (.int 1))) fu) (ae 0)))
 (aw (bG (dm (gF Bx Bx (dC (.int 1)) (ak (ag (ae 1) av) (m1 bz)) (dC (.int 60))) (ak (ag (eW 1 [] (tY (ae 1)) (eC 0) mYes (aa (ae 0) (dC (.str "0123456789")) wU)) av) (m1 rM))))
 au))
def m_has_figures:ac->aj D:=cD 2 gj
abbrev m_is_ratio:ac->aj D:=Com.m_is_ratio
noncomputable def cR:bd :=
 (aw (bb 1 (HB (aW (ae 0) (gA "str")) (kU bN (ae 0) (dC (.str "/"))) (ak av cY)))
 (aw (dP (eZ (cB (gF Bx Bx (dC (.int 1)) (ak (ag (ae 1) av) (m1 bz)) (dC (.int 2)))) (cB (ak (ag (eW 1 [] (xp (ae 1)) (eC 0) mYes (ak (ag (ae 0) av) m_has_figures)) av) (m1 rM))))
 (aw (bI "NoText" ["row"] (ag (dC (.int 0)) av))
 au)
 au)
 (aw (bb 2 (ak (ag (ak (ag (aa (ae 1) (dC (.int 0)) aG) av) (m1 dk)) (ag (HB (aa (ak (ag (ae 1) av) (m1 bz)) (dC (.int 2)) cQ) (ak (ag (aa (ae 1) (dC (.int 1)) aG) av) (m1 dk)) (dC (.int 1))) av)) j6))
 (aw (dP (eZ (cB (ak (ag (ae 2) av) m_is_ratio)) (aa (ak (ag (ae 2) av) m_shown_ratio) (ae 0) ir))
 (aw (bI "NoText" ["row"] (ag (dC (.int 0)) av))
 au)
 au)
 (aw (bG (ae 2))
 au)))))
def m_read_ratio:ac->aj D:=cD 3 cR
end K74
namespace K76
open PySem L2 DL
def j8:List (Pj×Bool):=[("NoText",true)]
abbrev cb:ac->aj D:=K74.cb
noncomputable def fQ:bd :=
 (aw (dP (eZ (aa (ak (ag (ae 0) av) (m1 bz)) (dC (.int 1)) jO) (aa (ak (ag (ae 0) av) (m1 bz)) (dC (.int 8)) wV))
 (aw (bG (dC (.bl false)))
 au)
 au)
 (aw (bG (aa (eW 1 [] (tY (ae 0)) (eC 0) (aa (ae 0) (dC (.str "abcdefghijklmnopqrstuvwxyz")) b5) (ae 0)) (ak av cY) cQ))
 au))
def cF:ac->aj D:=cD 1 fQ
abbrev aE:ac->aj D:=K74.aE
noncomputable def cU:bd :=
 (aw (dP (eZ (aa (ak (ag (ae 0) av) (m1 bz)) (dC (.int 6)) ir) (eZ (aa (aa (ae 0) (dC (.int 3)) aG) (ak (ag (dC (.str "one")) (ag (dC (.str "both")) av)) cY) b5) (aa (aa (ae 0) (dC (.int 1)) aG) (aa (ae 0) (dC (.int 2)) aG) cQ)))
 (aw (bG (dC (.non)))
 au)
 au)
 (aw (bb 2 (ak (ag (aa (ae 0) (dC (.int 4)) aG) av) aE))
 (aw (bb 3 (dC (.non)))
 (aw (dP (aa (aa (ae 0) (dC (.int 5)) aG) (dC (.str "-")) ir)
 (aw (bb 3 (ak (ag (aa (ae 0) (dC (.int 5)) aG) av) aE))
 (aw (dP (eZ (aa (ae 3) (dC (.non)) mE) (aa (aa (ae 3) (dC (.int 0)) aG) (dC (.int 0)) Bx))
 (aw (bG (dC (.non)))
 au)
 au)
 au))
 au)
 (aw (dP (eZ (aa (ae 2) (dC (.non)) mE) (eZ (aa (aa (ae 2) (dC (.int 0)) aG) (dC (.int 0)) jO) (eZ (aa (aa (ae 0) (dC (.int 1)) aG) (ae 1) b5) (aa (aa (ae 0) (dC (.int 2)) aG) (ae 1) b5))))
 (aw (bG (dC (.non)))
 au)
 au)
 (aw (bG (ak (ag (aa (ae 0) (dC (.int 1)) aG) (ag (aa (ae 0) (dC (.int 2)) aG) (ag (aa (ae 0) (dC (.int 3)) aG) (ag (ae 2) (ag (ae 3) av))))) j6))
 au))))))
def aS:ac->aj D:=cD 4 cU
noncomputable def aP:bd :=
 (aw (xu [2,3,4] (ae 0))
 (aw (dP (aa (aa (ae 1) (dC (.int 0)) aG) (dC (.str "place")) cQ)
 (aw (dP (eZ (aa (ae 3) (ak av cY) ir) (eZ (aa (ae 4) (ak av cY) ir) (eZ (aa (ak (ag (ae 2) av) (m1 bz)) (dC (.int 6)) wV) (aa (ak (ag (ae 1) av) (m1 bz)) (dC (.int 2)) ir))))
 (aw (bG (dC (.bl false)))
 au)
 au)
 (aw (bG (dm (ak (ag (aa (ae 1) (dC (.int 1)) aG) av) cF) (aa (aa (ae 1) (dC (.int 1)) aG) (ae 2) b5)))
 au))
 au)
 (aw (dP (aa (ak (ag (ae 2) av) (m1 bz)) (dC (.int 2)) jO)
 (aw (bG (dC (.bl false)))
 au)
 au)
 (aw (dP (aa (aa (ae 1) (dC (.int 0)) aG) (dC (.str "tie")) cQ)
 (aw (bG (dm (aa (ae 4) (ak av cY) cQ) (dm (aa (ak (ag (ae 3) av) (m1 bz)) (dC (.int 14)) jO) (aa (ak (ag (ae 1) (ag (ae 2) av)) aS) (dC (.non)) nW))))
 au)
 au)
 (aw (dP (eZ (aa (ak (ag (ae 1) av) (m1 bz)) (dC (.int 2)) ir) (aa (aa (ae 1) (dC (.int 1)) aG) (ae 2) b5))
 (aw (bG (dC (.bl false)))
 au)
 au)
 (aw (dP (aa (aa (ae 1) (dC (.int 0)) aG) (dC (.str "first")) cQ)
 (aw (bG (aa (ae 4) (ak av cY) cQ))
 au)
 au)
 (aw (bG (dm (aa (aa (ae 1) (dC (.int 0)) aG) (dC (.str "last")) cQ) (dm (aa (ak (ag (ae 4) av) (m1 bz)) (dC (.int 1)) cQ) (aa (aa (ae 1) (dC (.int 1)) aG) (aa (ae 4) (dC (.int 0)) aG) ir))))
 au)))))))
def aA:ac->aj D:=cD 5 aP
noncomputable def lR:bd :=
 (dQ 1 λa=>(bw (gZ (bb 2 (kU bN (ae 0) (dC (.str "\n")))))
 (bw (vW (pj (ak (ag (ae 2) av) (m1 bz))) (eC 3)
 (bw (gZ (bb 4 (kU bN (aa (ae 2) (ae 3) aG) (dC (.str " ")))))
 (bw (ml (.tup) 1 a (cB (ak (ag (ae 1) (ag (ae 4) av)) aA))
 (bw (j9 (ak (ag (ae 3) (ag (dC (.non)) av)) j6))
 aZ)
 aZ)
 (bw (ml (.tup) 1 a (aa (aa (ae 4) (dC (.int 0)) aG) (dC (.str "place")) cQ)
 (bw (lG (.tup) 1 a 0 (aa (ae 4) (dC (.int 1)) aG))
 aZ)
 (bw (ml (.tup) 1 a (aa (aa (ae 4) (dC (.int 0)) aG) (dC (.str "tie")) cQ)
 (bw (lG (.tup) 1 a 1 (ak (ag (ae 4) (ag (aa (ae 1) (dC (.int 0)) aG) av)) aS))
 aZ)
 (bw (lG (.tup) 1 a 2 (aa (ae 4) (dC (.int 1)) aG))
 aZ))
 aZ))
 aZ))))
 (bw (ml (.tup) 1 a (aa (ak (ag (aa (ae 1) (dC (.int 2)) aG) av) (m1 bz)) (dC (.int 2)) jO)
 (bw (j9 (ak (ag (ak (ag (ae 2) av) (m1 bz)) (ag (dC (.non)) av)) j6))
 aZ)
 aZ)
 (bw (Bw 1 a true)
 aZ)))))
noncomputable def cJ:ac->aj D:=cD 5 lR
abbrev m_is_name:ac->aj D:=Com.m_is_name
noncomputable def du:Pg->Ev->S3->aj fz:=λa=>
 (bw (ml (.ins "Draft" ["places","ties","ends"]) 0 a (eZ (aa (aW (ae 0) (gb "ties")) (ak av cY) ir) (eZ (aa (aW (ae 0) (gb "ends")) (ak av cY) ir) (aa (ak (ag (aW (ae 0) (gb "places")) av) (m1 bz)) (dC (.int 7)) cQ)))
 (bw (j9 (dC (.bl false)))
 aZ)
 aZ)
 (bw (ml (.ins "Draft" ["places","ties","ends"]) 0 a (eZ (cB (ak (ag (ae 1) av) m_is_name)) (aa (ae 1) (aW (ae 0) (gb "places")) wU))
 (bw (j9 (dC (.bl false)))
 aZ)
 aZ)
 (bw (lG (.ins "Draft" ["places","ties","ends"]) 0 a 0 (ae 1))
 (bw (j9 (dC (.bl true)))
 aZ))))
def m_takes_place:Pg->S3->ac->aj (D×S3):=vo 2 du
noncomputable def eL:Pg->Ev->S3->aj fz:=λa=>
 (bw (ml (.ins "Draft" ["places","ties","ends"]) 0 a (eZ (aa (ae 1) (dC (.non)) mE) (eZ (aa (aW (ae 0) (gb "ends")) (ak av cY) ir) (aa (ak (ag (aW (ae 0) (gb "ties")) av) (m1 bz)) (dC (.int 14)) cQ)))
 (bw (j9 (dC (.bl false)))
 aZ)
 aZ)
 (bw (ml (.ins "Draft" ["places","ties","ends"]) 0 a (eZ (aa (aa (ae 1) (dC (.int 0)) aG) (aW (ae 0) (gb "places")) b5) (aa (aa (ae 1) (dC (.int 1)) aG) (aW (ae 0) (gb "places")) b5))
 (bw (j9 (dC (.bl false)))
 aZ)
 aZ)
 (bw (lG (.ins "Draft" ["places","ties","ends"]) 0 a 1 (ae 1))
 (bw (j9 (dC (.bl true)))
 aZ))))
def m_takes_tie:Pg->S3->ac->aj (D×S3):=vo 2 eL
abbrev m_read_ratio:ac->aj D:=K74.m_read_ratio
abbrev m_is_tie:ac->aj D:=Com.m_is_tie
noncomputable def fj:bd :=
 (aw (Ce (aw (jS 1 (ag (aa (ae 0) (dC (.int 4)) aG) av) m_read_ratio)
 (aw (gT 2 (aa (aa (ae 0) (dC (.int 5)) aG) (dC (.str "-")) cQ) (dC (.non)) (ag (aa (ae 0) (dC (.int 5)) aG) av) m_read_ratio)
 au)) (iA j8))
 (aw (bb 3 (ak (ag (aa (ae 0) (dC (.int 1)) aG) (ag (aa (ae 0) (dC (.int 2)) aG) (ag (aa (ae 0) (dC (.int 3)) aG) (ag (ae 1) (ag (ae 2) av))))) j6))
 (aw (bG (HB (ak (ag (ae 3) av) m_is_tie) (ae 3) (dC (.non))))
 au)))
def m_read_tie:ac->aj D:=cD 4 fj
noncomputable def gB:Pg->Ev->S3->aj fz:=λa=>
 (bw (ml (.ins "Draft" ["places","ties","ends"]) 0 a (eZ (aa (ak (ag (aW (ae 0) (gb "places")) av) (m1 bz)) (dC (.int 2)) jO) (eZ (aa (ae 1) (aW (ae 0) (gb "places")) b5) (aa (ae 1) (aW (ae 0) (gb "ends")) wU)))
 (bw (j9 (dC (.bl false)))
 aZ)
 aZ)
 (bw (lG (.ins "Draft" ["places","ties","ends"]) 0 a 2 (ae 1))
 (bw (j9 (dC (.bl true)))
 aZ)))
def m_takes_end:Pg->S3->ac->aj (D×S3):=vo 2 gB
noncomputable def n9:Pg->Ev->S3->aj fz:=λa=>
 (bw (ml (.ins "Draft" ["places","ties","ends"]) 0 a (dm (aa (aa (ae 1) (dC (.int 0)) aG) (dC (.str "place")) cQ) (aa (ak (ag (ae 1) av) (m1 bz)) (dC (.int 2)) cQ))
 (bw (qh (iy 0 a (ag (aa (ae 1) (dC (.int 1)) aG) av) m_takes_place))
 aZ)
 aZ)
 (bw (ml (.ins "Draft" ["places","ties","ends"]) 0 a (dm (aa (aa (ae 1) (dC (.int 0)) aG) (dC (.str "tie")) cQ) (aa (ak (ag (ae 1) av) (m1 bz)) (dC (.int 6)) cQ))
 (bw (qh (iy 0 a (ag (ak (ag (ae 1) av) m_read_tie) av) m_takes_tie))
 aZ)
 aZ)
 (bw (ml (.ins "Draft" ["places","ties","ends"]) 0 a (dm (aa (aa (ae 1) (dC (.int 0)) aG) (dC (.str "first")) cQ) (aa (ak (ag (ae 1) av) (m1 bz)) (dC (.int 2)) cQ))
 (bw (qh (xW (.ins "Draft" ["places","ties","ends"]) 0 a (aa (aW (ae 0) (gb "ends")) (ak av cY) cQ) (iy 0 a (ag (aa (ae 1) (dC (.int 1)) aG) av) m_takes_end)))
 aZ)
 aZ)
 (bw (ml (.ins "Draft" ["places","ties","ends"]) 0 a (dm (aa (aa (ae 1) (dC (.int 0)) aG) (dC (.str "last")) cQ) (aa (ak (ag (ae 1) av) (m1 bz)) (dC (.int 2)) cQ))
 (bw (qh (xW (.ins "Draft" ["places","ties","ends"]) 0 a (aa (ak (ag (aW (ae 0) (gb "ends")) av) (m1 bz)) (dC (.int 1)) cQ) (iy 0 a (ag (aa (ae 1) (dC (.int 1)) aG) av) m_takes_end)))
 aZ)
 aZ)
 (bw (j9 (dC (.bl false)))
 aZ)))))
def m_takes_row:Pg->S3->ac->aj (D×S3):=vo 2 n9
noncomputable def b_read_web:bd :=
 (aw (dP (cB (aW (ae 0) (gA "str")))
 (aw (bI "NoText" ["row"] (ag (dC (.int 0)) av))
 au)
 au)
 (dQ 1 λa=>(bw (gZ (bb 2 (kU bN (ae 0) (dC (.str "\n")))))
 (bw (vW (pk (ae 2)) (k7 [3,4])
 (bw (A0 (iy 1 a (ag (kU bN (ae 4) (dC (.str " "))) av) m_takes_row)
 (bw (gZ (bI "NoText" ["row"] (ag (ae 3) av)))
 aZ))
 aZ))
 (bw (ml (.ins "Draft" ["places","ties","ends"]) 1 a (aa (ak (ag (aW (ae 1) (gb "ends")) av) (m1 bz)) (dC (.int 2)) jO)
 (bw (gZ (bI "NoText" ["row"] (ag (ak (ag (ae 2) av) (m1 bz)) av)))
 aZ)
 aZ)
 (bw (Bw 1 a false)
 aZ))))))
noncomputable def m_read_web:ac->aj D:=cD 5 b_read_web
end K76
namespace K77
open PySem L2 DL
def jl:List (Pj×Bool):=[("NoText",true),("NoWeb",true)]
abbrev j8:List (Pj×Bool):=K76.j8
def tab_1:Pj->Option Bool:=lg [("NoText",true),("NoWeb",false)]
def tab_2:Pj->Option Bool:=lg [("NoText",true),("NoWeb",true)]
def ft_row:Pj->Option Bool:=lg [("NoText",true)]
abbrev bT:ac->aj D:=Com.bT
abbrev dS:ac->aj D:=Com.dS
abbrev cb:ac->aj D:=K74.cb
abbrev cc:ac->aj D:=Com.cc
abbrev dr:ac->aj D:=Com.dr
noncomputable def iH:bd :=
 (aw (dP (aa (ae 0) (dC (.int 6)) jO)
 (aw (bG (ak (ag (ak (ag (aa (ae 3) (aa (ae 1) (dC (.int 9)) cZ) bf) (ag (aa (dC (.int 1)) (aa (ae 2) (dC (.int 4)) cZ) bf) av)) dr) av) cb))
 au)
 au)
 (aw (dP (aa (ae 0) (dC (.int 6)) cQ)
 (aw (bG (ak (ag (ak (ag (aa (ae 3) (ae 1) bf) (ag (aa (dC (.int 1)) (ae 2) bf) av)) dr) av) cb))
 au)
 au)
 (aw (bG (dC (.str "-")))
 au)))
def da:ac->aj D:=cD 4 iH
def oa:bd :=
 (aw (bb 1 (dC (.str " !\"#$&'()*+,-./0123456789:;<=>?@ABCDEFGHIJKLMNOPQRSTUVWXYZ[\\]^_`")))
 (aw (bb 1 (aa (ae 1) (dC (.str "abcdefghijklmnopqrstuvwxyz{|}~\t\n")) bf))
 (aw (bG (aa (ae 1) (ae 0) aG))
 au)))
def gr:ac->aj D:=cD 2 oa
noncomputable def iI:bd :=
 (aw (bb 2 (aa (ae 2) (aa (ak (ag (ae 0) av) (m1 bz)) (dC (.int 1)) bf) cZ))
 (aw (dP (aa (ae 1) (dC (.int 0)) cQ)
 (aw (bG (aa (aa (hZ (ae 0) fu (dG (ae 2))) (ak (ag (ae 3) av) gr) bf) (hZ (ae 0) (dG (ae 2)) fu) bf))
 au)
 au)
 (aw (dP (aa (ae 1) (dC (.int 1)) cQ)
 (aw (bG (aa (hZ (ae 0) fu (dG (ae 2))) (hZ (ae 0) (dG (aa (ae 2) (dC (.int 1)) bf)) fu) bf))
 au)
 au)
 (aw (bG (aa (aa (hZ (ae 0) fu (dG (ae 2))) (ak (ag (ae 3) av) gr) bf) (hZ (ae 0) (dG (aa (ae 2) (dC (.int 1)) bf)) fu) bf))
 au))))
def eG:ac->aj D:=cD 4 iI
noncomputable def lQ:bd :=
 (aw (bb 4 (ak (ag (aa (aa (dC (.int 10)) (dC (.int 60)) uT) (dC (.int 1)) uS) (ag (aa (aa (dC (.int 10)) (dC (.int 60)) uT) (dC (.int 1)) uS) av)) cY))
 (aw (bb 5 (ak (ag (ae 0) (ag (aa (aa (aa (ak (ag (dC (.int 48)) (ag (dC (.int 8)) (ag (dC (.int 8)) (ag (dC (.int 2)) (ag (dC (.int 40)) (ag (dC (.int 3)) (ag (dC (.int 40)) (ag (dC (.int 96)) (ag (dC (.int 7)) av))))))))) cY) (ae 4) bf) (ak (ag (dC (.int 8)) av) cY) bf) (ae 4) bf) av)) bT))
 (aw (xu [6,7,8,9,10] (hZ (ae 5) fu (dG (dC (.int 5)))))
 (aw (bb 11 (aa (dC (.str "place ")) (aa (ae 2) (aa (ae 1) (dC (.int 8)) cZ) aG) bf))
 (aw (dP (aa (ae 6) (dC (.int 45)) wV)
 (aw (bb 11 (aa (dC (.str "place ")) (aa (ae 2) (ae 7) aG) bf))
 au)
 au)
 (aw (dP (eZ (dm (aa (ae 6) (dC (.int 44)) jO) (aa (ae 1) (ae 3) HC)) (aa (ae 6) (dC (.int 44)) cQ))
 (aw (bb 12 (aa (ae 2) (aa (aa (aa (ae 7) (dC (.int 1)) bf) (aa (ae 8) (aa (ae 3) (dC (.int 1)) uS) cZ) bf) (ae 3) cZ) aG))
 (aw (bb 13 (ak (ag (aa (ae 5) (dC (.int 8)) aG) (ag (aa (ae 5) (dC (.int 9)) aG) (ag (aa (ae 5) (dC (.int 10)) aG) (ag (dC (.int 0)) av)))) da))
 (aw (bb 14 (ak (ag (aa (ae 5) (dC (.int 11)) aG) (ag (aa (ae 5) (dC (.int 12)) aG) (ag (aa (ae 5) (dC (.int 13)) aG) (ag (ak (ag (aa (ae 6) (dC (.int 44)) jO) av) (m1 dk)) av)))) da))
 (aw (bb 11 (mD (dC (.str " ")) (ag (ak (ag (dC (.str "tie")) (ag (aa (ae 2) (aa (ae 7) (ae 3) cZ) aG) (ag (ae 12) (ag (aa (ak (ag (dC (.str "one")) (ag (dC (.str "both")) av)) cY) (ae 9) aG) (ag (ae 13) (ag (ae 14) av)))))) cY) av)))
 au))))
 au)
 (aw (dP (aa (ae 6) (dC (.int 45)) cQ)
 (aw (bb 11 (aa (aa (ak (ag (dC (.str "first ")) (ag (dC (.str "last ")) av)) cY) (ae 9) aG) (aa (ae 2) (ae 7) aG) bf))
 au)
 au)
 (aw (dP (aa (ae 10) (dC (.int 0)) cQ)
 (aw (bb 11 (ak (ag (ae 11) (ag (aa (ae 5) (dC (.int 5)) aG) (ag (aa (ae 5) (dC (.int 6)) aG) (ag (aa (ae 5) (dC (.int 7)) aG) av)))) eG))
 au)
 au)
 (aw (bG (ae 11))
 au)))))))))
def jk:ac->aj D:=cD 15 lQ
abbrev cF:ac->aj D:=K76.cF
abbrev bK:ac->aj D:=K74.bK
abbrev aE:ac->aj D:=K74.aE
abbrev aS:ac->aj D:=K76.aS
abbrev aA:ac->aj D:=K76.aA
noncomputable abbrev cJ:ac->aj D:=K76.cJ
abbrev m_is_name:ac->aj D:=Com.m_is_name
abbrev m_takes_place:Pg->S3->ac->aj (D×S3):=K76.m_takes_place
abbrev m_takes_tie:Pg->S3->ac->aj (D×S3):=K76.m_takes_tie
abbrev m_has_figures:ac->aj D:=K74.m_has_figures
abbrev m_is_whole:ac->aj D:=Com.m_is_whole
abbrev m_common_divisor:ac->aj D:=Com.m_common_divisor
abbrev m_is_ratio:ac->aj D:=Com.m_is_ratio
abbrev m_shown_ratio:ac->aj D:=K74.m_shown_ratio
abbrev m_read_ratio:ac->aj D:=K74.m_read_ratio
abbrev m_is_length:ac->aj D:=Com.m_is_length
abbrev m_is_worth:ac->aj D:=Com.m_is_worth
abbrev m_is_tie:ac->aj D:=Com.m_is_tie
abbrev m_read_tie:ac->aj D:=K76.m_read_tie
abbrev m_takes_end:Pg->S3->ac->aj (D×S3):=K76.m_takes_end
abbrev m_takes_row:Pg->S3->ac->aj (D×S3):=K76.m_takes_row
noncomputable abbrev m_read_web:ac->aj D:=K76.m_read_web
abbrev fG:ac->aj D:=Com.fG
noncomputable def jD:bd :=
 (aw (xu [1,2] (ak (ag (ae 0) av) cJ))
 (aw (bb 3 (dC (.non)))
 (aw (bb 4 (dC (.non)))
 (aw (bb 5 (dC (.bl true)))
 (aw (Ai (jS 3 (ag (ae 0) av) m_read_web) (iA jl) 6
 (aw (bb 5 (dm (aW (ae 6) (qD tab_1)) (aW (ae 6) (qD tab_2))))
 (aw (dP (ae 5)
 (aw (bb 4 (aW (ae 6) (qE ft_row "row")))
 au)
 au)
 au)))
 (aw (dP (aa (ae 1) (dC (.non)) mE)
 (aw (bG (dm (ae 5) (dm (aa (ae 4) (dC (.non)) mE) (aa (HD (ae 3)) (HD (ae 2)) cQ))))
 au)
 au)
 (aw (bG (dm (ae 5) (dm (ak (ag (ae 4) av) fG) (aa (ae 4) (ae 1) cQ))))
 au)))))))
noncomputable def fH:ac->aj D:=cD 7 jD
abbrev m_look_at_places:ac->aj D:=Nwb.m_look_at_places
abbrev m_look_at_ties:ac->aj D:=Nwb.m_look_at_ties
abbrev m_is_place:ac->aj D:=Com.m_is_place
abbrev m_look_at_web:ac->aj D:=Nwb.m_look_at_web
noncomputable def b_shown_tie:bd :=
 (aw (bb 1 (HB (aa (aa (ae 0) (dC (.int 4)) aG) (dC (.non)) mE) (dC (.str "-")) (ak (ag (aa (ae 0) (dC (.int 4)) aG) av) m_shown_ratio)))
 (aw (bG (mD (dC (.str " ")) (ag (ak (ag (dC (.str "tie")) (ag (aa (ae 0) (dC (.int 0)) aG) (ag (aa (ae 0) (dC (.int 1)) aG) (ag (aa (ae 0) (dC (.int 2)) aG) (ag (ak (ag (aa (ae 0) (dC (.int 3)) aG) av) m_shown_ratio) (ag (ae 1) av)))))) cY) av)))
 au))
def m_shown_tie:ac->aj D:=cD 2 b_shown_tie
noncomputable def b_shown_web:bd :=
 (aw (lY (ak (ag (ae 0) av) m_look_at_web))
 (aw (t9 1 (eW 1 [] (xp (aa (ae 0) (dC (.int 0)) aG)) (eC 0) mYes (aa (dC (.str "place ")) (ae 0) bf)))
 (aw (Fw 1 (eW 1 [] (xp (aa (ae 0) (dC (.int 1)) aG)) (eC 0) mYes (ak (ag (ae 0) av) m_shown_tie)))
 (aw (Fw 1 (ak (ag (aa (dC (.str "first ")) (aa (ae 0) (dC (.int 2)) aG) bf) (ag (aa (dC (.str "last ")) (aa (ae 0) (dC (.int 3)) aG) bf) av)) cY))
 (aw (bG (mD (dC (.str "\n")) (ag (ae 1) av)))
 au)))))
def m_shown_web:ac->aj D:=cD 2 b_shown_web
noncomputable def og:bd :=
 (aw (bb 3 (ak (ag (ak av cY) (ag (ak (ag (aa (dC (.str "first ")) (aa (ae 2) (dC (.int 0)) aG) bf) (ag (aa (dC (.str "last ")) (aa (ae 2) (dC (.int 1)) aG) bf) av)) cY) (ag (ak (ag (aa (dC (.str "first ")) (aa (ae 2) (dC (.int 1)) aG) bf) av) cY) av))) cY))
 (aw (bb 4 (mD (dC (.str "\n")) (ag (aa (ae 0) (aa (ae 3) (aa (ae 1) (dC (.int 3)) cZ) aG) bf) av)))
 (aw (dP (cB (ak (ag (ae 4) av) fH))
 (aw (bG (dC (.bl false)))
 au)
 au)
 (aw (bG (eZ (aa (aa (ak (ag (ae 4) av) cJ) (dC (.int 0)) aG) (dC (.non)) nW) (aa (ak (ag (HD (ak (ag (ae 4) av) (noX m_read_web))) av) (noX m_shown_web)) (ae 4) cQ)))
 au))))
noncomputable def cS:ac->aj D:=cD 5 og
noncomputable def IL:bd :=
 (aw (bb 1 (dC (.int 0)))
 (aw (dP (aa (ae 0) (ak av cY) ir)
 (aw (bb 1 (aa (ae 0) (dC (.int 0)) aG))
 au)
 au)
 (aw (bb 2 (ak (ag (aa (ae 1) (dC (.int 6)) nv) (ag (dC (.int 8)) av)) dS))
 (aw (bb 3 (aa (dC (.int 2)) (aa (ak (ag (ae 1) (ag (ak (ag (dC (.int 6)) av) cY) av)) bT) (dC (.int 0)) aG) bf))
 (aw (t9 4 (ak av cY))
 (aw (pE (ak (ag (ak (ag (ae 0) av) (m1 bz)) (ag (dC (.int 63)) av)) (m2 K4)) (eC 5)
 (aw (eX 4 (ak (ag (aa (ae 0) (ae 5) aG) (ag (ae 5) (ag (ae 2) (ag (ae 3) av)))) jk))
 (aw (dP (dm (aa (aa (ae 5) (dC (.int 5)) cZ) (dC (.int 1)) cQ) (cB (ak (ag (ae 4) (ag (aa (aa (ae 5) (dC (.int 5)) nv) (dC (.int 1)) bf) (ag (ae 2) av))) cS)))
 (aw (bG (dC (.bl false)))
 au)
 au)
 au)))
 (aw (bG (dm (ak (ag (ae 4) (ag (dC (.int 0)) (ag (ae 2) av))) cS) (dm (ak (ag (ae 4) (ag (dC (.int 1)) (ag (ae 2) av))) cS) (ak (ag (ak av cY) (ag (dC (.int 1)) (ag (ae 2) av))) cS))))
 au)))))))
noncomputable def m_law:ac->aj D:=cD 6 IL
def top(i:Nat):QQ:=PySem.Challenge.pw_farthestcut_k77_whole_texts_row_by_row.main.body.getD i (.Pass ⟨0,0,0,0⟩)
noncomputable def rows:List Rw:=[
 ⟨"_law_draws",top 49,["_law_cell","_law_sizes","_law_number_here","_law_left","_law_found","_law_k","_law_one"],2⟩,
 ⟨"_law_names",top 53,["_law_cell","_law_many","_law_letters","_law_digits","_law_by","_law_base","_law_found","_law_k","_law_size_here","_law_at","_law_sign_here"],2⟩,
 ⟨"_law_written",top 54,["_law_one"],1⟩,
 ⟨"_law_divisor",top 51,["_law_one","_law_other"],2⟩,
 ⟨"_law_lowest",top 52,["_law_top","_law_bottom","_law_share"],2⟩,
 ⟨"_law_size",top 62,["_law_way","_law_above","_law_below","_law_least"],4⟩,
 ⟨"_law_sign",top 63,["_law_kind","_law_some"],1⟩,
 ⟨"_law_bent",top 64,["_law_row_here","_law_way","_law_at","_law_kind"],4⟩,
 ⟨"_law_row",top 65,["_law_cell","_law_k","_law_names_here","_law_many","_law_big","_law_digits","_law_kind","_law_one","_law_other","_law_word","_law_bend","_law_found","_law_two","_law_length","_law_worth"],4⟩,
 ⟨"_law_is_name",top 58,["_law_thing"],1⟩,
 ⟨"_law_figures",top 55,["_law_signs"],1⟩,
 ⟨"_law_number",top 56,["_law_text","_law_above","_law_stroke","_law_below","_law_head","_law_top"],1⟩,
 ⟨"_law_tie_of",top 57,["_law_words","_law_places","_law_length","_law_worth"],2⟩,
 ⟨"_law_stands",top 59,["_law_web","_law_words","_law_places","_law_ties","_law_ends"],2⟩,
 ⟨"_law_due",top 60,["_law_text","_law_web","_law_rows","_law_k","_law_words"],1⟩,
 ⟨"is_name",top 11,["thing"],1⟩,
 ⟨"takes_place",top 44,["draft","name"],2⟩,
 ⟨"takes_tie",top 46,["draft","tie"],2⟩,
 ⟨"has_figures",top 39,["text","figures"],1⟩,
 ⟨"is_whole",top 9,["thing"],1⟩,
 ⟨"common_divisor",top 5,["one","other","larger","smaller","rest"],2⟩,
 ⟨"is_ratio",top 10,["thing"],1⟩,
 ⟨"shown_ratio",top 37,["one"],1⟩,
 ⟨"read_ratio",top 38,["text","parts","one"],1⟩,
 ⟨"is_length",top 27,["thing"],1⟩,
 ⟨"is_worth",top 28,["thing"],1⟩,
 ⟨"is_tie",top 26,["thing"],1⟩,
 ⟨"read_tie",top 45,["words","length","worth","tie"],1⟩,
 ⟨"takes_end",top 47,["draft","name"],2⟩,
 ⟨"takes_row",top 43,["draft","words"],2⟩,
 ⟨"read_web",top 42,["text","draft","rows","number","row"],1⟩,
 ⟨"_law_whole",top 50,["_law_thing"],1⟩,
 ⟨"_law_right",top 61,["_law_text","_law_row_here","_law_web","_law_found","_law_refused","_law_told","e"],1⟩,
 ⟨"look_at_places",top 30,["places","number","place"],1⟩,
 ⟨"look_at_ties",top 31,["ties","places","number","tie"],2⟩,
 ⟨"is_place",top 32,["thing","places"],2⟩,
 ⟨"look_at_web",top 29,["thing"],1⟩,
 ⟨"shown_tie",top 41,["tie","worth"],1⟩,
 ⟨"shown_web",top 40,["web","rows"],1⟩,
 ⟨"_law_read",top 66,["_law_rows","_law_way","_law_names_here","_law_ends","_law_text"],3⟩,
 ⟨"law",top 67,["_law_script","_law_first","_law_names_here","_law_many","_law_rows","_law_k"],1⟩]
def sc:Nz rows:=by decide +kernel
theorem nd(i:Nat){r:Rw}(h:rows[i]?=some r:=by rfl):r.N.Nodup:=(sc r (Qs h)).nd
def bn:∀r∈rows,Ls r:=by
 unfold rows
 repeat refine List.forall_mem_cons.mpr ⟨by first|exact Pa|exact O9|exact O8|exact O7|exact bd5,?_⟩
 exact λ_ h=>nomatch h
abbrev iT:QQ:=uG (top 36) 0
def Ah:eT ["self"] ["self"] (defScope iT):=⟨rfl,rfl,rfl,by decide +kernel,rfl,by decide +kernel,by decide +kernel⟩
abbrev mU:QQ:=uG (top 3) 0
def xt:eT ["self","row"] ["self","row"] (defScope mU):=⟨rfl,rfl,rfl,by decide +kernel,rfl,by decide +kernel,by decide +kernel⟩
abbrev pz:QQ:=uG (top 2) 0
def Ag:eT ["self","part","number"] ["self","part","number"] (defScope pz):=⟨rfl,rfl,rfl,by decide +kernel,rfl,by decide +kernel,by decide +kernel⟩
set_option genInjectivity false in
set_option genSizeOfSpec false in
structure Adr where
 i5:Pg
 kN:Qo
 kd:Pg
 mq:Qo
 bx:Pg
 fN:Pg
 qk:Qo
 bP:Pg
 cM:Pg
 gf:Pg
 A:Nat->Pg
 Q:Nat->Qo
set_option genInjectivity false in
set_option genSizeOfSpec false in
structure Txt (K:Pl) (mg:Pj->Option Pd) (t:Adr):Prop where
 g:TG rows K mg t.A t.Q
 n_ValueError:mg "ValueError"=none
 n_abs:mg "abs"=none
 n_all:mg "all"=none
 n_bool:mg "bool"=none
 n_enumerate:mg "enumerate"=none
 n_int:mg "int"=none
 n_isinstance:mg "isinstance"=none
 n_len:mg "len"=none
 n_list:mg "list"=none
 n_max:mg "max"=none
 n_min:mg "min"=none
 n_range:mg "range"=none
 n_str:mg "str"=none
 n_tuple:mg "tuple"=none
 Dr:mg "Draft"=some (.ref t.bx)
 EB:zU K "__init__" "Draft.__init__" iT t.fN t.qk
 qT:fV K t.qk ["self"] []
 CY:Mk K t.bx t.fN
 vq:Ni K "Draft" ["places","ties","ends"] t.bx
 lI:mg "CutError"=some (.ref t.bP)
 xZ:lS K "CutError" t.bP
 g6:mg "NoText"=some (.ref t.cM)
 v8:lS K "NoText" t.cM
 jt:mg "NoWeb"=some (.ref t.gf)
 Nv:lS K "NoWeb" t.gf
 iQ:qW K "NoText" t.cM
 jd:qW K "NoWeb" t.gf
 bJ:Ou K "NoText.__init__" t.cM t.i5 t.kN mU ["self","row"] ["row"]
 bD:Ou K "NoWeb.__init__" t.gf t.kd t.mq pz ["self","part","number"] ["part","number"]
 nF:Er K t.bP
 rs:EI K [t.bP,t.cM] [("NoText",t.cM,[true,true]),("NoWeb",t.gf,[true,false])]
 e7:rQ K mg "FEWEST_PLACES" (.int 2)
 nD:rQ K mg "FIGURES" (.str "0123456789")
 mH:rQ K mg "FIRST" (.int 2)
 qS:rQ K mg "LAST" (.int 3)
 mG:rQ K mg "LENGTH" (.int 3)
 nC:rQ K mg "LETTERS" (.str "abcdefghijklmnopqrstuvwxyz")
 ij:rQ K mg "LONGEST_NAME" (.int 8)
 ig:rQ K mg "MOST_FIGURES" (.int 60)
 gi:rQ K mg "MOST_PLACES" (.int 7)
 iE:rQ K mg "MOST_TIES" (.int 14)
 qR:rQ K mg "ONE" (.int 0)
 jC:rQ K mg "OTHER" (.int 1)
 ic:rQ K mg "PLACES" (.int 0)
 uV:rQ K mg "TIES" (.int 1)
 qQ:rQ K mg "WORD" (.int 2)
 uU:rQ K mg "WORDS" (.tup [(.str "one"),(.str "both")])
 mF:rQ K mg "WORTH" (.int 4)
section
variable {P:Qi}{w:Qv}{K:Pl}{mg:Pj->Option Pd}{base:PF}{t:Adr}
def oy(T:Txt K mg t):∀x C,iA jl x=true->XC K x C->Ts K (.ref C) (.ref t.bP)=some true:=Dk T.rs T.xZ 0 rfl rfl
def rH(T:Txt K mg t):∀x C,iA j8 x=true->XC K x C->Ts K (.ref C) (.ref t.cM)=some true:=λx C h=>Dk (l':=[("NoText",true),("NoWeb",false)]) T.rs T.v8 1 rfl rfl x C (Gu h rfl)
def BX(T:Txt K mg t):oh K tab_1 (.ref t.cM):=Jm T.rs T.v8 1 rfl rfl
def BW(T:Txt K mg t):oh K tab_2 (.type "ValueError"):=Jl T.rs rfl
def A5(T:Txt K mg t):IT K ft_row "row" :=
 iR (p:=λ_ C _=>RF K C=true/\eh K C "row") λq hq=>by
  simp only[PL,QT,or_false]at hq;rcases hq with rfl
  .exact⟨t.cM,T.iQ.xc,T.bJ.xs.hd,T.bJ.xs.no _ (by decide)⟩
def xY(T:Txt K mg t):FnOk P w K mg base CX0 1 t.fN t.qk ["self"] (Jv K ["places","ties","ends"]):=Du T.EB Ah rfl (by decide) (Pz rfl)
def gu(T:Txt K mg t):FnOk P w K mg base CX0 1 t.i5 t.kN ["self","row"] (B6 K ["row"]) :=
 IB T.bJ.Fi xt rfl (by decide) λcdv A outer s0 H E=>(HW (i:=1) T.nF rfl T.lI (oM (i:=1) rfl (Pz rfl) Cr) rfl rfl (Pz rfl) (Pz rfl) BC)
def e9(T:Txt K mg t):FnOk P w K mg base CX0 1 t.kd t.mq ["self","part","number"] (B6 K ["part","number"]) :=
 IB T.bD.Fi Ag rfl (by decide) λcdv A outer s0 H E=>(HW (i:=1) T.nF rfl T.lI (oM (i:=1) rfl (Pz rfl) (oM (i:=2) rfl (Pz rfl) Cr)) rfl rfl (Pz rfl) (Pz rfl) (ET (i:=2) rfl rfl (Pz rfl) (Pz rfl) BC))
def iK(T:Txt K mg t):gD P w K mg base CX0 1 (t.A 0) (t.Q 0) ["_law_cell","_law_sizes"] (spD K 2 bT) "_law_draws" (top 49) :=
 oD T.g sc (i:=0) rfl λ_ _ _ _ _ _ _ _=>(
 (ah (aO (i:=2) (nd 0) rfl (Pz rfl) (aK (Bk rfl) K8 rfl T.n_max PyProof.Rows.Boot.«max» (af (dv 0) (af (qC (K3 ai) (dv 0)) ao))))
 (ah (aO (i:=3) (nd 0) rfl (Pz rfl) (dv 2))
 (ah (yi (i:=4) (nd 0) rfl (Pz rfl) (nr ao))
 (ah (uO R7 rfl rfl T.n_range (aK aT bL rfl T.n_len PyProof.Rows.Boot.«len» (af (dv 1) ao)) (eY (i:=5) (nd 0) rfl (Pz rfl)) kB
 (ah (bF (DW.dt (kh (aB y9 (bY λ_ _ _ _=>rb _) (dv 2) (yl ai ai) nm) (eI (aB pQ (bY λ_ _ _ _=>rb _) (dv 3) ai nm))))
 (ah (kS (i:=4) rfl (Pz rfl) (dW (dv 3) (ar (dv 1) (dv 5))))
 (ah (aO (i:=3) (nd 0) rfl (Pz rfl) (nu (dv 3) (ar (dv 1) (dv 5))))
 aq))
 (ah (aO (i:=6) (nd 0) rfl (Pz rfl) (dW (lN (bc (bc (bc (dW (dv 2) ai) (lN (lN ai (dv 5)) (dv 5))) (lN ai (dv 5))) ai) ai) ai))
 (ah (aO (i:=6) (nd 0) rfl (Pz rfl) (dW (lN (bc (dW (lN (dv 6) (dv 6)) ai) (dv 5)) ai) ai))
 (ah (kS (i:=4) rfl (Pz rfl) (dW (nu (dv 6) ai) (ar (dv 1) (dv 5))))
 aq))))
 aq))
 (ah (aM (dv 4))
 aq))))))
def rG(T:Txt K mg t):gD P w K mg base CX0 2 (t.A 1) (t.Q 1) ["_law_cell","_law_many"] (spD K 2 dS) "_law_names" (top 53) :=
 oD T.g sc (i:=1) rfl λ_ _ _ _ H _ _ hr=>(
 (ah (aO (i:=2) (nd 1) rfl (T8 rfl) aL)
 (ah (aO (i:=3) (nd 1) rfl (Pz rfl) (rC (iK T) hr (af (dv 0) (af (bc (bc (cm (af ai (af ai (af ai (af ai (af ai ao)))))) (D8 (nr (af ai ao)) ai)) (D8 (nr (af ai ao)) ai)) ao))))
 (ah (aO (i:=4) (nd 1) rfl (Pz rfl) (ar (cm (af ai (af ai (af ai (af ai (af ai (af ai (af ai (af ai (af ai (af ai (af ai (af ai ao))))))))))))) (ar (dv 3) ai)))
 (ah (aO (i:=5) (nd 1) rfl (Pz rfl) (mC aL (af (sY (wz ["_law_digit","_law_letters"] 1 [2] rfl (o4 (cy (dv 3) (di ai) (di ai))) (gp (by decide)) (λs H C fp pn=>⟨λHe η=>(eY (i:=0) (show Sr (["_law_digit","_law_letters"]:bv) from by decide) rfl (Pz rfl)),kT,(ar (dv 1) (dv 0))⟩) ⟨rfl,rfl⟩ rfl rfl rfl rfl)) ao)))
 (ah (yi (i:=6) (nd 1) rfl (Pz rfl) (nr ao))
 (ah (uO R7 rfl rfl T.n_range (dv 1) (eY (i:=7) (nd 1) rfl (Pz rfl)) kB
 (ah (aO (i:=8) (nd 1) rfl (Pz rfl) (bc ai (ar (dv 3) ai)))
 (ah (bF (aB (aY hr.units) bH (ar (dv 3) ai) ai nm)
 (ah (aO (i:=8) (nd 1) rfl (Pz rfl) (bc ai (ar (dv 3) (bc ai (dv 7)))))
 aq)
 aq)
 (ah (aO (i:=9) (nd 1) rfl (Pz rfl) (dW (ar (dv 3) ai) (dv 8)))
 (ah (aO (i:=10) (nd 1) rfl (Pz rfl) (ar (dv 2) (dW (bc (ar (dv 3) ai) (lN (dv 7) (dv 4))) ai)))
 (ah (kS (i:=6) rfl (Pz rfl) (bc (bc (cy (dv 5) eO (di (dv 9))) (dv 10)) (cy (dv 5) (di (bc (dv 9) ai)) (di (dv 8)))))
 aq))))))
 (ah (aM (dv 6))
 aq))))))))
def jH(T:Txt K mg t):gD P w K mg base CX0 1 (t.A 2) (t.Q 2) ["_law_one"] (spD K 1 cb) "_law_written" (top 54) :=
 oD T.g sc (i:=2) rfl λ_ _ _ _ _ _ _ hr=>(
 (ah (bF (aB (aY hr.units) bH (ar (dv 0) ai) ai nm)
 (ah (aM (dj eP nB rfl T.n_str PyProof.Rows.Boot.«str» (af (ar (dv 0) ai) ao)))
 aq)
 aq)
 (ah (aM (bc (bc (dj eP nB rfl T.n_str PyProof.Rows.Boot.«str» (af (ar (dv 0) ai) ao)) aL) (dj eP nB rfl T.n_str PyProof.Rows.Boot.«str» (af (ar (dv 0) ai) ao))))
 aq)))
def jJ(T:Txt K mg t):gD P w K mg base CX0 1 (t.A 3) (t.Q 3) ["_law_one","_law_other"] (spD K 2 cc) "_law_divisor" (top 51) :=
 oD T.g sc (i:=3) rfl λ_ _ _ _ _ _ _ hr=>(
 (ah (wy _ R7 (aB (dR hr.units) fF (dv 1) ai nm)
 (ah (K0 (i:=0) (j:=1) rfl (nd 3) rfl rfl (by decide) rfl rfl (af (dv 1) (af (dW (dv 0) (dv 1)) ao)) rfl)
 aq))
 (ah (aM (aK qP yr rfl T.n_abs PyProof.Rows.Boot.«abs» (af (dv 0) ao)))
 aq)))
def jZ(T:Txt K mg t):gD P w K mg base CX0 2 (t.A 4) (t.Q 4) ["_law_top","_law_bottom"] (spD K 2 dr) "_law_lowest" (top 52) :=
 oD T.g sc (i:=4) rfl λ_ _ _ _ _ _ _ hr=>(
 (ah (aO (i:=2) (nd 4) rfl (Pz rfl) (rC (jJ T) hr (af (dv 0) (af (dv 1) ao))))
 (ah (aM (kl (af (nu (dv 0) (dv 2)) (af (nu (dv 1) (dv 2)) ao))))
 aq)))
def mf(T:Txt K mg t):gD P w K mg base CX0 3 (t.A 5) (t.Q 5) ["_law_way","_law_above","_law_below","_law_least"] (spD K 4 da) "_law_size" (top 62) :=
 oD T.g sc (i:=5) rfl λ_ _ _ _ _ _ _ hr=>(
 (ah (bF (aB jV (bY λ_ _ _ _=>rb _) (dv 0) ai nm)
 (ah (aM (rC (jH T) hr (af (rC (jZ T) hr (af (bc (dv 3) (dW (dv 1) ai)) (af (bc ai (dW (dv 2) ai)) ao))) ao)))
 aq)
 aq)
 (ah (bF (aB (aY hr.units) bH (dv 0) ai nm)
 (ah (aM (rC (jH T) hr (af (rC (jZ T) hr (af (bc (dv 3) (dv 1)) (af (bc ai (dv 2)) ao))) ao)))
 aq)
 aq)
 (ah (aM aL)
 aq))))
def mh(T:Txt K mg t):gD P w K mg base CX0 1 (t.A 6) (t.Q 6) ["_law_kind"] (spD K 1 gr) "_law_sign" (top 63) :=
 oD T.g sc (i:=6) rfl λ_ _ _ _ _ _ _ _=>(
 (ah (aO (i:=1) (nd 6) rfl (Pz rfl) aL)
 (ah (aO (i:=1) (nd 6) rfl (Pz rfl) (bc (dv 1) aL))
 (ah (aM (ar (dv 1) (dv 0)))
 aq))))
def ux(T:Txt K mg t):gD P w K mg base CX0 2 (t.A 7) (t.Q 7) ["_law_row_here","_law_way","_law_at","_law_kind"] (spD K 4 eG) "_law_bent" (top 64) :=
 oD T.g sc (i:=7) rfl λ_ _ _ _ _ _ _ hr=>(
 (ah (aO (i:=2) (nd 7) rfl (Pz rfl) (dW (dv 2) (bc (aK aT bL rfl T.n_len PyProof.Rows.Boot.«len» (af (dv 0) ao)) ai)))
 (ah (bF (aB (aY hr.units) bH (dv 1) ai nm)
 (ah (aM (bc (bc (cy (dv 0) eO (di (dv 2))) (rC (mh T) hr (af (dv 3) ao))) (cy (dv 0) (di (dv 2)) eO)))
 aq)
 aq)
 (ah (bF (aB (aY hr.units) bH (dv 1) ai nm)
 (ah (aM (bc (cy (dv 0) eO (di (dv 2))) (cy (dv 0) (di (bc (dv 2) ai)) eO)))
 aq)
 aq)
 (ah (aM (bc (bc (cy (dv 0) eO (di (dv 2))) (rC (mh T) hr (af (dv 3) ao))) (cy (dv 0) (di (bc (dv 2) ai)) eO)))
 aq)))))
def vM(T:Txt K mg t):gD P w K mg base CX0 4 (t.A 8) (t.Q 8) ["_law_cell","_law_k","_law_names_here","_law_many"] (spD K 4 jk) "_law_row" (top 65) :=
 oD T.g sc (i:=8) rfl λ_ _ _ _ _ _ _ hr=>(
 (ah (aO (i:=4) (nd 8) rfl (Pz rfl) (cm (af (qC (yl ai ai) ai) (af (qC (yl ai ai) ai) ao))))
 (ah (aO (i:=5) (nd 8) rfl (Pz rfl) (rC (iK T) hr (af (dv 0) (af (bc (bc (bc (cm (af ai (af ai (af ai (af ai (af ai (af ai (af ai (af ai (af ai ao)))))))))) (dv 4)) (cm (af ai ao))) (dv 4)) ao))))
 (ah (uN rfl (cy (dv 5) eO (di ai)) (cf (i:=6) (nd 8) rfl (Pz rfl) (cf (i:=7) (nd 8) rfl (Pz rfl) (cf (i:=8) (nd 8) rfl (Pz rfl) (cf (i:=9) (nd 8) rfl (Pz rfl) (cf (i:=10) (nd 8) rfl (Pz rfl) jx))))))
 (ah (aO (i:=11) (nd 8) rfl (Pz rfl) (bc aL (ar (dv 2) (dW (dv 1) ai))))
 (ah (bF (aB pQ (bY λ_ _ _ _=>rb _) (dv 6) ai nm)
 (ah (aO (i:=11) (nd 8) rfl (Pz rfl) (bc aL (ar (dv 2) (dv 7))))
 aq)
 aq)
 (ah (bF (DW.dt (bW (DW.dt (kh (aB jV (bY λ_ _ _ _=>rb _) (dv 6) ai nm) (eI (aB y9 (bY λ_ _ _ _=>rb _) (dv 1) (dv 3) nm)))) (aU (aB (aY hr.units) bH (dv 6) ai nm))))
 (ah (aO (i:=12) (nd 8) rfl (Pz rfl) (ar (dv 2) (dW (bc (bc (dv 7) ai) (dW (dv 8) (qC (dv 3) ai))) (dv 3))))
 (ah (aO (i:=13) (nd 8) rfl (Pz rfl) (rC (mf T) hr (af (ar (dv 5) ai) (af (ar (dv 5) ai) (af (ar (dv 5) ai) (af ai ao))))))
 (ah (aO (i:=14) (nd 8) rfl (Pz rfl) (rC (mf T) hr (af (ar (dv 5) ai) (af (ar (dv 5) ai) (af (ar (dv 5) ai) (af (dj fw iD rfl T.n_int PyProof.Rows.Boot.«int» (af (cz jV (bY λ_ _ _ _=>rb _) (dv 6) ai nm) ao)) ao))))))
 (ah (aO (i:=11) (nd 8) rfl (Pz rfl) (mC aL (af (cm (af aL (af (ar (dv 2) (dW (dv 7) (dv 3))) (af (dv 12) (af (ar (cm (af aL (af aL ao))) (dv 9)) (af (dv 13) (af (dv 14) ao))))))) ao)))
 aq))))
 aq)
 (ah (bF (aB (aY hr.units) bH (dv 6) ai nm)
 (ah (aO (i:=11) (nd 8) rfl (Pz rfl) (bc (ar (cm (af aL (af aL ao))) (dv 9)) (ar (dv 2) (dv 7))))
 aq)
 aq)
 (ah (bF (aB (aY hr.units) bH (dv 10) ai nm)
 (ah (aO (i:=11) (nd 8) rfl (Pz rfl) (rC (ux T) hr (af (dv 11) (af (ar (dv 5) ai) (af (ar (dv 5) ai) (af (ar (dv 5) ai) ao))))))
 aq)
 aq)
 (ah (aM (dv 11))
 aq))))))))))
def ot(T:Txt K mg t):gD P w K mg base CX0 1 (t.A 9) (t.Q 9) ["_law_thing"] (spD K 1 cF) "_law_is_name" (top 58) :=
 oD T.g sc (i:=9) rfl λ_ _ _ _ H _ _ hr=>(
 (ah (bF (DW.dt (bW (aB jV (bY λ_ _ _ _=>rb _) (aK aT bL rfl T.n_len PyProof.Rows.Boot.«len» (af (dv 0) ao)) ai nm) (aU (aB pQ (bY λ_ _ _ _=>rb _) (aK aT bL rfl T.n_len PyProof.Rows.Boot.«len» (af (dv 0) ao)) ai nm))))
 (ah (aM eK)
 aq)
 aq)
 (ah (aM (cz (aY hr.units) bH (sY (wz ["_law_sign_here"] 1 [] rfl (uQ (dv 0)) (gp (by decide)) (λs H C fp pn=>⟨λHe η=>(eY (i:=0) (show Sr (["_law_sign_here"]:bv) from by decide) rfl (Pz rfl)),(zK (aB (dE hr.units) dF (dv 0) aL rfl)),(dv 0)⟩) ⟨rfl,rfl⟩ rfl rfl rfl rfl)) (cm ao) nm))
 aq)))
def jI(T:Txt K mg t):gD P w K mg base CX0 1 (t.A 10) (t.Q 10) ["_law_signs"] (spD K 1 bK) "_law_figures" (top 55) :=
 oD T.g sc (i:=10) rfl λ_ _ _ _ H _ _ hr=>(
 (ah (bF (DW.dt (bW (aB (aY hr.units) bH (dv 0) aL nm) (bW (aB pQ (bY λ_ _ _ _=>rb _) (aK aT bL rfl T.n_len PyProof.Rows.Boot.«len» (af (dv 0) ao)) ai nm) (aU (DW.dt (kh (aB (aY hr.units) bH (ar (dv 0) ai) aL nm) (eI (aB (dR hr.units) fF (dv 0) aL nm))))))))
 (ah (aM eK)
 aq)
 aq)
 (ah (aM (cz (aY hr.units) bH (sY (wz ["_law_sign_here"] 1 [] rfl (uQ (dv 0)) (gp (by decide)) (λs H C fp pn=>⟨λHe η=>(eY (i:=0) (show Sr (["_law_sign_here"]:bv) from by decide) rfl (Pz rfl)),(zK (aB (dE hr.units) dF (dv 0) aL rfl)),(dv 0)⟩) ⟨rfl,rfl⟩ rfl rfl rfl rfl)) (cm ao) nm))
 aq)))
def jY(T:Txt K mg t):gD P w K mg base CX0 2 (t.A 11) (t.Q 11) ["_law_text"] (spD K 1 aE) "_law_number" (top 56) :=
 oD T.g sc (i:=11) rfl λ_ _ _ _ _ _ _ hr=>(
 (ah (uN rfl (Hw (dv 0) aL) (cf (i:=1) (nd 11) rfl (Pz rfl) (cf (i:=2) (nd 11) rfl (Pz rfl) (cf (i:=3) (nd 11) rfl (Pz rfl) jx))))
 (ah (aO (i:=4) (nd 11) rfl (Pz rfl) (cy (dv 1) (di (dj fw iD rfl T.n_int PyProof.Rows.Boot.«int» (af (cz (aY hr.units) bH (cy (dv 1) eO (di ai)) aL nm) ao))) eO))
 (ah (bF (DW.dt (bW (cw (ck (rC (jI T) hr (af (dv 4) ao)))) (aU (aB (aY hr.units) bH (dv 1) aL nm))))
 (ah (aM cH)
 aq)
 aq)
 (ah (aO (i:=5) (nd 11) rfl (Pz rfl) (dj fw iD rfl T.n_int PyProof.Rows.Boot.«int» (af (dv 4) ao)))
 (ah (bF (aB (aY hr.units) bH (cy (dv 1) eO (di ai)) aL nm)
 (ah (aO (i:=5) (nd 11) rfl (Pz rfl) (qC ai (dv 5)))
 aq)
 aq)
 (ah (bF (aB (aY hr.units) bH (dv 2) aL nm)
 (ah (aM (kl (af (dv 5) (af ai ao))))
 aq)
 aq)
 (ah (bF (DW.dt (bW (cw (ck (rC (jI T) hr (af (dv 3) ao)))) (bW (aB jV (bY λ_ _ _ _=>rb _) (dj fw iD rfl T.n_int PyProof.Rows.Boot.«int» (af (dv 3) ao)) ai nm) (aU (aB (dR hr.units) fF (rC (jJ T) hr (af (dv 5) (af (dj fw iD rfl T.n_int PyProof.Rows.Boot.«int» (af (dv 3) ao)) ao))) ai nm)))))
 (ah (aM cH)
 aq)
 aq)
 (ah (aM (kl (af (dv 5) (af (dj fw iD rfl T.n_int PyProof.Rows.Boot.«int» (af (dv 3) ao)) ao))))
 aq)))))))))
def jX(T:Txt K mg t):gD P w K mg base CX0 3 (t.A 12) (t.Q 12) ["_law_words","_law_places"] (spD K 2 aS) "_law_tie_of" (top 57) :=
 oD T.g sc (i:=12) rfl λ_ _ _ _ _ _ _ hr=>(
 (ah (bF (DW.dt (bW (aB (dR hr.units) fF (aK aT bL rfl T.n_len PyProof.Rows.Boot.«len» (af (dv 0) ao)) ai nm) (bW (aB (dE hr.units) dF (ar (dv 0) ai) (cm (af aL (af aL ao))) rfl) (aU (aB (aY hr.units) bH (ar (dv 0) ai) (ar (dv 0) ai) nm)))))
 (ah (aM cH)
 aq)
 aq)
 (ah (aO (i:=2) (nd 12) rfl (Pz rfl) (rC (jY T) hr (af (ar (dv 0) ai) ao)))
 (ah (aO (i:=3) (nd 12) rfl (Pz rfl) cH)
 (ah (bF (aB (dR hr.units) fF (ar (dv 0) ai) aL nm)
 (ah (aO (i:=3) (nd 12) rfl (Pz rfl) (rC (jY T) hr (af (ar (dv 0) ai) ao)))
 (ah (bF (DW.dt (bW (aB lC lD (dv 3) cH nm) (aU (aB l9 (bY λ_ _ _ _=>rb _) (ar (dv 3) ai) ai nm))))
 (ah (aM cH)
 aq)
 aq)
 aq))
 aq)
 (ah (bF (DW.dt (bW (aB lC lD (dv 2) cH nm) (bW (aB jV (bY λ_ _ _ _=>rb _) (ar (dv 2) ai) ai nm) (bW (aB (dE hr.units) dF (ar (dv 0) ai) (dv 1) rfl) (aU (aB (dE hr.units) dF (ar (dv 0) ai) (dv 1) rfl))))))
 (ah (aM cH)
 aq)
 aq)
 (ah (aM (kl (af (ar (dv 0) ai) (af (ar (dv 0) ai) (af (ar (dv 0) ai) (af (dv 2) (af (dv 3) ao)))))))
 aq)))))))
def pU(T:Txt K mg t):gD P w K mg base CX0 4 (t.A 13) (t.Q 13) ["_law_web","_law_words"] (spD K 2 aA) "_law_stands" (top 59) :=
 oD T.g sc (i:=13) rfl λ_ _ _ _ _ _ _ hr=>(
 (ah (uN rfl (dv 0) (cf (i:=2) (nd 13) rfl (Pz rfl) (cf (i:=3) (nd 13) rfl (Pz rfl) (cf (i:=4) (nd 13) rfl (Pz rfl) jx))))
 (ah (bF (aB (aY hr.units) bH (ar (dv 1) ai) aL nm)
 (ah (bF (DW.dt (bW (aB (dR hr.units) fF (dv 3) (cm ao) nm) (bW (aB (dR hr.units) fF (dv 4) (cm ao) nm) (bW (aB pQ (bY λ_ _ _ _=>rb _) (aK aT bL rfl T.n_len PyProof.Rows.Boot.«len» (af (dv 2) ao)) ai nm) (aU (aB (dR hr.units) fF (aK aT bL rfl T.n_len PyProof.Rows.Boot.«len» (af (dv 1) ao)) ai nm))))))
 (ah (aM eK)
 aq)
 aq)
 (ah (aM (dJ (rC (ot T) hr (af (ar (dv 1) ai) ao)) (eJ (cz (dE hr.units) dF (ar (dv 1) ai) (dv 2) rfl))))
 aq))
 aq)
 (ah (bF (aB jV (bY λ_ _ _ _=>rb _) (aK aT bL rfl T.n_len PyProof.Rows.Boot.«len» (af (dv 2) ao)) ai nm)
 (ah (aM eK)
 aq)
 aq)
 (ah (bF (aB (aY hr.units) bH (ar (dv 1) ai) aL nm)
 (ah (aM (dJ (cz (aY hr.units) bH (dv 4) (cm ao) nm) (dJ (cz jV (bY λ_ _ _ _=>rb _) (aK aT bL rfl T.n_len PyProof.Rows.Boot.«len» (af (dv 3) ao)) ai nm) (eJ (cz y8 za (rC (jX T) hr (af (dv 1) (af (dv 2) ao))) cH nm)))))
 aq)
 aq)
 (ah (bF (DW.dt (bW (aB (dR hr.units) fF (aK aT bL rfl T.n_len PyProof.Rows.Boot.«len» (af (dv 1) ao)) ai nm) (aU (aB (dE hr.units) dF (ar (dv 1) ai) (dv 2) rfl))))
 (ah (aM eK)
 aq)
 aq)
 (ah (bF (aB (aY hr.units) bH (ar (dv 1) ai) aL nm)
 (ah (aM (cz (aY hr.units) bH (dv 4) (cm ao) nm))
 aq)
 aq)
 (ah (aM (dJ (cz (aY hr.units) bH (ar (dv 1) ai) aL nm) (dJ (cz (aY hr.units) bH (aK aT bL rfl T.n_len PyProof.Rows.Boot.«len» (af (dv 4) ao)) ai nm) (eJ (cz (dR hr.units) fF (ar (dv 1) ai) (ar (dv 4) ai) nm)))))
 aq))))))))
def nN(T:Txt K mg t):gD P w K mg base CX0 5 (t.A 14) (t.Q 14) ["_law_text"] (spD K 1 cJ) "_law_due" (top 60) :=
 oD T.g sc (i:=14) rfl λ_ _ _ _ _ _ _ hr=>(
 (yg (i:=1) (nd 14) rfl (Pz rfl) λa q=>(aQ (mj λ_=>(aO (i:=2) (nd 14) rfl (Pz rfl) (km (dv 0) aL)))
 (aQ (zj R7 rfl (Bb rfl T.n_range (aK aT bL rfl T.n_len PyProof.Rows.Boot.«len» (af (dv 2) ao))) (λ_=>(eY (i:=3) (nd 14) rfl (Pz rfl))) kB
 (aQ (mj λ_=>(aO (i:=4) (nd 14) rfl (Pz rfl) (km (ar (dv 2) (dv 3)) aL)))
 (aQ (iw (i:=1) (cw (ck (rC (pU T) hr (af (dv 1) (af (dv 4) ao)))))
 (aQ (gY (kl (af (dv 3) (af cH ao))))
 bC)
 bC)
 (aQ (iw (i:=1) (aB (aY hr.units) bH (ar (dv 4) ai) aL nm)
 (aQ (m7 (qg (i:=1) (k:=0) rfl (by decide) rfl (Pz rfl)) (ar (dv 4) ai))
 bC)
 (aQ (iw (i:=1) (aB (aY hr.units) bH (ar (dv 4) ai) aL nm)
 (aQ (m7 (qg (i:=1) (k:=1) rfl (by decide) rfl (Pz rfl)) (rC (jX T) hr (af (dv 4) (af (ar (dv 1) ai) ao))))
 bC)
 (aQ (m7 (qg (i:=1) (k:=2) rfl (by decide) rfl (Pz rfl)) (ar (dv 4) ai))
 bC))
 bC))
 bC))))
 (aQ (iw (i:=1) (aB jV (bY λ_ _ _ _=>rb _) (aK aT bL rfl T.n_len PyProof.Rows.Boot.«len» (af (ar (dv 1) ai) ao)) ai nm)
 (aQ (gY (kl (af (aK aT bL rfl T.n_len PyProof.Rows.Boot.«len» (af (dv 2) ao)) (af cH ao))))
 bC)
 bC)
 (aQ (Ke (i:=1) (Ii (qg (i:=1) (k:=0) rfl (by decide) rfl (Pz rfl)) (qg (i:=1) (k:=1) rfl (by decide) rfl (Pz rfl)) (qg (i:=1) (k:=2) rfl (by decide) rfl (Pz rfl)) (qg (i:=1) (k:=2) rfl (by decide) rfl (Pz rfl)) rfl rfl))
 bC))))))
def gV(T:Txt K mg t):gD P w K mg base CX0 1 (t.A 15) (t.Q 15) ["thing"] (spD K 1 m_is_name) "is_name" (top 11) :=
 oD T.g sc (i:=15) rfl λ_ _ _ _ H _ _ hr=>(
 (ah (bF (DW.dt (bW (cw (ck (cW jo rfl T.n_isinstance rfl T.n_str PyProof.Rows.Boot.«str» (dv 0)))) (aU (cw (qu l9 l9 (fk λ_ _ _ _=>rb _) (fk λ_ _ _ _=>rb _) fv fv ai (aK aT bL rfl T.n_len PyProof.Rows.Boot.«len» (af (dv 0) ao)) (bp T.ij rfl))))))
 (ah (aM eK)
 aq)
 aq)
 (ah (aM (aK (qO rfl) yq rfl T.n_all PyProof.Rows.Boot.«all» (af (sY (wz ["sign"] 1 [] rfl (uQ (dv 0)) (gp (by decide)) (λs H C fp pn=>⟨λHe η=>(eY (i:=0) (show Sr (["sign"]:bv) from by decide) rfl (Pz rfl)),kT,(cz (sE hr.units) sG (dv 0) (bp T.nC rfl) rfl)⟩) ⟨rfl,rfl⟩ rfl rfl rfl rfl)) ao)))
 aq)))
def pR(T:Txt K mg t):gD P w K mg base CX0 2 (t.A 16) (t.Q 16) ["draft","name"] (Ie K 1 (.ins "Draft" ["places","ties","ends"]) m_takes_place) "takes_place" (top 44) :=
 oJ T.g sc (i:=16) rfl rfl λ_ _ _ _ _ _ _ _ _ _ hr=>(
 (aQ (iw (i:=0) (DW.dt (bW (aB (dR hr.units) fF (fO (dv 0)) (cm ao) nm) (bW (aB (dR hr.units) fF (fO (dv 0)) (cm ao) nm) (aU (aB (aY hr.units) bH (aK aT bL rfl T.n_len PyProof.Rows.Boot.«len» (af (fO (dv 0)) ao)) (bp T.gi rfl) nm)))))
 (aQ (gY eK)
 bC)
 bC)
 (aQ (iw (i:=0) (DW.dt (bW (cw (ck (rC (gV T) hr (af (dv 1) ao)))) (aU (aB (sE hr.units) sG (dv 1) (fO (dv 0)) rfl))))
 (aQ (gY eK)
 bC)
 bC)
 (aQ (m7 (lF (i:=0) (k:=0) rfl (by decide) rfl rfl (Pz rfl)) (dv 1))
 (aQ (gY eK)
 bC)))))
def uo(T:Txt K mg t):gD P w K mg base CX0 1 (t.A 17) (t.Q 17) ["draft","tie"] (Ie K 1 (.ins "Draft" ["places","ties","ends"]) m_takes_tie) "takes_tie" (top 46) :=
 oJ T.g sc (i:=17) rfl rfl λ_ _ _ _ _ _ _ _ _ _ hr=>(
 (aQ (iw (i:=0) (DW.dt (bW (aB lC lD (dv 1) cH nm) (bW (aB (dR hr.units) fF (fO (dv 0)) (cm ao) nm) (aU (aB (aY hr.units) bH (aK aT bL rfl T.n_len PyProof.Rows.Boot.«len» (af (fO (dv 0)) ao)) (bp T.iE rfl) nm)))))
 (aQ (gY eK)
 bC)
 bC)
 (aQ (iw (i:=0) (DW.dt (bW (aB (dE hr.units) dF (ar (dv 1) (bp T.qR rfl)) (fO (dv 0)) rfl) (aU (aB (dE hr.units) dF (ar (dv 1) (bp T.jC rfl)) (fO (dv 0)) rfl))))
 (aQ (gY eK)
 bC)
 bC)
 (aQ (m7 (lF (i:=0) (k:=1) rfl (by decide) rfl rfl (Pz rfl)) (dv 1))
 (aQ (gY eK)
 bC)))))
def pT(T:Txt K mg t):gD P w K mg base CX0 1 (t.A 18) (t.Q 18) ["text"] (spD K 1 m_has_figures) "has_figures" (top 39) :=
 oD T.g sc (i:=18) rfl λ_ _ _ _ H _ _ hr=>(
 (ah (aO (i:=1) (nd 18) rfl (Pz rfl) (kn (ck (Bc (dv 0) aL)) (cy (dv 0) (di ai) eO) (dv 0)))
 (ah (aM (dJ (Ec l9 l9 (fk λ_ _ _ _=>rb _) (fk λ_ _ _ _=>rb _) fv fv ai (aK aT bL rfl T.n_len PyProof.Rows.Boot.«len» (af (dv 1) ao)) (bp T.ig rfl)) (eJ (aK (qO rfl) yq rfl T.n_all PyProof.Rows.Boot.«all» (af (sY (wz ["sign"] 1 [] rfl (uQ (dv 1)) (gp (by decide)) (λs H C fp pn=>⟨λHe η=>(eY (i:=0) (show Sr (["sign"]:bv) from by decide) rfl (Pz rfl)),kT,(cz (sE hr.units) sG (dv 0) (bp T.nD rfl) rfl)⟩) ⟨rfl,rfl⟩ rfl rfl rfl rfl)) ao)))))
 aq)))
def nK(T:Txt K mg t):gD P w K mg base CX0 1 (t.A 19) (t.Q 19) ["thing"] (spD K 1 m_is_whole) "is_whole" (top 9) :=
 oD T.g sc (i:=19) rfl λ_ _ _ _ _ _ _ _=>(
 (ah (aM (dJ (cW qe rfl T.n_isinstance rfl T.n_int PyProof.Rows.Boot.«int» (dv 0)) (eJ (Ea (cW nS rfl T.n_isinstance rfl T.n_bool PyProof.Rows.Boot.«bool» (dv 0))))))
 aq))
def me(T:Txt K mg t):gD P w K mg base CX0 1 (t.A 20) (t.Q 20) ["one","other"] (spD K 2 m_common_divisor) "common_divisor" (top 5) :=
 oD T.g sc (i:=20) rfl λ_ _ _ _ _ _ _ hr=>(
 (ah (aO (i:=2) (nd 20) rfl (Pz rfl) (aK qP yr rfl T.n_abs PyProof.Rows.Boot.«abs» (af (dv 0) ao)))
 (ah (aO (i:=3) (nd 20) rfl (Pz rfl) (aK qP yr rfl T.n_abs PyProof.Rows.Boot.«abs» (af (dv 1) ao)))
 (ah (wy _ R7 (aB (dR hr.units) fF (dv 3) ai nm)
 (ah (aO (i:=4) (nd 20) rfl (Pz rfl) (dW (dv 2) (dv 3)))
 (ah (aO (i:=2) (nd 20) rfl (Pz rfl) (dv 3))
 (ah (aO (i:=3) (nd 20) rfl (Pz rfl) (dv 4))
 aq))))
 (ah (aM (dv 2))
 aq)))))
def jW(T:Txt K mg t):gD P w K mg base CX0 2 (t.A 21) (t.Q 21) ["thing"] (spD K 1 m_is_ratio) "is_ratio" (top 10) :=
 oD T.g sc (i:=21) rfl λ_ _ _ _ _ _ _ hr=>(
 (ah (bF (DW.dt (bW (cw (ck (cW jm rfl T.n_isinstance rfl T.n_tuple PyProof.Rows.Boot.«tuple» (dv 0)))) (aU (aB (dR hr.units) fF (aK aT bL rfl T.n_len PyProof.Rows.Boot.«len» (af (dv 0) ao)) ai nm))))
 (ah (aM eK)
 aq)
 aq)
 (ah (bF (DW.dt (bW (cw (ck (rC (nK T) hr (af (ar (dv 0) ai) ao)))) (aU (cw (ck (rC (nK T) hr (af (ar (dv 0) ai) ao)))))))
 (ah (aM eK)
 aq)
 aq)
 (ah (aM (dJ (cz y9 (bY λ_ _ _ _=>rb _) (ar (dv 0) ai) ai nm) (eJ (cz (aY hr.units) bH (rC (me T) hr (af (ar (dv 0) ai) (af (ar (dv 0) ai) ao))) ai nm))))
 aq))))
def gU(T:Txt K mg t):gD P w K mg base CX0 1 (t.A 22) (t.Q 22) ["one"] (spD K 1 m_shown_ratio) "shown_ratio" (top 37) :=
 oD T.g sc (i:=22) rfl λ_ _ _ _ _ _ _ hr=>(
 (ah (bF (aB (aY hr.units) bH (ar (dv 0) ai) ai nm)
 (ah (aM (dj eP nB rfl T.n_str PyProof.Rows.Boot.«str» (af (ar (dv 0) ai) ao)))
 aq)
 aq)
 (ah (aM (bc (bc (dj eP nB rfl T.n_str PyProof.Rows.Boot.«str» (af (ar (dv 0) ai) ao)) aL) (dj eP nB rfl T.n_str PyProof.Rows.Boot.«str» (af (ar (dv 0) ai) ao))))
 aq)))
def ll(T:Txt K mg t):gD P w K mg base (iO P w) 3 (t.A 23) (t.Q 23) ["text"] (spD K 1 m_read_ratio) "read_ratio" (top 38) :=
 oE T.g sc (i:=23) rfl λ_ _ _ _ H _ _ hr=>(
 (ah (aO (i:=1) (nd 23) rfl (Pz rfl) (kn (ck (cW jo rfl T.n_isinstance rfl T.n_str PyProof.Rows.Boot.«str» (dv 0))) (km (dv 0) aL) (cm ao)))
 (ah (bF (DW.dt (bW (cw (qu l9 l9 (fk λ_ _ _ _=>rb _) (fk λ_ _ _ _=>rb _) fv fv ai (aK aT bL rfl T.n_len PyProof.Rows.Boot.«len» (af (dv 1) ao)) ai)) (aU (cw (ck (aK (qO rfl) yq rfl T.n_all PyProof.Rows.Boot.«all» (af (sY (wz ["part"] 1 [] rfl (o4 (dv 1)) (gp (by decide)) (λs H C fp pn=>⟨λHe η=>(eY (i:=0) (show Sr (["part"]:bv) from by decide) rfl (Pz rfl)),kT,(rC (pT T) hr (af (dv 0) ao))⟩) ⟨rfl,rfl⟩ rfl rfl rfl rfl)) ao)))))))
 (ah (c9 T.iQ.xc T.bJ.xi T.bJ.xs T.bJ.xf ((gu T).mono (by decide:1<=1)) T.bJ.bi (by decide) (by decide) hr T.g6 hr.hd rfl (af ai ao))
 aq)
 aq)
 (ah (aO (i:=2) (nd 23) rfl (Pz rfl) (kl (af (dj fw iD rfl T.n_int PyProof.Rows.Boot.«int» (af (ar (dv 1) ai) ao)) (af (kn (aB (aY hr.units) bH (aK aT bL rfl T.n_len PyProof.Rows.Boot.«len» (af (dv 1) ao)) ai nm) (dj fw iD rfl T.n_int PyProof.Rows.Boot.«int» (af (ar (dv 1) ai) ao)) ai) ao))))
 (ah (bF (DW.dt (bW (cw (ck (rC (jW T) hr (af (dv 2) ao)))) (aU (aB (dR hr.units) fF (rC (gU T) hr (af (dv 2) ao)) (dv 0) nm))))
 (ah (c9 T.iQ.xc T.bJ.xi T.bJ.xs T.bJ.xf ((gu T).mono (by decide:1<=1)) T.bJ.bi (by decide) (by decide) hr T.g6 hr.hd rfl (af ai ao))
 aq)
 aq)
 (ah (aM (dv 2))
 aq))))))
def uw(T:Txt K mg t):gD P w K mg base CX0 3 (t.A 24) (t.Q 24) ["thing"] (spD K 1 m_is_length) "is_length" (top 27) :=
 oD T.g sc (i:=24) rfl λ_ _ _ _ _ _ _ hr=>(
 (ah (aM (dJ (rC (jW T) hr (af (dv 0) ao)) (eJ (cz y9 (bY λ_ _ _ _=>rb _) (ar (dv 0) ai) ai nm))))
 aq))
def vL(T:Txt K mg t):gD P w K mg base CX0 3 (t.A 25) (t.Q 25) ["thing"] (spD K 1 m_is_worth) "is_worth" (top 28) :=
 oD T.g sc (i:=25) rfl λ_ _ _ _ _ _ _ hr=>(
 (ah (aM (II (cz lC lD (dv 0) cH nm) (eJ (dJ (rC (jW T) hr (af (dv 0) ao)) (eJ (cz pQ (bY λ_ _ _ _=>rb _) (ar (dv 0) ai) ai nm))))))
 aq))
def sF(T:Txt K mg t):gD P w K mg base CX0 4 (t.A 26) (t.Q 26) ["thing"] (spD K 1 m_is_tie) "is_tie" (top 26) :=
 oD T.g sc (i:=26) rfl λ_ _ _ _ _ _ _ hr=>(
 (ah (bF (DW.dt (bW (cw (ck (cW jm rfl T.n_isinstance rfl T.n_tuple PyProof.Rows.Boot.«tuple» (dv 0)))) (aU (aB (dR hr.units) fF (aK aT bL rfl T.n_len PyProof.Rows.Boot.«len» (af (dv 0) ao)) ai nm))))
 (ah (aM eK)
 aq)
 aq)
 (ah (bF (DW.dt (bW (cw (ck (rC (gV T) hr (af (ar (dv 0) (bp T.qR rfl)) ao)))) (bW (cw (ck (rC (gV T) hr (af (ar (dv 0) (bp T.jC rfl)) ao)))) (aU (aB (aY hr.units) bH (ar (dv 0) (bp T.qR rfl)) (ar (dv 0) (bp T.jC rfl)) nm)))))
 (ah (aM eK)
 aq)
 aq)
 (ah (bF (DW.dt (bW (cw (ck (cW jo rfl T.n_isinstance rfl T.n_str PyProof.Rows.Boot.«str» (ar (dv 0) (bp T.qQ rfl))))) (aU (aB (dE hr.units) dF (ar (dv 0) (bp T.qQ rfl)) (bp T.uU rfl) rfl))))
 (ah (aM eK)
 aq)
 aq)
 (ah (aM (dJ (rC (uw T) hr (af (ar (dv 0) (bp T.mG rfl)) ao)) (eJ (rC (vL T) hr (af (ar (dv 0) (bp T.mF rfl)) ao)))))
 aq)))))
def vK(T:Txt K mg t):gD P w K mg base CX0 5 (t.A 27) (t.Q 27) ["words"] (spD K 1 m_read_tie) "read_tie" (top 45) :=
 oD T.g sc (i:=27) rfl λ_ _ _ _ _ _ _ hr=>(
 (ah (Hu ⟨rfl,rfl⟩ (yG (rT (i:=1) (nd 27) rfl (Pz rfl) (ll T) hr (af (ar (dv 0) ai) ao))
 (yG (O0 (i:=2) (nd 27) rfl (Pz rfl) (aB (aY hr.units) bH (ar (dv 0) ai) aL nm) cH (ll T) hr (af (ar (dv 0) ai) ao))
 Jj)) rfl T.g6 (rH T))
 (ah (aO (i:=3) (nd 27) rfl (Pz rfl) (kl (af (ar (dv 0) ai) (af (ar (dv 0) ai) (af (ar (dv 0) ai) (af (dv 1) (af (dv 2) ao)))))))
 (ah (aM (kn (ck (rC (sF T) hr (af (dv 3) ao))) (dv 3) cH))
 aq))))
def ma(T:Txt K mg t):gD P w K mg base CX0 1 (t.A 28) (t.Q 28) ["draft","name"] (Ie K 1 (.ins "Draft" ["places","ties","ends"]) m_takes_end) "takes_end" (top 47) :=
 oJ T.g sc (i:=28) rfl rfl λ_ _ _ _ _ _ _ _ _ _ hr=>(
 (aQ (iw (i:=0) (DW.dt (bW (aB jV (bY λ_ _ _ _=>rb _) (aK aT bL rfl T.n_len PyProof.Rows.Boot.«len» (af (fO (dv 0)) ao)) (bp T.e7 rfl) nm) (bW (aB (dE hr.units) dF (dv 1) (fO (dv 0)) rfl) (aU (aB (sE hr.units) sG (dv 1) (fO (dv 0)) rfl)))))
 (aQ (gY eK)
 bC)
 bC)
 (aQ (m7 (lF (i:=0) (k:=2) rfl (by decide) rfl rfl (Pz rfl)) (dv 1))
 (aQ (gY eK)
 bC))))
def uq(T:Txt K mg t):gD P w K mg base CX0 6 (t.A 29) (t.Q 29) ["draft","words"] (Ie K 1 (.ins "Draft" ["places","ties","ends"]) m_takes_row) "takes_row" (top 43) :=
 oJ T.g sc (i:=29) rfl rfl λ_ _ _ _ _ _ _ _ _ _ hr=>(
 (aQ (iw (i:=0) (DW.dt (kh (aB (aY hr.units) bH (ar (dv 1) ai) aL nm) (eI (aB (aY hr.units) bH (aK aT bL rfl T.n_len PyProof.Rows.Boot.«len» (af (dv 1) ao)) ai nm))))
 (aQ (oU (rJ 0 (pR T) hr (af (ar (dv 1) ai) ao)))
 bC)
 bC)
 (aQ (iw (i:=0) (DW.dt (kh (aB (aY hr.units) bH (ar (dv 1) ai) aL nm) (eI (aB (aY hr.units) bH (aK aT bL rfl T.n_len PyProof.Rows.Boot.«len» (af (dv 1) ao)) ai nm))))
 (aQ (oU (rJ 0 (uo T) hr (af (rC (vK T) hr (af (dv 1) ao)) ao)))
 bC)
 bC)
 (aQ (iw (i:=0) (DW.dt (kh (aB (aY hr.units) bH (ar (dv 1) ai) aL nm) (eI (aB (aY hr.units) bH (aK aT bL rfl T.n_len PyProof.Rows.Boot.«len» (af (dv 1) ao)) ai nm))))
 (aQ (oU (Dd (i:=0) (cz (aY hr.units) bH (fO (dv 0)) (cm ao) nm) (rJ 0 (ma T) hr (af (ar (dv 1) ai) ao))))
 bC)
 bC)
 (aQ (iw (i:=0) (DW.dt (kh (aB (aY hr.units) bH (ar (dv 1) ai) aL nm) (eI (aB (aY hr.units) bH (aK aT bL rfl T.n_len PyProof.Rows.Boot.«len» (af (dv 1) ao)) ai nm))))
 (aQ (oU (Dd (i:=0) (cz (aY hr.units) bH (aK aT bL rfl T.n_len PyProof.Rows.Boot.«len» (af (fO (dv 0)) ao)) ai nm) (rJ 0 (ma T) hr (af (ar (dv 1) ai) ao))))
 bC)
 bC)
 (aQ (gY eK)
 bC))))))
def nJ(T:Txt K mg t):gD P w K mg base (iO P w) 7 (t.A 30) (t.Q 30) ["text"] (spD K 1 m_read_web) "read_web" (top 42) :=
 oE T.g sc (i:=30) rfl λ_ _ _ _ _ _ _ hr=>(
 (ah (bF (cw (ck (cW jo rfl T.n_isinstance rfl T.n_str PyProof.Rows.Boot.«str» (dv 0))))
 (ah (c9 T.iQ.xc T.bJ.xi T.bJ.xs T.bJ.xf ((gu T).mono (by decide:1<=5)) T.bJ.bi (by decide) (by decide) hr T.g6 hr.hd rfl (af ai ao))
 aq)
 aq)
 (yh (i:=1) rfl (nd 30) rfl (Pz rfl) T.CY ((xY T).mono (by decide:1<=5)) hr rfl T.Dr T.vq.ns T.qT T.vq.recC xF λa q=>(aQ (mj λ_=>(aO (i:=2) (nd 30) rfl (Pz rfl) (km (dv 0) aL)))
 (aQ (zj Tv rfl (uR rfl T.n_enumerate (dv 2)) (λ_=>(yk rfl (cf (i:=3) (nd 30) rfl (Pz rfl) (cf (i:=4) (nd 30) rfl (Pz rfl) jx)))) mS
 (aQ (Kc (rJ 1 (uq T) hr (af (km (dv 4) aL) ao))
 (aQ (mj λ_=>(c9 T.iQ.xc T.bJ.xi T.bJ.xs T.bJ.xf ((gu T).mono (by decide:1<=5)) T.bJ.bi (by decide) (by decide) hr T.g6 hr.hd rfl (af (dv 3) ao)))
 bC))
 bC))
 (aQ (iw (i:=1) (aB jV (bY λ_ _ _ _=>rb _) (aK aT bL rfl T.n_len PyProof.Rows.Boot.«len» (af (fO (dv 1)) ao)) ai nm)
 (aQ (mj λ_=>(c9 T.iQ.xc T.bJ.xi T.bJ.xs T.bJ.xf ((gu T).mono (by decide:1<=5)) T.bJ.bi (by decide) (by decide) hr T.g6 hr.hd rfl (af (aK aT bL rfl T.n_len PyProof.Rows.Boot.«len» (af (dv 2) ao)) ao)))
 bC)
 bC)
 (aQ (MC (i:=1) (Ii (lF (i:=1) (k:=0) rfl (by decide) rfl rfl (Pz rfl)) (lF (i:=1) (k:=1) rfl (by decide) rfl rfl (Pz rfl)) (lF (i:=1) (k:=2) rfl (by decide) rfl rfl (Pz rfl)) (lF (i:=1) (k:=2) rfl (by decide) rfl rfl (Pz rfl)) rfl rfl))
 bC)))))))
def rE(T:Txt K mg t):gD P w K mg base CX0 1 (t.A 31) (t.Q 31) ["_law_thing"] (spD K 1 fG) "_law_whole" (top 50) :=
 oD T.g sc (i:=31) rfl λ_ _ _ _ _ _ _ _=>(
 (ah (aM (dJ (cW qe rfl T.n_isinstance rfl T.n_int PyProof.Rows.Boot.«int» (dv 0)) (eJ (Ea (cW nS rfl T.n_isinstance rfl T.n_bool PyProof.Rows.Boot.«bool» (dv 0))))))
 aq))
def rF(T:Txt K mg t):gD P w K mg base CX0 8 (t.A 32) (t.Q 32) ["_law_text"] (spD K 1 fH) "_law_right" (top 61) :=
 oD T.g sc (i:=32) rfl λ_ _ _ _ _ _ _ hr=>(
 (ah (uN rfl (rC (nN T) hr (af (dv 0) ao)) (cf (i:=1) (nd 32) rfl (Pz rfl) (cf (i:=2) (nd 32) rfl (Pz rfl) jx)))
 (ah (aO (i:=3) (nd 32) rfl (Pz rfl) cH)
 (ah (aO (i:=4) (nd 32) rfl (Pz rfl) cH)
 (ah (aO (i:=5) (nd 32) rfl (Pz rfl) eK)
 (ah (KZ ⟨rfl,rfl⟩ (rT (i:=3) (nd 32) rfl (Pz rfl) (nJ T) hr (af (dv 0) ao)) rfl T.lI (oy T) (nd 32) rfl rfl (λea=>(ah (aO (i:=5) (nd 32) rfl (Pz rfl) (dJ (Bd rfl T.g6 (BX T) rfl T.n_isinstance (dv 6)) (eJ (Be rfl T.n_ValueError PyProof.Rows.Boot.«ValueError» (BW T) rfl T.n_isinstance (dv 6)))))
 (ah (bF (ck (dv 5))
 (ah (aO (i:=4) (nd 32) rfl (Pz rfl) (Hz (A5 T) (dv 6)))
 aq)
 aq)
 aq))))
 (ah (bF (aB lC lD (dv 1) cH nm)
 (ah (aM (dJ (dv 5) (dJ (cz lC lD (dv 4) cH nm) (eJ (cz (aY hr.units) bH (ym (dv 3)) (ym (dv 2)) nm)))))
 aq)
 aq)
 (ah (aM (dJ (dv 5) (dJ (rC (rE T) hr (af (dv 4) ao)) (eJ (cz (aY hr.units) bH (dv 4) (dv 1) nm)))))
 aq))))))))
def md(T:Txt K mg t):gD P w K mg base (iO P w) 3 (t.A 33) (t.Q 33) ["places"] (spD K 1 m_look_at_places) "look_at_places" (top 30) :=
 oE T.g sc (i:=33) rfl λ_ _ _ _ _ _ _ hr=>(
 (ah (bF (DW.dt (bW (cw (ck (cW nR rfl T.n_isinstance rfl T.n_list PyProof.Rows.Boot.«list» (dv 0)))) (aU (cw (qu l9 l9 (fk λ_ _ _ _=>rb _) (fk λ_ _ _ _=>rb _) fv fv (bp T.e7 rfl) (aK aT bL rfl T.n_len PyProof.Rows.Boot.«len» (af (dv 0) ao)) (bp T.gi rfl))))))
 (ah (c9 T.jd.xc T.bD.xi T.bD.xs T.bD.xf ((e9 T).mono (by decide:1<=1)) T.bD.bi (by decide) (by decide) hr T.jt hr.hd rfl (af aL (af cH ao)))
 aq)
 aq)
 (ah (zI Tv rfl (uR rfl T.n_enumerate (dv 0)) (yk rfl (cf (i:=1) (nd 33) rfl (Pz rfl) (cf (i:=2) (nd 33) rfl (Pz rfl) jx))) mS
 (ah (bF (DW.dt (bW (cw (ck (rC (gV T) hr (af (dv 2) ao)))) (aU (aB (sE hr.units) sG (dv 2) (cy (dv 0) eO (di (dv 1))) rfl))))
 (ah (c9 T.jd.xc T.bD.xi T.bD.xs T.bD.xf ((e9 T).mono (by decide:1<=1)) T.bD.bi (by decide) (by decide) hr T.jt hr.hd rfl (af aL (af (dv 1) ao)))
 aq)
 aq)
 aq))
 aq)))
def oq(T:Txt K mg t):gD P w K mg base (iO P w) 5 (t.A 34) (t.Q 34) ["ties","places"] (spD K 2 m_look_at_ties) "look_at_ties" (top 31) :=
 oE T.g sc (i:=34) rfl λ_ _ _ _ _ _ _ hr=>(
 (ah (bF (DW.dt (bW (cw (ck (cW nR rfl T.n_isinstance rfl T.n_list PyProof.Rows.Boot.«list» (dv 0)))) (aU (aB pQ (bY λ_ _ _ _=>rb _) (aK aT bL rfl T.n_len PyProof.Rows.Boot.«len» (af (dv 0) ao)) (bp T.iE rfl) nm))))
 (ah (c9 T.jd.xc T.bD.xi T.bD.xs T.bD.xf ((e9 T).mono (by decide:1<=3)) T.bD.bi (by decide) (by decide) hr T.jt hr.hd rfl (af aL (af cH ao)))
 aq)
 aq)
 (ah (zI Tv rfl (uR rfl T.n_enumerate (dv 0)) (yk rfl (cf (i:=2) (nd 34) rfl (Pz rfl) (cf (i:=3) (nd 34) rfl (Pz rfl) jx))) mS
 (ah (bF (DW.dt (bW (cw (ck (rC (sF T) hr (af (dv 3) ao)))) (bW (aB (dE hr.units) dF (ar (dv 3) (bp T.qR rfl)) (dv 1) rfl) (aU (aB (dE hr.units) dF (ar (dv 3) (bp T.jC rfl)) (dv 1) rfl)))))
 (ah (c9 T.jd.xc T.bD.xi T.bD.xs T.bD.xf ((e9 T).mono (by decide:1<=3)) T.bD.bi (by decide) (by decide) hr T.jt hr.hd rfl (af aL (af (dv 2) ao)))
 aq)
 aq)
 aq))
 aq)))
def nM(T:Txt K mg t):gD P w K mg base CX0 2 (t.A 35) (t.Q 35) ["thing","places"] (spD K 2 m_is_place) "is_place" (top 32) :=
 oD T.g sc (i:=35) rfl λ_ _ _ _ _ _ _ hr=>(
 (ah (aM (dJ (rC (gV T) hr (af (dv 0) ao)) (eJ (cz (sE hr.units) sG (dv 0) (dv 1) rfl))))
 aq))
def pS(T:Txt K mg t):gD P w K mg base (iO P w) 6 (t.A 36) (t.Q 36) ["thing"] (spD K 1 m_look_at_web) "look_at_web" (top 29) :=
 oE T.g sc (i:=36) rfl λ_ _ _ _ _ _ _ hr=>(
 (ah (bF (DW.dt (bW (cw (ck (cW jm rfl T.n_isinstance rfl T.n_tuple PyProof.Rows.Boot.«tuple» (dv 0)))) (aU (aB (dR hr.units) fF (aK aT bL rfl T.n_len PyProof.Rows.Boot.«len» (af (dv 0) ao)) ai nm))))
 (ah (c9 T.jd.xc T.bD.xi T.bD.xs T.bD.xf ((e9 T).mono (by decide:1<=4)) T.bD.bi (by decide) (by decide) hr T.jt hr.hd rfl (af aL (af cH ao)))
 aq)
 aq)
 (ah (uP (rC (md T) hr (af (ar (dv 0) (bp T.ic rfl)) ao)))
 (ah (uP (rC (oq T) hr (af (ar (dv 0) (bp T.uV rfl)) (af (ar (dv 0) (bp T.ic rfl)) ao))))
 (ah (bF (cw (ck (rC (nM T) hr (af (ar (dv 0) (bp T.mH rfl)) (af (ar (dv 0) (bp T.ic rfl)) ao)))))
 (ah (c9 T.jd.xc T.bD.xi T.bD.xs T.bD.xf ((e9 T).mono (by decide:1<=4)) T.bD.bi (by decide) (by decide) hr T.jt hr.hd rfl (af aL (af cH ao)))
 aq)
 aq)
 (ah (bF (DW.dt (bW (cw (ck (rC (nM T) hr (af (ar (dv 0) (bp T.qS rfl)) (af (ar (dv 0) (bp T.ic rfl)) ao))))) (aU (aB (aY hr.units) bH (ar (dv 0) (bp T.qS rfl)) (ar (dv 0) (bp T.mH rfl)) nm))))
 (ah (c9 T.jd.xc T.bD.xi T.bD.xs T.bD.xf ((e9 T).mono (by decide:1<=4)) T.bD.bi (by decide) (by decide) hr T.jt hr.hd rfl (af aL (af cH ao)))
 aq)
 aq)
 aq))))))
def uv(T:Txt K mg t):gD P w K mg base CX0 2 (t.A 37) (t.Q 37) ["tie"] (spD K 1 m_shown_tie) "shown_tie" (top 41) :=
 oD T.g sc (i:=37) rfl λ_ _ _ _ _ _ _ hr=>(
 (ah (aO (i:=1) (nd 37) rfl (Pz rfl) (kn (aB lC lD (ar (dv 0) (bp T.mF rfl)) cH nm) aL (rC (gU T) hr (af (ar (dv 0) (bp T.mF rfl)) ao))))
 (ah (aM (mC aL (af (cm (af aL (af (ar (dv 0) (bp T.qR rfl)) (af (ar (dv 0) (bp T.jC rfl)) (af (ar (dv 0) (bp T.qQ rfl)) (af (rC (gU T) hr (af (ar (dv 0) (bp T.mG rfl)) ao)) (af (dv 1) ao))))))) ao)))
 aq)))
def uu(T:Txt K mg t):gD P w K mg base (iO P w) 7 (t.A 38) (t.Q 38) ["web"] (spD K 1 m_shown_web) "shown_web" (top 40) :=
 oE T.g sc (i:=38) rfl λ_ _ _ _ H _ _ hr=>(
 (ah (uP (rC (pS T) hr (af (dv 0) ao)))
 (ah (Hv (i:=1) (nd 38) rfl rfl (wz ["place"] 1 [] rfl (o4 (ar (dv 0) (bp T.ic rfl))) (gp (by decide)) (λs H C fp pn=>⟨λHe η=>(eY (i:=0) (show Sr (["place"]:bv) from by decide) rfl (Pz rfl)),kT,(bc aL (dv 0))⟩) ⟨rfl,rfl⟩ rfl rfl rfl rfl))
 (ah (sU (i:=1) rfl (Pz rfl) (IH (wz ["tie"] 1 [] rfl (o4 (ar (dv 0) (bp T.uV rfl))) (gp (by decide)) (λs H C fp pn=>⟨λHe η=>(eY (i:=0) (show Sr (["tie"]:bv) from by decide) rfl (Pz rfl)),kT,(rC (uv T) hr (af (dv 0) ao))⟩) ⟨rfl,rfl⟩ rfl rfl rfl rfl)))
 (ah (sU (i:=1) rfl (Pz rfl) (nr (af (bc aL (ar (dv 0) (bp T.mH rfl))) (af (bc aL (ar (dv 0) (bp T.qS rfl))) ao))))
 (ah (aM (mC aL (af (dv 1) ao)))
 aq))))))
def gM(T:Txt K mg t):gD P w K mg base CX0 9 (t.A 39) (t.Q 39) ["_law_rows","_law_way","_law_names_here"] (spD K 3 cS) "_law_read" (top 66) :=
 oD T.g sc (i:=39) rfl λ_ _ _ _ _ _ _ hr=>(
 (ah (aO (i:=3) (nd 39) rfl (Pz rfl) (cm (af (cm ao) (af (cm (af (bc aL (ar (dv 2) ai)) (af (bc aL (ar (dv 2) ai)) ao))) (af (cm (af (bc aL (ar (dv 2) ai)) ao)) ao)))))
 (ah (aO (i:=4) (nd 39) rfl (Pz rfl) (mC aL (af (bc (dv 0) (ar (dv 3) (dW (dv 1) ai))) ao)))
 (ah (bF (cw (ck (rC (rF T) hr (af (dv 4) ao))))
 (ah (aM eK)
 aq)
 aq)
 (ah (aM (II (cz y8 za (ar (rC (nN T) hr (af (dv 4) ao)) ai) cH nm) (eJ (cz (aY hr.units) bH (rC (gD.noX (uu T)) hr (af (ym (rC (gD.noX (nJ T)) hr (af (dv 4) ao))) ao)) (dv 4) nm))))
 aq)))))
def ok_law(T:Txt K mg t):gD P w K mg base CX0 10 (t.A 40) (t.Q 40) ["_law_script"] (spD K 1 m_law) "law" (top 67) :=
 oD T.g sc (i:=40) rfl λ_ _ _ _ _ _ _ hr=>(
 (ah (aO (i:=1) (nd 40) rfl (Pz rfl) ai)
 (ah (bF (aB (dR hr.units) fF (dv 0) (cm ao) nm)
 (ah (aO (i:=1) (nd 40) rfl (Pz rfl) (ar (dv 0) ai))
 aq)
 aq)
 (ah (aO (i:=2) (nd 40) rfl (Pz rfl) (rC (rG T) hr (af (nu (dv 1) ai) (af ai ao))))
 (ah (aO (i:=3) (nd 40) rfl (Pz rfl) (bc ai (ar (rC (iK T) hr (af (dv 1) (af (cm (af ai ao)) ao))) ai)))
 (ah (yi (i:=4) (nd 40) rfl (Pz rfl) (nr ao))
 (ah (uO R7 rfl rfl T.n_range (aK (Bj rfl) K7 rfl T.n_min PyProof.Rows.Boot.«min» (af (aK aT bL rfl T.n_len PyProof.Rows.Boot.«len» (af (dv 0) ao)) (af ai ao))) (eY (i:=5) (nd 40) rfl (Pz rfl)) kB
 (ah (kS (i:=4) rfl (Pz rfl) (rC (vM T) hr (af (ar (dv 0) (dv 5)) (af (dv 5) (af (dv 2) (af (dv 3) ao))))))
 (ah (bF (DW.dt (kh (aB (aY hr.units) bH (dW (dv 5) ai) ai nm) (eI (cw (ck (rC (gM T) hr (af (dv 4) (af (bc (nu (dv 5) ai) ai) (af (dv 2) ao)))))))))
 (ah (aM eK)
 aq)
 aq)
 aq)))
 (ah (aM (dJ (rC (gM T) hr (af (dv 4) (af ai (af (dv 2) ao)))) (dJ (rC (gM T) hr (af (dv 4) (af ai (af (dv 2) ao)))) (eJ (rC (gM T) hr (af (cm ao) (af ai (af (dv 2) ao))))))))
 aq))))))))
end
def txt_mk{K:Pl}{h:PF}{mg:Pj->Option Pd}(X:K.In h)(G:h.Ns PK mg){bx fN:Pg}{i5:Pg}{kd:Pg}{bP:Pg}{cM:Pg}{gf:Pg}{a0 a1 a2 a3 a4 a5 a6 a7 a8 a9 a10 a11 a12 a13 a14 a15 a16 a17 a18 a19 a20 a21 a22 a23 a24 a25 a26 a27 a28 a29 a30 a31 a32 a33 a34 a35 a36 a37 a38 a39 a40:Pg}(qs:QAs K rows [a0,a1,a2,a3,a4,a5,a6,a7,a8,a9,a10,a11,a12,a13,a14,a15,a16,a17,a18,a19,a20,a21,a22,a23,a24,a25,a26,a27,a28,a29,a30,a31,a32,a33,a34,a35,a36,a37,a38,a39,a40])
  {AO AZ Bf AH tu Bg:Pd}{AN Bn:Option Pg}{Ae:Array (Option Pd)}
  (vD:QM K PK "Draft"=some (some (.ref bx))) (Cp:QW K (.ref bx) "__init__"=some (some (.ref fN))) (Co:W.isFn K (.ref fN)=true) (vC:K.lookup fN=some ⟨AO,AN,.func (RY "__init__" "Draft.__init__" (defArgs iT) (defBody iT) (defScope iT) .none AZ Bf AH Bn tu Bg),Ae⟩) (vB:T5 K tu "Draft.__init__"=true) (vA:R1 K (.ref fN)=true) (Cn:W.makesIn K bx=true) (Cm:R1 K (.ref bx)=true) (Au:Td K bx Sn=true) (Ay:RF K bx=true) (As:TU K bx=true) (Ar:QW K (.ref bx) "__setattr__"=some (some (.builtin "object.__setattr__"))) (AA:QW K (.ref bx) "__class__"=some (some (.builtin "object.__class__"))) (Az:SI K (.builtin "object.__class__") "__get__"=some (some (.builtin "getset_descriptor.__get__"))) (Aj:Uq K (.builtin "object.__class__")=some true) (Ax:Uy K bx (.type "object")=some true) (Aq:Ra K (.ref bx) (.type "NoneType")=some false) (Ap:Ra K (.ref bx) (.type "bool")=some false) (Ao:Ra K (.ref bx) (.type "int")=some false) (An:Ra K (.ref bx) (.type "str")=some false) (Am:Ra K (.ref bx) (.type "tuple")=some false) (Al:Ra K (.ref bx) (.type "list")=some false) (Ak:Ra K (.ref bx) (.type "dict")=some false) (oo:QW K (.ref bx) "places"=some none) (rB:QW K (.ref bx) "ties"=some none) (rD:QW K (.ref bx) "ends"=some none)
  (z_ValueError:QM K PK "ValueError"=some none)
  (z_abs:QM K PK "abs"=some none)
  (z_all:QM K PK "all"=some none)
  (z_bool:QM K PK "bool"=some none)
  (z_enumerate:QM K PK "enumerate"=some none)
  (z_int:QM K PK "int"=some none)
  (z_isinstance:QM K PK "isinstance"=some none)
  (z_len:QM K PK "len"=some none)
  (z_list:QM K PK "list"=some none)
  (z_max:QM K PK "max"=some none)
  (z_min:QM K PK "min"=some none)
  (z_range:QM K PK "range"=some none)
  (z_str:QM K PK "str"=some none)
  (z_tuple:QM K PK "tuple"=some none)
  (nU:lS K "CutError" bP)
  (kz:qW K "NoText" cM)
  (lU:qW K "NoWeb" gf)
  (zY:XQ K "NoText.__init__" cM bP i5 mU ["row"])
  (BD:XQ K "NoWeb.__init__" gf bP kd pz ["part","number"])
  (lV:UA K bP [.type "ValueError",.type "Exception",.type "BaseException",.type "object"] "ValueError.__new__"=true) (tP:W.readsIn K bP (.type "type")=true) (tQ:W.findCls K (.ref bP) (.type "type") "__init__"=some (.val (.builtin "ValueError.__init__"))) (tO:SI K (.ref bP) "__getattribute__"=some (some (.builtin "type.__getattribute__")))
  (CL:Sb K cM [bP,cM] [true,true])
  (FU:Sb K gf [bP,cM] [true,false])
  {om:Tok}(oj:QM K PK "FEWEST_PLACES"=some (some (.int 2 om)))
  {Aa:Tok}(zX:QM K PK "FIGURES"=some (some (.str "0123456789" Aa)))
  {Fo:Tok}(ER:QM K PK "FIRST"=some (some (.int 2 Fo)))
  {Jp:Tok}(IY:QM K PK "LAST"=some (some (.int 3 Jp)))
  {BZ:Tok}(BB:QM K PK "LENGTH"=some (some (.int 3 BZ)))
  {z9:Tok}(zW:QM K PK "LETTERS"=some (some (.str "abcdefghijklmnopqrstuvwxyz" z9)))
  {pf:Tok}(o7:QM K PK "LONGEST_NAME"=some (some (.int 8 pf)))
  {pd:Tok}(o5:QM K PK "MOST_FIGURES"=some (some (.int 60 pd)))
  {ro:Tok}(rn:QM K PK "MOST_PLACES"=some (some (.int 7 ro)))
  {vf:Tok}(u4:QM K PK "MOST_TIES"=some (some (.int 14 vf)))
  {LI:Tok}(Lv:QM K PK "ONE"=some (some (.int 0 LI)))
  {Fn:Tok}(EO:QM K PK "OTHER"=some (some (.int 1 Fn)))
  {BY:Tok}(BA:QM K PK "PLACES"=some (some (.int 0 BY)))
  {Jo:Tok}(IW:QM K PK "TIES"=some (some (.int 1 Jo)))
  {Jn:Tok}(IV:QM K PK "WORD"=some (some (.int 2 Jn)))
  {yR:Pg}{zb:Obj}(EN:QM K PK "WORDS"=some (some (.ref yR))) (E3:K.lookup yR=some zb) (E5:∃od its n sl vs,zb=⟨.type "tuple",od,.seq its n,sl⟩/\bM vs its.toList/\its.size<=sizeLine/\∀H,Reps K H [.str "one",.str "both"] vs)
  {Fm:Tok}(EM:QM K PK "WORTH"=some (some (.int 4 Fm))) :
  ∃t:Adr,Txt K mg t/\t.A 40=a40/\∃kV doc pm an cdv ct,t.Q 40=RY "law" "law" (defArgs (top 67)) (defBody (top 67)) (defScope (top 67)) .none kV doc pm an cdv ct:=by
 obtain⟨kN,Et⟩:=OB (ps:=["self","row"]) (λF=>F.binds λ_ _ _ _ _ _ us hl=>by obtain⟨_,_,rfl⟩:=N8 hl;rfl) zY lV;obtain⟨mq,HQ⟩:=OB (ps:=["self","part","number"]) (λF=>F.binds λ_ _ _ _ _ _ us hl=>by obtain⟨_,_,_,rfl⟩:=N7 hl;rfl) BD lV;obtain⟨Q,hQ⟩:=HZ X G bn qs;have D_law:=(hQ 40 _ rfl).2;refine⟨⟨i5,kN,kd,mq,bx,fN,_,bP,cM,gf,λi=>[a0,a1,a2,a3,a4,a5,a6,a7,a8,a9,a10,a11,a12,a13,a14,a15,a16,a17,a18,a19,a20,a21,a22,a23,a24,a25,a26,a27,a28,a29,a30,a31,a32,a33,a34,a35,a36,a37,a38,a39,a40].getD i 0,Q⟩,⟨λi r h=>(hQ i r h).1,QX X G z_ValueError,QX X G z_abs,QX X G z_all,QX X G z_bool,QX X G z_enumerate,QX X G z_int,QX X G z_isinstance,QX X G z_len,QX X G z_list,QX X G z_max,QX X G z_min,QX X G z_range,QX X G z_str,QX X G z_tuple,Rh X G vD,qm vC vB vA,?qT,⟨Cn,Cp,Co,Cm⟩,Fz vD Au Ay As Ar AA Az Aj Ax Aq Ap Ao An Am Al Ak (noL_cons oo ( noL_cons rB ( noL_cons rD (noL_nil)))),Rh X G nU.ns,nU,Rh X G kz.i.ns,kz.i,Rh X G lU.i.ns,lU.i,kz,lU,Et,HQ,⟨tP,tQ,tO⟩,(OA kz CL (OA lU FU Ja)),?e7,?nD,?mH,?qS,?mG,?nC,?ij,?ig,?gi,?iE,?qR,?jC,?ic,?uV,?qQ,?uU,?mF⟩,rfl,D_law⟩
 case qT=>exact(qm (st:=iT) vC vB vA).binds λ_ _ _ _ _ _ us hl=>by obtain⟨_,rfl⟩:=N9 hl;rfl
 case e7=>exact ey (Rh X G oj)
 case nD=>exact zg (Rh X G zX)
 case mH=>exact ey (Rh X G ER)
 case qS=>exact ey (Rh X G IY)
 case mG=>exact ey (Rh X G BB)
 case nC=>exact zg (Rh X G zW)
 case ij=>exact ey (Rh X G o7)
 case ig=>exact ey (Rh X G o5)
 case gi=>exact ey (Rh X G rn)
 case iE=>exact ey (Rh X G u4)
 case qR=>exact ey (Rh X G Lv)
 case jC=>exact ey (Rh X G EO)
 case ic=>exact ey (Rh X G BA)
 case uV=>exact ey (Rh X G IW)
 case qQ=>exact ey (Rh X G IV)
 case uU=>
  obtain⟨od,its,n,sl,vs,rfl,h1,h2,h3⟩:=E5;exact Gk (Rh X G EN) E3 h1 h2 h3
 case mF=>exact ey (Rh X G EM)
def txt_wr{K:Pl}{mg:Pj->Option Pd}{a:Pg}{R:Adr->Prop}(h:∃t:Adr,Txt K mg t/\t.A 40=a/\R t):∃t:Adr,Txt K mg t/\mg "law"=some (.ref (t.A 40))/\R t:=h.elim λt ⟨T,_,r⟩=>⟨t,T,(T.g 40 _ rfl).g,r⟩
end K77
namespace Tex
open PySem PySem.NumText L2 DL
structure ku (ds:ci):Prop where
 d:AllDigits ds
 n:ds≠[]
 z:∀r,ds=48::r->r=[]
def uY(m:Nat):ci:=(Tx 10 m).map Char.toNat
def kj{m:Nat}(h:m<10):uY m=[m+48]:=by
 unfold uY;rw[Nat.toDigits_of_lt_base h];show[(Nat.digitChar m).toNat]=_;have:=W.KIN.digit_back m h;have k:∀d:Nat,d<10->(Nat.digitChar d).toNat=d+48:=by decide
 rw[k m h]
def qB{m:Nat}(h:10<=m):uY m=uY (m / 10)++[m % 10+48]:=by
 have hm:m % 10<10:=Sz m (by decide);have t:Tx 10 (m / 10)++Tx 10 (m % 10)=Tx 10 (10*(m / 10)+m % 10):=Nat.toDigits_append_toDigits (by decide) (by omega) hm;rw[Nat.div_add_mod]at t;have e:=kj hm;unfold uY at e ⊢;rw[←t,Qx,e]
def lM(m:Nat):AllDigits (uY m):=by
 induction m using Nat.strongRecOn with
 |_ m ih=>
  by_cases h:m<10
  .rw[kj h]
   intro c hc;rw[Qd.mp hc];omega
  .rw[qB (by omega)]
   intro c hc;rcases Q9.mp hc with hc|hc
   .exact ih _ (by omega) c hc
   .rw[Qd.mp hc]
    have:=Sz m (show 0<10 by decide);omega
def D5(m:Nat):uY m≠[]:=by
 by_cases h:m<10
 .rw[kj h];simp
 .rw[qB (by omega)];simp
def D6{m:Nat}(h:0<m):∀r,uY m≠48::r:=by
 induction m using Nat.strongRecOn with
 |_ m ih=>
  intro r
  by_cases h10:m<10
  .rw[kj h10]
   intro e;injection e with e1 _;omega
  .rw[qB (by omega)]
   have k:=ih (m / 10) (by omega) (by omega);cases q:uY (m / 10) with
   |nil=>exact absurd q (D5 _)
   |cons c cs=>
    intro e;rw[Qc]at e;injection e with e1 e2;exact k cs (by rw[q,e1])
def sW(m:Nat):ku (uY m):=by
 refine⟨lM m,D5 m,λr e=>?_⟩
 by_cases h:m=0
 .subst h
  rw[kj (by decide)]at e;injection e with _ e2;exact e2.symm
 .exact absurd e (D6 (by omega) r)
def pb{ds:ci}{c:Nat}:digitsVal (ds++[c])=digitsVal ds*10+(c-48):=by unfold digitsVal;rw[List.foldl_append];rfl
def E6:∀{ds:ci},AllDigits ds->ds≠[]->(∀r,ds≠48::r)->0<digitsVal ds:=by
 have key:∀(n:Nat) (ds:ci),ds.length=n->AllDigits ds->ds≠[]->(∀r,ds≠48::r)->0<digitsVal ds:=by
  intro n
  induction n with
  |zero=>intro ds hl _ hn _;exact absurd (Q3.mp hl) hn
  |succ n ih=>
   intro ds hl hd hn hz;rcases S4 ds with rfl|⟨es,c,rfl⟩
   .exact absurd rfl hn
   .rw[S5]at *
    rw[pb];cases es with
    |nil=>
     have:=hd c (by simp);have hc:c≠48:=λe=>hz [] (by rw[e];rfl);omega
    |cons a es=>
     have:=ih (a::es) (by simpa using hl) (λx hx=>hd x (RQ _ hx)) (by simp) (λr e=>hz (r++[c]) (by rw[e];rfl));omega
 intro ds hd hn hz;exact key _ _ rfl hd hn hz
def lP:∀{ds:ci},ku ds->uY (digitsVal ds)=ds:=by
 have key:∀(n:Nat) (ds:ci),ds.length=n->ku ds->uY (digitsVal ds)=ds:=by
  intro n
  induction n with
  |zero=>intro ds hl h;exact absurd (Q3.mp hl) h.n
  |succ n ih=>
   intro ds hl h;rcases S4 ds with rfl|⟨es,c,rfl⟩
   .exact absurd rfl h.n
   .rw[S5]at *
    have hc:=h.d c (by simp);rw[pb];cases es with
    |nil=>
     show uY (0*10+(c-48))=[c];rw[kj (by omega)]
     congr 1
     omega
    |cons a es=>
     have hz:∀r,a::es≠48::r:=λr e=>by
      have:=h.z (r++[c]) (by rw[e];rfl);simp at this
     have hd:AllDigits (a::es):=λx hx=>h.d x (RQ _ hx);have hp:=E6 hd (by simp) hz;have:=ih (a::es) (by simpa using hl) ⟨hd,by simp,λr e=>absurd e (hz r)⟩;rw[qB (by omega)];have e1:(digitsVal (a::es)*10+(c-48)) / 10=digitsVal (a::es):=by omega
     have e2:(digitsVal (a::es)*10+(c-48)) % 10=c-48:=by omega
     rw[e1,e2,this]
     congr 2
     omega
 intro ds h;exact key _ _ rfl h
def wr(n:Int):ci:=if n<0 then 45::uY n.natAbs else uY n.natAbs
def oG(n:Int):(Qz (toString n)).cps.toList=wr n:=by
 unfold wr;cases n with
 |ofNat m=>rw[if_neg (show ¬(Int.ofNat m<0) from Int.not_lt.mpr (SG m))];exact W.KIN.signs_num m
 |negSucc m=>
  rw[if_pos (Int.negSucc_lt_zero m),PyProof.Rows.signs_ofString];show("-"++Nat.repr (m+1)).toList.map Char.toNat=_;rw[String.toList_append,Qx,Nat.toList_repr];rfl
abbrev cl(z:Pj):ci:=z.cps.toList
def ia{a b:Pj}(h:cl a=cl b):a=b:=by
 cases a;cases b
 congr 1
 exact Array.toList_inj.mp h
def ib(a b:Pj):cl (a++b)=cl a++cl b:=by
 show(a.cps++b.cps).toList=_;rw[Array.toList_append]
abbrev bZ:Pj:=⟨#[47]⟩
def kD:("/" : Pj)=bZ:=by decide
theorem kO:∀{a b c d:ci},a++47::b=c++47::d->47∉a->47∉c->a=c/\b=d
 |[],b,[],d,h,_,_=>⟨rfl,by simpa using h⟩
 |[],b,c::cs,d,h,_,hc=>by
  rw[Qj,Qc]at h;injection h with h1 _;exact absurd (h1▸P0) hc
 |a::as,b,[],d,h,ha,_=>by
  rw[Qj,Qc]at h;injection h with h1 _;exact absurd (h1▸P0) ha
 |a::as,b,c::cs,d,h,ha,hc=>by
  rw[Qc,Qc]at h;injection h with h1 h2;obtain⟨e1,e2⟩:=kO h2 (λz=>ha (Pw _ z)) (λz=>hc (Pw _ z));exact⟨by rw[h1,e1],e2⟩
def l8(x:Pj):(Qu x bZ=(x,Sn,Sn)/\47∉cl x)∨∃p q,Qu x bZ=(p,bZ,q)/\47∉cl p/\cl x=cl p++47::cl q:=by
 rcases PyProof.Rows.partition_whole x bZ with⟨h1,h2⟩|⟨i,h1,h2,h3⟩
 .exact .inl ⟨h1,λhm=>by obtain⟨i,hi⟩:=(Uu x 47).mp hm;exact h2 i hi⟩
 .refine .inr ⟨_,_,h1,StrLaws.part_free x 47 0 i (by have:=h2.1;omega) (λk _ hk=>h3 k hk),?_⟩
  have:=UO x bZ;rw[h1]at this;have e:=congrArg cl this;rw[ib,ib]at e;rw[←e,Rx];rfl
def Iv{y a:Pj}:SQ y [a]=a:=rfl
def Iu{y a b:Pj}:SQ y [a,b]=a++y++b:=rfl
def Dc{y a b:Pj}{r:bv}:SQ y (a::b::r)=a++y++SQ y (b::r):=rfl
def vi(x:Pj):(QO x bZ=[x]/\Qu x bZ=(x,Sn,Sn)/\47∉cl x) ∨
  (∃p q,QO x bZ=[p,q]/\Qu x bZ=(p,bZ,q)/\47∉cl p/\47∉cl q/\cl x=cl p++47::cl q) ∨
  (3<=(QO x bZ).length/\∃p q,Qu x bZ=(p,bZ,q)/\47∈cl q):=by
 have hj:=Sx x bZ;have hf:=StrLaws.split_free x 47
 match e:QO x bZ with
 |[] =>
  rw[e]at hj;have hx:cl x=[]:=by rw[←hj];rfl
  rcases l8 x with⟨h1,h2⟩|⟨p,q,h1,h2,h3⟩
  .exfalso
   have:=S7 x 1 0 [];unfold QO at e;split at e
   .cases e
   .split at e
    .cases e
    .rw[Us]at e
     obtain⟨a,r,q⟩:=S7 x (bZ:Pj).length 0 (RE x bZ 0 x.length (x.length+1));rw[q]at e;cases e
  .rw[hx]at h3;simp at h3
 |[a] =>
  rw[e,Iv]at hj;subst hj;have h0:47∉cl a:=hf a (by rw[e];exact List.mem_singleton_self a);rcases l8 a with⟨h1,_⟩|⟨p,q,h1,h2,h3⟩
  .exact .inl ⟨rfl,h1,h0⟩
  .exact absurd (by rw[h3];simp) h0
 |[a,b] =>
  rw[e,Iu]at hj;have ha:47∉cl a:=hf a (by rw[e];simp);have hb:47∉cl b:=hf b (by rw[e];simp);have hx:cl x=cl a++47::cl b:=by
   rw[←hj,ib,ib,Rx];rfl
  rcases l8 x with⟨_,h2⟩|⟨p,q,h1,h2,h3⟩
  .exact absurd (by rw[hx];simp) h2
  .obtain⟨e1,e2⟩:=kO (hx.symm.trans h3) ha h2
   have e1:=ia e1;have e2:=ia e2;subst e1 e2;exact .inr (.inl ⟨a,b,rfl,h1,ha,hb,hx⟩)
 |a::b::c::r=>
  rw[e,Dc]at hj;have ha:47∉cl a:=hf a (by rw[e];simp);have hx:cl x=cl a++47::cl (SQ bZ (b::c::r)):=by
   rw[←hj,ib,ib,Rx];rfl
  rcases l8 x with⟨_,h2⟩|⟨p,q,h1,h2,h3⟩
  .exact absurd (by rw[hx];simp) h2
  .obtain⟨e1,e2⟩:=kO (hx.symm.trans h3) ha h2
   refine .inr (.inr ⟨by simp,p,q,h1,?_⟩);rw[←e2,Dc,ib,ib];simp
end Tex
namespace K74
open PySem PySem.NumText L2 DL Com Tex
def lH(c:Nat):Bool:=Ik ⟨#[c]⟩ "0123456789"
def v5{c:Nat}:lH c=true↔(48<=c/\c<=57):=by
 have key:lH c=true↔c∈cl "0123456789":=by
  rw[Uu];unfold lH Ik;rcases StrLaws.occ_head ("0123456789" : Pj) ⟨#[c]⟩ 1 (P9 1) with⟨h0,hn⟩|⟨i,r,h0,hi,_⟩
  .rw[h0]
   exact⟨λz=>(by cases z),λ⟨i,hi⟩=>absurd hi (hn i)⟩
  .rw[h0]
   exact⟨λ_=>⟨i,hi⟩,λ_=>rfl⟩
 rw[key,show cl "0123456789"=[48,49,50,51,52,53,54,55,56,57] by decide];simp only[PL,QT,or_false];omega
def IM{cs:ci}:cs.all lH=true↔AllDigits cs:=by
 rw[Qf];exact⟨λh c hc=>v5.mp (h c hc),λh c hc=>v5.mpr (h c hc)⟩
theorem Eg{b:Ev}(hb:b=[.no]):∀(cs:ci),bX b (eC 0) mYes (aa (ae 0) (dC (.str "0123456789")) wU) (cs.map λc=>D.str ⟨#[c]⟩)=.ok (cs.map λc=>D.bl (lH c))
 |[]=>rfl
 |c::r=>by
  subst hb;rw[Qr,gR (x:=.bl (lH c)) rfl rfl rfl,Eg rfl r];rfl
def pB(z:Pj):c8 z=(cl z).map λc=>D.str ⟨#[c]⟩:=rfl
def neg(z:Pj):Bool:=(cl z).head?==some 45
def Ac{z:Pj}:Se z "-"=neg z:=by
 have h:=StrLaws.subAt_one z 45 0;have e:(("-" : Pj))=⟨#[45]⟩:=by decide
 rw[e];have k:Se z ⟨#[45]⟩=true↔neg z=true:=by
  unfold neg;rw[beq_iff_eq,List.head?_eq_getElem?,←h];show(decide (0+1<=z.length)&&Builtin.Str.subAt z ⟨#[45]⟩ 0)=true↔_;rw[Pr,decide_eq_true_eq];exact T3
 cases a:Se z ⟨#[45]⟩<;>cases b:neg z<;>simp_all
def wB{z:Pj}{i:Nat}(h:i<=z.length):cl (Ql z (some (i:Int)) none)=(cl z).drop i:=by
 have:=StrLaws.sliceText_from (x:=z) (i:=(i:Int)) ⟨by omega,by show(i:Int)<=(z.cps.toList.length:Int);rw[Rl];exact Int.ofNat_le.mpr h⟩;have e:Ql z (some (i:Int)) none=_:=this;rw[e];show List.take (((cl z).length:Int)-(i:Int)).toNat (List.drop (i:Int).toNat (cl z))=_;rw[SW (by rw[Sq];omega),Ry]
def zN{z:Pj}:cl (Ql z none (some 1))=(cl z).take 1:=by
 by_cases h:1<=z.length
 .have:=U0 (x:=z) (j:=1) ⟨by omega,by show(1:Int)<=(z.cps.toList.length:Int);rw[Rl];exact Int.ofNat_le.mpr h⟩
  have e:Ql z none (some 1)=_:=this;rw[e];simp
 .have hz:z=Sn:=ia (by
   have:(cl z).length=0:=by show z.cps.toList.length=0;rw[Rl];have:z.length=z.cps.size:=rfl;omega
   rw[Q3.mp this];rfl)
  subst hz;rfl
def F1{z:Pj}:cQ (.str (Ql z none (some 1))) (.str "-")=.ok (.bl (neg z)):=by
 have e:cQ (.str (Ql z none (some 1))) (.str "-")=.ok (.bl (cC (.str (Ql z none (some 1))) (.str "-"))):=if_pos ⟨rfl,rfl⟩;rw[e]
 congr 2
 have k:cC (.str (Ql z none (some 1))) (.str "-")=true↔neg z=true:=by
  rw[cC];unfold neg;rw[beq_iff_eq,beq_iff_eq];constructor
  .intro h
   have:=congrArg cl h;rw[zN]at this;cases q:cl z with
   |nil=>rw[q]at this;exact absurd this (by decide)
   |cons c cs=>
    rw[q]at this;have t:[c]=[45]:=this;injection t with t _;rw[t];rfl
  .intro h
   apply ia;rw[zN];cases q:cl z with
   |nil=>rw[q]at h;cases h
   |cons c cs=>
    rw[q]at h;have t:some c=some 45:=h;injection t with t;rw[t];rfl
 cases a:cC (.str (Ql z none (some 1))) (.str "-")<;>cases b:neg z<;>simp_all
def cK{z:Pj}:(cl z).length=z.length:=by show z.cps.toList.length=z.length;rw[Rl];rfl
def bU{a b:Pj}:cQ (.str a) (.str b)=.ok (.bl (decide (a=b))):=by
 have e:cQ (.str a) (.str b)=.ok (.bl (cC (.str a) (.str b))):=if_pos ⟨rfl,rfl⟩;rw[e,cC];rfl
def my{a b:Pj}:ir (.str a) (.str b)=.ok (.bl (!(decide (a=b)))):=by
 have e:ir (.str a) (.str b)=.ok (.bl (!(cC (.str a) (.str b)))):=if_pos ⟨rfl,rfl⟩;rw[e,cC];rfl
def len_str{z:Pj}(h:z.length<=100000):bz (.str z)=.ok (.int (z.length:Int)):=if_pos (PB h (by decide))
def fA(z:Pj):Pj:=if neg z=true then Ql z (some 1) none else z
def Dw{z:Pj}:cl (fA z)=if neg z=true then(cl z).drop 1 else cl z:=by
 unfold fA;cases h:neg z with
 |true=>
  rw[if_pos rfl,if_pos rfl];have:1<=z.length:=by
   rw[←cK];unfold neg at h;cases q:cl z with|nil=>rw[q]at h;cases h|cons c cs=>simp
  exact wB this
 |false=>rw[if_neg (by decide),if_neg (by decide)]
def zx{z:Pj}:(fA z).length<=z.length:=by
 rw[←cK,←cK,Dw];split
 .rw[Sq];omega
 .exact P9 _
def dN(z:Pj):Bool:=decide (1<=(fA z).length)&&(decide ((fA z).length<=60)&&(cl (fA z)).all lH)
def Ef{f:Pj}{A:Sl}(hf:f.length<=100000):eW 1 [] (tY (ae 1)) (eC 0) mYes (aa (ae 0) (dC (.str "0123456789")) wU) [A,.sh (.str f)]=.ok (.lst ((cl f).map λc=>.bl (lH c))):=by
 have hl:(c8 f).length<=line:=by rw[fY];exact PB hf (by decide)
 unfold eW;show(if(c8 f).length<=line then _ else _)=_;rw[if_pos hl,pB];have:=Eg (b:=dq 1 [] [A,.sh (.str f)]) rfl (cl f);rw[this]
def Lg{g:Nat->Bool}{cs:ci}:rM (.lst (cs.map λc=>.bl (g c)))=.ok (.bl (cs.all g)):=by
 have:e8 (cs.map λc=>D.bl (g c))=some (cs.map g):=iF g cs;show(match e8 (cs.map λc=>D.bl (g c)) with|some bs=>aj.ok (D.bl (bs.all id))|none=>.stuck)=_;rw[this];simp[SY,TF]
def Kh{z:Pj}(hz:z.length<=100000):m_has_figures [.str z]=.ok (.bl (dN z)):=by
 have hs:kU kK (ae 0) (dC (.str "-")) [.sh (.str z),.no]=.ok (.bl (neg z)):=by
  show kK z "-"=_;unfold kK;rw[Ac]
 have hf:=zx (z:=z);have hl:=len_str (z:=fA z) (by omega);have hc:=Ef (f:=fA z) (A:=.sh (.str z)) (by omega);have ha:=Lg (g:=lH) (cs:=cl (fA z));have hset:(HB (kU kK (ae 0) (dC (.str "-"))) (hZ (ae 0) (dG (dC (.int 1))) fu) (ae 0)) [.sh (.str z),.no]=.ok (.str (fA z)):=by
  unfold fA;cases h:neg z with
  |true=>
   rw[h]at hs;have sl:pw (.str z) (some 1) none=.ok (.str (Ql z (some 1) none)):=by
    show lB (.str z) (some 1) none=_;exact if_pos (PB hz (by decide))
   open_line with[hs,sl,if_true]
  |false=>
   rw[h]at hs;open_line with[hs,if_false,Tq]
 rw[DQ]at hset;rw[zD]at hc;unfold dN;generalize fA z=F at *
 by_cases h1:1<=F.length
 .by_cases h2:F.length<=60
  .have e1:decide ((1:Int)<=(F.length:Int))=true:=decide_eq_true (by omega)
   have e2:decide ((F.length:Int)<=60)=true:=decide_eq_true (by omega);rw[decide_eq_true h1,decide_eq_true h2];open_line with[m_has_figures,gj,hset,hl,e1,e2,hc,ha,Pt]
  .have e1:decide ((1:Int)<=(F.length:Int))=true:=decide_eq_true (by omega)
   have e2:decide ((F.length:Int)<=60)=false:=decide_eq_false (by omega);rw[decide_eq_true h1,decide_eq_false h2];open_line with[m_has_figures,gj,hset,hl,e1,e2,Pt,Pk]
 .have e1:decide ((1:Int)<=(F.length:Int))=false:=decide_eq_false (by omega)
  rw[decide_eq_false h1];open_line with[m_has_figures,gj,hset,hl,e1,Pk]
def CM:D->Bool
 |.str y=>!(Ik y "0123456789")
 |_=>false
def Dv{z:Pj}(h:z.length<=100000):∃bad:ac,jN 1 [] (eC 0) (aa (ae 0) (dC (.str "0123456789")) b5) (ae 0) [.sh (.str z)] (c8 z)=.ok (.lst bad)/\cQ (.lst bad) (.lst [])=.ok (.bl ((cl z).all lH)):=by
 refine⟨((c8 z).filter CM).map id,?_,?_⟩
 .refine nY (by rw[fY];have:z.length=z.cps.size:=rfl;omega) λd hd=>?_
  rw[pB]at hd;obtain⟨c,_,rfl⟩:=Qt.mp hd;exact⟨[.sh (.str ⟨#[c]⟩)],rfl,rfl,λ_=>rfl⟩
 .rw[TY]
  have hs:bg 40 (.lst ((c8 z).filter CM))=true:=Qf.mpr λd hd=>by
   have:=(S1.mp hd).1;rw[pB]at this;obtain⟨c,_,rfl⟩:=Qt.mp this;rfl
  have e:cQ (.lst ((c8 z).filter CM)) (.lst [])=.ok (.bl (cC (.lst ((c8 z).filter CM)) (.lst []))):=if_pos ⟨hs,rfl⟩;rw[e]
  congr 2
  have k:∀(cs:ci),cC (.lst ((cs.map λc=>D.str ⟨#[c]⟩).filter CM)) (.lst [])=cs.all lH:=by
   intro cs
   induction cs with
   |nil=>rw[cC];rfl
   |cons c r ih=>
    rw[Qr,R4];cases q:lH c with
    |true=>rw[SV (by show ¬(!(lH c))=true;rw[q];decide),ih];rfl
    |false=>
     rw[SU (by show(!(lH c))=true;rw[q];rfl),cC];rfl
  rw[pB];exact k _
def gN(z:Pj):Bool:=!(decide (z=""))&&(decide (z.length<=60)&&(!((cl z).head?==some 48&&!(decide (z="0")))&&(cl z).all lH))
def yJ{z:Pj}(h:z.length<=100000):tY (ae 0) [.sh (.str z)]=.ok (c8 z):=rfl
def zw{z:Pj}(h:z.length<=100000):bK [.str z]=.ok (.bl (gN z)):=by
 obtain⟨bad,hb,he⟩:=Dv h;have hsrc:=yJ h;have h1:=bU (a:=z) (b:="");have hl:=len_str h;have h2:=my (a:=z) (b:="0");unfold gN;cases e1:decide (z=("" : Pj)) with
 |true=>
  rw[e1]at h1;open_line with[bK,dM,h1,Pk]
 |false=>
  rw[e1]at h1
  by_cases c:z.length<=60
  .have e2:decide ((60:Int)<(z.length:Int))=false:=decide_eq_false (by omega)
   have g2:wV (.int (z.length:Int)) (.int 60)=.ok (.bl false):=by
    show aj.ok (D.bl (decide ((z.length:Int) > 60)))=_;rw[decide_eq_false (by omega)]
   cases q:cl z with
   |nil=>exact absurd (ia (a:=z) (b:="") (by rw[q];rfl)) (of_decide_eq_false e1)
   |cons d ds=>
    have hix:aG (.str z) (.int 0)=.ok (.str ⟨#[d]⟩):=by
     show(if z.length<=line then(match atI (cl z) 0 with|some c=>aj.ok (D.str ⟨#[c]⟩)|none=>.stuck) else .stuck)=_;rw[if_pos (PB h (by decide)),q,show atI (d::ds) 0=some d from bO (j:=0) rfl]
    have h3:=bU (a:=(⟨#[d]⟩:Pj)) (b:="0");have e3:decide ((⟨#[d]⟩:Pj)="0")=((d::ds).head?==some 48):=by
     rw[QJ,decide_eq_true_eq,beq_iff_eq];constructor
     .intro z;have:=congrArg cl z;have t:[d]=[48]:=this;injection t with t _;rw[t];rfl
     .intro z;have t:some d=some 48:=z;injection t with t;rw[t];decide
    rw[e3]at h3;rw[q]at he;rw[decide_eq_true c];cases e4:((d::ds).head?==some 48) with
    |false=>
     rw[e4]at h3;open_line with[bK,dM,h1,hl,g2,hix,h3,hsrc,hb,he,Pt,Pk]
    |true=>
     rw[e4]at h3;cases e5:decide (z=("0" : Pj)) with
     |true=>
      rw[e5]at h2;open_line with[bK,dM,h1,hl,g2,hix,h3,h2,hsrc,hb,he,Pt,Pk,PR]
     |false=>
      rw[e5]at h2;open_line with[bK,dM,h1,hl,g2,hix,h3,h2,Pt,Pk]
  .have g2:wV (.int (z.length:Int)) (.int 60)=.ok (.bl true):=by
    show aj.ok (D.bl (decide ((z.length:Int) > 60)))=_;rw[decide_eq_true (by omega)]
   rw[decide_eq_false c];open_line with[bK,dM,h1,hl,g2,Pt,Pk]
def ke{z:Pj}:gN z=true↔ku (cl z)/\z.length<=60:=by
 unfold gN;simp only[Pr,QU,decide_eq_true_eq,decide_eq_false_iff_not,IM,S6,Bool.not_eq_false',beq_eq_false_iff_ne];constructor
 .rintro⟨h1,h2,h3,h4⟩
  refine⟨⟨h4,λe=>h1 (ia (by rw[e];rfl)),λr e=>?_⟩,h2⟩;rcases h3 with h3|h3
  .exact absurd (by rw[e];rfl) h3
  .rw[h3]at e
   have t:[48]=48::r:=e;injection t with _ t;exact t.symm
 .rintro⟨h,h2⟩
  refine⟨λe=>h.n (by rw[e];rfl),h2,?_,h.d⟩
  by_cases q:(cl z).head?=some 48
  .refine .inr ?_
   cases w:cl z with
   |nil=>rw[w]at q;cases q
   |cons d r=>
    rw[w]at q;have t:some d=some 48:=q;injection t with t;subst t;have:=h.z r w;subst this;exact ia w
  .exact .inl q
def val(z:Pj):Int:=((digitsVal (cl z):Nat):Int)
def bE(z:Pj):Int:=if neg z=true then -(val (fA z)) else val (fA z)
def qj{z:Pj}(hd:AllDigits (cl z))(hn:cl z≠[])(hl:z.length<=60):dk (.str z)=.ok (.int (val z)):=by
 have h:=intText_digits hd hn (by omega);show(if z.length<=640 then(match RA z with|some n=>aj.ok (D.int n)|none=>.stuck) else .stuck)=_;rw[if_pos (by omega)];have h':RA z=some (val z):=h;rw[h']
def CT{z:Pj}(h:neg z=true):cl z=45::cl (fA z):=by
 rw[Dw,if_pos h];unfold neg at h;cases q:cl z with
 |nil=>rw[q]at h;cases h
 |cons c cs=>
  rw[q]at h;have t:some c=some 45:=beq_iff_eq.mp h;injection t with t;rw[t];rfl
def kH{z:Pj}(h:neg z=false):fA z=z:=by unfold fA;rw[h];rfl
def i6{z:Pj}:dN z=true↔AllDigits (cl (fA z))/\cl (fA z)≠[]/\(fA z).length<=60:=by
 unfold dN;rw[Pr,Pr,decide_eq_true_eq,decide_eq_true_eq,IM];constructor
 .rintro⟨h1,h2,h3⟩
  exact⟨h3,λe=>by rw[←cK,e]at h1;simp at h1,h2⟩
 .rintro⟨h1,h2,h3⟩
  refine⟨?_,h3,h1⟩;rw[←cK];cases q:cl (fA z) with|nil=>exact absurd q h2|cons c cs=>simp
def uF{z:Pj}(h:dN z=true):dk (.str z)=.ok (.int (bE z)):=by
 obtain⟨h1,h2,h3⟩:=i6.mp h;unfold bE;cases q:neg z with
 |false=>
  rw[kH q]at h1 h2 h3 ⊢;exact qj h1 h2 h3
 |true=>
  have e:=CT q;have hl:z.length<=61:=by
   rw[←cK,e,PU,cK];omega
  have k:RA z=some (-(val (fA z))):=intText_neg e h1 h2 (by omega);show(if z.length<=640 then(match RA z with|some n=>aj.ok (D.int n)|none=>.stuck) else .stuck)=_;rw[if_pos (by omega),k];rfl
def Jg{z:Pj}:0<=val z:=SG _
def Je{z:Pj}:wr (val z)=uY (digitsVal (cl z)):=by
 unfold wr val;rw[if_neg (by omega)];rfl
def tT{z:Pj}(h:dN z=true):wr (bE z)=cl z↔(ku (cl (fA z))/\z≠"-0"):=by
 obtain⟨h1,h2,h3⟩:=i6.mp h;unfold bE;cases q:neg z with
 |false=>
  rw[kH q]at *;rw[if_neg (by decide),Je];constructor
  .intro e
   refine⟨?_,λe2=>by rw[e2]at q;exact absurd q (by decide)⟩;rw[←e];exact sW _
  .rintro⟨c,_⟩
   exact lP c
 |true=>
  have e:=CT q;rw[if_pos rfl,e];have z0:z="-0"↔cl (fA z)=[48]:=by
   constructor
   .intro t
    have:cl z=[45,48]:=by rw[t];decide
    rw[e]at this;injection this
   .intro t
    exact ia (by rw[e,t];decide)
  by_cases hp:digitsVal (cl (fA z))=0
  .have hv:-(val (fA z))=0:=by unfold val;rw[hp];rfl
   rw[hv];constructor
   .intro t
    have t2:[48]=45::cl (fA z):=by
     have:wr 0=[48]:=by decide
     rw[←this];exact t
    injection t2 with t3 _;exact absurd t3 (by decide)
   .rintro⟨c,nz⟩
    have:=lP c;rw[hp]at this;exact absurd (z0.mpr (by rw[←this];decide)) nz
  .have hneg:-(val (fA z))<0:=by unfold val;omega
   have hab:(-(val (fA z))).natAbs=digitsVal (cl (fA z)):=by unfold val;omega
   have hw:wr (-(val (fA z)))=45::uY (digitsVal (cl (fA z))):=by unfold wr;rw[if_pos hneg,hab]
   rw[hw];constructor
   .intro t
    injection t with _ t;refine⟨by rw[←t];exact sW _,λt2=>?_⟩;have:=z0.mp t2;rw[this]at hp;exact hp (by decide)
   .rintro⟨c,_⟩
    rw[lP c]
def HX{n:Int}:47∉wr n:=by
 unfold wr;intro h;split at h
 .rcases PL.mp h with h|h
  .exact absurd h (by decide)
  .have:=lM _ _ h;omega
 .have:=lM _ _ h;omega
def k9(p q:Int):Pj:=if q=1 then Qz (toString p) else Qz (toString p)++("/" : Pj)++Qz (toString q)
def B3{n:Int}(h:n.natAbs<10 ^ 130):jy (.int n)=.ok (.str (Qz (toString n))):=by
 show(if n.natAbs.log2<1920 then aj.ok (D.str (toString n)) else .stuck)=_;refine if_pos ?_
 by_cases h0:n.natAbs=0
 .rw[h0];decide
 .exact(Nat.log2_lt h0).mpr (Py h (by decide))
theorem zL:∀(k m:Nat),m<10 ^ k->(uY m).length<=k+1
 |0,m,h=>by rw[kj (by omega)];simp
 |k+1,m,h=>by
  by_cases c:m<10
  .rw[kj c];simp
  .rw[qB (by omega),P1]
   have:=zL k (m / 10) (by rw[Nat.pow_succ]at h;omega);simp only[PU,RL];omega
def oH{n:Int}{k:Nat}(h:n.natAbs<10 ^ k):(Qz (toString n)).length<=k+2:=by
 rw[←cK];show(Qz (toString n)).cps.toList.length<=_;rw[oG];unfold wr;have:=zL k n.natAbs h;split
 .rw[PU];omega
 .omega
def pA{p q:Int}(hp:p.natAbs<10 ^ 130)(hq:q.natAbs<10 ^ 130):m_shown_ratio [.tup [.int p,.int q]]=.ok (.str (k9 p q)):=by
 have s1:=B3 hp;have s2:=B3 hq;have l1:=oH hp;have l2:=oH hq;unfold k9
 by_cases c:q=1
 .subst c
  rw[if_pos rfl];open_line with[m_shown_ratio,iN,s1]
 .rw[if_neg c]
  have e:(q==1)=false:=beq_eq_false_iff_ne.mpr c;have a1:bf (.str (Qz (toString p))) (.str "/")=.ok (.str (Qz (toString p)++("/" : Pj))):=eA (decide_eq_true (by have:("/" : Pj).length=1:=rfl;omega));have a2:bf (.str (Qz (toString p)++("/" : Pj))) (.str (Qz (toString q)))=.ok (.str (Qz (toString p)++("/" : Pj)++Qz (toString q))):=eA (decide_eq_true (by rw[Sf];have:("/" : Pj).length=1:=rfl;omega));generalize Qz (toString p)=P at *;generalize Qz (toString q)=R at *;open_line with[m_shown_ratio,iN,e,s1,s2,a1,a2]
def w6{p q:Int}:cb [.tup [.int p,.int q]]=m_shown_ratio [.tup [.int p,.int q]]:=rfl
def o8{p q:Int}:cl (k9 p q)=if q=1 then wr p else wr p++47::wr q:=by
 unfold k9;split
 .exact oG p
 .rw[ib,ib,Rx]
  show cl (Qz (toString p))++([47]++cl (Qz (toString q)))=_;rw[show cl (Qz (toString p))=wr p from oG p,show cl (Qz (toString q))=wr q from oG q];rfl
def Ed{z:Pj}:Ql z (some 0) none=z:=ia (wB (i:=0) (S8 _))
def yM{z:Pj}{l h:Option Int}(hz:z.length<=100000):pw (.str z) l h=.ok (.str (Ql z l h)):=by
 show lB (.str z) l h=_;exact if_pos (PB hz (by decide))
def AY(a st b:Pj):D:=if gN (fA a)=false∨a="-0" then .non else if st="" then .tup [.int (bE a),.int 1] else if gN b=false∨val b<2∨Qn (bE a) (val b)≠1 then .non else .tup [.int (bE a),.int (val b)]
def mv{z:Pj}(h:gN z=true):dk (.str z)=.ok (.int (val z)):=by
 obtain⟨c,hl⟩:=ke.mp h;exact qj c.d c.n hl
def kI{z a st b:Pj}(hz:z.length<=100000)(ha:a.length<=100000)(hb:b.length<=100000)(hp:Qu z bZ=(a,st,b)):aE [.str z]=.ok (AY a st b):=by
 have h1:kU sI (ae 0) (dC (.str "/")) [.sh (.str z),.no,.no,.no,.no,.no]=.ok (.tup [.str a,.str st,.str b]):=by
  show sI z "/"=_;unfold sI;rw[kD,if_pos ⟨rfl,by omega⟩,hp]
 have h3:=zw (z:=fA a) (PB zx ha);have h4:=bU (a:=a) (b:="-0");have h5:=bU (a:=st) (b:="");have h6:=zw hb;have s1:=yM (l:=none) (h:=some 1) ha;have hn:=F1 (z:=a);have iv:(if neg a=true then(0:Int)-val (fA a) else val (fA a))=bE a:=by unfold bE;split<;>omega
 have hg:∀x:Int,cc [.int x,.int (val b)]=.ok (.int (Qn x (val b))):=λx=>qw x (val b);unfold AY;cases q:neg a with
 |true=>
  rw[q]at hn iv;have i1:dk (.bl true)=.ok (.int 1):=rfl;rw[if_pos rfl]at iv;have s2:pw (.str a) (some 1) none=.ok (.str (fA a)):=by
   rw[yM ha];unfold fA;rw[if_pos q]
  generalize fA a=FA at *;rw[←iv];cases e1:gN FA with
  |false=>
   rw[e1]at h3;rw[if_pos (.inl rfl)];open_line with[aE,bo,h1,s1,hn,i1,s2,h3]
  |true=>
   rw[e1]at h3;have h7:=mv e1
   by_cases c1:a="-0"
   .rw[decide_eq_true c1]at h4
    rw[if_pos (.inr c1)];open_line with[aE,bo,h1,s1,hn,i1,s2,h3,h4]
   .rw[decide_eq_false c1]at h4
    rw[if_neg (by simp[c1])]
    by_cases c2:st=""
    .rw[decide_eq_true c2]at h5
     rw[if_pos c2];open_line with[aE,bo,h1,s1,hn,i1,s2,h3,h4,h7,h5]
    .rw[decide_eq_false c2]at h5
     rw[if_neg c2];cases e2:gN b with
     |false=>
      rw[e2]at h6;rw[if_pos (.inl rfl)];open_line with[aE,bo,h1,s1,hn,i1,s2,h3,h4,h7,h5,h6]
     |true=>
      rw[e2]at h6;have h8:=mv e2
      by_cases c3:val b<2
      .rw[if_pos (.inr (.inl c3))]
       have e3:decide (val b<2)=true:=decide_eq_true c3;open_line with[aE,bo,h1,s1,hn,i1,s2,h3,h4,h7,h5,h6,h8,e3]
      .have e3:decide (val b<2)=false:=decide_eq_false c3
       by_cases c4:Qn (0-val FA) (val b)=1
       .rw[if_neg (λt=>t.elim (λz=>by cases z) λt=>t.elim c3 λt=>t c4)]
        have e4:(((Qn (0-val FA) (val b):Nat):Int)==1)=true:=by rw[c4];rfl
        open_line with[aE,bo,h1,s1,hn,i1,s2,h3,h4,h7,h5,h6,h8,e3,hg,e4]
       .rw[if_pos (.inr (.inr c4))]
        have e4:(((Qn (0-val FA) (val b):Nat):Int)==1)=false:=by rw[beq_eq_false_iff_ne];omega
        open_line with[aE,bo,h1,s1,hn,i1,s2,h3,h4,h7,h5,h6,h8,e3,hg,e4]
 |false=>
  rw[q]at hn iv;have i1:dk (.bl false)=.ok (.int 0):=rfl;rw[if_neg (by decide)]at iv;have s2:pw (.str a) (some 0) none=.ok (.str (fA a)):=by
   rw[yM ha,Ed];unfold fA;rw[if_neg (by rw[q];decide)]
  generalize fA a=FA at *;rw[←iv];cases e1:gN FA with
  |false=>
   rw[e1]at h3;rw[if_pos (.inl rfl)];open_line with[aE,bo,h1,s1,hn,i1,s2,h3]
  |true=>
   rw[e1]at h3;have h7:=mv e1
   by_cases c1:a="-0"
   .rw[decide_eq_true c1]at h4
    rw[if_pos (.inr c1)];open_line with[aE,bo,h1,s1,hn,i1,s2,h3,h4]
   .rw[decide_eq_false c1]at h4
    rw[if_neg (by simp[c1])]
    by_cases c2:st=""
    .rw[decide_eq_true c2]at h5
     rw[if_pos c2];open_line with[aE,bo,h1,s1,hn,i1,s2,h3,h4,h7,h5]
    .rw[decide_eq_false c2]at h5
     rw[if_neg c2];cases e2:gN b with
     |false=>
      rw[e2]at h6;rw[if_pos (.inl rfl)];open_line with[aE,bo,h1,s1,hn,i1,s2,h3,h4,h7,h5,h6]
     |true=>
      rw[e2]at h6;have h8:=mv e2
      by_cases c3:val b<2
      .rw[if_pos (.inr (.inl c3))]
       have e3:decide (val b<2)=true:=decide_eq_true c3;open_line with[aE,bo,h1,s1,hn,i1,s2,h3,h4,h7,h5,h6,h8,e3]
      .have e3:decide (val b<2)=false:=decide_eq_false c3
       by_cases c4:Qn (val FA) (val b)=1
       .rw[if_neg (λt=>t.elim (λz=>by cases z) λt=>t.elim c3 λt=>t c4)]
        have e4:(((Qn (val FA) (val b):Nat):Int)==1)=true:=by rw[c4];rfl
        open_line with[aE,bo,h1,s1,hn,i1,s2,h3,h4,h7,h5,h6,h8,e3,hg,e4]
       .rw[if_pos (.inr (.inr c4))]
        have e4:(((Qn (val FA) (val b):Nat):Int)==1)=false:=by rw[beq_eq_false_iff_ne];omega
        open_line with[aE,bo,h1,s1,hn,i1,s2,h3,h4,h7,h5,h6,h8,e3,hg,e4]
abbrev NT:IU:=⟨"NoText",[("row",.int 0)]⟩
def Lf{α:Type}{g:α->Bool}{cs:List α}:rM (.lst (cs.map λc=>.bl (g c)))=.ok (.bl (cs.all g)):=by
 have:e8 (cs.map λc=>D.bl (g c))=some (cs.map g):=iF g cs;show(match e8 (cs.map λc=>D.bl (g c)) with|some bs=>aj.ok (D.bl (bs.all id))|none=>.stuck)=_;rw[this];simp[SY,TF]
def qG{ps:bv}{ρ:Ev}(hl:ps.length<=100000)(h:∀y∈ps,y.length<=100000):jN 1 [] (eC 0) mYes (ak (ag (ae 0) av) m_has_figures) ρ (ps.map D.str)=.ok (.lst (ps.map λy=>.bl (dN y))):=by
 rw[qF (F:=λd=>match d with|.str y=>.bl (dN y)|d=>d) (by rw[Ph];omega)]
 .rw[RJ];rfl
 .intro d hd
  obtain⟨y,hy,rfl⟩:=Qt.mp hd;have:=Kh (h y hy);refine⟨[.sh (.str y)],rfl,rfl,?_⟩;open_line with[this]
def BM:∀{ds:ci},AllDigits ds->digitsVal ds<10 ^ ds.length:=by
 have key:∀(n:Nat) (ds:ci),ds.length=n->AllDigits ds->digitsVal ds<10 ^ ds.length:=by
  intro n
  induction n with
  |zero=>intro ds hl _;rw[Q3.mp hl];decide
  |succ n ih=>
   intro ds hl hd;rcases S4 ds with rfl|⟨es,c,rfl⟩
   .simp at hl
   .rw[S5]at *
    have hc:=hd c (by simp);have h1:=ih es (by simpa using hl) (λx hx=>hd x (RQ _ hx));rw[pb,P1];show _<10 ^ (es.length+1);rw[Nat.pow_succ];omega
 intro ds hd;exact key _ _ rfl hd
def uE{z:Pj}(h:dN z=true):(bE z).natAbs<10 ^ 130:=by
 obtain⟨h1,_,h3⟩:=i6.mp h;have hv:=BM h1;rw[cK]at hv;have h60:10 ^ (fA z).length<=10 ^ 60:=Rg (by decide) h3;have h130:(10:Nat) ^ 60<10 ^ 130:=by decide
 unfold bE val;split<;>omega
def kF{z:Pj}{ps:bv}(hz:z.length<=100000)(hs:QO z bZ=ps)(hn:ps.length<=100000)(hp:∀y∈ps,y.length<=100000)(h:ps.length=0∨3<=ps.length∨ps.all dN=false):m_read_ratio [.str z]=.exn NT:=by
 have h1:kU bN (ae 0) (dC (.str "/")) [.sh (.str z),.no,.no]=.ok (.lst (ps.map D.str)):=by
  show bN z "/"=_;unfold bN;rw[kD,if_pos ⟨rfl,by omega⟩,hs]
 have hc:=qG (ρ:=[.sh (.str z),.sh (.lst (ps.map D.str)),.no]) hn hp;have ha:=Lf (g:=dN) (cs:=ps);have hl:(ps.map D.str).length=ps.length:=Ph _;generalize ps.map D.str=P at *;generalize (ps.map λy=>D.bl (dN y))=B at *
 by_cases c1:1<=ps.length
 .have e1:decide ((1:Int)<=(P.length:Int))=true:=decide_eq_true (by omega)
  by_cases c2:ps.length<=2
  .have e2:decide ((P.length:Int)<=2)=true:=decide_eq_true (by omega)
   have e3:ps.all dN=false:=by rcases h with h|h|h<;>first|omega|exact h
   rw[e3]at ha;open_line with[m_read_ratio,cR,h1,e1,e2,hc,ha,gQ,f9,iL]
  .have e2:decide ((P.length:Int)<=2)=false:=decide_eq_false (by omega)
   open_line with[m_read_ratio,cR,h1,e1,e2,gQ,f9,iL]
 .have e1:decide ((1:Int)<=(P.length:Int))=false:=decide_eq_false (by omega)
  open_line with[m_read_ratio,cR,h1,e1,gQ,f9,iL]
def vv{z:Pj}(hz:z.length<=100000)(hs:QO z bZ=[z])(hh:dN z=true):m_read_ratio [.str z]=if k9 (bE z) 1=z then .ok (.tup [.int (bE z),.int 1]) else .exn NT:=by
 have h1:kU bN (ae 0) (dC (.str "/")) [.sh (.str z),.no,.no]=.ok (.lst [.str z]):=by
  show bN z "/"=_;unfold bN;rw[kD,if_pos ⟨rfl,by omega⟩,hs];rfl
 have hc:=qG (ps:=[z]) (ρ:=[.sh (.str z),.sh (.lst [.str z]),.no]) (by simp) (λy hy=>by rw[Qd.mp hy];exact hz);rw[show([z].map D.str)=[.str z] from rfl,show([z].map λy=>D.bl (dN y))=[.bl (dN z)] from rfl,hh]at hc;have ha:rM (.lst [.bl true])=.ok (.bl true):=rfl;have hi:=uF hh;have hr:=dU (.tup [.int (bE z),.int 1]);rw[show dB (.tup [.int (bE z),.int 1])=true by show(decide ((1:Int)<=1)&&(Qn (bE z) 1==1))=true;rw[Int.gcd_one_right];rfl]at hr;have hw:=pA (p:=bE z) (q:=1) (uE hh) (by decide);have hne:=my (a:=k9 (bE z) 1) (b:=z);generalize bE z=p at *;generalize k9 p 1=w at *
 by_cases c:w=z
 .rw[decide_eq_true c]at hne
  rw[if_pos c];open_line with[m_read_ratio,cR,h1,hc,ha,hi,hr,hw,hne]
 .rw[decide_eq_false c]at hne
  rw[if_neg c];open_line with[m_read_ratio,cR,h1,hc,ha,hi,hr,hw,hne,gQ,f9,iL]
def vt{z p q:Pj}(hz:z.length<=100000)(hp:p.length<=100000)(hq:q.length<=100000)(hs:QO z bZ=[p,q])(h1p:dN p=true)(h1q:dN q=true):m_read_ratio [.str z]=if(dB (.tup [.int (bE p),.int (bE q)])=true)/\k9 (bE p) (bE q)=z then .ok (.tup [.int (bE p),.int (bE q)]) else .exn NT:=by
 have h1:kU bN (ae 0) (dC (.str "/")) [.sh (.str z),.no,.no]=.ok (.lst [.str p,.str q]):=by
  show bN z "/"=_;unfold bN;rw[kD,if_pos ⟨rfl,by omega⟩,hs];rfl
 have hc:=qG (ps:=[p,q]) (ρ:=[.sh (.str z),.sh (.lst [.str p,.str q]),.no]) (by simp) (λy hy=>by
  rcases PL.mp hy with rfl|hy
  .exact hp
  .rw[Qd.mp hy];exact hq)
 rw[show([p,q].map D.str)=[.str p,.str q] from rfl,show([p,q].map λy=>D.bl (dN y))=[.bl (dN p),.bl (dN q)] from rfl,h1p,h1q]at hc;have ha:rM (.lst [.bl true,.bl true])=.ok (.bl true):=rfl;have hi:=uF h1p;have hj:=uF h1q;have hr:=dU (.tup [.int (bE p),.int (bE q)]);have hw:=pA (p:=bE p) (q:=bE q) (uE h1p) (uE h1q);have hne:=my (a:=k9 (bE p) (bE q)) (b:=z);generalize dB (.tup [.int (bE p),.int (bE q)])=R at *;generalize k9 (bE p) (bE q)=w at *;generalize bE p=P at *;generalize bE q=S at *;cases R with
 |false=>
  rw[if_neg (λt=>by cases t.1)];open_line with[m_read_ratio,cR,h1,hc,ha,hi,hj,hr,gQ,f9,iL]
 |true=>
  by_cases c:w=z
  .rw[decide_eq_true c]at hne
   rw[if_pos ⟨rfl,c⟩];open_line with[m_read_ratio,cR,h1,hc,ha,hi,hj,hr,hw,hne]
  .rw[decide_eq_false c]at hne
   rw[if_neg (λt=>c t.2)];open_line with[m_read_ratio,cR,h1,hc,ha,hi,hj,hr,hw,hne,gQ,f9,iL]
def g8{z:Pj}:gN (fA z)=true↔(dN z=true/\ku (cl (fA z))):=by
 rw[ke,i6];exact⟨λ⟨c,l⟩=>⟨⟨c.d,c.n,l⟩,c⟩,λ⟨⟨_,_,l⟩,c⟩=>⟨c,l⟩⟩
def qz{z:Pj}(h:AllDigits (cl z)):neg z=false:=by
 unfold neg;cases q:cl z with
 |nil=>rfl
 |cons c cs=>
  rw[q]at h;have:=h.head;rw[beq_eq_false_iff_ne];intro t;have t:some c=some 45:=t;injection t with t;omega
def N6{z:Pj}(hz:z.length<=90000):(∃p q:Int,aE [.str z]=.ok (.tup [.int p,.int q])/\m_read_ratio [.str z]=.ok (.tup [.int p,.int q]))∨(aE [.str z]=.ok .non/\m_read_ratio [.str z]=.exn NT):=by
 have hzl:z.length<=100000:=by omega
 rcases vi z with⟨hs,hp,hno⟩|⟨p,q,hs,hp,hpn,hqn,hx⟩|⟨h3,p,q,hp,hq⟩
 .have hn:=kI hzl hzl (by decide) hp
  unfold AY at hn;cases hh:dN z with
  |false=>
   have:gN (fA z)=false:=by
    cases t:gN (fA z) with|false=>rfl|true=>rw[(g8.mp t).1]at hh;cases hh
   rw[if_pos (.inl this)]at hn;exact .inr ⟨hn,kF hzl hs (by simp) (λy hy=>by rw[Qd.mp hy];exact hzl) (.inr (.inr (by show(dN z&&true)=false;rw[hh];rfl)))⟩
  |true=>
   have hr:=vv hzl hs hh;have hw:(k9 (bE z) 1=z)↔(ku (cl (fA z))/\z≠"-0"):=by
    rw[←tT hh];constructor
    .intro t;have:=congrArg cl t;rw[o8,if_pos rfl]at this;exact this
    .intro t;exact ia (by rw[o8,if_pos rfl];exact t)
   by_cases c:ku (cl (fA z))/\z≠"-0"
   .rw[if_pos (hw.mpr c)]at hr
    rw[if_neg (by rw[g8.mpr ⟨hh,c.1⟩];exact λt=>t.elim (λt=>by cases t) c.2),if_pos (show(Sn:Pj)="" by decide)]at hn;exact .inl ⟨_,_,hn,hr⟩
   .rw[if_neg (λt=>c (hw.mp t))]at hr
    rw[if_pos (by
     by_cases c2:z="-0"
     .exact .inr c2
     .refine .inl ?_
      cases t:gN (fA z) with
      |false=>rfl
      |true=>exact absurd ⟨(g8.mp t).2,c2⟩ c)]at hn
    exact .inr ⟨hn,hr⟩
 .have hpl:p.length<=100000:=by rw[←cK];have:=congrArg RT hx;rw[cK,P1]at this;omega
  have hql:q.length<=100000:=by rw[←cK];have:=congrArg RT hx;rw[cK,P1,PU]at this;omega
  have hn:=kI hzl hpl hql hp;unfold AY at hn;have st:¬((bZ:Pj)=""):=by decide
  by_cases hh:dN p=true/\dN q=true
  .obtain⟨h1,h2⟩:=hh
   have hr:=vt hzl hpl hql hs h1 h2;have hw:(bE q≠1->(k9 (bE p) (bE q)=z↔((ku (cl (fA p))/\p≠"-0")/\(ku (cl (fA q))/\q≠"-0")))):=λn1=>by
    rw[←tT h1,←tT h2];constructor
    .intro t
     have:=congrArg cl t;rw[o8,if_neg n1,hx]at this;exact kO this HX hpn
    .rintro⟨t1,t2⟩
     exact ia (by rw[o8,if_neg n1,hx,t1,t2])
   have hw1:bE q=1->k9 (bE p) (bE q)≠z:=λn1 t=>by
    have:=congrArg cl t;rw[o8,if_pos n1,hx]at this;exact HX (n:=bE p) (by rw[this];simp)
   by_cases cA:gN (fA p)=false∨p="-0"
   .rw[if_pos cA]at hn
    refine .inr ⟨hn,?_⟩;rw[hr,if_neg];rintro⟨_,t⟩
    by_cases n1:bE q=1
    .exact hw1 n1 t
    .obtain⟨⟨k1,k2⟩,_⟩:=(hw n1).mp t
     rcases cA with cA|cA
     .rw[g8.mpr ⟨h1,k1⟩]at cA;cases cA
     .exact k2 cA
   .rw[if_neg cA,if_neg st]at hn
    have cp:ku (cl (fA p))/\p≠"-0":=by
     refine⟨?_,λt=>cA (.inr t)⟩;cases t:gN (fA p) with|false=>exact absurd (.inl t) cA|true=>exact(g8.mp t).2
    cases fq:gN q with
    |false=>
     rw[if_pos (.inl fq)]at hn;refine .inr ⟨hn,?_⟩;rw[hr,if_neg];rintro⟨t0,t⟩;have t1:1<=bE q:=by
      have:(decide ((1:Int)<=bE q)&&(Qn (bE p) (bE q)==1))=true:=t0;rw[Pr,decide_eq_true_eq]at this;exact this.1
     have ng:neg q=false:=by
      cases w:neg q with|false=>rfl|true=>unfold bE at t1;rw[if_pos w]at t1;have:=Jg (z:=fA q);omega
     by_cases n1:bE q=1
     .exact hw1 n1 t
     .have:=((hw n1).mp t).2.1
      have g:=g8.mpr ⟨h2,this⟩;rw[kH ng,fq]at g;cases g
    |true=>
     obtain⟨cq,lq⟩:=ke.mp fq;have ng:=qz cq.d;have iq:bE q=val q:=by unfold bE;rw[ng,kH ng];rfl
     rw[fq]at hn
     by_cases c3:val q<2∨Qn (bE p) (val q)≠1
     .rw[if_pos (.inr c3)]at hn
      refine .inr ⟨hn,?_⟩;rw[hr,if_neg];rintro⟨t0,t⟩;have:(decide ((1:Int)<=bE q)&&(Qn (bE p) (bE q)==1))=true:=t0;rw[Pr,decide_eq_true_eq,beq_iff_eq]at this
      by_cases n1:bE q=1
      .exact hw1 n1 t
      .rcases c3 with c3|c3
       .omega
       .exact c3 (by rw[←iq];exact this.2)
     .have c4:¬val q<2:=λt=>c3 (.inl t)
      have c5:Qn (bE p) (val q)=1:=Uh λt=>c3 (.inr t);rw[if_neg (λt=>t.elim (λt=>by cases t) c3)]at hn;refine .inl ⟨_,_,hn,?_⟩;have n1:bE q≠1:=by omega
      rw[hr,if_pos ⟨by show(decide ((1:Int)<=bE q)&&(Qn (bE p) (bE q)==1))=true;rw[iq,c5,decide_eq_true (by omega)];rfl,(hw n1).mpr ⟨cp,by rw[kH ng];exact cq,λt=>by rw[t]at ng;exact absurd ng (by decide)⟩⟩,iq]
  .refine .inr ⟨?_,kF hzl hs (by simp) (λy hy=>?_) (.inr (.inr ?_))⟩
   .rw[hn]
    by_cases cA:gN (fA p)=false∨p="-0"
    .rw[if_pos cA]
    .rw[if_neg cA,if_neg st,if_pos]
     left;cases fq:gN q with
     |false=>rfl
     |true=>
      obtain⟨cq,lq⟩:=ke.mp fq;have ng:=qz cq.d;have h2:dN q=true:=i6.mpr (by rw[kH ng];exact⟨cq.d,cq.n,lq⟩);have h1:dN p=true:=by
       cases t:gN (fA p) with|false=>exact absurd (.inl t) cA|true=>exact(g8.mp t).1
      exact absurd ⟨h1,h2⟩ hh
   .rcases PL.mp hy with rfl|hy
    .exact hpl
    .rw[Qd.mp hy];exact hql
   .show(dN p&&(dN q&&true))=false
    cases a:dN p with
    |false=>rfl
    |true=>cases b:dN q with
     |false=>rfl
     |true=>exact absurd ⟨a,b⟩ hh
 .have hpl:p.length<=100000/\q.length<=100000:=by
   have:=UO z bZ;rw[hp]at this;have:=congrArg Str.length this;rw[Sf,Sf]at this;dsimp only at this;omega
  have hn:=kI hzl hpl.1 hpl.2 hp;unfold AY at hn;have st:¬((bZ:Pj)=""):=by decide
  have fq:gN q=false:=by
   cases t:gN q with|false=>rfl|true=>have:=(ke.mp t).1.d 47 hq;omega
  have hr:m_read_ratio [.str z]=.exn NT:=by
   have hsl:=DL.split_len (x:=z) (y:=bZ);exact kF hzl rfl (by omega) (λy hy=>by have:=PyProof.Rows.part_short hy;omega) (.inr (.inl h3))
  refine .inr ⟨?_,hr⟩;rw[hn]
  by_cases cA:gN (fA p)=false∨p="-0"
  .rw[if_pos cA]
  .rw[if_neg cA,if_neg st,if_pos (.inl fq)]
end K74
namespace K68
open PySem L2 DL Com
def Fd(p:Int->Bool):D->Bool
 |.tup [.int a,.int _]=>p a
 |_=>false
def Gi(d:D):Bool:=dB d&&Fd (λa=>decide (0<=a)) d
def worthD(d:D):Bool:=fL d||(dB d&&Fd (λa=>decide (0<a)) d)
def wordD:D->Bool
 |.str z=>z=="one"||z=="both"
 |_=>false
def nH{d:D}(h:dB d=true):∃a b,d=.tup [.int a,.int b]:=by
 cases d with
 |tup xs=>
  rcases BO (xs:=xs) with⟨x,y,rfl⟩|hn
  .rw[pH,Pr,Pr]at h
   obtain⟨h1,h2,_⟩:=h;cases x<;>first|(cases h1;done)|skip
   cases y<;>first|(cases h2;done)|skip
   exact⟨_,_,rfl⟩
  .rw[vz hn]at h;cases h
 |_=>cases h
def sN(d:D):Com.m_is_length [d]=.ok (.bl (Gi d)):=by
 unfold Gi;cases h:dB d with
 |false=>open_line with[Com.m_is_length,iG,dU,h,Pk]
 |true=>
  obtain⟨a,b,rfl⟩:=nH h;open_line with[Com.m_is_length,iG,dU,h,Pt,Fd]
def BJ(d:D):Com.m_is_worth [d]=.ok (.bl (worthD d)):=by
 unfold worthD;cases hn:fL d with
 |true=>open_line with[Com.m_is_worth,ik,dI,hn,Bool.true_or]
 |false=>
  cases h:dB d with
  |false=>open_line with[Com.m_is_worth,ik,dI,hn,dU,h,Pk,Tc]
  |true=>
   obtain⟨a,b,rfl⟩:=nH h;open_line with[Com.m_is_worth,ik,dI,hn,dU,h,Pt,Tc,Fd]
def tie5(a b w l o:D):Bool:=sH a&&(sH b&&(!(cC a b)&&(wordD w&&(Gi l&&worthD o))))
def vQ{d:D}(h:sH d=true):∃z,d=.str z:=by cases d<;>first|exact⟨_,rfl⟩|cases h
def qr{x y:Pj}:cQ (.str x) (.str y)=.ok (.bl (cC (.str x) (.str y))):=by unfold cQ;rw[if_pos ⟨rfl,rfl⟩]
def u9{w:Pj}:(([.str "one",.str "both"]:ac).any λd=>cC d (.str w))=wordD (.str w):=by
 show((("one" : Pj)==w)||((("both" : Pj)==w)||false))=((w=="one")||(w=="both"));rw[Bool.or_false,Bool.beq_comm (a:=("one" : Pj)),Bool.beq_comm (a:=("both" : Pj))]
def tU{w:Pj}:b5 (.str w) (.tup [.str "one",.str "both"])=.ok (.bl (!(wordD (.str w)))):=by
 have e:Di (.str w) (.tup [.str "one",.str "both"])=some (wordD (.str w)):=by
  show(if bg 40 (.str w)=true/\([.str "one",.str "both"]:ac).all (bg 40)=true then some (([.str "one",.str "both"]:ac).any λd=>cC d (.str w)) else none)=_;rw[if_pos ⟨rfl,rfl⟩,u9]
 unfold b5;rw[e]
def word_inL{w:Pj}:b5 (.str w) (.lst [.str "one",.str "both"])=.ok (.bl (!(wordD (.str w)))):=by
 have e:Di (.str w) (.lst [.str "one",.str "both"])=some (wordD (.str w)):=by
  show(if bg 40 (.str w)=true/\([.str "one",.str "both"]:ac).all (bg 40)=true then some (([.str "one",.str "both"]:ac).any λd=>cC d (.str w)) else none)=_;rw[if_pos ⟨rfl,rfl⟩,u9]
 unfold b5;rw[e]
def BK{d:D}(h:∀z,d≠.str z):wordD d=false:=by cases d<;>first|rfl|exact absurd rfl (h _)
def OI{d:D}(h:∀z,d≠.str z):gA "str" d=.ok (.bl false):=by
 cases d with
 |str z=>exact absurd rfl (h z)
 |ob k ds=>cases k<;>rfl
 |_=>rfl
def tie_tail{a b w l o:D}(fa:Lo a=true)(fb:Lo b=true):Com.m_is_tie [.tup [a,b,w,l,o]]=.ok (.bl (tie5 a b w l o)):=by
 unfold tie5;cases ha:sH a with
 |false=>open_line with[Com.m_is_tie,fP,bV fa,ha,Pk]
 |true=>
  cases hb:sH b with
  |false=>open_line with[Com.m_is_tie,fP,bV fa,bV fb,ha,hb,Pk,Pt]
  |true=>
   obtain⟨x,rfl⟩:=vQ ha;obtain⟨y,rfl⟩:=vQ hb;cases he:cC (.str x) (.str y) with
   |true=>open_line with[Com.m_is_tie,fP,bV fa,bV fb,ha,hb,qr,he,Pk,Pt,PC]
   |false=>
    by_cases hw:∃z,w=.str z
    .obtain⟨z,rfl⟩:=hw
     cases hz:wordD (.str z) with
     |false=>open_line with[Com.m_is_tie,fP,bV fa,bV fb,ha,hb,qr,he,tU,hz,Pk,Pt,Px]
     |true=>
      cases hl:Gi l with
      |false=>open_line with[Com.m_is_tie,fP,bV fa,bV fb,ha,hb,qr,he,tU,hz,sN,hl,Pk,Pt,Px,PC]
      |true=>open_line with[Com.m_is_tie,fP,bV fa,bV fb,ha,hb,qr,he,tU,hz,sN,hl,BJ,Pt,Px,PC]
    .have hn:∀z,w≠.str z:=λz hz=>hw ⟨z,hz⟩
     open_line with[Com.m_is_tie,fP,bV fa,bV fb,ha,hb,qr,he,OI hn,BK hn,Pk,Pt,Px]
end K68
namespace K76
open PySem L2 DL Com Tex K74
def Cq:D->Bool
 |.str y=>!(Ik y "abcdefghijklmnopqrstuvwxyz")
 |_=>false
def HM{z:Pj}(h:z.length<=100000):∃bad:ac,jN 1 [] (eC 0) (aa (ae 0) (dC (.str "abcdefghijklmnopqrstuvwxyz")) b5) (ae 0) [.sh (.str z)] (c8 z)=.ok (.lst bad)/\cQ (.lst bad) (.lst [])=.ok (.bl ((cl z).all kc)):=by
 refine⟨((c8 z).filter Cq).map id,?_,?_⟩
 .refine nY (by rw[fY];have:z.length=z.cps.size:=rfl;omega) λd hd=>?_
  rw[pB]at hd;obtain⟨c,_,rfl⟩:=Qt.mp hd;exact⟨[.sh (.str ⟨#[c]⟩)],rfl,rfl,λ_=>rfl⟩
 .rw[TY]
  have hs:bg 40 (.lst ((c8 z).filter Cq))=true:=Qf.mpr λd hd=>by
   have:=(S1.mp hd).1;rw[pB]at this;obtain⟨c,_,rfl⟩:=Qt.mp this;rfl
  have e:cQ (.lst ((c8 z).filter Cq)) (.lst [])=.ok (.bl (cC (.lst ((c8 z).filter Cq)) (.lst []))):=if_pos ⟨hs,rfl⟩;rw[e]
  congr 2
  have k:∀(cs:ci),cC (.lst ((cs.map λc=>D.str ⟨#[c]⟩).filter Cq)) (.lst [])=cs.all kc:=by
   intro cs
   induction cs with
   |nil=>rw[cC];rfl
   |cons c r ih=>
    rw[Qr,R4];cases q:kc c with
    |true=>rw[SV (by show ¬(!(kc c))=true;rw[q];decide),ih];rfl
    |false=>
     rw[SU (by show(!(kc c))=true;rw[q];rfl),cC];rfl
  rw[pB];exact k _
def C2{z:Pj}(h:z.length<=100000):cF [.str z]=.ok (.bl (cj z)):=by
 obtain⟨bad,hb,he⟩:=HM h;have hsrc:=yJ h;have hl:=len_str h;unfold cj;have g1:jO (.int (z.length:Int)) (.int 1)=.ok (.bl (decide ((z.length:Int)<1))):=rfl;have g2:wV (.int (z.length:Int)) (.int 8)=.ok (.bl (decide ((z.length:Int) > 8))):=rfl
 by_cases c1:1<=z.length
 .rw[decide_eq_false (show ¬(z.length:Int)<1 by omega)]at g1
  rw[decide_eq_true c1]
  by_cases c2:z.length<=8
  .rw[decide_eq_false (show ¬(z.length:Int) > 8 by omega)]at g2
   rw[decide_eq_true c2];open_line with[cF,fQ,hl,g1,g2,hsrc,hb,he,Pt]
  .rw[decide_eq_true (show(z.length:Int) > 8 by omega)]at g2
   rw[decide_eq_false c2];open_line with[cF,fQ,hl,g1,g2,Pt,Pk]
 .rw[decide_eq_true (show(z.length:Int)<1 by omega)]at g1
  rw[decide_eq_false c1];open_line with[cF,fQ,hl,g1,Pk]
def F6{z:Pj}(h:z.length<=90000):m_is_name [.str z]=.ok (.bl (cj z)):=bV (d:=.str z) (decide_eq_true (PB h (by decide)))
def AQ{z:Pj}(hz:z.length<=90000){p q:Int}(h:aE [.str z]=.ok (.tup [.int p,.int q])):dB (.tup [.int p,.int q])=true:=by
 have key:∃a st b,Qu z bZ=(a,st,b)/\a.length<=100000/\b.length<=100000:=by
  rcases l8 z with⟨h1,_⟩|⟨a,b,h1,_,h3⟩
  .exact⟨_,_,_,h1,by omega,by decide⟩
  .have:=congrArg RT h3
   rw[cK,P1,PU,cK,cK]at this;exact⟨_,_,_,h1,by omega,by omega⟩
 obtain⟨a,st,b,hp,ha,hb⟩:=key;have hn:=kI (show z.length<=100000 by omega) ha hb hp;have h:=hn.symm.trans h;unfold AY at h;split at h
 .cases h
 .split at h
  .cases h
   show(decide ((1:Int)<=1)&&(Qn (bE a) 1==1))=true;rw[Int.gcd_one_right];rfl
  .split at h
   .cases h
   .next hc=>
    cases h;have h1:¬val b<2:=λt=>hc (.inr (.inl t));have h2:Qn (bE a) (val b)=1:=Uh λt=>hc (.inr (.inr t));show(decide ((1:Int)<=val b)&&(Qn (bE a) (val b)==1))=true;rw[decide_eq_true (by omega),h2];rfl
def iV{z:Pj}(hz:z.length<=90000):(∃p q:Int,aE [.str z]=.ok (.tup [.int p,.int q])/\m_read_ratio [.str z]=.ok (.tup [.int p,.int q])/\dB (.tup [.int p,.int q])=true)∨(aE [.str z]=.ok .non/\m_read_ratio [.str z]=.exn NT):=by
 rcases N6 hz with⟨p,q,h1,h2⟩|h
 .exact .inl ⟨p,q,h1,h2,AQ hz h1⟩
 .exact .inr h
def kQ{g:bd}{hit:Pj->Bool}{ρ:Ev}:Ce g hit ρ=rX hit (g ρ):=rfl
def mx{hit:Pj->Bool}{r:Fl}:rX hit (.ok r)=.ok r:=rfl
def wu:rX (iA j8) (.exn NT)=.ok (.rt .non):=rfl
def zA{i:Nat}{fc f0:am}{fa:Ev->aj (ac)}{m:ac->aj D}{ρ:Ev}{d:D}(h:fc ρ=.ok (.bl true))(h0:f0 ρ=.ok d):gT i fc f0 fa m ρ=.ok (.nx (ρ.set i (.sh d))):=by
 unfold gT;rw[h];dsimp only;rw[h0]
def uK{i:Nat}{fc f0:am}{fa:Ev->aj (ac)}{m:ac->aj D}{ρ:Ev}(h:fc ρ=.ok (.bl false)):gT i fc f0 fa m ρ=jS i fa m ρ:=by
 unfold gT;rw[h]
abbrev rz(w0 w1 w2 w3 w4 w5:Pj):D:=.lst [.str w0,.str w1,.str w2,.str w3,.str w4,.str w5]
abbrev jQ(w1 w2 w3:Pj)(L O:D):D:=.tup [.str w1,.str w2,.str w3,L,O]
section
variable {w0 w1 w2 w3 w4 w5:Pj}
def s1:aG (rz w0 w1 w2 w3 w4 w5) (.int 1)=.ok (.str w1):=rfl
def s2:aG (rz w0 w1 w2 w3 w4 w5) (.int 2)=.ok (.str w2):=rfl
def s3:aG (rz w0 w1 w2 w3 w4 w5) (.int 3)=.ok (.str w3):=rfl
def s4:aG (rz w0 w1 w2 w3 w4 w5) (.int 4)=.ok (.str w4):=rfl
def s5:aG (rz w0 w1 w2 w3 w4 w5) (.int 5)=.ok (.str w5):=rfl
def s6:bz (rz w0 w1 w2 w3 w4 w5)=.ok (.int 6):=rfl
def vx(h:m_read_ratio [.str w4]=.exn NT):m_read_tie [rz w0 w1 w2 w3 w4 w5]=.ok .non:=by
 open_line with[m_read_tie,fj,kQ,iB,gz,s4,h,iL,wu]
def vw{L:D}(h:m_read_ratio [.str w4]=.ok L)(hw:w5≠"-")(h5:m_read_ratio [.str w5]=.exn NT):m_read_tie [rz w0 w1 w2 w3 w4 w5]=.ok .non:=by
 have e:=bU (a:=w5) (b:="-");rw[decide_eq_false hw]at e;have hc:aa (aa (ae 0) (dC (.int 5)) aG) (dC (.str "-")) cQ [.sh (rz w0 w1 w2 w3 w4 w5),.sh L,.no,.no]=.ok (.bl false):=by open_line with[s5,e]
 open_line with[m_read_tie,fj,kQ,iB,gz,s4,h,uK hc,s5,h5,iL,wu]
def sA{L:D}(h:m_read_ratio [.str w4]=.ok L)(hw:w5="-")(h1:w1.length<=90000)(h2:w2.length<=90000):m_read_tie [rz w0 w1 w2 w3 w4 w5]=.ok (if K68.tie5 (.str w1) (.str w2) (.str w3) L .non=true then jQ w1 w2 w3 L .non else .non):=by
 have e:=bU (a:=w5) (b:="-");rw[decide_eq_true hw]at e;have hc:aa (aa (ae 0) (dC (.int 5)) aG) (dC (.str "-")) cQ [.sh (rz w0 w1 w2 w3 w4 w5),.sh L,.no,.no]=.ok (.bl true):=by open_line with[s5,e]
 have h0:dC D.non [.sh (rz w0 w1 w2 w3 w4 w5),.sh L,.no,.no]=.ok .non:=rfl;have ht:=K68.tie_tail (a:=.str w1) (b:=.str w2) (w:=.str w3) (l:=L) (o:=.non) (decide_eq_true (PB h1 (by decide))) (decide_eq_true (PB h2 (by decide)));cases q:K68.tie5 (.str w1) (.str w2) (.str w3) L .non with
 |true=>
  rw[q]at ht;open_line with[m_read_tie,fj,kQ,iB,gz,s4,h,zA hc h0,mx,s1,s2,s3,ht]
  rfl
 |false=>
  rw[q]at ht;open_line with[m_read_tie,fj,kQ,iB,gz,s4,h,zA hc h0,mx,s1,s2,s3,ht]
  rfl
def sv{L O:D}(h:m_read_ratio [.str w4]=.ok L)(hw:w5≠"-")(h5:m_read_ratio [.str w5]=.ok O)(h1:w1.length<=90000)(h2:w2.length<=90000):m_read_tie [rz w0 w1 w2 w3 w4 w5]=.ok (if K68.tie5 (.str w1) (.str w2) (.str w3) L O=true then jQ w1 w2 w3 L O else .non):=by
 have e:=bU (a:=w5) (b:="-");rw[decide_eq_false hw]at e;have hc:aa (aa (ae 0) (dC (.int 5)) aG) (dC (.str "-")) cQ [.sh (rz w0 w1 w2 w3 w4 w5),.sh L,.no,.no]=.ok (.bl false):=by open_line with[s5,e]
 have ht:=K68.tie_tail (a:=.str w1) (b:=.str w2) (w:=.str w3) (l:=L) (o:=O) (decide_eq_true (PB h1 (by decide))) (decide_eq_true (PB h2 (by decide)));cases q:K68.tie5 (.str w1) (.str w2) (.str w3) L O with
 |true=>
  rw[q]at ht;open_line with[m_read_tie,fj,kQ,iB,gz,s4,h,uK hc,s5,h5,mx,s1,s2,s3,ht]
  rfl
 |false=>
  rw[q]at ht;open_line with[m_read_tie,fj,kQ,iB,gz,s4,h,uK hc,s5,h5,mx,s1,s2,s3,ht]
  rfl
end
def Bv:D->Bool
 |.tup [.int p,.int _]=>decide (0<=p)
 |_=>false
def CO:D->Bool
 |.tup [.int p,.int _]=>decide (0<p)
 |_=>false
def wM(d:D):Prop:=d=.non∨∃p q,d=.tup [.int p,.int q]
def fM{xs:ac}:fL (.tup xs)=false:=rfl
def mn:fL .non=true:=rfl
def Gb{p:Int}:jO (.int p) (.int 0)=.ok (.bl (decide (p<0))):=rfl
def MB{p:Int}:Bx (.int p) (.int 0)=.ok (.bl (decide (p<=0))):=rfl
def AR:ir (.int 6) (.int 6)=.ok (.bl false):=rfl
section
variable {w0 w1 w2 w3 w4 w5:Pj}{ps:bv}
def xQ(ps:bv)(w1 w2 w3 w5:Pj)(nL nO:D):Bool:=K68.wordD (.str w3)&&(!(decide (w1=w2))&&((decide (w5="-")||CO nO)&&(Bv nL&&(decide (w1∈ps)&&decide (w2∈ps)))))
def AW{nL nO:D}(h4:aE [.str w4]=.ok nL)(hL:wM nL)(hO:(w5="-"/\nO=.non)∨(w5≠"-"/\aE [.str w5]=.ok nO/\wM nO)) :
  aS [rz w0 w1 w2 w3 w4 w5,.lst (ps.map D.str)]=.ok (if xQ ps w1 w2 w3 w5 nL nO=true then jQ w1 w2 w3 nL nO else .non):=by
 have e12:=bU (a:=w1) (b:=w2);have ew:=K68.word_inL (w:=w3);have e1:=eF (zs:=ps) (z:=w1);have e2:=eF (zs:=ps) (z:=w2);have ed:=my (a:=w5) (b:="-");unfold xQ;cases c3:K68.wordD (.str w3) with
 |false=>
  rw[c3]at ew;open_line with[aS,cU,s6,AR,s3,ew,Px,Pk]
  rfl
 |true=>
 rw[c3]at ew;cases c12:decide (w1=w2) with
 |true=>
  rw[c12]at e12;open_line with[aS,cU,s6,AR,s3,s1,s2,ew,e12,PC,Pt,Pk]
  rfl
 |false=>
 rw[c12]at e12;have tail:∀{nO:D},(if((decide (w5="-")||CO nO)&&(Bv nL&&(decide (w1∈ps)&&decide (w2∈ps))))=true then jQ w1 w2 w3 nL nO else D.non)=(if(decide (w5="-")||CO nO)=true then(if(Bv nL&&(decide (w1∈ps)&&decide (w2∈ps)))=true then jQ w1 w2 w3 nL nO else D.non) else D.non):=λ{nO}=>by
  cases (decide (w5="-")||CO nO)<;>cases (Bv nL&&(decide (w1∈ps)&&decide (w2∈ps)))<;>rfl
 rw[Px,Pt,Pt,tail];have rest:∀(nO:D),(aw (dP (eZ (aa (ae 2) (dC (.non)) mE) (eZ (aa (aa (ae 2) (dC (.int 0)) aG) (dC (.int 0)) jO) (eZ (aa (aa (ae 0) (dC (.int 1)) aG) (ae 1) b5) (aa (aa (ae 0) (dC (.int 2)) aG) (ae 1) b5))))
  (aw (bG (dC (.non)))
  au)
  au)
  (aw (bG (ak (ag (aa (ae 0) (dC (.int 1)) aG) (ag (aa (ae 0) (dC (.int 2)) aG) (ag (aa (ae 0) (dC (.int 3)) aG) (ag (ae 2) (ag (ae 3) av))))) j6))
  au)) [.sh (rz w0 w1 w2 w3 w4 w5),.sh (.lst (ps.map D.str)),.sh nL,.sh nO]=.ok (.rt (if(Bv nL&&(decide (w1∈ps)&&decide (w2∈ps)))=true then jQ w1 w2 w3 nL nO else D.non)):=λnO=>by
  rcases hL with rfl|⟨p,q,rfl⟩
  .open_line with[dI,mn]
   rfl
  .by_cases hp:p<0
   .open_line with[dI,fM,Gb,decide_eq_true hp]
    rw[show Bv (.tup [.int p,.int q])=false from decide_eq_false (by omega)];rfl
   .rw[show Bv (.tup [.int p,.int q])=true from decide_eq_true (by omega),Pt]
    cases m1:decide (w1∈ps) with
    |false=>
     rw[m1]at e1;open_line with[dI,fM,Gb,decide_eq_false hp,s1,e1,Px,Pk]
     rfl
    |true=>
     rw[m1]at e1;cases m2:decide (w2∈ps) with
     |false=>
      rw[m2]at e2;open_line with[dI,fM,Gb,decide_eq_false hp,s1,s2,e1,e2,PC,Px,Pt]
      rfl
     |true=>
      rw[m2]at e2;open_line with[dI,fM,Gb,decide_eq_false hp,s1,s2,s3,e1,e2,PC,Pt]
      rfl
 rcases hO with⟨h5,rfl⟩|⟨h5,hn,hN⟩
 .have ed':=ed
  rw[decide_eq_true h5]at ed';rw[decide_eq_true h5,Bool.true_or,if_pos rfl];have r:=rest .non;open_line with[PC] seeing r;open_line with[aS,cU,s6,AR,s3,s1,s2,ew,e12,PC,Px,s4,h4,s5,ed',r]
 .have ed':=ed
  rw[decide_eq_false h5]at ed';rw[decide_eq_false h5,Tc];rcases hN with rfl|⟨p,q,rfl⟩
  .open_line with[aS,cU,s6,AR,s3,s1,s2,ew,e12,PC,Px,s4,h4,s5,ed',hn,dI,mn]
   rfl
  .by_cases hp:p<=0
   .rw[show CO (.tup [.int p,.int q])=false from decide_eq_false (by omega)]
    open_line with[aS,cU,s6,AR,s3,s1,s2,ew,e12,PC,Px,s4,h4,s5,ed',hn,dI,fM,MB,decide_eq_true hp]
    rfl
   .rw[show CO (.tup [.int p,.int q])=true from decide_eq_true (by omega),if_pos rfl]
    have r:=rest (.tup [.int p,.int q]);open_line with[PC,dI] seeing r;open_line with[aS,cU,s6,AR,s3,s1,s2,ew,e12,PC,Px,s4,h4,s5,ed',hn,dI,fM,MB,decide_eq_false hp,r]
end
section
variable {w0 w1 w2 w3 w4 w5:Pj}{ps:bv}
def Ht{a b:Pj}:cC (.str a) (.str b)=decide (a=b):=by
 have h1:=bU (a:=a) (b:=b);unfold cQ at h1;rw[if_pos ⟨rfl,rfl⟩]at h1;injection h1 with h1;injection h1
def o3{p q:Int}{O:D}{oO:Bool}(hL:dB (.tup [.int p,.int q])=true)(hO:K68.worthD O=oO):K68.tie5 (.str w1) (.str w2) (.str w3) (.tup [.int p,.int q]) O=(cj w1&&(cj w2&&(!(decide (w1=w2))&&(K68.wordD (.str w3)&&(Bv (.tup [.int p,.int q])&&oO))))):=by
 unfold K68.tie5;rw[Ht,hO];show(cj w1&&(cj w2&&(!(decide (w1=w2))&&(K68.wordD (.str w3)&&((dB (.tup [.int p,.int q])&&decide (0<=p))&&oO)))))=_;rw[hL,Pt];rfl
def zk{T:D}{nL nO:D}{oO:Bool}(hT:fL T=false)(hps:∀z∈ps,cj z=true)(ho:(decide (w5="-")||CO nO)=oO):(if xQ ps w1 w2 w3 w5 nL nO=true then T else D.non)=(if fL (if(cj w1&&(cj w2&&(!(decide (w1=w2))&&(K68.wordD (.str w3)&&(Bv nL&&oO)))))=true then T else D.non)=false/\w1∈ps/\w2∈ps then(if(cj w1&&(cj w2&&(!(decide (w1=w2))&&(K68.wordD (.str w3)&&(Bv nL&&oO)))))=true then T else D.non) else D.non):=by
 unfold xQ;rw[ho]
 by_cases m1:w1∈ps
 .by_cases m2:w2∈ps
  .rw[hps _ m1,hps _ m2,decide_eq_true m1,decide_eq_true m2]
   cases K68.wordD (.str w3)<;>cases decide (w1=w2)<;>cases Bv nL<;>cases oO<;>simp[hT,m1,m2]
  .rw[decide_eq_false m2,PR,PR,PR,PR,PR,if_neg (show ¬(false=true) by decide),if_neg (λz=>m2 z.2.2)]
 .rw[decide_eq_false m1,Pk,PR,PR,PR,PR,if_neg (show ¬(false=true) by decide),if_neg (λz=>m1 z.2.1)]
def apart{x y u v:Bool}(h:(x&&(y&&(!(decide (w1=w2))&&(u&&v))))=true):w1≠w2:=by
 simp only[Pr,QU,decide_eq_false_iff_not]at h;exact h.2.2.1
def vd(h1:w1.length<=90000)(h2:w2.length<=90000)(h4:w4.length<=90000)(h5:w5.length<=90000)(hps:∀z∈ps,cj z=true) :
  ∃d,m_read_tie [rz w0 w1 w2 w3 w4 w5]=.ok d/\aS [rz w0 w1 w2 w3 w4 w5,.lst (ps.map D.str)]=.ok (if fL d=false/\w1∈ps/\w2∈ps then d else .non)/\(d=.non∨∃L O,d=jQ w1 w2 w3 L O/\wM L/\wM O/\w1≠w2):=by
 have nn:(if fL D.non=false/\w1∈ps/\w2∈ps then D.non else D.non)=D.non:=if_neg (λz=>by cases z.1);rcases iV h4 with⟨p,q,n4,r4,t4⟩|⟨n4,r4⟩
 .by_cases hd:w5="-"
  .have hr:=sA (w0:=w0) (w3:=w3) r4 hd h1 h2
   have hl:=AW (w0:=w0) (w1:=w1) (w2:=w2) (w3:=w3) (ps:=ps) (nO:=.non) n4 (.inr ⟨p,q,rfl⟩) (.inl ⟨hd,rfl⟩);rw[o3 (oO:=true) t4 rfl]at hr;rw[zk (oO:=true) rfl hps (by rw[decide_eq_true hd];rfl)]at hl;refine⟨_,hr,hl,?_⟩;split
   .next hh=>exact .inr ⟨_,_,rfl,.inr ⟨_,_,rfl⟩,.inl rfl,apart hh⟩
   .exact .inl rfl
  .rcases iV h5 with⟨p',q',n5,r5,t5⟩|⟨n5,r5⟩
   .have hr:=sv (w0:=w0) (w3:=w3) r4 hd r5 h1 h2
    have hl:=AW (w0:=w0) (w1:=w1) (w2:=w2) (w3:=w3) (ps:=ps) n4 (.inr ⟨p,q,rfl⟩) (.inr ⟨hd,n5,.inr ⟨p',q',rfl⟩⟩);rw[o3 (oO:=CO (.tup [.int p',.int q'])) t4 (by unfold K68.worthD;rw[t5];rfl)]at hr;rw[zk (oO:=CO (.tup [.int p',.int q'])) rfl hps (by rw[decide_eq_false hd];rfl)]at hl;refine⟨_,hr,hl,?_⟩;split
    .next hh=>exact .inr ⟨_,_,rfl,.inr ⟨_,_,rfl⟩,.inr ⟨_,_,rfl⟩,apart hh⟩
    .exact .inl rfl
   .have hl:=AW (w0:=w0) (w1:=w1) (w2:=w2) (w3:=w3) (ps:=ps) n4 (.inr ⟨p,q,rfl⟩) (.inr ⟨hd,n5,.inl rfl⟩)
    refine⟨.non,vw r4 hd r5,?_,.inl rfl⟩;rw[hl,nn,if_neg];unfold xQ;rw[decide_eq_false hd,show CO D.non=false from rfl];cases K68.wordD (.str w3)<;>cases decide (w1=w2)<;>simp
 .refine⟨.non,vx r4,?_,.inl rfl⟩
  rw[nn];have fin:∀nO,xQ ps w1 w2 w3 w5 .non nO≠true:=λnO=>by
   unfold xQ;rw[show Bv D.non=false from rfl];cases K68.wordD (.str w3)<;>cases decide (w1=w2)<;>simp
  by_cases hd:w5="-"
  .rw[AW (w0:=w0) (w1:=w1) (w2:=w2) (w3:=w3) (ps:=ps) (nO:=.non) n4 (.inl rfl) (.inl ⟨hd,rfl⟩),if_neg (fin _)]
  .rcases iV h5 with⟨p',q',n5,r5,t5⟩|⟨n5,r5⟩
   .rw[AW (w0:=w0) (w1:=w1) (w2:=w2) (w3:=w3) (ps:=ps) n4 (.inl rfl) (.inr ⟨hd,n5,.inr ⟨p',q',rfl⟩⟩),if_neg (fin _)]
   .rw[AW (w0:=w0) (w1:=w1) (w2:=w2) (w3:=w3) (ps:=ps) n4 (.inl rfl) (.inr ⟨hd,n5,.inl rfl⟩),if_neg (fin _)]
end
abbrev DK:Hk:=.ins "Draft" ["places","ties","ends"]
def A1(s t:Ev->S3->aj fz)(ρ:Ev)(st:S3)(d:D):aj fz:=match d with
 |.bl b=>if b=true then s ρ st else t ρ st
 |_=>.stuck
def zm(k:Nat)(ρ:Ev)(st:S3)(d:D):aj fz:=if ju d=true/\(st.at k).length<line then .ok (.nx ρ (st.add k d)) else .stuck
def zo(g:Ev->S3->aj (D×S3))(ρ:Ev)(st:S3)(d:D):aj (D×S3):=match d with
 |.bl b=>if b=true then g ρ st else .ok (.bl false,st)
 |_=>.stuck
section
variable {h:Hk}{i k n:Nat}{a:Pg}{f:am}{fa:Ev->aj (ac)}{m:Pg->S3->ac->aj (D×S3)}{s t:Ev->S3->aj fz}{g:Ev->S3->aj (D×S3)}{ρ:Ev}{st:S3}{W:D}{b:Pg->Ev->S3->aj fz}
def dX:iZ (some (.pt a)) a=true:=beq_self_eq_true a
def C8(hp:iZ ρ[i]? a=true)(hn:k6 ρ=true):ml h i a f s t ρ st=(f (ze h i ρ st)).bind (A1 s t ρ st):=by
 unfold ml;rw[if_pos ⟨hp,hn⟩];congr 1;funext d;cases d with
 |bl b=>cases b<;>rfl
 |_=>rfl
def cG:A1 s t ρ st (.bl true)=s ρ st:=rfl
def dZ:A1 s t ρ st (.bl false)=t ρ st:=rfl
def C9(hp:iZ ρ[i]? a=true)(hn:k6 ρ=true):lG h i a k f ρ st=(f (ze h i ρ st)).bind (zm k ρ st):=by
 unfold lG;rw[if_pos ⟨hp,hn⟩];rfl
def kM{d:D}(hf:ju d=true)(hl:decide ((st.at k).length<100)=true):zm k ρ st d=.ok (.nx ρ (st.add k d)):=if_pos ⟨hf,Py (of_decide_eq_true hl) (by decide)⟩
def uC(hp:iZ ρ[i]? a=true)(hn:k6 ρ=true):iy i a fa m ρ st=(fa ρ).bind (dH a m st):=by
 unfold iy;rw[if_pos ⟨hp,hn⟩]
def eV{ds:ac}{p:D×S3}(hm:m a st ds=.ok p):dH a m st ds=.ok p:=by unfold dH;rw[hm]
def Kb(hp:iZ ρ[i]? a=true)(hn:k6 ρ=true):xW h i a f g ρ st=(f (ze h i ρ st)).bind (zo g ρ st):=by
 unfold xW;rw[if_pos ⟨hp,hn⟩];congr 1;funext d;cases d with
 |bl b=>cases b<;>rfl
 |_=>rfl
def zi:zo g ρ st (.bl true)=g ρ st:=rfl
def zh:zo g ρ st (.bl false)=.ok (.bl false,st):=rfl
def aR:bw s t ρ st=(s ρ st).bind (sO t):=rfl
def bQ{ρ':Ev}{st':S3}:sO t (.nx ρ' st')=t ρ' st':=rfl
def cN{d:D}{st':S3}:sO t (.rt d st')=.ok (.rt d st'):=rfl
def cI:aZ ρ st=.ok (.nx ρ st):=rfl
def Iw(st:S3)(d:D):aj fz:=.ok (.rt d st)
def dY:j9 f ρ st=(f ρ).bind (Iw st):=rfl
def df{d:D}:Iw st d=.ok (.rt d st):=rfl
def m9(p:D×S3):aj fz:=.ok (.rt p.1 p.2)
def kL:qh g ρ st=(g ρ st).bind m9:=rfl
def vU{p:D×S3}:m9 p=.ok (.rt p.1 p.2):=rfl
def eH:vo 2 b a st [W]=(b a [.pt a,.sh W] st).bind vn:=rfl
def cO{d:D}:vn (.rt d st)=.ok (d,st):=rfl
def eE:ml DK 0 a f s t [.pt a,.sh W] st=(f [.sh (dO DK st),.sh W]).bind (A1 s t [.pt a,.sh W] st):=C8 dX rfl
def xH:lG DK 0 a k f [.pt a,.sh W] st=(f [.sh (dO DK st),.sh W]).bind (zm k [.pt a,.sh W] st):=C9 dX rfl
def oQ:iy 0 a fa m [.pt a,.sh W] st=(fa [.pt a,.sh W]).bind (dH a m st):=uC dX rfl
def uk:xW DK 0 a f g [.pt a,.sh W] st=(f [.sh (dO DK st),.sh W]).bind (zo g [.pt a,.sh W] st):=Kb dX rfl
def Dq:gb "places" (dO DK st)=.ok (.lst st.p):=rfl
def EG:gb "ties" (dO DK st)=.ok (.lst st.t):=rfl
def wR:gb "ends" (dO DK st)=.ok (.lst st.e):=rfl
end
def qZ(t:D):Prop:=∃w1 w2 w3 L O,t=jQ w1 w2 w3 L O/\wM L/\wM O
def qZ.fl{t:D}(h:qZ t):ju t=true:=by
 obtain⟨w1,w2,w3,L,O,rfl,hL,hO⟩:=h;rcases hL with rfl|⟨p,q,rfl⟩<;>rcases hO with rfl|⟨p',q',rfl⟩<;>rfl
def qZ.sh{t:D}(h:qZ t):bg 39 t=true:=by
 obtain⟨w1,w2,w3,L,O,rfl,hL,hO⟩:=h;rcases hL with rfl|⟨p,q,rfl⟩<;>rcases hO with rfl|⟨p',q',rfl⟩<;>rfl
structure Inv (ps:bv) (ts:ac) (es:bv):Prop where
 n7:ps.length<=7
 nm:∀z∈ps,cj z=true
 n14:ts.length<=14
 ti:∀t∈ts,qZ t
 n2:es.length<=2
abbrev S(ps:bv)(ts:ac)(es:bv):S3:=⟨ps.map D.str,ts,es.map D.str⟩
def D1{xs:ac}(h:∀x∈xs,bg 39 x=true):cQ (.lst xs) (.lst [])=.ok (.bl xs.isEmpty):=by
 have e:cQ (.lst xs) (.lst [])=.ok (.bl (cC (.lst xs) (.lst []))):=if_pos ⟨Qf.mpr h,rfl⟩;rw[e,cC];cases xs<;>rfl
def mX{xs:ac}(h:∀x∈xs,bg 39 x=true):ir (.lst xs) (.lst [])=.ok (.bl (!xs.isEmpty)):=by
 have e:ir (.lst xs) (.lst [])=.ok (.bl (!(cC (.lst xs) (.lst [])))):=if_pos ⟨Qf.mpr h,rfl⟩;rw[e,cC];cases xs<;>rfl
def lW{zs:bv}:∀x∈zs.map D.str,bg 39 x=true:=λx hx=>by
 obtain⟨z,_,rfl⟩:=Qt.mp hx;rfl
def nk{n m:Int}:cQ (.int n) (.int m)=.ok (.bl (decide (n=m))):=by
 unfold cQ;rw[if_pos ⟨rfl,rfl⟩,cC];rfl
section
variable {ps:bv}{ts:ac}{es:bv}{a:Pg}{z:Pj}
def BQ(I:Inv ps ts es)(hz:z.length<=90000):m_takes_place a (S ps ts es) [.str z]=.ok (if(ts.isEmpty&&(es.isEmpty&&(!(decide (ps.length=7))&&(cj z&&!(decide (z∈ps))))))=true then(.bl true,S (ps++[z]) ts es) else(.bl false,S ps ts es)):=by
 have e1:=mX (xs:=ts) λt ht=>(I.ti t ht).sh;have e2:=mX (xs:=es.map D.str) lW;have e3:=nk (n:=(ps.length:Int)) (m:=7);have e3':decide ((ps.length:Int)=7)=decide (ps.length=7):=by rw[QJ,decide_eq_true_eq,decide_eq_true_eq];omega
 have e4:=F6 hz;have e5:=oY (zs:=ps) (z:=z);rw[e3']at e3;rw[show(es.map D.str).isEmpty=es.isEmpty by cases es<;>rfl]at e2;cases c1:ts.isEmpty with
 |false=>
  rw[c1]at e1;open_line with[m_takes_place,du,eH,aR,eE,EG,e1,Px,cG,dY,df,cN,cO,Pk]
  rfl
 |true=>
 rw[c1]at e1;cases c2:es.isEmpty with
 |false=>
  rw[c2]at e2;open_line with[m_takes_place,du,eH,aR,eE,EG,wR,e1,e2,Px,PC,cG,dY,df,cN,cO,Pt,Pk]
  rfl
 |true=>
 rw[c2]at e2;cases c3:decide (ps.length=7) with
 |true=>
  rw[c3]at e3;open_line with[m_takes_place,du,eH,aR,eE,Dq,EG,wR,e1,e2,Ph,e3,Px,PC,cG,dY,df,cN,cO,Pt,Pk]
  rfl
 |false=>
 rw[c3]at e3;cases c4:cj z with
 |false=>
  rw[c4]at e4;open_line with[m_takes_place,du,eH,aR,eE,Dq,EG,wR,e1,e2,Ph,e3,e4,Px,PC,cG,dZ,cI,bQ,dY,df,cN,cO,Pt,Pk]
  rfl
 |true=>
 rw[c4]at e4;cases c5:decide (z∈ps) with
 |true=>
  rw[c5]at e5;open_line with[m_takes_place,du,eH,aR,eE,Dq,EG,wR,e1,e2,Ph,e3,e4,e5,Px,PC,cG,dZ,cI,bQ,dY,df,cN,cO,Pt,Pk]
  rfl
 |false=>
  rw[c5]at e5;have hl:decide (((S ps ts es).at 0).length<100)=true:=decide_eq_true (by show(ps.map D.str).length<100;rw[Ph];have:=I.n7;omega);have hf:ju (D.str z)=true:=rfl;open_line with[m_takes_place,du,eH,aR,eE,xH,Dq,EG,wR,e1,e2,Ph,e3,e4,e5,Px,PC,cG,dZ,cI,bQ,dY,df,cN,cO,kM hf hl,Pt,Pk]
  show aj.ok (D.bl true,(⟨ps.map D.str++[.str z],ts,es.map D.str⟩:S3))=aj.ok (D.bl true,(⟨(ps++[z]).map D.str,ts,es.map D.str⟩:S3));rw[Qx];rfl
end
section
variable {ps:bv}{ts:ac}{es:bv}{a:Pg}{z w1 w2 w3:Pj}{L O:D}
def vb:m_takes_tie a (S ps ts es) [.non]=.ok (.bl false,S ps ts es):=by
 open_line with[m_takes_tie,eL,eH,aR,eE,dI,mn,cG,dY,df,cN,cO]
def LD(I:Inv ps ts es)(hL:wM L)(hO:wM O):m_takes_tie a (S ps ts es) [jQ w1 w2 w3 L O]=.ok (if(es.isEmpty&&(!(decide (ts.length=14))&&(decide (w1∈ps)&&decide (w2∈ps))))=true then(.bl true,S ps (ts++[jQ w1 w2 w3 L O]) es) else(.bl false,S ps ts es)):=by
 have e2:=mX (xs:=es.map D.str) lW;have e3:=nk (n:=(ts.length:Int)) (m:=14);have e3':decide ((ts.length:Int)=14)=decide (ts.length=14):=by rw[QJ,decide_eq_true_eq,decide_eq_true_eq];omega
 have e4:=eF (zs:=ps) (z:=w1);have e5:=eF (zs:=ps) (z:=w2);rw[e3']at e3;rw[show(es.map D.str).isEmpty=es.isEmpty by cases es<;>rfl]at e2;cases c2:es.isEmpty with
 |false=>
  rw[c2]at e2;open_line with[m_takes_tie,eL,eH,aR,eE,dI,fM,wR,e2,Px,PC,cG,dY,df,cN,cO,Pt,Pk]
  rfl
 |true=>
 rw[c2]at e2;cases c3:decide (ts.length=14) with
 |true=>
  rw[c3]at e3;open_line with[m_takes_tie,eL,eH,aR,eE,dI,fM,EG,wR,e2,e3,Px,PC,cG,dY,df,cN,cO,Pt,Pk]
  rfl
 |false=>
 rw[c3]at e3;cases c4:decide (w1∈ps) with
 |false=>
  rw[c4]at e4;open_line with[m_takes_tie,eL,eH,aR,eE,dI,fM,Dq,EG,wR,e2,e3,e4,Px,PC,cG,dZ,cI,bQ,dY,df,cN,cO,Pt,Pk]
  rfl
 |true=>
 rw[c4]at e4;cases c5:decide (w2∈ps) with
 |false=>
  rw[c5]at e5;open_line with[m_takes_tie,eL,eH,aR,eE,dI,fM,Dq,EG,wR,e2,e3,e4,e5,Px,PC,cG,dZ,cI,bQ,dY,df,cN,cO,Pt,Pk]
  rfl
 |true=>
  rw[c5]at e5;have hl:decide (((S ps ts es).at 1).length<100)=true:=decide_eq_true (by show ts.length<100;have:=I.n14;omega);have hf:ju (jQ w1 w2 w3 L O)=true:=qZ.fl ⟨_,_,_,_,_,rfl,hL,hO⟩;open_line with[m_takes_tie,eL,eH,aR,eE,xH,dI,fM,Dq,EG,wR,e2,e3,e4,e5,Px,PC,cG,dZ,cI,bQ,dY,df,cN,cO,kM hf hl,Pt,Pk]
  rfl
def Fj(I:Inv ps ts es):m_takes_end a (S ps ts es) [.str z]=.ok (if(!(decide (ps.length<2))&&(decide (z∈ps)&&!(decide (z∈es))))=true then(.bl true,S ps ts (es++[z])) else(.bl false,S ps ts es)):=by
 have e3:jO (.int (ps.length:Int)) (.int 2)=.ok (.bl (decide ((ps.length:Int)<2))):=rfl;have e3':decide ((ps.length:Int)<2)=decide (ps.length<2):=by rw[QJ,decide_eq_true_eq,decide_eq_true_eq];omega
 have e4:=eF (zs:=ps) (z:=z);have e5:=oY (zs:=es) (z:=z);rw[e3']at e3;cases c3:decide (ps.length<2) with
 |true=>
  rw[c3]at e3;open_line with[m_takes_end,gB,eH,aR,eE,Dq,Ph,e3,cG,dY,df,cN,cO,PC,Pk]
  rfl
 |false=>
 rw[c3]at e3;cases c4:decide (z∈ps) with
 |false=>
  rw[c4]at e4;open_line with[m_takes_end,gB,eH,aR,eE,Dq,Ph,e3,e4,Px,cG,dY,df,cN,cO,Pt,Pk]
  rfl
 |true=>
 rw[c4]at e4;cases c5:decide (z∈es) with
 |true=>
  rw[c5]at e5;open_line with[m_takes_end,gB,eH,aR,eE,Dq,wR,Ph,e3,e4,e5,Px,PC,cG,dY,df,cN,cO,Pt,Pk]
  rfl
 |false=>
  rw[c5]at e5;have hl:decide (((S ps ts es).at 2).length<100)=true:=decide_eq_true (by show(es.map D.str).length<100;rw[Ph];have:=I.n2;omega);have hf:ju (D.str z)=true:=rfl;open_line with[m_takes_end,gB,eH,aR,eE,xH,Dq,wR,Ph,e3,e4,e5,Px,PC,dZ,cI,bQ,dY,df,cN,cO,kM hf hl,Pt,Pk]
  show aj.ok (D.bl true,(⟨ps.map D.str,ts,es.map D.str++[.str z]⟩:S3))=aj.ok (D.bl true,(⟨ps.map D.str,ts,(es++[z]).map D.str⟩:S3));rw[Qx];rfl
variable {ws:bv}{w0:Pj}
def i0:aG (.lst ((w0::ws).map D.str)) (.int 0)=.ok (.str w0):=ka (k:=0) rfl
def i1:aG (.lst ((w0::z::ws).map D.str)) (.int 1)=.ok (.str z):=ka (k:=1) rfl
def fS(ws:bv)(n:Nat):Bool:=decide (ws.length=n)
def C3{n:Nat}:cQ (.int ((ws.length:Nat):Int)) (.int (n:Int))=.ok (.bl (fS ws n)):=by
 rw[nk,fS];congr 2;rw[QJ,decide_eq_true_eq,decide_eq_true_eq];omega
def vc(I:Inv ps ts es)(hw:ws.head?=some w0)(a:Pg):m_takes_row a (S ps ts es) [.lst (ws.map D.str)] =
  if(decide (w0="place")&&fS ws 2)=true then(ag (aa (ae 1) (dC (.int 1)) aG) av [.pt a,.sh (.lst (ws.map D.str))]).bind (λds=>(dH a m_takes_place (S ps ts es) ds))
  else if(decide (w0="tie")&&fS ws 6)=true then(ag (ak (ag (ae 1) av) m_read_tie) av [.pt a,.sh (.lst (ws.map D.str))]).bind (λds=>(dH a m_takes_tie (S ps ts es) ds))
  else if(decide (w0="first")&&fS ws 2)=true then(if es.isEmpty=true then(ag (aa (ae 1) (dC (.int 1)) aG) av [.pt a,.sh (.lst (ws.map D.str))]).bind (λds=>(dH a m_takes_end (S ps ts es) ds)) else .ok (.bl false,S ps ts es))
  else if(decide (w0="last")&&fS ws 2)=true then(if decide (es.length=1)=true then(ag (aa (ae 1) (dC (.int 1)) aG) av [.pt a,.sh (.lst (ws.map D.str))]).bind (λds=>(dH a m_takes_end (S ps ts es) ds)) else .ok (.bl false,S ps ts es))
  else .ok (.bl false,S ps ts es):=by
 have ih:aG (.lst (ws.map D.str)) (.int 0)=.ok (.str w0):=by
  cases ws with|nil=>cases hw|cons x r=>cases hw;exact i0
 have ff:¬(false=true):=by decide
 have p1:=bU (a:=w0) (b:="place");have p2:=bU (a:=w0) (b:="tie");have p3:=bU (a:=w0) (b:="first");have p4:=bU (a:=w0) (b:="last");have l2:cQ (.int ((ws.length:Nat):Int)) (.int 2)=.ok (.bl (fS ws 2)):=C3 (n:=2);have l6:cQ (.int ((ws.length:Nat):Int)) (.int 6)=.ok (.bl (fS ws 6)):=C3 (n:=6);have ee:=D1 (xs:=es.map D.str) lW;rw[show(es.map D.str).isEmpty=es.isEmpty by cases es<;>rfl]at ee;have en:=nk (n:=(es.length:Int)) (m:=1);rw[show decide ((es.length:Int)=1)=decide (es.length=1) by rw[QJ,decide_eq_true_eq,decide_eq_true_eq];omega]at en;have fin:∀(x:aj (D×S3)),((x.bind m9).bind (sO aZ)).bind vn=x:=λx=>by cases x<;>rfl
 have sq:∀(x:aj (D×S3)) (t:Ev->S3->aj fz),((x.bind m9).bind (sO t))=x.bind m9:=λx t=>by cases x<;>rfl
 have fin2:∀(x:aj (D×S3)),(x.bind m9).bind vn=x:=λx=>by cases x<;>rfl
 unfold m_takes_row;rw[eH];unfold n9;cases c1:(decide (w0="place")&&fS ws 2) with
 |true=>
  rw[Pr]at c1;rw[c1.1]at p1;rw[c1.2]at l2;rw[if_pos rfl];open_line with[aR,eE,ih,p1,Ph,l2,cG,kL,oQ,sq,fin2]
 |false=>
 rw[if_neg ff];have c1':dm (aa (aa (ae 1) (dC (.int 0)) aG) (dC (.str "place")) cQ) (aa (ak (ag (ae 1) av) (m1 bz)) (dC (.int 2)) cQ) [.sh (dO DK (S ps ts es)),.sh (.lst (ws.map D.str))]=.ok (.bl false):=by
  cases q:decide (w0=("place" : Pj)) with
  |false=>rw[q]at p1;open_line with[ih,p1]
  |true=>rw[q]at p1 c1;rw[Pt]at c1;rw[c1]at l2;open_line with[ih,p1,Ph,l2]
 open_line with[ih] seeing c1';cases c2:(decide (w0="tie")&&fS ws 6) with
 |true=>
  rw[Pr]at c2;rw[if_pos rfl];rw[c2.1]at p2;rw[c2.2]at l6;open_line with[c1',aR,eE,ih,p2,Ph,l6,cG,dZ,cI,bQ,kL,oQ,sq,fin2]
 |false=>
 rw[if_neg ff];have c2':dm (aa (aa (ae 1) (dC (.int 0)) aG) (dC (.str "tie")) cQ) (aa (ak (ag (ae 1) av) (m1 bz)) (dC (.int 6)) cQ) [.sh (dO DK (S ps ts es)),.sh (.lst (ws.map D.str))]=.ok (.bl false):=by
  cases q:decide (w0=("tie" : Pj)) with
  |false=>rw[q]at p2;open_line with[ih,p2]
  |true=>rw[q]at p2 c2;rw[Pt]at c2;rw[c2]at l6;open_line with[ih,p2,Ph,l6]
 open_line with[ih] seeing c2';cases c3:(decide (w0="first")&&fS ws 2) with
 |true=>
  rw[Pr]at c3;rw[if_pos rfl];rw[c3.1]at p3;rw[c3.2]at l2;cases q:es.isEmpty with
  |true=>
   rw[q]at ee;rw[if_pos rfl];open_line with[c1',c2',aR,eE,ih,p3,Ph,l2,cG,dZ,cI,bQ,kL,uk,wR,ee,zi,oQ,sq,fin2]
  |false=>
   rw[q]at ee;rw[if_neg ff];open_line with[c1',c2',aR,eE,ih,p3,Ph,l2,cG,dZ,cI,bQ,kL,uk,wR,ee,zh,vU,cN,cO]
 |false=>
 rw[if_neg ff];have c3':dm (aa (aa (ae 1) (dC (.int 0)) aG) (dC (.str "first")) cQ) (aa (ak (ag (ae 1) av) (m1 bz)) (dC (.int 2)) cQ) [.sh (dO DK (S ps ts es)),.sh (.lst (ws.map D.str))]=.ok (.bl false):=by
  cases q:decide (w0=("first" : Pj)) with
  |false=>rw[q]at p3;open_line with[ih,p3]
  |true=>rw[q]at p3 c3;rw[Pt]at c3;rw[c3]at l2;open_line with[ih,p3,Ph,l2]
 open_line with[ih] seeing c3';cases c4:(decide (w0="last")&&fS ws 2) with
 |true=>
  rw[Pr]at c4;rw[if_pos rfl];rw[c4.1]at p4;rw[c4.2]at l2;cases q:decide (es.length=1) with
  |true=>
   rw[q]at en;rw[if_pos rfl];open_line with[c1',c2',c3',aR,eE,ih,p4,Ph,l2,cG,dZ,cI,bQ,kL,uk,wR,en,zi,oQ,sq,fin2]
  |false=>
   rw[q]at en;rw[if_neg ff];open_line with[c1',c2',c3',aR,eE,ih,p4,Ph,l2,cG,dZ,cI,bQ,kL,uk,wR,en,zh,vU,cN,cO]
 |false=>
 rw[if_neg ff];have c4':dm (aa (aa (ae 1) (dC (.int 0)) aG) (dC (.str "last")) cQ) (aa (ak (ag (ae 1) av) (m1 bz)) (dC (.int 2)) cQ) [.sh (dO DK (S ps ts es)),.sh (.lst (ws.map D.str))]=.ok (.bl false):=by
  cases q:decide (w0=("last" : Pj)) with
  |false=>rw[q]at p4;open_line with[ih,p4]
  |true=>rw[q]at p4 c4;rw[Pt]at c4;rw[c4]at l2;open_line with[ih,p4,Ph,l2]
 open_line with[ih] seeing c4';open_line with[ih,c1',c2',c3',c4',aR,eE,dZ,cI,bQ,dY,df,cN,cO]
end
abbrev WD(ps:bv)(ts:ac)(es:bv):D:=.tup [.lst (ps.map D.str),.lst ts,.lst (es.map D.str)]
noncomputable abbrev upd:Pg->Ev->S3->aj fz:=λa=>
 (bw (ml (.tup) 1 a (aa (aa (ae 4) (dC (.int 0)) aG) (dC (.str "place")) cQ)
 (bw (lG (.tup) 1 a 0 (aa (ae 4) (dC (.int 1)) aG))
 aZ)
 (bw (ml (.tup) 1 a (aa (aa (ae 4) (dC (.int 0)) aG) (dC (.str "tie")) cQ)
 (bw (lG (.tup) 1 a 1 (ak (ag (ae 4) (ag (aa (ae 1) (dC (.int 0)) aG) av)) aS))
 aZ)
 (bw (lG (.tup) 1 a 2 (aa (ae 4) (dC (.int 1)) aG))
 aZ))
 aZ))
 aZ)
section
variable {k:Nat}{a:Pg}{f:am}{s t:Ev->S3->aj fz}{st:S3}{W A R I:D}
def vH:ml .tup 1 a f s t [.sh A,.pt a,.sh R,.sh I,.sh W] st=(f [.sh A,.sh (dO .tup st),.sh R,.sh I,.sh W]).bind (A1 s t [.sh A,.pt a,.sh R,.sh I,.sh W] st):=C8 dX rfl
def xG:lG .tup 1 a k f [.sh A,.pt a,.sh R,.sh I,.sh W] st=(f [.sh A,.sh (dO .tup st),.sh R,.sh I,.sh W]).bind (zm k [.sh A,.pt a,.sh R,.sh I,.sh W] st):=C9 dX rfl
def Og:aG (dO .tup st) (.int 0)=.ok (.lst st.p):=rfl
end
noncomputable def Es(ps:bv) (ts:ac) (es ws:bv):Prop :=
 (aA [WD ps ts es,.lst (ws.map D.str)]=.ok (.bl false)/\∀a,m_takes_row a (S ps ts es) [.lst (ws.map D.str)]=.ok (.bl false,S ps ts es)) ∨
 ∃ps' ts' es',Inv ps' ts' es'/\aA [WD ps ts es,.lst (ws.map D.str)]=.ok (.bl true)/\(∀a,m_takes_row a (S ps ts es) [.lst (ws.map D.str)]=.ok (.bl true,S ps' ts' es')) /\
  ∀a A R I,upd a [.sh A,.pt a,.sh R,.sh I,.sh (.lst (ws.map D.str))] (S ps ts es)=.ok (.nx [.sh A,.pt a,.sh R,.sh I,.sh (.lst (ws.map D.str))] (S ps' ts' es'))
def uB{w0:Pj}{ws:bv}(h:fS (w0::ws) 2=true):∃z,ws=[z]:=by
 have:=of_decide_eq_true h
 match ws,this with
 |[z],_=>exact⟨z,rfl⟩
def C4{w0:Pj}{ws:bv}(h:fS (w0::ws) 6=true):∃w1 w2 w3 w4 w5,ws=[w1,w2,w3,w4,w5]:=by
 have:=of_decide_eq_true h
 match ws,this with
 |[w1,w2,w3,w4,w5],_=>exact⟨w1,w2,w3,w4,w5,rfl⟩
section
variable {ps:bv}{ts:ac}{es ws:bv}{z w0 w1 w2 w3 w4 w5:Pj}
def Inv.e1(I:Inv ps ts es):ir (.lst ts) (.lst [])=.ok (.bl (!ts.isEmpty)):=mX λt ht=>(I.ti t ht).sh
def IE:ir (.lst (es.map D.str)) (.lst [])=.ok (.bl (!es.isEmpty)):=by
 have:=mX (xs:=es.map D.str) lW;rw[show(es.map D.str).isEmpty=es.isEmpty by cases es<;>rfl]at this;exact this
def IF:cQ (.lst (es.map D.str)) (.lst [])=.ok (.bl es.isEmpty):=by
 have:=D1 (xs:=es.map D.str) lW;rw[show(es.map D.str).isEmpty=es.isEmpty by cases es<;>rfl]at this;exact this
def MH(I:Inv ps ts es):wV (.int (ps.length:Int)) (.int 6)=.ok (.bl (decide (ps.length=7))):=by
 show aj.ok (D.bl (decide ((ps.length:Int) > 6)))=_
 congr 2;rw[QJ,decide_eq_true_eq,decide_eq_true_eq];have:=I.n7;omega
def Ga:jO (.int (ps.length:Int)) (.int 2)=.ok (.bl (decide (ps.length<2))):=by
 show aj.ok (D.bl (decide ((ps.length:Int)<2)))=_
 congr 2;rw[QJ,decide_eq_true_eq,decide_eq_true_eq];omega
def My(I:Inv ps ts es):jO (.int (ts.length:Int)) (.int 14)=.ok (.bl (!(decide (ts.length=14)))):=by
 show aj.ok (D.bl (decide ((ts.length:Int)<14)))=_
 congr 2;rw[QJ,decide_eq_true_eq,QU,decide_eq_false_iff_not];have:=I.n14;omega
abbrev cP(ps:bv)(ts:ac)(es:bv)(z:Pj):Bool:=ts.isEmpty&&(es.isEmpty&&(!(decide (ps.length=7))&&(cj z&&!(decide (z∈ps)))))
def ff:¬(false=true):=by decide
def Gj{W:ac}:ir (.int ((W.length:Nat):Int)) (.int 2)=.ok (.bl (!(decide (W.length=2)))):=by
 have:ir (.int ((W.length:Nat):Int)) (.int 2)=.ok (.bl (!(cC (.int ((W.length:Nat):Int)) (.int 2)))):=by unfold ir;rw[if_pos ⟨rfl,rfl⟩]
 rw[this,cC]
 congr 3
 show decide ((W.length:Int)=2)=_;rw[QJ,decide_eq_true_eq,decide_eq_true_eq];omega
def LZ(I:Inv ps ts es){W:ac}(i_0:aG (.lst W) (.int 0)=.ok (.str "place"))(h:W.length≠2):aA [WD ps ts es,.lst W]=.ok (.bl false):=by
 have p1:=bU (a:="place") (b:="place");rw[decide_eq_true rfl]at p1;have e1:=I.e1;have e2:=IE (es:=es);have e3:=MH I;have l2:=Gj (W:=W);rw[decide_eq_false h]at l2;cases c1:ts.isEmpty with
 |false=>rw[c1]at e1;open_line with[aA,aP,i_0,p1,e1,Px]
 |true=>
 rw[c1]at e1;cases c2:es.isEmpty with
 |false=>rw[c2]at e2;open_line with[aA,aP,i_0,p1,e1,e2,Px,PC]
 |true=>
 rw[c2]at e2;cases c3:decide (ps.length=7) with
 |true=>rw[c3]at e3;open_line with[aA,aP,i_0,p1,e1,e2,Ph,e3,Px,PC]
 |false=>rw[c3]at e3;open_line with[aA,aP,i_0,p1,e1,e2,Ph,e3,l2,Px,PC]
def Ju(I:Inv ps ts es){W:ac}(i_0:aG (.lst W) (.int 0)=.ok (.str "place"))(i_1:aG (.lst W) (.int 1)=.ok (.str z))(h:W.length=2)(hz:z.length<=90000):aA [WD ps ts es,.lst W]=.ok (.bl (cP ps ts es z)):=by
 have p1:=bU (a:="place") (b:="place");rw[decide_eq_true rfl]at p1;have e1:=I.e1;have e2:=IE (es:=es);have e3:=MH I;have l2:=Gj (W:=W);rw[decide_eq_true h]at l2;have e4:=C2 (show z.length<=100000 by omega);have e5:=eF (zs:=ps) (z:=z);unfold cP;cases c1:ts.isEmpty with
 |false=>rw[c1]at e1;open_line with[aA,aP,i_0,p1,e1,Px,Pk]
 |true=>
 rw[c1]at e1;cases c2:es.isEmpty with
 |false=>rw[c2]at e2;open_line with[aA,aP,i_0,p1,e1,e2,Px,PC,Pt,Pk]
 |true=>
 rw[c2]at e2;cases c3:decide (ps.length=7) with
 |true=>rw[c3]at e3;open_line with[aA,aP,i_0,p1,e1,e2,Ph,e3,Px,PC,Pt,Pk]
 |false=>
 rw[c3]at e3;cases c4:cj z with
 |false=>rw[c4]at e4;open_line with[aA,aP,i_0,i_1,p1,e1,e2,Ph,e3,l2,e4,Px,PC,Pt,Pk]
 |true=>rw[c4]at e4;open_line with[aA,aP,i_0,i_1,p1,e1,e2,Ph,e3,l2,e4,e5,Px,PC,Pt,Pk]
def E7(I:Inv ps ts es){W:ac}(i_0:aG (.lst W) (.int 0)=.ok (.str "place"))(i_1:aG (.lst W) (.int 1)=.ok (.str z)){a:Pg}{A R J:D}:upd a [.sh A,.pt a,.sh R,.sh J,.sh (.lst W)] (S ps ts es)=.ok (.nx [.sh A,.pt a,.sh R,.sh J,.sh (.lst W)] (S (ps++[z]) ts es)):=by
 have p1:=bU (a:="place") (b:="place");rw[decide_eq_true rfl]at p1;have hl:decide (((S ps ts es).at 0).length<100)=true:=decide_eq_true (by show(ps.map D.str).length<100;rw[Ph];have:=I.n7;omega);have hf:ju (D.str z)=true:=rfl;have e:(S ps ts es).add 0 (.str z)=S (ps++[z]) ts es:=by
  show(⟨ps.map D.str++[.str z],ts,es.map D.str⟩:S3)=⟨(ps++[z]).map D.str,ts,es.map D.str⟩;rw[Qx];rfl
 open_line with[upd,aR,vH,i_0,i_1,p1,cG,xG,kM hf hl,e,bQ,cI]
def xm(I:Inv ps ts es)(hz:∀w∈ws,w.length<=90000):Es ps ts es (("place" : Pj)::ws):=by
 have hr:=λa=>vc (ws:=("place" : Pj)::ws) (w0:="place") I rfl a;have i_0:=i0 (w0:="place") (ws:=ws)
 by_cases h2:(("place" : Pj)::ws).length=2
 .obtain⟨z,rfl⟩:=uB (w0:="place") (decide_eq_true h2)
  have hz:=hz z (by simp);have i_1:=i1 (w0:="place") (z:=z) (ws:=[]);have hr':∀a,m_takes_row a (S ps ts es) [.lst ([("place" : Pj),z].map D.str)]=.ok (if cP ps ts es z=true then(.bl true,S (ps++[z]) ts es) else(.bl false,S ps ts es)):=λa=>by
   rw[hr a,show fS [("place" : Pj),z] 2=true from rfl,Rb,if_pos (show decide (("place" : Pj)="place")=true by decide)];have:ag (aa (ae 1) (dC (.int 1)) aG) av [.pt a,.sh (.lst ([("place" : Pj),z].map D.str))]=.ok [.str z]:=by
    generalize [("place" : Pj),z].map D.str=W at i_1 ⊢;open_line with[i_1]
   rw[this];exact eV (BQ I hz)
  have hs:=Ju I i_0 i_1 rfl hz;cases c:cP ps ts es z with
  |false=>
   rw[c]at hs;refine .inl ⟨hs,λa=>?_⟩;have:=hr' a;rw[c,if_neg ff]at this;exact this
  |true=>
   rw[c]at hs;have hc:=c;unfold cP at hc;simp only[Pr,QU,decide_eq_false_iff_not]at hc;have hlen:(ps++[z]).length<=7:=by rw[P1];have:=I.n7;have:=hc.2.2.1;simp;omega
   refine .inr ⟨ps++[z],ts,es,⟨hlen,λy hy=>?_,I.n14,I.ti,I.n2⟩,hs,λa=>?_,λa A R J=>E7 I i_0 i_1⟩
   .rcases Q9.mp hy with hy|hy
    .exact I.nm y hy
    .rw[Qd.mp hy];exact hc.2.2.2.1
   .have:=hr' a
    rw[c,if_pos rfl]at this;exact this
 .refine .inl ⟨LZ I i_0 (by rw[Ph];exact h2),λa=>?_⟩
  have:=hr a;rw[show fS (("place" : Pj)::ws) 2=false from decide_eq_false h2,PR,if_neg ff,show decide (("place" : Pj)="tie")=false by decide,Pk,if_neg ff,show decide (("place" : Pj)="first")=false by decide,Pk,if_neg ff,show decide (("place" : Pj)="last")=false by decide,Pk,if_neg ff]at this;exact this
end
section
variable {ps:bv}{ts:ac}{es ws:bv}{z w0 w1 w2 w3 w4 w5:Pj}{W:ac}
def lh(h:w0≠"place"):cQ (.str w0) (.str "place")=.ok (.bl false):=by rw[bU,decide_eq_false h]
def tX(i_0:aG (.lst W) (.int 0)=.ok (.str w0))(hp:w0≠"place")(h:ps.length<2):aA [WD ps ts es,.lst W]=.ok (.bl false):=by
 have e:=Ga (ps:=ps);rw[decide_eq_true h]at e;open_line with[aA,aP,i_0,lh hp,Ph,e]
def xo(I:Inv ps ts es)(i_0:aG (.lst W) (.int 0)=.ok (.str "tie")){T:D}(hT:aS [.lst W,.lst (ps.map D.str)]=.ok T)(h2:¬ps.length<2):aA [WD ps ts es,.lst W]=.ok (.bl (es.isEmpty&&(!(decide (ts.length=14))&&!(fL T)))):=by
 have e:=Ga (ps:=ps);rw[decide_eq_false h2]at e;have p1:=lh (w0:="tie") (by decide);have p2:=bU (a:="tie") (b:="tie");rw[decide_eq_true rfl]at p2;have e2:=IF (es:=es);have e3:=My I;cases c2:es.isEmpty with
 |false=>rw[c2]at e2;open_line with[aA,aP,i_0,p1,p2,Ph,e,e2,Pk]
 |true=>
 rw[c2]at e2;cases c3:decide (ts.length=14) with
 |true=>rw[c3]at e3;open_line with[aA,aP,i_0,p1,p2,Ph,e,e2,e3,PC,Pt,Pk]
 |false=>rw[c3]at e3;open_line with[aA,aP,i_0,p1,p2,Ph,e,e2,e3,hT,show nW T .non=.ok (.bl (!(fL T))) from rfl,Px,Pt]
def Ff(h:W.length≠6):aS [.lst W,.lst (ps.map D.str)]=.ok .non:=by
 have l6:ir (.int ((W.length:Nat):Int)) (.int 6)=.ok (.bl true):=by
  have:ir (.int ((W.length:Nat):Int)) (.int 6)=.ok (.bl (!(cC (.int ((W.length:Nat):Int)) (.int 6)))):=by unfold ir;rw[if_pos ⟨rfl,rfl⟩]
  rw[this,cC];show aj.ok (D.bl (!(decide ((W.length:Int)=6))))=_;rw[decide_eq_false (by omega)];rfl
 open_line with[aS,cU,l6]
def BP(h1:w1∈ps)(h2:w2∈ps)(hn:w1≠w2):¬ps.length<2:=λh=>by
 match ps,h with
 |[],_=>cases h1
 |[x],_=>exact hn ((Qd.mp h1).trans (Qd.mp h2).symm)
def LA(I:Inv ps ts es)(i_0:aG (.lst W) (.int 0)=.ok (.str "tie")){T:D}(hT:aS [.lst W,.lst (ps.map D.str)]=.ok T)(hf:ju T=true){a:Pg}{A R J:D}:upd a [.sh A,.pt a,.sh R,.sh J,.sh (.lst W)] (S ps ts es)=.ok (.nx [.sh A,.pt a,.sh R,.sh J,.sh (.lst W)] (S ps (ts++[T]) es)):=by
 have p1:=lh (w0:="tie") (by decide);have p2:=bU (a:="tie") (b:="tie");rw[decide_eq_true rfl]at p2;have hl:decide (((S ps ts es).at 1).length<100)=true:=decide_eq_true (by show ts.length<100;have:=I.n14;omega);have e:(S ps ts es).add 1 T=S ps (ts++[T]) es:=rfl;open_line with[upd,aR,vH,i_0,p1,p2,cG,dZ,xG,Og,hT,kM hf hl,e,bQ,cI]
def B4(I:Inv ps ts es)(hz:∀w∈ws,w.length<=90000):Es ps ts es (("tie" : Pj)::ws):=by
 have hr:=λa=>vc (ws:=("tie" : Pj)::ws) (w0:="tie") I rfl a;have i_0:=i0 (w0:="tie") (ws:=ws);have np:∀b:Bool,¬((decide (("tie" : Pj)="place")&&b)=true):=λb=>by rw[show decide (("tie" : Pj)="place")=false by decide,Pk];exact ff
 by_cases h6:(("tie" : Pj)::ws).length=6
 .obtain⟨w1,w2,w3,w4,w5,rfl⟩:=C4 (w0:="tie") (decide_eq_true h6)
  obtain⟨d,h1,hl,hd⟩:=vd (w0:="tie") (w1:=w1) (w2:=w2) (w3:=w3) (w4:=w4) (w5:=w5) (ps:=ps) (hz _ (by simp)) (hz _ (by simp)) (hz _ (by simp)) (hz _ (by simp)) I.nm;have hr':∀a,m_takes_row a (S ps ts es) [.lst ([("tie" : Pj),w1,w2,w3,w4,w5].map D.str)]=dH a m_takes_tie (S ps ts es) [d]:=λa=>by
   rw[hr a,if_neg (np _),show fS [("tie" : Pj),w1,w2,w3,w4,w5] 6=true from rfl,Rb,if_pos (show decide (("tie" : Pj)="tie")=true by decide)];have:ag (ak (ag (ae 1) av) m_read_tie) av [.pt a,.sh (.lst ([("tie" : Pj),w1,w2,w3,w4,w5].map D.str))]=.ok [d]:=by
    have h1':m_read_tie [.lst ([("tie" : Pj),w1,w2,w3,w4,w5].map D.str)]=.ok d:=h1;generalize [("tie" : Pj),w1,w2,w3,w4,w5].map D.str=W at h1' ⊢;open_line with[h1']
   rw[this];rfl
  have hl':aS [.lst ([("tie" : Pj),w1,w2,w3,w4,w5].map D.str),.lst (ps.map D.str)]=_:=hl;have stf:fL (if fL d=false/\w1∈ps/\w2∈ps then d else D.non)=true->aA [WD ps ts es,.lst ([("tie" : Pj),w1,w2,w3,w4,w5].map D.str)]=.ok (.bl false):=λh=>by
   by_cases h2:ps.length<2
   .exact tX i_0 (by decide) h2
   .rw[xo I i_0 hl' h2,h,PC,PR,PR]
  rcases hd with rfl|⟨L,O,rfl,hL,hO,hne⟩
  .refine .inl ⟨stf (by rw[if_neg (λz=>by cases z.1)];rfl),λa=>?_⟩
   rw[hr' a];exact eV vb
  .have ht:=λa=>LD (a:=a) (w1:=w1) (w2:=w2) (w3:=w3) I hL hO
   by_cases hm:w1∈ps/\w2∈ps
   .have hT:(if fL (jQ w1 w2 w3 L O)=false/\w1∈ps/\w2∈ps then jQ w1 w2 w3 L O else D.non)=jQ w1 w2 w3 L O:=if_pos ⟨rfl,hm⟩
    rw[hT]at hl';have hs:=xo I i_0 hl' (BP hm.1 hm.2 hne);rw[show fL (jQ w1 w2 w3 L O)=false from rfl,Px,Rb]at hs;have ec:(es.isEmpty&&(!(decide (ts.length=14))&&(decide (w1∈ps)&&decide (w2∈ps))))=(es.isEmpty&&!(decide (ts.length=14))):=by rw[decide_eq_true hm.1,decide_eq_true hm.2,Rb,Rb]
    rw[ec]at ht;cases c:(es.isEmpty&&!(decide (ts.length=14))) with
    |false=>
     rw[c]at hs;refine .inl ⟨hs,λa=>?_⟩;rw[hr' a];have:=ht a;rw[c,if_neg ff]at this;exact eV this
    |true=>
     rw[c]at hs;have hc:=c;simp only[Pr,QU,decide_eq_false_iff_not]at hc;have td:qZ (jQ w1 w2 w3 L O):=⟨_,_,_,_,_,rfl,hL,hO⟩
     refine .inr ⟨ps,ts++[jQ w1 w2 w3 L O],es,⟨I.n7,I.nm,by rw[P1];have:=I.n14;have:=hc.2;simp;omega,λt h=>?_,I.n2⟩,hs,λa=>?_,λa A R J=>LA I i_0 hl' td.fl⟩
     .rcases Q9.mp h with h|h
      .exact I.ti t h
      .rw[Qd.mp h];exact td
     .rw[hr' a]
      have:=ht a;rw[c,if_pos rfl]at this;exact eV this
   .refine .inl ⟨stf (by rw[if_neg (λz=>hm z.2)];rfl),λa=>?_⟩
    rw[hr' a];have:=ht a;have ec:(decide (w1∈ps)&&decide (w2∈ps))=false:=by
     rw[TJ,Ne,Pr,decide_eq_true_eq,decide_eq_true_eq];exact hm
    rw[ec,PR,PR,if_neg ff]at this;exact eV this
 .refine .inl ⟨?_,λa=>?_⟩
  .by_cases h2:ps.length<2
   .exact tX i_0 (by decide) h2
   .rw[xo I i_0 (Ff (by rw[Ph];exact h6)) h2,mn,PC,PR,PR]
  .have:=hr a
   rw[if_neg (np _),show fS (("tie" : Pj)::ws) 6=false from decide_eq_false h6,PR,if_neg ff,show decide (("tie" : Pj)="first")=false by decide,Pk,if_neg ff,show decide (("tie" : Pj)="last")=false by decide,Pk,if_neg ff]at this;exact this
end
section
variable {ps:bv}{ts:ac}{es ws:bv}{z w0:Pj}{W:ac}
def Jt(i_0:aG (.lst W) (.int 0)=.ok (.str w0))(hp:w0≠"place")(ht:w0≠"tie")(h:W.length≠2):aA [WD ps ts es,.lst W]=.ok (.bl false):=by
 by_cases h2:ps.length<2
 .exact tX i_0 hp h2
 have e:=Ga (ps:=ps);rw[decide_eq_false h2]at e;have p2:=bU (a:=w0) (b:="tie");rw[decide_eq_false ht]at p2;have l2:=Gj (W:=W);rw[decide_eq_false h]at l2;open_line with[aA,aP,i_0,lh hp,p2,Ph,e,l2,Px]
def Js(i_0:aG (.lst W) (.int 0)=.ok (.str w0))(i_1:aG (.lst W) (.int 1)=.ok (.str z))(hp:w0≠"place")(ht:w0≠"tie")(h:W.length=2):aA [WD ps ts es,.lst W]=.ok (.bl (!(decide (ps.length<2))&&(decide (z∈ps)&&(if w0="first" then es.isEmpty else(decide (w0="last")&&(decide (es.length=1)&&!(decide (z∈es)))))))):=by
 by_cases h2:ps.length<2
 .rw[decide_eq_true h2];exact tX i_0 hp h2
 have e:=Ga (ps:=ps);rw[decide_eq_false h2]at e ⊢;have p2:=bU (a:=w0) (b:="tie");rw[decide_eq_false ht]at p2;have p3:=bU (a:=w0) (b:="first");have p4:=bU (a:=w0) (b:="last");have l2:=Gj (W:=W);rw[decide_eq_true h]at l2;have e5:=eF (zs:=ps) (z:=z);have e2:=IF (es:=es);have en:=nk (n:=(es.length:Int)) (m:=1);rw[show decide ((es.length:Int)=1)=decide (es.length=1) by rw[QJ,decide_eq_true_eq,decide_eq_true_eq];omega]at en;rw[Px,Pt];cases c5:decide (z∈ps) with
 |false=>rw[c5]at e5;open_line with[aA,aP,i_0,i_1,lh hp,p2,Ph,e,l2,e5,Px,PC,Pk]
 |true=>
 rw[c5]at e5
 by_cases h3:w0="first"
 .rw[decide_eq_true h3]at p3
  rw[if_pos h3];open_line with[aA,aP,i_0,i_1,lh hp,p2,p3,Ph,e,l2,e5,e2,Px,PC,Pt]
 .rw[decide_eq_false h3]at p3
  rw[if_neg h3];cases c4:decide (w0=("last" : Pj)) with
  |false=>rw[c4]at p4;open_line with[aA,aP,i_0,i_1,lh hp,p2,p3,p4,Ph,e,l2,e5,Px,PC,Pt,Pk]
  |true=>
  rw[c4]at p4;cases c6:decide (es.length=1) with
  |false=>rw[c6]at en;open_line with[aA,aP,i_0,i_1,lh hp,p2,p3,p4,Ph,e,l2,e5,en,Px,PC,Pt,Pk]
  |true=>
   rw[c6]at en
   match es,of_decide_eq_true c6,en with
   |[y],_,en=>
   have j0:aG (.lst ([y].map D.str)) (.int 0)=.ok (.str y):=rfl;have ny:=my (a:=z) (b:=y);rw[show decide (z∈[y])=decide (z=y) by rw[QJ,decide_eq_true_eq,decide_eq_true_eq,Qd]];have en:cQ (.int (([y].map D.str).length:Int)) (.int 1)=.ok (.bl true):=rfl;generalize [y].map D.str=Y at j0 en ⊢;open_line with[aA,aP,i_0,i_1,lh hp,p2,p3,p4,Ph,e,l2,e5,en,j0,ny,Px,PC,Pt]
def LB(I:Inv ps ts es)(i_0:aG (.lst W) (.int 0)=.ok (.str w0))(i_1:aG (.lst W) (.int 1)=.ok (.str z))(hp:w0≠"place")(ht:w0≠"tie"){a:Pg}{A R J:D}:upd a [.sh A,.pt a,.sh R,.sh J,.sh (.lst W)] (S ps ts es)=.ok (.nx [.sh A,.pt a,.sh R,.sh J,.sh (.lst W)] (S ps ts (es++[z]))):=by
 have p2:=bU (a:=w0) (b:="tie");rw[decide_eq_false ht]at p2;have hl:decide (((S ps ts es).at 2).length<100)=true:=decide_eq_true (by show(es.map D.str).length<100;rw[Ph];have:=I.n2;omega);have hf:ju (D.str z)=true:=rfl;have e:(S ps ts es).add 2 (.str z)=S ps ts (es++[z]):=by
  show(⟨ps.map D.str,ts,es.map D.str++[.str z]⟩:S3)=⟨ps.map D.str,ts,(es++[z]).map D.str⟩;rw[Qx];rfl
 open_line with[upd,aR,vH,i_0,i_1,lh hp,p2,dZ,xG,kM hf hl,e,bQ,cI]
def Ab(I:Inv ps ts es)(hp:w0≠"place")(ht:w0≠"tie"):Es ps ts es (w0::ws):=by
 have hr:=λa=>vc (ws:=w0::ws) (w0:=w0) I rfl a;have i_0:=i0 (w0:=w0) (ws:=ws);have np:∀b:Bool,¬((decide (w0=("place" : Pj))&&b)=true):=λb=>by rw[decide_eq_false hp,Pk];exact ff
 have nt:∀b:Bool,¬((decide (w0=("tie" : Pj))&&b)=true):=λb=>by rw[decide_eq_false ht,Pk];exact ff
 by_cases h2:(w0::ws).length=2
 .obtain⟨z,rfl⟩:=uB (w0:=w0) (decide_eq_true h2)
  have i_1:=i1 (w0:=w0) (z:=z) (ws:=[]);have hs:=Js (ps:=ps) (ts:=ts) (es:=es) i_0 i_1 hp ht rfl;have ha:∀a,ag (aa (ae 1) (dC (.int 1)) aG) av [.pt a,.sh (.lst ([w0,z].map D.str))]=.ok [.str z]:=λa=>by
   generalize [w0,z].map D.str=W at i_1 ⊢;open_line with[i_1]
  have go:es.length<=1->(∀a,m_takes_row a (S ps ts es) [.lst ([w0,z].map D.str)]=dH a m_takes_end (S ps ts es) [.str z])->aA [WD ps ts es,.lst ([w0,z].map D.str)]=.ok (.bl (!(decide (ps.length<2))&&(decide (z∈ps)&&!(decide (z∈es)))))->Es ps ts es [w0,z]:=λhn hr' hs'=>by
   cases c:(!(decide (ps.length<2))&&(decide (z∈ps)&&!(decide (z∈es)))) with
   |false=>
    rw[c]at hs';refine .inl ⟨hs',λa=>?_⟩;have:=Fj (a:=a) (z:=z) I;rw[c,if_neg ff]at this;rw[hr' a];exact eV this
   |true=>
    rw[c]at hs';refine .inr ⟨ps,ts,es++[z],⟨I.n7,I.nm,I.n14,I.ti,by rw[P1];simp;omega⟩,hs',λa=>?_,λa A R J=>LB I i_0 i_1 hp ht⟩;have:=Fj (a:=a) (z:=z) I;rw[c,if_pos rfl]at this;rw[hr' a];exact eV this
  by_cases h3:w0="first"
  .rw[if_pos h3]at hs
   have hr':∀a,m_takes_row a (S ps ts es) [.lst ([w0,z].map D.str)]=(if es.isEmpty=true then dH a m_takes_end (S ps ts es) [.str z] else .ok (.bl false,S ps ts es)):=λa=>by
    rw[hr a,if_neg (np _),if_neg (nt _),decide_eq_true h3,show fS [w0,z] 2=true from rfl,if_pos (show(true&&true)=true from rfl),ha];rfl
   cases c:es.isEmpty with
   |true=>
    have he:es=[]:=SS.mp c;subst he;exact go (by simp) (λa=>by rw[hr' a];rfl) (by rw[hs];simp)
   |false=>
    rw[c,PR,PR]at hs;exact .inl ⟨hs,λa=>by rw[hr' a,c,if_neg ff]⟩
  .rw[if_neg h3]at hs
   have nf:∀b:Bool,¬((decide (w0=("first" : Pj))&&b)=true):=λb=>by rw[decide_eq_false h3,Pk];exact ff
   by_cases h4:w0="last"
   .rw[decide_eq_true h4,Pt]at hs
    have hr':∀a,m_takes_row a (S ps ts es) [.lst ([w0,z].map D.str)]=(if decide (es.length=1)=true then dH a m_takes_end (S ps ts es) [.str z] else .ok (.bl false,S ps ts es)):=λa=>by
     rw[hr a,if_neg (np _),if_neg (nt _),if_neg (nf _),decide_eq_true h4,show fS [w0,z] 2=true from rfl,if_pos (show(true&&true)=true from rfl),ha];rfl
    cases c:decide (es.length=1) with
    |true=>
     rw[c,Pt]at hs;exact go (by have:=of_decide_eq_true c;omega) (λa=>by rw[hr' a,c,if_pos rfl]) hs
    |false=>
     rw[c,Pk,PR,PR]at hs;exact .inl ⟨hs,λa=>by rw[hr' a,c,if_neg ff]⟩
   .rw[decide_eq_false h4,Pk,PR,PR]at hs
    refine .inl ⟨hs,λa=>?_⟩;have:=hr a;rw[if_neg (np _),if_neg (nt _),if_neg (nf _),decide_eq_false h4,Pk,if_neg ff]at this;exact this
 .refine .inl ⟨Jt i_0 hp ht (by rw[Ph];exact h2),λa=>?_⟩
  have:=hr a;rw[show fS (w0::ws) 2=false from decide_eq_false h2,PR,PR,PR,if_neg ff,if_neg (nt _),if_neg ff,if_neg ff]at this;exact this
def step(I:Inv ps ts es)(hw:ws≠[])(hz:∀w∈ws,w.length<=90000):Es ps ts es ws:=by
 match ws,hw with
 |w0::r,_=>
  by_cases hp:w0="place"
  .subst hp;exact xm I λw h=>hz w (Pw _ h)
  .by_cases ht:w0="tie"
   .subst ht;exact B4 I λw h=>hz w (Pw _ h)
   .exact Ab I hp ht
end
def eg(a b:Pj):(a++b).length=a.length+b.length:=by
 rw[←cK,ib,P1,cK,cK]
theorem vV{y p:Pj}:∀{ps:bv},p∈ps->p.length<=(SQ y ps).length
 |[a],h=>by rw[Iv,Qd.mp h];exact P9 _
 |a::b::r,h=>by
  rw[Dc,eg,eg];rcases PL.mp h with rfl|h
  .omega
  .have:=vV (y:=y) h;omega
def fX{x y p:Pj}(h:p∈QO x y):p.length<=x.length:=by
 have:=vV (y:=y) h;rw[Sx x y]at this;exact this
def pq{x y:Pj}:QO x y≠[]:=by
 intro e;unfold QO at e;split at e
 .cases e
 .split at e
  .cases e
  .rw[Us]at e
   obtain⟨a,r,q⟩:=S7 x y.length 0 (RE x y 0 x.length (x.length+1));rw[q]at e;cases e
def vh{z w:Pj}(hw:(w.length==0)=false)(hz:z.length<=90000):bN z w=.ok (.lst ((QO z w).map D.str)):=if_pos ⟨hw,by omega⟩
abbrev oF(r:Pj):bv:=QO r " "
def u7{r:Pj}(h:r.length<=90000):bN r " "=.ok (.lst ((oF r).map D.str)):=vh rfl h
def De(s:Ev->S3->aj fz)(ρ:Ev)(p:D×S3):aj fz:=match p.1 with
 |.bl b=>if b=true then .ok (.nx ρ p.2) else s ρ p.2
 |_=>.stuck
section
variable {s:Ev->S3->aj fz}{g:Ev->S3->aj (D×S3)}{f:bd}{ρ:Ev}{st:S3}
def C7:A0 g s ρ st=(g ρ st).bind (De s ρ):=by
 unfold A0;congr 1;funext p;rcases p with⟨d,p⟩;cases d with
 |bl b=>cases b<;>rfl
 |_=>rfl
def Gn:De s ρ (.bl true,st)=.ok (.nx ρ st):=rfl
def Gm:De s ρ (.bl false,st)=s ρ st:=rfl
def fK:gZ f ρ st=(f ρ).bind (xV st):=rfl
def iX{ρ':Ev}:xV st (.nx ρ')=.ok (.nx ρ' st):=rfl
end
abbrev jG(a:Pg):Ev->S3->aj fz :=
 (bw (A0 (iy 1 a (ag (kU bN (ae 4) (dC (.str " "))) av) m_takes_row)
 (bw (gZ (bI "NoText" ["row"] (ag (ae 3) av)))
 aZ))
 aZ)
noncomputable abbrev lp(a:Pg):Ev->S3->aj fz :=
 (bw (gZ (bb 4 (kU bN (aa (ae 2) (ae 3) aG) (dC (.str " ")))))
 (bw (ml (.tup) 1 a (cB (ak (ag (ae 1) (ag (ae 4) av)) aA))
 (bw (j9 (ak (ag (ae 3) (ag (dC (.non)) av)) j6))
 aZ)
 aZ)
 (upd a)))
abbrev NR(k:Nat):IU:=⟨"NoText",[("row",.int (k:Int))]⟩
section
variable {ps:bv}{ts:ac}{es:bv}{r:Pj}{A R:D}{a:Pg}{k:Nat}{st':S3}
def y6(h:r.length<=90000){x:D}:kU bN (ae 4) (dC (.str " ")) [.sh A,.pt a,.sh R,.sh x,.sh (.str r)]=.ok (.lst ((oF r).map D.str)):=u7 h
def CK(h:r.length<=90000)(hr:m_takes_row a (S ps ts es) [.lst ((oF r).map D.str)]=.ok (.bl true,st')):jG a [.sh A,.pt a,.sh R,.sh (.int (k:Int)),.sh (.str r)] (S ps ts es)=.ok (.nx [.sh A,.pt a,.sh R,.sh (.int (k:Int)),.sh (.str r)] st'):=by
 have hc:iy 1 a (ag (kU bN (ae 4) (dC (.str " "))) av) m_takes_row [.sh A,.pt a,.sh R,.sh (.int (k:Int)),.sh (.str r)] (S ps ts es)=.ok (.bl true,st'):=by
  rw[uC dX rfl];have:ag (kU bN (ae 4) (dC (.str " "))) av [.sh A,.pt a,.sh R,.sh (.int (k:Int)),.sh (.str r)]=.ok [.lst ((oF r).map D.str)]:=by open_line with[y6 h]
  rw[this];exact eV hr
 open_line with[jG,aR,C7,hc,Gn,bQ,cI]
def Mr(h:r.length<=90000)(hr:m_takes_row a (S ps ts es) [.lst ((oF r).map D.str)]=.ok (.bl false,st')):jG a [.sh A,.pt a,.sh R,.sh (.int (k:Int)),.sh (.str r)] (S ps ts es)=.exn (NR k):=by
 have hc:iy 1 a (ag (kU bN (ae 4) (dC (.str " "))) av) m_takes_row [.sh A,.pt a,.sh R,.sh (.int (k:Int)),.sh (.str r)] (S ps ts es)=.ok (.bl false,st'):=by
  rw[uC dX rfl];have:ag (kU bN (ae 4) (dC (.str " "))) av [.sh A,.pt a,.sh R,.sh (.int (k:Int)),.sh (.str r)]=.ok [.lst ((oF r).map D.str)]:=by open_line with[y6 h]
  rw[this];exact eV hr
 have hx:bI "NoText" ["row"] (ag (ae 3) av) [.sh A,.pt a,.sh R,.sh (.int (k:Int)),.sh (.str r)]=.exn (NR k):=rfl;open_line with[jG,aR,C7,hc,Gm,fK,hx,iL]
variable {RS:bv}
def zf{x:Sl}(h:r.length<=90000)(hk:RS[k]?=some r):bb 4 (kU bN (aa (ae 2) (ae 3) aG) (dC (.str " "))) [.sh A,.pt a,.sh (.lst (RS.map D.str)),.sh (.int (k:Int)),x]=.ok (.nx [.sh A,.pt a,.sh (.lst (RS.map D.str)),.sh (.int (k:Int)),.sh (.lst ((oF r).map D.str))]):=by
 have ix:aG (.lst (RS.map D.str)) (.int (k:Int))=.ok (.str r):=ka (by rw[P7,hk];rfl);have e:kU bN (aa (ae 2) (ae 3) aG) (dC (.str " ")) [.sh A,.pt a,.sh (.lst (RS.map D.str)),.sh (.int (k:Int)),x]=.ok (.lst ((oF r).map D.str)):=by
  have e2:aa (ae 2) (ae 3) aG [.sh A,.pt a,.sh (.lst (RS.map D.str)),.sh (.int (k:Int)),x]=.ok (.str r):=ix;unfold kU;rw[e2];exact u7 h
 open_line with[e]
def Ip{x:Sl}(h:r.length<=90000)(hk:RS[k]?=some r)(hs:aA [WD ps ts es,.lst ((oF r).map D.str)]=.ok (.bl true))(hu:upd a [.sh A,.pt a,.sh (.lst (RS.map D.str)),.sh (.int (k:Int)),.sh (.lst ((oF r).map D.str))] (S ps ts es)=.ok (.nx [.sh A,.pt a,.sh (.lst (RS.map D.str)),.sh (.int (k:Int)),.sh (.lst ((oF r).map D.str))] st')) :
  lp a [.sh A,.pt a,.sh (.lst (RS.map D.str)),.sh (.int (k:Int)),x] (S ps ts es)=.ok (.nx [.sh A,.pt a,.sh (.lst (RS.map D.str)),.sh (.int (k:Int)),.sh (.lst ((oF r).map D.str))] st'):=by
 unfold lp;rw[aR,fK,zf h hk];show bw _ _ _ _=_;rw[aR,vH];have hs':aA [dO .tup (S ps ts es),.lst ((oF r).map D.str)]=.ok (.bl true):=hs;have:cB (ak (ag (ae 1) (ag (ae 4) av)) aA) [.sh A,.sh (dO .tup (S ps ts es)),.sh (.lst (RS.map D.str)),.sh (.int (k:Int)),.sh (.lst ((oF r).map D.str))]=.ok (.bl false):=by open_line with[hs',PC]
 rw[this];exact hu
def Oa{x:Sl}(h:r.length<=90000)(hk:RS[k]?=some r)(hs:aA [WD ps ts es,.lst ((oF r).map D.str)]=.ok (.bl false)) :
  lp a [.sh A,.pt a,.sh (.lst (RS.map D.str)),.sh (.int (k:Int)),x] (S ps ts es)=.ok (.rt (.tup [.int (k:Int),.non]) (S ps ts es)):=by
 unfold lp;rw[aR,fK,zf h hk];show bw _ _ _ _=_;rw[aR,vH];have hs':aA [dO .tup (S ps ts es),.lst ((oF r).map D.str)]=.ok (.bl false):=hs;have:cB (ak (ag (ae 1) (ag (ae 4) av)) aA) [.sh A,.sh (dO .tup (S ps ts es)),.sh (.lst (RS.map D.str)),.sh (.int (k:Int)),.sh (.lst ((oF r).map D.str))]=.ok (.bl true):=by open_line with[hs',Px]
 rw[this];rfl
def Pn(x:Sl):Prop:=x=.no∨∃d,x=.sh d
theorem C1(hR:∀r∈RS,r.length<=90000):∀(n k:Nat) (ps:bv) (ts:ac) (es:bv) (x3 x4 y3 y4:Sl),k+n=RS.length->Inv ps ts es->Pn x3->Pn x4->Pn y3->Pn y4 ->
  (∃j:Nat,(∀a,lJ (k7 [3,4]) (jG a) (numbered k ((RS.drop k).map D.str)) [.sh A,.pt a,.sh (.lst (RS.map D.str)),x3,x4] (S ps ts es)=.exn (NR j))/\∃st',∀a,lJ (eC 3) (lp a) ((TX k n).map λ(i:Nat)=>D.int (0+(i:Int))) [.sh A,.pt a,.sh (.lst (RS.map D.str)),y3,y4] (S ps ts es)=.ok (.rt (.tup [.int (j:Int),.non]) st')) ∨
  ∃ps' ts' es' x3' x4' y3' y4',Inv ps' ts' es'/\(Pn x3'/\Pn x4'/\Pn y3'/\Pn y4')/\(∀a,lJ (k7 [3,4]) (jG a) (numbered k ((RS.drop k).map D.str)) [.sh A,.pt a,.sh (.lst (RS.map D.str)),x3,x4] (S ps ts es)=.ok (.nx [.sh A,.pt a,.sh (.lst (RS.map D.str)),x3',x4'] (S ps' ts' es'))) /\
   ∀a,lJ (eC 3) (lp a) ((TX k n).map λ(i:Nat)=>D.int (0+(i:Int))) [.sh A,.pt a,.sh (.lst (RS.map D.str)),y3,y4] (S ps ts es)=.ok (.nx [.sh A,.pt a,.sh (.lst (RS.map D.str)),y3',y4'] (S ps' ts' es'))
 |0,k,ps,ts,es,x3,x4,y3,y4,hk,I,q1,q2,q3,q4=>by
  rw[UL (show RS.length<=k by omega)];exact .inr ⟨ps,ts,es,x3,x4,y3,y4,I,⟨q1,q2,q3,q4⟩,λa=>rfl,λa=>rfl⟩
 |n+1,k,ps,ts,es,x3,x4,y3,y4,hk,I,q1,q2,q3,q4=>by
  have hlt:k<RS.length:=by omega
  have hg:RS[k]?=some RS[k]:=Pu hlt;have hr:=hR _ (RC hlt);rw[QD hlt,List.range'_succ];generalize RS[k]=r at hg hr;have st:=step (ws:=oF r) I pq λw h=>PB (fX h) hr;have z0:(0:Int)+(k:Int)=(k:Int):=by omega
  rcases st with⟨hs,hp⟩|⟨ps',ts',es',I',hs,hp,hu⟩
  .refine .inl ⟨k,λa=>?_,S ps ts es,λa=>?_⟩
   .show(jG a [.sh A,.pt a,.sh (.lst (RS.map D.str)),.sh (.int (k:Int)),.sh (.str r)] (S ps ts es)).bind _=_
    rw[Mr hr (hp a)];rfl
   .show(lp a [.sh A,.pt a,.sh (.lst (RS.map D.str)),.sh (.int (0+(k:Int))),y4] (S ps ts es)).bind _=_
    rw[z0,Oa hr hg hs];rfl
  .rcases C1 hR n (k+1) ps' ts' es' (.sh (.int (k:Int))) (.sh (.str r)) (.sh (.int (k:Int))) (.sh (.lst ((oF r).map D.str))) (by omega) I' (.inr ⟨_,rfl⟩) (.inr ⟨_,rfl⟩) (.inr ⟨_,rfl⟩) (.inr ⟨_,rfl⟩) with⟨j,h1,st',h2⟩|⟨ps2,ts2,es2,x3',x4',y3',y4',I2,Q,h1,h2⟩
   .refine .inl ⟨j,λa=>?_,st',λa=>?_⟩
    .show(jG a [.sh A,.pt a,.sh (.lst (RS.map D.str)),.sh (.int (k:Int)),.sh (.str r)] (S ps ts es)).bind _=_
     rw[CK hr (hp a)];exact h1 a
    .show(lp a [.sh A,.pt a,.sh (.lst (RS.map D.str)),.sh (.int (0+(k:Int))),y4] (S ps ts es)).bind _=_
     rw[z0,Ip hr hg hs (hu a A _ _)];exact h2 a
   .refine .inr ⟨ps2,ts2,es2,x3',x4',y3',y4',I2,Q,λa=>?_,λa=>?_⟩
    .show(jG a [.sh A,.pt a,.sh (.lst (RS.map D.str)),.sh (.int (k:Int)),.sh (.str r)] (S ps ts es)).bind _=_
     rw[CK hr (hp a)];exact h1 a
    .show(lp a [.sh A,.pt a,.sh (.lst (RS.map D.str)),.sh (.int (0+(k:Int))),y4] (S ps ts es)).bind _=_
     rw[z0,Ip hr hg hs (hu a A _ _)];exact h2 a
end
section
variable {A R:D}{x3 x4:Sl}{a:Pg}{f:am}{s t:Ev->S3->aj fz}{st:S3}
def AE{h:Hk}(q3:Pn x3)(q4:Pn x4):ml h 1 a f s t [.sh A,.pt a,.sh R,x3,x4] st=(f [.sh A,.sh (dO h st),.sh R,x3,x4]).bind (A1 s t [.sh A,.pt a,.sh R,x3,x4] st):=by
 rcases q3 with rfl|⟨d,rfl⟩<;>rcases q4 with rfl|⟨e,rfl⟩<;>exact C8 dX rfl
def JK{w:Bool}:Bw 1 a w [.sh A,.pt a,.sh R,x3,x4] st=Nw st w:=if_pos dX
end
def B5{f:am}{ρ:Ev}{n:Nat}(h:f ρ=.ok (.int (n:Int)))(hn:n<=100000):pj f ρ=.ok ((TX 0 n).map λ(i:Nat)=>D.int (0+(i:Int))):=by
 unfold pj;rw[h,cT];dsimp only;rw[if_pos (by omega),Ry,DL.intsFrom,List.range_eq_range']
def m6{src:Ev->aj (ac)}{tg:Ev->D->aj Ev}{s:Ev->S3->aj fz}{ρ:Ev}{st:S3}{ds:ac}(h:src ρ=.ok ds):vW src tg s ρ st=lJ tg s ds ρ st:=by unfold vW;rw[h];rfl
def Lp:(⟨[],[],[]⟩:S3)=S [] [] []:=rfl
abbrev rm(t:Pj):bv:=QO t "\n"
def yO{t:Pj}(h:t.length<=90000):bN t "\n"=.ok (.lst ((rm t).map D.str)):=vh rfl h
noncomputable abbrev jU(a:Pg):Ev->S3->aj fz :=
 (bw (gZ (bb 2 (kU bN (ae 0) (dC (.str "\n")))))
 (bw (vW (pk (ae 2)) (k7 [3,4]) (jG a))
 (bw (ml (.ins "Draft" ["places","ties","ends"]) 1 a (aa (ak (ag (aW (ae 1) (gb "ends")) av) (m1 bz)) (dC (.int 2)) jO)
 (bw (gZ (bI "NoText" ["row"] (ag (ak (ag (ae 2) av) (m1 bz)) av)))
 aZ)
 aZ)
 (bw (Bw 1 a false)
 aZ))))
noncomputable abbrev vT(a:Pg):Ev->S3->aj fz :=
 (bw (gZ (bb 2 (kU bN (ae 0) (dC (.str "\n")))))
 (bw (vW (pj (ak (ag (ae 2) av) (m1 bz))) (eC 3) (lp a))
 (bw (ml (.tup) 1 a (aa (ak (ag (aa (ae 1) (dC (.int 2)) aG) av) (m1 bz)) (dC (.int 2)) jO)
 (bw (j9 (ak (ag (ak (ag (ae 2) av) (m1 bz)) (ag (dC (.non)) av)) j6))
 aZ)
 aZ)
 (bw (Bw 1 a true)
 aZ))))
def HU(d:D):Prop:=∃(ps:bv) (ts:ac) (z0 z1:Pj),d=.tup [.ob .pl (ps.map D.str),.ob .pl ts,.str z0,.str z1]/\∀t∈ts,qZ t
def Om{t:Pj}(h:t.length<=90000) :
  (∃j:Nat,(∀a,jU a [.sh (.str t),.pt a,.no,.no,.no] ⟨[],[],[]⟩=.exn (NR j))/\∃st',∀a,vT a [.sh (.str t),.pt a,.no,.no,.no] ⟨[],[],[]⟩=.ok (.rt (.tup [.int (j:Int),.non]) st')) ∨
  ∃d,HU d/\(∀a,jU a [.sh (.str t),.pt a,.no,.no,.no] ⟨[],[],[]⟩=.ok (.fr d))/\∀a,vT a [.sh (.str t),.pt a,.no,.no,.no] ⟨[],[],[]⟩=.ok (.fr (.tup [.non,d])):=by
 have hsp:∀a,bb 2 (kU bN (ae 0) (dC (.str "\n"))) [.sh (.str t),.pt a,.no,.no,.no]=.ok (.nx [.sh (.str t),.pt a,.sh (.lst ((rm t).map D.str)),.no,.no]):=λa=>by
  have e:kU bN (ae 0) (dC (.str "\n")) [.sh (.str t),.pt a,.no,.no,.no]=.ok (.lst ((rm t).map D.str)):=yO h;open_line with[e]
 have hlen:(rm t).length<=100000:=by have:=split_len (x:=t) (y:="\n");show(QO t "\n").length<=_;omega
 have hR:∀r∈rm t,r.length<=90000:=λr hr=>PB (fX hr) h;have he:∀a,pk (ae 2) [.sh (.str t),.pt a,.sh (.lst ((rm t).map D.str)),.no,.no]=.ok (numbered 0 ((rm t).map D.str)):=λa=>rfl;have hn:∀a,pj (ak (ag (ae 2) av) (m1 bz)) [.sh (.str t),.pt a,.sh (.lst ((rm t).map D.str)),.no,.no]=.ok ((TX 0 (rm t).length).map λ(i:Nat)=>D.int (0+(i:Int))):=λa=>by
  have e:ak (ag (ae 2) av) (m1 bz) [.sh (.str t),.pt a,.sh (.lst ((rm t).map D.str)),.no,.no]=.ok (.int ((rm t).length:Int)):=by
   have:ak (ag (ae 2) av) (m1 bz) [.sh (.str t),.pt a,.sh (.lst ((rm t).map D.str)),.no,.no]=.ok (.int (((rm t).map D.str).length:Int)):=rfl;rw[this,Ph]
  exact B5 e hlen
 generalize rm t=RS at hsp hlen hR he hn;have L:=C1 (A:=.str t) hR RS.length 0 [] [] [] .no .no .no .no (by omega) ⟨by decide,by simp,by decide,by simp,by decide⟩ (.inl rfl) (.inl rfl) (.inl rfl) (.inl rfl);rw[SE]at L;rcases L with⟨j,h1,st',h2⟩|⟨ps,ts,es,x3,x4,y3,y4,I,⟨q1,q2,q3,q4⟩,h1,h2⟩
 .refine .inl ⟨j,λa=>?_,st',λa=>?_⟩
  .unfold jU
   rw[aR,fK,hsp a,cT,iX,cT,bQ,aR,m6 (he a),Lp,h1 a];rfl
  .unfold vT
   rw[aR,fK,hsp a,cT,iX,cT,bQ,aR,m6 (hn a),Lp,h2 a];rfl
 .have e2:∀n:Nat,jO (.int (n:Int)) (.int 2)=.ok (.bl (decide (n<2))):=λn=>by
   show aj.ok (D.bl (decide ((n:Int)<2)))=_
   congr 2;rw[QJ,decide_eq_true_eq,decide_eq_true_eq];omega
  have cP:∀a:Pg,aa (ak (ag (aW (ae 1) (gb "ends")) av) (m1 bz)) (dC (.int 2)) jO [.sh (.str t),.sh (dO DK (S ps ts es)),.sh (.lst (RS.map D.str)),x3,x4]=.ok (.bl (decide (es.length<2))):=λ_=>by
   have:aa (ak (ag (aW (ae 1) (gb "ends")) av) (m1 bz)) (dC (.int 2)) jO [.sh (.str t),.sh (dO DK (S ps ts es)),.sh (.lst (RS.map D.str)),x3,x4]=jO (.int ((es.map D.str).length:Int)) (.int 2):=rfl;rw[this,Ph];exact e2 _
  have cL:∀a:Pg,aa (ak (ag (aa (ae 1) (dC (.int 2)) aG) av) (m1 bz)) (dC (.int 2)) jO [.sh (.str t),.sh (dO .tup (S ps ts es)),.sh (.lst (RS.map D.str)),y3,y4]=.ok (.bl (decide (es.length<2))):=λ_=>by
   have:aa (ak (ag (aa (ae 1) (dC (.int 2)) aG) av) (m1 bz)) (dC (.int 2)) jO [.sh (.str t),.sh (dO .tup (S ps ts es)),.sh (.lst (RS.map D.str)),y3,y4]=jO (.int ((es.map D.str).length:Int)) (.int 2):=rfl;rw[this,Ph];exact e2 _
  have pr:∀a,jU a [.sh (.str t),.pt a,.no,.no,.no] ⟨[],[],[]⟩=(bw (ml DK 1 a (aa (ak (ag (aW (ae 1) (gb "ends")) av) (m1 bz)) (dC (.int 2)) jO) (bw (gZ (bI "NoText" ["row"] (ag (ak (ag (ae 2) av) (m1 bz)) av))) aZ) aZ) (bw (Bw 1 a false) aZ)) [.sh (.str t),.pt a,.sh (.lst (RS.map D.str)),x3,x4] (S ps ts es):=λa=>by
   unfold jU;rw[aR,fK,hsp a,cT,iX,cT,bQ,aR,m6 (he a),Lp,h1 a];rfl
  have lr:∀a,vT a [.sh (.str t),.pt a,.no,.no,.no] ⟨[],[],[]⟩=(bw (ml .tup 1 a (aa (ak (ag (aa (ae 1) (dC (.int 2)) aG) av) (m1 bz)) (dC (.int 2)) jO) (bw (j9 (ak (ag (ak (ag (ae 2) av) (m1 bz)) (ag (dC (.non)) av)) j6)) aZ) aZ) (bw (Bw 1 a true) aZ)) [.sh (.str t),.pt a,.sh (.lst (RS.map D.str)),y3,y4] (S ps ts es):=λa=>by
   unfold vT;rw[aR,fK,hsp a,cT,iX,cT,bQ,aR,m6 (hn a),Lp,h2 a];rfl
  by_cases c:es.length<2
  .refine .inl ⟨RS.length,λa=>?_,S ps ts es,λa=>?_⟩
   .rw[pr a,aR,AE q1 q2,cP a,decide_eq_true c,cT,cG]
    have hx:bI "NoText" ["row"] (ag (ak (ag (ae 2) av) (m1 bz)) av) [.sh (.str t),.pt a,.sh (.lst (RS.map D.str)),x3,x4]=.exn (NR RS.length):=by
     have:bI "NoText" ["row"] (ag (ak (ag (ae 2) av) (m1 bz)) av) [.sh (.str t),.pt a,.sh (.lst (RS.map D.str)),x3,x4]=.exn ⟨"NoText",[("row",.int ((RS.map D.str).length:Int))]⟩:=rfl;rw[this,Ph]
    rw[aR,fK,hx];rfl
   .rw[lr a,aR,AE q3 q4,cL a,decide_eq_true c,cT,cG]
    have hx:ak (ag (ak (ag (ae 2) av) (m1 bz)) (ag (dC (.non)) av)) j6 [.sh (.str t),.pt a,.sh (.lst (RS.map D.str)),y3,y4]=.ok (.tup [.int (RS.length:Int),.non]):=by
     have:ak (ag (ak (ag (ae 2) av) (m1 bz)) (ag (dC (.non)) av)) j6 [.sh (.str t),.pt a,.sh (.lst (RS.map D.str)),y3,y4]=.ok (.tup [.int ((RS.map D.str).length:Int),.non]):=rfl;rw[this,Ph]
    rw[aR,dY,hx];rfl
  .match es,I,c,pr,lr,cP,cL with
   |[],_,c,_,_,_,_=>exact absurd (show 0<2 by decide) c
   |[_],_,c,_,_,_,_=>exact absurd (show 1<2 by decide) c
   |z0::z1::zr,I,c,pr,lr,cP,cL=>
    refine .inr ⟨Ln (S ps ts (z0::z1::zr)) (.str z0) (.str z1),⟨ps,ts,z0,z1,rfl,I.ti⟩,λa=>?_,λa=>?_⟩
    .rw[pr a,aR,AE q1 q2,cP a,decide_eq_false c,cT,dZ,cI,cT,bQ,aR,JK];rfl
    .rw[lr a,aR,AE q3 q4,cL a,decide_eq_false c,cT,dZ,cI,cT,bQ,aR,JK];rfl
def wx{t:Pj}(h:t.length<=90000):(∃j:Nat,m_read_web [.str t]=.exn (NR j)/\cJ [.str t]=.ok (.tup [.int (j:Int),.non]))∨∃d,HU d/\m_read_web [.str t]=.ok d/\cJ [.str t]=.ok (.tup [.non,d]):=by
 have nn:k6 [.sh (.str t),.no,.no,.no,.no]=true/\1 < [Sl.sh (D.str t),.no,.no,.no,.no].length:=⟨rfl,by show 1<5;decide⟩
 have OI:cB (aW (ae 0) (gA "str")) [.sh (.str t),.no,.no,.no,.no]=.ok (.bl false):=rfl;have hp:∀{r:aj Fl},(∀a,sS (jU a [.sh (.str t),.pt a,.no,.no,.no] ⟨[],[],[]⟩)=r)->m_read_web [.str t]=r.bind rA:=λ{r} e=>by
  have e1:dQ 1 jU [.sh (.str t),.no,.no,.no,.no]=r:=by
   unfold dQ;rw[if_pos nn];exact uz e
  have e2:m_read_web [.str t]=(b_read_web [.sh (.str t),.no,.no,.no,.no]).bind rA:=rfl;have e3:b_read_web=aw (dP (cB (aW (ae 0) (gA "str"))) (aw (bI "NoText" ["row"] (ag (dC (.int 0)) av)) au) au) (dQ 1 jU):=rfl;rw[e2,e3,lK];have e4:dP (cB (aW (ae 0) (gA "str"))) (aw (bI "NoText" ["row"] (ag (dC (.int 0)) av)) au) au [.sh (.str t),.no,.no,.no,.no]=.ok (.nx [.sh (.str t),.no,.no,.no,.no]):=rfl;rw[e4,cT,jv,e1]
 have hl:∀{r:aj Fl},(∀a,sS (vT a [.sh (.str t),.pt a,.no,.no,.no] ⟨[],[],[]⟩)=r)->cJ [.str t]=r.bind rA:=λ{r} e=>by
  have e1:dQ 1 vT [.sh (.str t),.no,.no,.no,.no]=r:=by
   unfold dQ;rw[if_pos nn];exact uz e
  have e2:cJ [.str t]=(lR [.sh (.str t),.no,.no,.no,.no]).bind rA:=rfl;have e3:lR=dQ 1 vT:=rfl;rw[e2,e3,e1]
 rcases Om h with⟨j,h1,st',h2⟩|⟨d,G,h1,h2⟩
 .refine .inl ⟨j,?_,?_⟩
  .rw[hp (r:=.exn (NR j)) λa=>by rw[h1 a];rfl];rfl
  .rw[hl (r:=.ok (.rt (.tup [.int (j:Int),.non]))) λa=>by rw[h2 a];rfl];rfl
 .refine .inr ⟨d,G,?_,?_⟩
  .rw[hp (r:=.ok (.rt d)) λa=>by rw[h1 a];rfl];rfl
  .rw[hl (r:=.ok (.rt (.tup [.non,d]))) λa=>by rw[h2 a];rfl];rfl
theorem i7:∀{ts:ac},(∀t∈ts,fgt t=t)->fgts ts=ts
 |[],_=>rfl
 |t::r,h=>by
  show fgt t::fgts r=_;rw[h t P0,i7 λx hx=>h x (Pw _ hx)]
def qZ.fg{t:D}(h:qZ t):fgt t=t:=by
 obtain⟨w1,w2,w3,L,O,rfl,hL,hO⟩:=h;rcases hL with rfl|⟨p,q,rfl⟩<;>rcases hO with rfl|⟨p',q',rfl⟩<;>rfl
def HU.eq{d:D}(h:HU d):cQ (fgt d) (fgt d)=.ok (.bl true):=by
 obtain⟨ps,ts,z0,z1,rfl,ht⟩:=h;have e:fgt (.tup [.ob .pl (ps.map D.str),.ob .pl ts,.str z0,.str z1])=.tup [.lst (ps.map D.str),.lst ts,.str z0,.str z1]:=by
  show D.tup [.lst (fgts (ps.map D.str)),.lst (fgts ts),.str z0,.str z1]=_;rw[i7 (ts:=ts) λt h=>(ht t h).fg,i7 (ts:=ps.map D.str) λt h=>by obtain⟨z,_,rfl⟩:=Qt.mp h;rfl]
 rw[e];have sh:bg 40 (.tup [.lst (ps.map D.str),.lst ts,.str z0,.str z1])=true:=by
  have m38:∀{t:D},qZ t->bg 38 t=true:=λh=>by
   obtain⟨w1,w2,w3,L,O,rfl,hL,hO⟩:=h;rcases hL with rfl|⟨p,q,rfl⟩<;>rcases hO with rfl|⟨p',q',rfl⟩<;>rfl
  have s1:bg 39 (.lst (ps.map D.str))=true:=Qf.mpr λt h=>by obtain⟨z,_,rfl⟩:=Qt.mp h;rfl
  have s2:bg 39 (.lst ts)=true:=Qf.mpr λt h=>m38 (ht t h);show(bg 39 (.lst (ps.map D.str))&&(bg 39 (.lst ts)&&true))=true;rw[s1,s2];rfl
 have:cQ (.tup [.lst (ps.map D.str),.lst ts,.str z0,.str z1]) (.tup [.lst (ps.map D.str),.lst ts,.str z0,.str z1])=.ok (.bl (cC (.tup [.lst (ps.map D.str),.lst ts,.str z0,.str z1]) (.tup [.lst (ps.map D.str),.lst ts,.str z0,.str z1]))):=if_pos ⟨sh,sh⟩;rw[this,kf 40 _ sh]
def Gs{n:Int}:fL (.int n)=false:=rfl
end K76
namespace K74
open PySem PySem.NumText L2 DL Com Tex
def ix_str{S:Pj}{k:Int}(h0:0<=k)(h1:k<(S.length:Int))(hS:S.length<=1000):∃c,aG (.str S) (.int k)=.ok (.str ⟨#[c]⟩):=by
 have hk:k.toNat<(cl S).length:=by rw[cK];omega
 refine⟨(cl S)[k.toNat],?_⟩;show(if S.length<=line then(match atI (cl S) k with|some c=>aj.ok (D.str ⟨#[c]⟩)|none=>.stuck) else .stuck)=_;rw[if_pos (PB hS (by decide))];have:=bO (Pu hk);rw[show((k.toNat:Nat):Int)=k by omega]at this;rw[this]
def ix_mem{ds:ac}{v:Int}(h0:0<=v)(h1:v<(ds.length:Int)):∃d,aG (.lst ds) (.int v)=.ok d/\d∈ds:=by
 have hk:v.toNat<ds.length:=by omega
 refine⟨ds[v.toNat],?_,RC hk⟩;have:=ka (Pu hk);rw[show((v.toNat:Nat):Int)=v by omega]at this;exact this
end K74
namespace K76
open PySem L2 DL Com Tex K74
def tot(zs:bv):Nat:=(zs.map λz=>z.length+1).sum
def gL:tot []=0:=rfl
def cX{z:Pj}{zs:bv}:tot (z::zs)=z.length+1+tot zs:=rfl
theorem kC:∀{a b:bv},tot (a++b)=tot a+tot b
 |[],b=>by rw[Qj,gL,Tw]
 |z::a,b=>by rw[Qc,cX,cX,kC];omega
theorem tW:∀{a:bv},a.length<=tot a
 |[]=>P9 _
 |z::a=>by rw[PU,cX];have:=tW (a:=a);omega
theorem tV:∀{a:bv},(a.map (·.length)).sum+a.length=tot a
 |[]=>rfl
 |z::a=>by rw[Qr,List.sum_cons,PU,cX,←tV (a:=a)];omega
theorem yH:∀{ys:bv},fW (ys.map D.str)=some ys
 |[]=>rfl
 |y::ys=>by
  show(fW (ys.map D.str)).map _=_;rw[yH];rfl
def oV{z:Pj}{ys:bv}(hz:z.length=1)(h:tot ys<=500000):jL z [.lst (ys.map D.str)]=.ok (.str (Rt z ys)):=by
 show(match fW (ys.map D.str) with|some ys=>if gh z ys=true then aj.ok (D.str (Rt z ys)) else .stuck|none=>.stuck)=_;rw[yH];dsimp only;rw[if_pos];unfold gh;rw[Pr,decide_eq_true_eq,decide_eq_true_eq,tV];omega
def qf{z:Pj}{ys:bv}(hz:z.length=1):(Rt z ys).length<=tot ys:=by
 show(PySem.Builtin.Str.glued z ys).length<=_;rw[PySem.size_glued,hz,←tV];omega
def El{a b:bv}(h:tot a+tot b<=90000):bf (.lst (a.map D.str)) (.lst (b.map D.str))=.ok (.lst ((a++b).map D.str)):=by
 have ha:=tW (a:=a);have hb:=tW (a:=b);rw[Qx];exact if_pos (PB (show(a.map D.str).length+(b.map D.str).length<=90000 by rw[Ph,Ph];omega) (by decide))
def ix_str{zs:bv}{v:Int}(h0:0<=v)(h1:v<(zs.length:Int)):∃z,aG (.lst (zs.map D.str)) (.int v)=.ok (.str z)/\z∈zs:=by
 obtain⟨d,hd,hm⟩:=K74.ix_mem (ds:=zs.map D.str) h0 (by rw[Ph];exact h1);obtain⟨z,hz,rfl⟩:=Qt.mp hm;exact⟨z,hd,hz⟩
def gW{z:Pj}(h:cj z=true):z.length<=8:=by
 unfold cj at h;simp only[Pr,decide_eq_true_eq]at h;exact h.2.1
def BI{x:By}(h:rk x):cb [fr x]=.ok (.str (k9 x.1 x.2))/\(k9 x.1 x.2).length<=125:=by
 have h1:x.1.natAbs<10 ^ 60:=Py h.pN (by decide);have h2:x.2.natAbs<10 ^ 60:=Py h.qN (by decide);refine⟨w6.trans (pA (Py h1 (by decide)) (Py h2 (by decide))),?_⟩;have l1:=oH h1;have l2:=oH h2;unfold k9;split
 .omega
 .rw[Sf,Sf]
  have:("/" : Pj).length=1:=rfl;omega
theorem yF{g:Pj->Pj}{B:Nat}:∀{zs:bv},(∀z∈zs,(g z).length<=B)->tot (zs.map g)<=(B+1)*zs.length
 |[],_=>P9 _
 |z::zs,h=>by
  have h1:=h z P0;have h2:=yF (g:=g) (B:=B) λy hy=>h y (Pw _ hy);rw[Qr,cX,PU,Nat.mul_succ];omega
section
variable {w:HN}
def yp{ρ:Ev}(W:qX w):jN 1 [] (eC 0) mYes (aa (dC (.str "place ")) (ae 0) bf) ρ (w.ps.map D.str)=.ok (.lst ((w.ps.map λy=>("place " : Pj)++y).map D.str)):=by
 rw[qF (F:=λd=>match d with|.str y=>.str (("place " : Pj)++y)|d=>d) (by rw[Ph];have:=W.n7;omega)]
 .rw[RJ,RJ];rfl
 .intro d hd
  obtain⟨y,hy,rfl⟩:=Qt.mp hd;have l:=gW (W.nm.nm y hy);have a:bf (.str "place ") (.str y)=.ok (.str (("place " : Pj)++y)):=eA (decide_eq_true (by have:("place " : Pj).length=6:=rfl;omega));refine⟨[.sh (.str y)],rfl,rfl,?_⟩;open_line with[a]
end
end K76
namespace K77
open PySem L2 DL Com Tex K74 K76
def vp{t:Pj}(h:t.length<=90000):K77.fH [.str t]=.ok (.bl true):=by
 have hw:∀v:Int,K77.fG [.int v]=.ok (.bl true):=λ_=>rfl;rcases wx h with⟨j,hr,hl⟩|⟨d,G,hr,hl⟩
 .have t1:K77.tab_1 "NoText"=some true:=rfl
  have t2:K77.tab_2 "NoText"=some true:=rfl;have t3:K77.ft_row "NoText"=some true:=rfl;have ht:∀(ni:Nat) (sh:bd) (ρ:Ev),Fc (iA K77.jl) ni sh ρ (.exn (NR j))=(sh (ρ.set ni (.sh (rK (NR j))))).bind (CN ni):=λ_ _ _=>GC (x:=NR j) (show iA K77.jl "NoText"=true from rfl);have he:rK (NR j)=.ob (.exf "NoText" ["row"]) [.int (j:Int)]:=ML;have hf:qE K77.ft_row "row" (.ob (.exf "NoText" ["row"]) [.int (j:Int)])=.ok (.int (j:Int)):=DV t3;have hj:cQ (.int (j:Int)) (.int (j:Int))=.ok (.bl true):=by rw[nk,decide_eq_true rfl]
  open_line with[K77.fH,K77.jD,hl,DB,iB,gz,hr,iL,ht,he,zB t1,zB t2,hf,hw,Kx,dI,Gs,hj]
 .have hq:=G.eq
  have e1:∀x:Sl,HD (ae 3) [.sh (.str t),.sh .non,.sh d,.sh d,.sh .non,.sh (.bl true),x]=.ok (fgt d):=λ_=>rfl;have e2:∀x:Sl,HD (ae 2) [.sh (.str t),.sh .non,.sh d,.sh d,.sh .non,.sh (.bl true),x]=.ok (fgt d):=λ_=>rfl;open_line with[K77.fH,K77.jD,hl,DB,iB,gz,hr,GD,dI,mn,e1,e2,hq]
def yN{way a b l:Int}(ha:0<=a/\a<(iP:Int)-1)(hb:0<=b/\b<(iP:Int)-1)(hl:0<=l/\l<=1):∃z,da [.int way,.int a,.int b,.int l]=.ok (.str z)/\z.length<=125:=by
 have hN:(100:Int)<(iP:Int):=by decide
 have q6:=nk (n:=way) (m:=6)
 by_cases h6:way<6
 .have x:=jM (a:=a) (b:=9) (by decide)
  have y:=jM (a:=b) (b:=4) (by decide);have e:=sJ (a:=l+a.fmod 9) (b:=1+b.fmod 4) (by omega) (Gd (by omega) (by omega)) (Gd (by omega) (by omega));obtain⟨h1,h2⟩:=BI (Im (a:=l+a.fmod 9) (b:=1+b.fmod 4) (by omega) (by omega) (by omega));exact⟨_,by open_line with[da,iH,decide_eq_true h6,e,h1],h2⟩
 .by_cases h7:way=6
  .rw[decide_eq_true h7]at q6
   have e:=sJ (a:=l+a) (b:=1+b) (by omega) (Gd (by omega) (by omega)) (Gd (by omega) (by omega));obtain⟨h1,h2⟩:=BI (Im (a:=l+a) (b:=1+b) (by omega) (by omega) (by omega));exact⟨_,by open_line with[da,iH,decide_eq_false h6,q6,e,h1],h2⟩
  .rw[decide_eq_false h7]at q6
   exact⟨"-",by open_line with[da,iH,decide_eq_false h6,q6],by decide⟩
def Fs{k:Int}(h:0<=k/\k<96):∃z,gr [.int k]=.ok (.str z)/\z.length=1:=by
 have e96:((" !\"#$&'()*+,-./0123456789:;<=>?@ABCDEFGHIJKLMNOPQRSTUVWXYZ[\\]^_`" : Pj)++("abcdefghijklmnopqrstuvwxyz{|}~\t\n" : Pj)).length=96:=by decide +kernel
 have a:bf (.str " !\"#$&'()*+,-./0123456789:;<=>?@ABCDEFGHIJKLMNOPQRSTUVWXYZ[\\]^_`") (.str "abcdefghijklmnopqrstuvwxyz{|}~\t\n")=.ok (.str ((" !\"#$&'()*+,-./0123456789:;<=>?@ABCDEFGHIJKLMNOPQRSTUVWXYZ[\\]^_`" : Pj)++("abcdefghijklmnopqrstuvwxyz{|}~\t\n" : Pj))):=eA (decide_eq_true (by decide +kernel));generalize (" !\"#$&'()*+,-./0123456789:;<=>?@ABCDEFGHIJKLMNOPQRSTUVWXYZ[\\]^_`" : Pj)++("abcdefghijklmnopqrstuvwxyz{|}~\t\n" : Pj)=Z at e96 a;obtain⟨c,hc⟩:=K74.ix_str (S:=Z) h.1 (by rw[e96];exact h.2) (by omega);refine⟨⟨#[c]⟩,?_,rfl⟩;open_line with[gr,oa,a,hc]
def slice_le{t:Pj}{a b:Option Int}:(Ql t a b).length<=t.length:=PyProof.Txt.length_slice_le t a b
def HH{t:Pj}(ht:t.length<=400){way at_ kind:Int}(hk:0<=kind/\kind<96):∃u,eG [.str t,.int way,.int at_,.int kind]=.ok (.str u)/\u.length<=801:=by
 obtain⟨z,ez,lz⟩:=Fs hk;have hl:=len_str (z:=t) (by omega);have n0:((t.length:Int)+1==0)=false:=beq_eq_false_iff_ne.mpr (by omega);have sl:∀a b,pw (.str t) a b=.ok (.str (Ql t a b)):=λa b=>yM (by omega);have b1:=λa b=>slice_le (t:=t) (a:=a) (b:=b);have add:∀{x y:Pj},x.length+y.length<=1000->bf (.str x) (.str y)=.ok (.str (x++y)):=λh=>eA (decide_eq_true h);have q0:=nk (n:=way) (m:=0);have q1:=nk (n:=way) (m:=1);generalize hm:at_.fmod ((t.length:Int)+1)=m;have l1:=b1 none (some m);have l2:=b1 (some m) none;have l3:=b1 (some (m+1)) none;have a1:=add (x:=Ql t none (some m)) (y:=z) (by omega);have a2:=add (x:=Ql t none (some m)++z) (y:=Ql t (some m) none) (by rw[eg];omega);have a3:=add (x:=Ql t none (some m)) (y:=Ql t (some (m+1)) none) (by omega);have a4:=add (x:=Ql t none (some m)++z) (y:=Ql t (some (m+1)) none) (by rw[eg];omega)
 by_cases h0:way=0
 .rw[decide_eq_true h0]at q0
  exact⟨Ql t none (some m)++z++Ql t (some m) none,by open_line with[eG,iI,hl,nj n0,hm,q0,sl,ez,a1,a2],by rw[eg,eg];omega⟩
 .rw[decide_eq_false h0]at q0
  by_cases h1:way=1
  .rw[decide_eq_true h1]at q1
   exact⟨Ql t none (some m)++Ql t (some (m+1)) none,by open_line with[eG,iI,hl,nj n0,hm,q0,q1,sl,a3],by rw[eg];omega⟩
  .rw[decide_eq_false h1]at q1
   exact⟨Ql t none (some m)++z++Ql t (some (m+1)) none,by open_line with[eG,iI,hl,nj n0,hm,q0,q1,sl,ez,a1,a4],by rw[eg,eg];omega⟩
def O3{vs:List Int}(h:vs.length=14):∃a b c d e f g i j k l m n o,vs=[a,b,c,d,e,f,g,i,j,k,l,m,n,o]:=by
 match vs,h with
 |[a,b,c,d,e,f,g,i,j,k,l,m,n,o],_=>exact⟨a,b,c,d,e,f,g,i,j,k,l,m,n,o,rfl⟩
abbrev OV:bd:=bb 11 (aa (dC (.str "place ")) (aa (ae 2) (aa (ae 1) (dC (.int 8)) cZ) aG) bf)
abbrev st2:bd:=(dP (aa (ae 6) (dC (.int 45)) wV)
 (aw (bb 11 (aa (dC (.str "place ")) (aa (ae 2) (ae 7) aG) bf))
 au)
 au)
noncomputable abbrev st3:bd:=(dP (eZ (dm (aa (ae 6) (dC (.int 44)) jO) (aa (ae 1) (ae 3) HC)) (aa (ae 6) (dC (.int 44)) cQ))
 (aw (bb 12 (aa (ae 2) (aa (aa (aa (ae 7) (dC (.int 1)) bf) (aa (ae 8) (aa (ae 3) (dC (.int 1)) uS) cZ) bf) (ae 3) cZ) aG))
 (aw (bb 13 (ak (ag (aa (ae 5) (dC (.int 8)) aG) (ag (aa (ae 5) (dC (.int 9)) aG) (ag (aa (ae 5) (dC (.int 10)) aG) (ag (dC (.int 0)) av)))) da))
 (aw (bb 14 (ak (ag (aa (ae 5) (dC (.int 11)) aG) (ag (aa (ae 5) (dC (.int 12)) aG) (ag (aa (ae 5) (dC (.int 13)) aG) (ag (ak (ag (aa (ae 6) (dC (.int 44)) jO) av) (m1 dk)) av)))) da))
 (aw (bb 11 (mD (dC (.str " ")) (ag (ak (ag (dC (.str "tie")) (ag (aa (ae 2) (aa (ae 7) (ae 3) cZ) aG) (ag (ae 12) (ag (aa (ak (ag (dC (.str "one")) (ag (dC (.str "both")) av)) cY) (ae 9) aG) (ag (ae 13) (ag (ae 14) av)))))) cY) av)))
 au))))
 au)
abbrev st4:bd:=(dP (aa (ae 6) (dC (.int 45)) cQ)
 (aw (bb 11 (aa (aa (ak (ag (dC (.str "first ")) (ag (dC (.str "last ")) av)) cY) (ae 9) aG) (aa (ae 2) (ae 7) aG) bf))
 au)
 au)
abbrev st5:bd:=(dP (aa (ae 10) (dC (.int 0)) cQ)
 (aw (bb 11 (ak (ag (ae 11) (ag (aa (ae 5) (dC (.int 5)) aG) (ag (aa (ae 5) (dC (.int 6)) aG) (ag (aa (ae 5) (dC (.int 7)) aG) av)))) eG))
 au)
 au)
abbrev DG(kind one other word bend d5 d6 d7 d8 d9 d10 d11 d12 d13:Int):D:=.lst [.int kind,.int one,.int other,.int word,.int bend,.int d5,.int d6,.int d7,.int d8,.int d9,.int d10,.int d11,.int d12,.int d13]
section
variable {NS:bv}{C X4 G F5:D}{k many kind one other word bend d5 d6 d7 d8 d9 d10 d11 d12 d13:Int}
noncomputable abbrev EV(C:D) (k:Int) (NS:bv) (many:Int) (X4 G:D) (kind one other word bend:Int) (f:Pj) (r:List Sl):Ev :=
 [.sh C,.sh (.int k),.sh (.lst (NS.map D.str)),.sh (.int many),.sh X4,.sh G,.sh (.int kind),.sh (.int one),.sh (.int other),.sh (.int word),.sh (.int bend),.sh (.str f)]++r
def Tl(r:List Sl):Prop:=r=[.no,.no,.no]∨∃d e f,r=[.sh d,.sh e,.sh f]
def lE(hN:∀z∈NS,cj z=true){z:Pj}(h:z∈NS):z.length<=8:=gW (hN z h)
def M7(h8:NS.length=8)(hN:∀z∈NS,cj z=true)(ho:0<=one/\one<8){f:Pj}(hf:f.length<=300) :
  ∃f':Pj,f'.length<=300/\st2 (EV C k NS many X4 G kind one other word bend f [.no,.no,.no])=.ok (.nx (EV C k NS many X4 G kind one other word bend f' [.no,.no,.no])):=by
 obtain⟨z,jz,mz⟩:=K76.ix_str (zs:=NS) ho.1 (by omega);have lz:=lE hN mz;have c0:("place " : Pj).length=6:=rfl;have a:bf (.str "place ") (.str z)=.ok (.str (("place " : Pj)++z)):=eA (decide_eq_true (by omega));have g:wV (.int kind) (.int 45)=.ok (.bl (decide (kind > 45))):=rfl
 by_cases h:kind > 45
 .rw[decide_eq_true h]at g
  exact⟨("place " : Pj)++z,by rw[eg];omega,by open_line with[EV,Qc,Qj,g,jz,a]⟩
 .rw[decide_eq_false h]at g
  exact⟨f,hf,by open_line with[EV,Qc,Qj,g]⟩
def M6(h8:NS.length=8)(hN:∀z∈NS,cj z=true)(hm:2<=many/\many<=7)(ho:0<=one/\one<8)(hw:0<=word/\word<2)
  (h9:0<=d9/\d9<(iP:Int)-1)(h10:0<=d10/\d10<(iP:Int)-1)(h12:0<=d12/\d12<(iP:Int)-1)(h13:0<=d13/\d13<(iP:Int)-1){f:Pj}(hf:f.length<=300) :
  ∃(f':Pj) (r:List Sl),f'.length<=300/\Tl r/\st3 (EV C k NS many X4 (DG kind one other word bend d5 d6 d7 d8 d9 d10 d11 d12 d13) kind one other word bend f [.no,.no,.no])=.ok (.nx (EV C k NS many X4 (DG kind one other word bend d5 d6 d7 d8 d9 d10 d11 d12 d13) kind one other word bend f' r)):=by
 have g1:jO (.int kind) (.int 44)=.ok (.bl (decide (kind<44))):=rfl;have g2:HC (.int k) (.int many)=.ok (.bl (decide (k≥many))):=rfl;have g3:=nk (n:=kind) (m:=44);have hb:∃b:Bool,eZ (dm (aa (ae 6) (dC (.int 44)) jO) (aa (ae 1) (ae 3) HC)) (aa (ae 6) (dC (.int 44)) cQ) (EV C k NS many X4 (DG kind one other word bend d5 d6 d7 d8 d9 d10 d11 d12 d13) kind one other word bend f [.no,.no,.no])=.ok (.bl b):=by
  cases c1:decide (kind<44) with
  |true=>
   rw[c1]at g1;cases c2:decide (k≥many) with
   |true=>rw[c2]at g2;exact⟨true,by open_line with[EV,Qc,Qj,g1,g2]⟩
   |false=>rw[c2]at g2;exact⟨decide (kind=44),by open_line with[EV,Qc,Qj,g1,g2,g3]⟩
  |false=>rw[c1]at g1;exact⟨decide (kind=44),by open_line with[EV,Qc,Qj,g1,g3]⟩
 obtain⟨b,hb⟩:=hb;have mp:0<many:=by omega
 have n0:(many==0)=false:=beq_eq_false_iff_ne.mpr (by omega);have n1:(many-1==0)=false:=beq_eq_false_iff_ne.mpr (by omega);have f0:=jM (a:=one) (b:=many) mp;have f1:=jM (a:=one+1+other.fmod (many-1)) (b:=many) mp;obtain⟨z1,j1,m1⟩:=K76.ix_str (zs:=NS) f0.1 (by omega);obtain⟨z2,j2,m2⟩:=K76.ix_str (zs:=NS) f1.1 (by omega);have y1:=lE hN m1;have y2:=lE hN m2;obtain⟨wd,jw,mw⟩:=K76.ix_str (zs:=["one","both"]) hw.1 hw.2;have jw':aG (.lst [.str "one",.str "both"]) (.int word)=.ok (.str wd):=jw;have lw:wd.length<=4:=by
  simp only[PL,QT,or_false]at mw;rcases mw with rfl|rfl<;>decide
 obtain⟨s1,e1,k1⟩:=yN (way:=d8) (l:=0) h9 h10 (by omega);have io:∃l:Int,(0<=l/\l<=1)/\dk (.bl (decide (kind<44)))=.ok (.int l):=by
  cases decide (kind<44)
  .exact⟨0,by omega,rfl⟩
  .exact⟨1,by omega,rfl⟩
 obtain⟨l,hl,eio⟩:=io;obtain⟨s2,e2,k2⟩:=yN (way:=d11) (l:=l) h12 h13 hl;have ej:=oV (z:=" ") (ys:=["tie",z1,z2,wd,s1,s2]) rfl (by
  have e1:("tie" : Pj).length=3:=rfl;simp only[cX,gL];omega)
 have ej':jL " " [.lst [.str "tie",.str z1,.str z2,.str wd,.str s1,.str s2]]=_:=ej;have lj:=qf (z:=" ") (ys:=["tie",z1,z2,wd,s1,s2]) rfl;have tj:tot ["tie",z1,z2,wd,s1,s2]<=300:=by
  have e1:("tie" : Pj).length=3:=rfl;simp only[cX,gL];omega
 generalize Rt " " ["tie",z1,z2,wd,s1,s2]=J at ej' lj;cases b with
 |false=>
  refine⟨f,[.no,.no,.no],hf,.inl rfl,?_⟩;open_line with[EV,Qc,Qj] seeing hb;open_line with[EV,Qc,Qj,hb]
 |true=>
  refine⟨J,[.sh (.str z2),.sh (.str s1),.sh (.str s2)],by omega,.inr ⟨_,_,_,rfl⟩,?_⟩;open_line with[EV,Qc,Qj] seeing hb;open_line with[EV,Qc,Qj,hb,nj n0,nj n1,j1,j2,e1,g1,eio,e2,jw',kR,i8,ej']
def M5(h8:NS.length=8)(hN:∀z∈NS,cj z=true)(ho:0<=one/\one<8)(hw:0<=word/\word<2){f:Pj}(hf:f.length<=300){r:List Sl}(hr:Tl r) :
  ∃f':Pj,f'.length<=300/\st4 (EV C k NS many X4 G kind one other word bend f r)=.ok (.nx (EV C k NS many X4 G kind one other word bend f' r)):=by
 obtain⟨z,jz,mz⟩:=K76.ix_str (zs:=NS) ho.1 (by omega);have lz:=lE hN mz;obtain⟨wd,jw,mw⟩:=K76.ix_str (zs:=["first ","last "]) hw.1 hw.2;have jw':aG (.lst [.str "first ",.str "last "]) (.int word)=.ok (.str wd):=jw;have lw:wd.length<=6:=by
  simp only[PL,QT,or_false]at mw;rcases mw with rfl|rfl<;>decide
 have a:bf (.str wd) (.str z)=.ok (.str (wd++z)):=eA (decide_eq_true (by omega));have g:=nk (n:=kind) (m:=45)
 by_cases h:kind=45
 .rw[decide_eq_true h]at g
  refine⟨wd++z,by rw[eg];omega,?_⟩;rcases hr with rfl|⟨d,e,f,rfl⟩<;>open_line with[EV,Qc,Qj,g,jw',jz,a]
 .rw[decide_eq_false h]at g
  refine⟨f,hf,?_⟩;rcases hr with rfl|⟨d,e,f,rfl⟩<;>open_line with[EV,Qc,Qj,g]
def M4(hk:0<=d7/\d7<96){f:Pj}(hf:f.length<=300){r:List Sl}(hr:Tl r) :
  ∃f':Pj,f'.length<=801/\st5 (EV C k NS many X4 (DG kind one other word bend d5 d6 d7 d8 d9 d10 d11 d12 d13) kind one other word bend f r)=.ok (.nx (EV C k NS many X4 (DG kind one other word bend d5 d6 d7 d8 d9 d10 d11 d12 d13) kind one other word bend f' r)):=by
 obtain⟨u,eu,lu⟩:=HH (t:=f) (by omega) (way:=d5) (at_:=d6) hk;have g:=nk (n:=bend) (m:=0)
 by_cases h:bend=0
 .rw[decide_eq_true h]at g
  refine⟨u,lu,?_⟩;rcases hr with rfl|⟨d,e,f,rfl⟩<;>open_line with[EV,Qc,Qj,g,eu]
 .rw[decide_eq_false h]at g
  refine⟨f,by omega,?_⟩;rcases hr with rfl|⟨d,e,f,rfl⟩<;>open_line with[EV,Qc,Qj,g]
end
def JQ{NS:bv}{c k many:Int}(h8:NS.length=8)(hN:∀z∈NS,cj z=true):∃(X4:D) (kind one other word bend d5 d6 d7 d8 d9 d10 d11 d12 d13:Int) (f:Pj),f.length<=300/\(0<=one/\one<8)/\(0<=word/\word<2)/\(0<=d7/\d7<96)/\(0<=d9/\d9<(iP:Int)-1)/\(0<=d10/\d10<(iP:Int)-1)/\(0<=d12/\d12<(iP:Int)-1)/\(0<=d13/\d13<(iP:Int)-1) /\
  ∀X:bd,(aw (bb 4 (ak (ag (aa (aa (dC (.int 10)) (dC (.int 60)) uT) (dC (.int 1)) uS) (ag (aa (aa (dC (.int 10)) (dC (.int 60)) uT) (dC (.int 1)) uS) av)) cY))
 (aw (bb 5 (ak (ag (ae 0) (ag (aa (aa (aa (ak (ag (dC (.int 48)) (ag (dC (.int 8)) (ag (dC (.int 8)) (ag (dC (.int 2)) (ag (dC (.int 40)) (ag (dC (.int 3)) (ag (dC (.int 40)) (ag (dC (.int 96)) (ag (dC (.int 7)) av))))))))) cY) (ae 4) bf) (ak (ag (dC (.int 8)) av) cY) bf) (ae 4) bf) av)) bT))
 (aw (xu [6,7,8,9,10] (hZ (ae 5) fu (dG (dC (.int 5)))))
 (aw OV X)))) [.sh (.int c),.sh (.int k),.sh (.lst (NS.map D.str)),.sh (.int many),.no,.no,.no,.no,.no,.no,.no,.no,.no,.no,.no]=X (EV (.int c) k NS many X4 (DG kind one other word bend d5 d6 d7 d8 d9 d10 d11 d12 d13) kind one other word bend f [.no,.no,.no]):=by
 obtain⟨vs,hd,V⟩:=qv c [48,8,8,2,40,3,40,96,7,(iP:Int)-1,(iP:Int)-1,8,(iP:Int)-1,(iP:Int)-1] (by decide) (by decide);have hd':bT [.int c,.lst [.int 48,.int 8,.int 8,.int 2,.int 40,.int 3,.int 40,.int 96,.int 7,.int ((iP:Int)-1),.int ((iP:Int)-1),.int 8,.int ((iP:Int)-1),.int ((iP:Int)-1)]]=.ok (.lst (vs.map D.int)):=hd;obtain⟨v1,g1,b1,_⟩:=V.at 1 rfl;obtain⟨v3,g3,b3,_⟩:=V.at 3 rfl;obtain⟨v7,g7,b7,_⟩:=V.at 7 rfl;obtain⟨v9,g9,b9,_⟩:=V.at 9 rfl;obtain⟨v10,g10,b10,_⟩:=V.at 10 rfl;obtain⟨v12,g12,b12,_⟩:=V.at 12 rfl;obtain⟨v13,g13,b13,_⟩:=V.at 13 rfl;obtain⟨a0,a1,a2,a3,a4,a5,a6,a7,a8,a9,a10,a11,a12,a13,rfl⟩:=O3 (vs:=vs) V.len;cases g1;cases g3;cases g7;cases g9;cases g10;cases g12;cases g13;have m8:=jM (a:=k) (b:=8) (by decide);obtain⟨z,jz,mz⟩:=K76.ix_str (zs:=NS) m8.1 (by omega);have lz:=lE hN mz;have c0:("place " : Pj).length=6:=rfl;have a:bf (.str "place ") (.str z)=.ok (.str (("place " : Pj)++z)):=eA (decide_eq_true (by omega));have s1:rN [.int a0,.int v1,.int a2,.int v3,.int a4,.int a5,.int a6,.int v7,.int a8,.int v9,.int v10,.int a11,.int v12,.int v13] none (some 5)=[.int a0,.int v1,.int a2,.int v3,.int a4]:=rfl;refine⟨.lst [.int ((iP:Int)-1),.int ((iP:Int)-1)],a0,v1,a2,v3,a4,a5,a6,v7,a8,v9,v10,a11,v12,v13,("place " : Pj)++z,by rw[eg];omega,b1,b3,b7,b9,b10,b12,b13,λX=>?_⟩;open_line with[EV,Qc,Qj,zE,hd',s1,jz,a]
def JF{NS:bv}{c k many:Int}(h8:NS.length=8)(hN:∀z∈NS,cj z=true)(hm:2<=many/\many<=7):∃z,jk [.int c,.int k,.lst (NS.map D.str),.int many]=.ok (.str z)/\z.length<=801:=by
 obtain⟨X4,kind,one,other,word,bend,d5,d6,d7,d8,d9,d10,d11,d12,d13,f,hf,h1,h3,h7,h9,h10,h12,h13,e⟩:=JQ (c:=c) (k:=k) (many:=many) h8 hN;obtain⟨f2,l2,e2⟩:=M7 (C:=.int c) (k:=k) (many:=many) (kind:=kind) (other:=other) (word:=word) (bend:=bend) (X4:=X4) (G:=DG kind one other word bend d5 d6 d7 d8 d9 d10 d11 d12 d13) h8 hN h1 hf;obtain⟨f3,r,l3,hr,e3⟩:=M6 (C:=.int c) (k:=k) (many:=many) (kind:=kind) (other:=other) (bend:=bend) (X4:=X4) (d5:=d5) (d6:=d6) (d7:=d7) (d8:=d8) (d11:=d11) h8 hN hm h1 h3 h9 h10 h12 h13 l2;obtain⟨f4,l4,e4⟩:=M5 (C:=.int c) (k:=k) (many:=many) (kind:=kind) (other:=other) (bend:=bend) (X4:=X4) (G:=DG kind one other word bend d5 d6 d7 d8 d9 d10 d11 d12 d13) h8 hN h1 h3 l3 hr;obtain⟨f5,l5,e5⟩:=M4 (C:=.int c) (k:=k) (NS:=NS) (many:=many) (kind:=kind) (one:=one) (other:=other) (word:=word) (bend:=bend) (X4:=X4) (d5:=d5) (d6:=d6) (d8:=d8) (d9:=d9) (d10:=d10) (d11:=d11) (d12:=d12) (d13:=d13) h7 l4 hr;refine⟨f5,?_,l5⟩;show(lQ [.sh (.int c),.sh (.int k),.sh (.lst (NS.map D.str)),.sh (.int many),.no,.no,.no,.no,.no,.no,.no,.no,.no,.no,.no]).bind rA=_;have hx:(aw st2 (aw st3 (aw st4 (aw st5 (aw (bG (ae 11)) au))))) (EV (.int c) k NS many X4 (DG kind one other word bend d5 d6 d7 d8 d9 d10 d11 d12 d13) kind one other word bend f [.no,.no,.no])=(aw (bG (ae 11)) au) (EV (.int c) k NS many X4 (DG kind one other word bend d5 d6 d7 d8 d9 d10 d11 d12 d13) kind one other word bend f5 r):=by
  rw[lK,e2,cT,jv,lK,e3,cT,jv,lK,e4,cT,jv,lK,e5,cT,jv]
 have hb:=(e (aw st2 (aw st3 (aw st4 (aw st5 (aw (bG (ae 11)) au)))))).trans hx;have hb':lQ [.sh (.int c),.sh (.int k),.sh (.lst (NS.map D.str)),.sh (.int many),.no,.no,.no,.no,.no,.no,.no,.no,.no,.no,.no]=_:=hb;rw[hb'];rcases hr with rfl|⟨d,e,f,rfl⟩<;>rfl
def xX{z:Pj}(h:dN z=true):(bE z).natAbs<iP:=by
 obtain⟨h1,_,h3⟩:=i6.mp h;have hv:=BM h1;rw[cK]at hv;have h60:10 ^ (fA z).length<=10 ^ 60:=Rg (by decide) h3;have hN:(10:Nat) ^ 60=iP:=by decide
 unfold bE val;split<;>omega
def C0{p q:Int}(h:dB (.tup [.int p,.int q])=true):Low (p,q):=by
 have h':(decide ((1:Int)<=q)&&(Qn p q==1))=true:=h;rw[Pr,decide_eq_true_eq,beq_iff_eq]at h';exact⟨h'.1,h'.2⟩
def vO{z:Pj}(hz:z.length<=90000){p q:Int}(h:m_read_ratio [.str z]=.ok (.tup [.int p,.int q])):rk (p,q)/\k9 p q=z:=by
 have hzl:z.length<=100000:=by omega
 have rt:dB (.tup [.int p,.int q])=true:=by
  rcases iV hz with⟨p',q',_,h2,h3⟩|⟨_,h2⟩
  .have:=h2.symm.trans h
   cases this;exact h3
  .have:=h2.symm.trans h
   cases this
 rcases vi z with⟨hs,hp,hno⟩|⟨a,b,hs,hp,hpn,hqn,hx⟩|⟨h3,a,b,hp,hq⟩
 .cases hh:dN z with
  |false=>
   have:=(kF hzl hs (by simp) (λy hy=>by rw[Qd.mp hy];exact hzl) (.inr (.inr (by show(dN z&&true)=false;rw[hh];rfl)))).symm.trans h;cases this
  |true=>
   have hr:=(vv hzl hs hh).symm.trans h
   by_cases c:k9 (bE z) 1=z
   .rw[if_pos c]at hr
    cases hr;exact⟨⟨C0 rt,xX hh,by show(1:Int).natAbs<iP;decide⟩,c⟩
   .rw[if_neg c]at hr;cases hr
 .have hal:a.length<=100000:=by rw[←cK];have:=congrArg RT hx;rw[cK,P1]at this;omega
  have hbl:b.length<=100000:=by rw[←cK];have:=congrArg RT hx;rw[cK,P1,PU]at this;omega
  by_cases hh:dN a=true/\dN b=true
  .have hr:=(vt hzl hal hbl hs hh.1 hh.2).symm.trans h
   by_cases c:(dB (.tup [.int (bE a),.int (bE b)])=true)/\k9 (bE a) (bE b)=z
   .rw[if_pos c]at hr
    cases hr;exact⟨⟨C0 rt,xX hh.1,xX hh.2⟩,c.2⟩
   .rw[if_neg c]at hr;cases hr
  .have hf:([a,b]:bv).all dN=false:=by
    show(dN a&&(dN b&&true))=false;rw[Rb,TJ,Ne,Pr];exact hh
   have:=(kF hzl hs (by simp) (λy hy=>by
    simp only[PL,QT,or_false]at hy;rcases hy with rfl|rfl
    .exact hal
    .exact hbl) (.inr (.inr hf))).symm.trans h
   cases this
 .have hn:=split_len (x:=z) (y:=bZ)
  have:=(kF (ps:=QO z bZ) hzl rfl (by omega) (λy hy=>PB (fX hy) hzl) (.inr (.inl h3))).symm.trans h;cases this
structure Ov (w1 w2 w3 w4 w5:Pj) (t:wX):Prop where
 a:t.a=w1
 b:t.b=w2
 w:t.w=w3
 ne:w1≠w2
 wd:t.w="one"∨t.w="both"
 l:rk t.l
 l0:0<=t.l.1
 o:∀v,t.o=some v->rk v/\0<v.1
 tl:k9 t.l.1 t.l.2=w4
 to:(t.o=none/\w5="-")∨∃v,t.o=some v/\k9 v.1 v.2=w5
section
variable {w0 w1 w2 w3 w4 w5:Pj}
def yE{w:Pj}(h:K68.wordD (.str w)=true):w="one"∨w="both":=by
 have h':((w=="one")||(w=="both"))=true:=h;rw[S2,beq_iff_eq,beq_iff_eq]at h';exact h'
def BS(h1:w1.length<=90000)(h2:w2.length<=90000)(h4:w4.length<=90000)(h5:w5.length<=90000){d:D}(h:m_read_tie [rz w0 w1 w2 w3 w4 w5]=.ok d)(hd:d≠.non):∃t,d=dy t/\Ov w1 w2 w3 w4 w5 t:=by
 rcases iV h4 with⟨p,q,n4,r4,t4⟩|⟨n4,r4⟩
 .obtain⟨f4,s4⟩:=vO h4 r4
  by_cases hw:w5="-"
  .have hr:=(sA (w0:=w0) (w3:=w3) r4 hw h1 h2).symm.trans h
   rw[o3 (oO:=true) t4 rfl]at hr;injection hr with hr;split at hr
   .next c=>
    simp only[Pr,QU,decide_eq_false_iff_not]at c;refine⟨⟨w1,w2,w3,(p,q),none⟩,hr.symm,rfl,rfl,rfl,c.2.2.1,yE c.2.2.2.1,f4,of_decide_eq_true c.2.2.2.2.1,λv hv=>(nomatch hv),s4,.inl ⟨rfl,hw⟩⟩
   .exact absurd hr.symm hd
  .rcases iV h5 with⟨p',q',n5,r5,t5⟩|⟨n5,r5⟩
   .obtain⟨f5,s5⟩:=vO h5 r5
    have hr:=(sv (w0:=w0) (w3:=w3) r4 hw r5 h1 h2).symm.trans h;rw[o3 (oO:=CO (.tup [.int p',.int q'])) t4 (by unfold K68.worthD;rw[t5];rfl)]at hr;injection hr with hr;split at hr
    .next c=>
     simp only[Pr,QU,decide_eq_false_iff_not]at c;refine⟨⟨w1,w2,w3,(p,q),some (p',q')⟩,hr.symm,rfl,rfl,rfl,c.2.2.1,yE c.2.2.2.1,f4,of_decide_eq_true c.2.2.2.2.1,λv hv=>?_,s4,.inr ⟨_,rfl,s5⟩⟩;cases hv;exact⟨f5,of_decide_eq_true c.2.2.2.2.2⟩
    .exact absurd hr.symm hd
   .have hr:=(vw (w0:=w0) (w1:=w1) (w2:=w2) (w3:=w3) r4 hw r5).symm.trans h
    cases hr;exact absurd rfl hd
 .have hr:=(vx (w0:=w0) (w1:=w1) (w2:=w2) (w3:=w3) (w5:=w5) r4).symm.trans h
  cases hr;exact absurd rfl hd
end
section
variable {ps:bv}{ts:ac}{es ws:bv}{z w0 w1 w2 w3 w4 w5:Pj}{a:Pg}{st':S3}
def Lc{W:ac}{x:D}(h:aG (.lst W) (.int 1)=.ok x):ag (aa (ae 1) (dC (.int 1)) aG) av [.pt a,.sh (.lst W)]=.ok [x]:=by open_line with[h]
def Av(I:Inv ps ts es)(hz:z.length<=90000):K76.m_takes_row a (S ps ts es) [.lst ([("place" : Pj),z].map D.str)]=.ok (if cP ps ts es z=true then(.bl true,S (ps++[z]) ts es) else(.bl false,S ps ts es)):=by
 rw[vc (ws:=[("place" : Pj),z]) (w0:="place") I rfl a,show fS [("place" : Pj),z] 2=true from rfl,Rb,if_pos (show decide (("place" : Pj)="place")=true by decide),Lc (i1 (w0:="place") (z:=z) (ws:=[]))];exact eV (BQ I hz)
def Fx(I:Inv ps ts es){d:D}(hd:K76.m_read_tie [rz "tie" w1 w2 w3 w4 w5]=.ok d):K76.m_takes_row a (S ps ts es) [.lst ([("tie" : Pj),w1,w2,w3,w4,w5].map D.str)]=dH a K76.m_takes_tie (S ps ts es) [d]:=by
 rw[vc (ws:=[("tie" : Pj),w1,w2,w3,w4,w5]) (w0:="tie") I rfl a,show decide (("tie" : Pj)="place")=false by decide,Pk,if_neg ff,show fS [("tie" : Pj),w1,w2,w3,w4,w5] 6=true from rfl,Rb,if_pos (show decide (("tie" : Pj)="tie")=true by decide)];have:ag (ak (ag (ae 1) av) K76.m_read_tie) av [.pt a,.sh (.lst ([("tie" : Pj),w1,w2,w3,w4,w5].map D.str))]=.ok [d]:=by
  have hd':K76.m_read_tie [.lst ([("tie" : Pj),w1,w2,w3,w4,w5].map D.str)]=.ok d:=hd;generalize [("tie" : Pj),w1,w2,w3,w4,w5].map D.str=W at hd' ⊢;open_line with[hd']
 rw[this];rfl
def Aw(I:Inv ps ts es):K76.m_takes_row a (S ps ts es) [.lst ([("first" : Pj),z].map D.str)]=(if es.isEmpty=true then dH a K76.m_takes_end (S ps ts es) [.str z] else .ok (.bl false,S ps ts es)):=by
 rw[vc (ws:=[("first" : Pj),z]) (w0:="first") I rfl a,show decide (("first" : Pj)="place")=false by decide,Pk,if_neg ff,show decide (("first" : Pj)="tie")=false by decide,Pk,if_neg ff,show fS [("first" : Pj),z] 2=true from rfl,Rb,if_pos (show decide (("first" : Pj)="first")=true by decide),Lc (i1 (w0:="first") (z:=z) (ws:=[]))];rfl
def Cg(I:Inv ps ts es):K76.m_takes_row a (S ps ts es) [.lst ([("last" : Pj),z].map D.str)]=(if decide (es.length=1)=true then dH a K76.m_takes_end (S ps ts es) [.str z] else .ok (.bl false,S ps ts es)):=by
 rw[vc (ws:=[("last" : Pj),z]) (w0:="last") I rfl a,show decide (("last" : Pj)="place")=false by decide,Pk,if_neg ff,show decide (("last" : Pj)="tie")=false by decide,Pk,if_neg ff,show decide (("last" : Pj)="first")=false by decide,Pk,if_neg ff,show fS [("last" : Pj),z] 2=true from rfl,Rb,if_pos (show decide (("last" : Pj)="last")=true by decide),Lc (i1 (w0:="last") (z:=z) (ws:=[]))];rfl
inductive Br (ps:bv) (ts:ac) (es:bv):bv->bv->ac->bv->Prop where
 |pl (z:Pj) (h1:ts=[]) (h2:es=[]) (h3:cj z=true) (h4:z∉ps):Br ps ts es ["place",z] (ps++[z]) ts es
 |ti (w1 w2 w3 w4 w5:Pj) (d:D) (h2:es=[]) (h3:w1∈ps) (h4:w2∈ps) (h5:K76.m_read_tie [rz "tie" w1 w2 w3 w4 w5]=.ok d) (h6:d≠.non):Br ps ts es ["tie",w1,w2,w3,w4,w5] ps (ts++[d]) es
 |fi (z:Pj) (h2:es=[]) (h3:z∈ps):Br ps ts es ["first",z] ps ts [z]
 |la (y z:Pj) (h2:es=[y]) (h3:z∈ps) (h4:z≠y):Br ps ts es ["last",z] ps ts [y,z]
def wL{ps':bv}{ts':ac}{es':bv}(h:S ps ts es=S ps' ts' es'):ps=ps'/\ts=ts'/\es=es':=by
 have inj:∀{x y:bv},x.map D.str=y.map D.str->x=y:=λ{x y} e=>by
  have f:(λd:D=>match d with|.str z=>z|_=>"")∘D.str=id:=rfl;have:=congrArg (List.map λd:D=>match d with|.str z=>z|_=>"") e;rw[RJ,RJ]at this;rw[f,TY,TY]at this;exact this
 injection h with h1 h2 h3;exact⟨inj h1,h2,inj h3⟩
def tt{x y:S3}{b:Bool}(h:(if b=true then(D.bl true,x) else(D.bl false,y))=(D.bl true,st')):b=true/\x=st':=by
 cases b with
 |false=>rw[if_neg ff]at h;injection h with h _;injection h with h;cases h
 |true=>rw[if_pos rfl]at h;injection h with _ h;exact⟨rfl,h⟩
def Eh{m:Pg->S3->ac->aj (D×S3)}{st:S3}{ds:ac}{p:D×S3}(h:dH a m st ds=.ok p):m a st ds=.ok p:=by
 unfold dH at h;split at h
 .next e=>rw[e];exact h
 .cases h
def NF{ps':bv}{ts':ac}{es':bv}(I:Inv ps ts es)(hw:ws≠[])(hz:∀w∈ws,w.length<=90000)(h:K76.m_takes_row a (S ps ts es) [.lst (ws.map D.str)]=.ok (.bl true,S ps' ts' es')):Br ps ts es ws ps' ts' es':=by
 match ws,hw with
 |w0::r,_=>
 have no:∀{x:S3},(aj.ok (D.bl false,x):aj (D×S3))≠.ok (.bl true,S ps' ts' es'):=λe=>by injection e with e;injection e with e _;injection e with e;cases e
 have hr:=vc (ws:=w0::r) (w0:=w0) I rfl a
 by_cases c1:w0="place"
 .subst c1
  by_cases h2:(("place" : Pj)::r).length=2
  .obtain⟨z,rfl⟩:=uB (w0:="place") (decide_eq_true h2)
   have e:=(Av (a:=a) I (hz z (by simp))).symm.trans h;injection e with e;obtain⟨c,e⟩:=tt e;obtain⟨rfl,rfl,rfl⟩:=wL e;unfold cP at c;simp only[Pr,QU,decide_eq_false_iff_not,SS]at c;exact .pl z c.1 c.2.1 c.2.2.2.1 c.2.2.2.2
  .exfalso
   rw[show fS (("place" : Pj)::r) 2=false from decide_eq_false h2,PR,if_neg ff,show decide (("place" : Pj)="tie")=false by decide,Pk,if_neg ff,show decide (("place" : Pj)="first")=false by decide,Pk,if_neg ff,show decide (("place" : Pj)="last")=false by decide,Pk,if_neg ff]at hr;exact no (hr.symm.trans h)
 .have n1:∀b:Bool,¬((decide (w0=("place" : Pj))&&b)=true):=λb=>by rw[decide_eq_false c1,Pk];exact ff
  by_cases c2:w0="tie"
  .subst c2
   by_cases h6:(("tie" : Pj)::r).length=6
   .obtain⟨w1,w2,w3,w4,w5,rfl⟩:=C4 (w0:="tie") (decide_eq_true h6)
    obtain⟨d,hd,_,hs⟩:=vd (w0:="tie") (w1:=w1) (w2:=w2) (w3:=w3) (w4:=w4) (w5:=w5) (ps:=ps) (hz _ (by simp)) (hz _ (by simp)) (hz _ (by simp)) (hz _ (by simp)) I.nm;have e:=Eh ((Fx (a:=a) I hd).symm.trans h);rcases hs with rfl|⟨L,O,rfl,hL,hO,hne⟩
    .exact absurd (vb.symm.trans e) no
    .have e:=(LD (a:=a) (w1:=w1) (w2:=w2) (w3:=w3) I hL hO).symm.trans e
     injection e with e;obtain⟨c,e⟩:=tt e;obtain⟨rfl,rfl,rfl⟩:=wL e;simp only[Pr,decide_eq_true_eq,SS]at c;exact .ti w1 w2 w3 w4 w5 _ c.1 c.2.2.1 c.2.2.2 hd (by intro z;cases z)
   .exfalso
    rw[if_neg (n1 _),show fS (("tie" : Pj)::r) 6=false from decide_eq_false h6,PR,if_neg ff,show decide (("tie" : Pj)="first")=false by decide,Pk,if_neg ff,show decide (("tie" : Pj)="last")=false by decide,Pk,if_neg ff]at hr;exact no (hr.symm.trans h)
  .have n2:∀b:Bool,¬((decide (w0=("tie" : Pj))&&b)=true):=λb=>by rw[decide_eq_false c2,Pk];exact ff
   by_cases h2:(w0::r).length=2
   .obtain⟨z,rfl⟩:=uB (w0:=w0) (decide_eq_true h2)
    by_cases c3:w0="first"
    .subst c3
     have e:=(Aw (a:=a) (z:=z) I).symm.trans h;cases c:es.isEmpty with
     |false=>rw[c,if_neg ff]at e;exact absurd e no
     |true=>
      rw[c,if_pos rfl]at e;have he:es=[]:=SS.mp c;subst he;have e:=(Fj (a:=a) (z:=z) I).symm.trans (Eh e);injection e with e;obtain⟨c,e⟩:=tt e;obtain⟨rfl,rfl,rfl⟩:=wL e;simp only[Pr,decide_eq_true_eq]at c;exact .fi z rfl c.2.1
    .by_cases c4:w0="last"
     .subst c4
      have e:=(Cg (a:=a) (z:=z) I).symm.trans h;cases c:decide (es.length=1) with
      |false=>rw[c,if_neg ff]at e;exact absurd e no
      |true=>
       rw[c,if_pos rfl]at e
       match es,of_decide_eq_true c,I,e with
       |[y],_,I,e=>
        have e:=(Fj (a:=a) (z:=z) I).symm.trans (Eh e);injection e with e;obtain⟨c,e⟩:=tt e;obtain⟨rfl,rfl,rfl⟩:=wL e;simp only[Pr,decide_eq_true_eq,QU,decide_eq_false_iff_not,Qd]at c;exact .la y z rfl c.2.1 c.2.2
     .exfalso
      rw[if_neg (n1 _),if_neg (n2 _),decide_eq_false c3,Pk,if_neg ff,decide_eq_false c4,Pk,if_neg ff]at hr;exact no (hr.symm.trans h)
   .exfalso
    rw[if_neg (n1 _),if_neg (n2 _),show fS (w0::r) 2=false from decide_eq_false h2,PR,PR,if_neg ff,if_neg ff]at hr;exact no (hr.symm.trans h)
end
def Jy:Option By->Pj
 |none=>"-"
 |some v=>k9 v.1 v.2
def vk(t:wX):Pj:=Rt " " ["tie",t.a,t.b,t.w,k9 t.l.1 t.l.2,Jy t.o]
def L5:bv->bv
 |[]=>[]
 |[a]=>[("first " : Pj)++a]
 |a::b::_=>[("first " : Pj)++a,("last " : Pj)++b]
def Cc(ps:bv)(ts:List wX)(es:bv):bv:=(ps.map λy=>("place " : Pj)++y)++ts.map vk++L5 es
structure Wb (ps:bv) (ts:List wX) (es:bv):Prop where
 I:Inv ps (ts.map dy) es
 nd:ps.Nodup
 tk:∀t∈ts,qY ps t
 ei:∀e∈es,e∈ps
 ed:es.Nodup
def JG{r:Pj}{ws:bv}(h:oF r=ws):r=Rt " " ws:=by
 have:=Sx r " ";rw[show QO r " "=ws from h]at this;rw[←this];exact(Sj " " ws).symm
def xU{a b:Pj}:Rt " " [a,b]=a++" "++b:=(Sj " " [a,b]).trans Iu
def JP{z:Pj}:("place " : Pj)++z=("place" : Pj)++" "++z:=by rw[show("place " : Pj)=("place" : Pj)++" " by decide]
def JT{z:Pj}:("first " : Pj)++z=("first" : Pj)++" "++z:=by rw[show("first " : Pj)=("first" : Pj)++" " by decide]
def JR{z:Pj}:("last " : Pj)++z=("last" : Pj)++" "++z:=by rw[show("last " : Pj)=("last" : Pj)++" " by decide]
section
variable {ps es ps' es':bv}{ts:List wX}{ts':ac}{r:Pj}
def grow(B:Wb ps ts es)(hr:r.length<=90000)(T:Br ps (ts.map dy) es (oF r) ps' ts' es')(I':Inv ps' ts' es'):∃tt:List wX,ts'=tt.map dy/\Wb ps' tt es'/\Cc ps' tt es'=Cc ps ts es++[r]:=by
 have hw:∀w∈oF r,w.length<=90000:=λw h=>PB (fX h) hr;generalize hws:oF r=ws at T hw;have hrow:=JG hws;cases T with
 |pl z h1 h2 h3 h4=>
  have e1:ts=[]:=List.map_eq_nil_iff.mp h1;subst e1;subst h2;refine⟨[],rfl,⟨I',?_,λt h=>(nomatch h),λe h=>(nomatch h),SD⟩,?_⟩
  .rw[List.nodup_append]
   exact⟨B.nd,by simp,λa ha b hb=>by rw[Qd.mp hb];intro e;exact h4 (e▸ha)⟩
  .rw[hrow,xU,←JP]
   unfold Cc;rw[Qx];simp[L5]
 |ti w1 w2 w3 w4 w5 d h2 h3 h4 h5 h6=>
  subst h2;obtain⟨t,rfl,R⟩:=BS (hw _ (by simp)) (hw _ (by simp)) (hw _ (by simp)) (hw _ (by simp)) h5 h6;refine⟨ts++[t],by rw[Qx];rfl,⟨by rw[Qx];exact I',B.nd,λx hx=>?_,λe h=>(nomatch h),SD⟩,?_⟩
  .rcases Q9.mp hx with hx|hx
   .exact B.tk x hx
   .rw[Qd.mp hx]
    exact⟨by rw[R.a];exact h3,by rw[R.b];exact h4,by rw[R.a,R.b];exact R.ne,R.wd,R.l,R.l0,R.o⟩
  .have e5:Jy t.o=w5:=by
    rcases R.to with⟨e1,e2⟩|⟨v,e1,e2⟩
    .rw[e1,e2];rfl
    .rw[e1];exact e2
   have:vk t=r:=by
    unfold vk;rw[hrow,R.a,R.b,R.w,R.tl,e5]
   unfold Cc;rw[Qx,←this];simp[L5]
 |fi z h2 h3=>
  subst h2;refine⟨ts,rfl,⟨I',B.nd,B.tk,λe h=>by rw[Qd.mp h];exact h3,by simp⟩,?_⟩;rw[hrow,xU,←JT];simp[Cc,L5]
 |la y z h2 h3 h4=>
  subst h2;refine⟨ts,rfl,⟨I',B.nd,B.tk,λe h=>?_,?_⟩,?_⟩
  .simp only[PL,QT,or_false]at h
   rcases h with rfl|rfl
   .exact B.ei _ (by simp)
   .exact h3
  .simp only[Q8,Qd,QT,not_false_eq_true,SD,and_true]
   exact λe=>h4 e.symm
  .rw[hrow,xU,←JR]
   simp[Cc,L5]
end
theorem Ly{RS:bv}{A:D}(hR:∀r∈RS,r.length<=90000):∀(n k:Nat) (ps:bv) (ts:List wX) (es:bv) (x3 x4:Sl),k+n=RS.length->Wb ps ts es->RS.take k=Cc ps ts es->∀(a:Pg) (ρ':Ev) (st':S3),
  lJ (k7 [3,4]) (jG a) (numbered k ((RS.drop k).map D.str)) [.sh A,.pt a,.sh (.lst (RS.map D.str)),x3,x4] (S ps (ts.map dy) es)=.ok (.nx ρ' st')->∃(ps':bv) (ts':List wX) (es':bv),Wb ps' ts' es'/\RS=Cc ps' ts' es'/\st'=S ps' (ts'.map dy) es'
 |0,k,ps,ts,es,x3,x4,hk,B,ht,a,ρ',st',h=>by
  rw[UL (show RS.length<=k by omega)]at h;have h:(aj.ok (fz.nx [.sh A,.pt a,.sh (.lst (RS.map D.str)),x3,x4] (S ps (ts.map dy) es)))=.ok (.nx ρ' st'):=h;injection h with h;injection h with _ h;rw[SW (by omega)]at ht;exact⟨ps,ts,es,B,ht,h.symm⟩
 |n+1,k,ps,ts,es,x3,x4,hk,B,ht,a,ρ',st',h=>by
  have hlt:k<RS.length:=by omega
  have hr:=hR _ (RC hlt);have htk:RS.take (k+1)=RS.take k++[RS[k]]:=by rw[List.take_succ_eq_append_getElem hlt]
  rw[QD hlt]at h;generalize RS[k]=r at hr h htk;have st:=step (ws:=oF r) B.I pq λw h=>PB (fX h) hr;have h:(jG a [.sh A,.pt a,.sh (.lst (RS.map D.str)),.sh (.int (k:Int)),.sh (.str r)] (S ps (ts.map dy) es)).bind _=_:=h;rcases st with⟨hs,hp⟩|⟨ps1,ts1,es1,I1,hs,hp,hu⟩
  .rw[Mr hr (hp a)]at h;cases h
  .rw[CK hr (hp a)]at h
   obtain⟨tt,rfl,B1,e1⟩:=grow B hr (NF B.I pq (λw h=>PB (fX h) hr) (hp a)) I1;exact Ly hR n (k+1) ps1 tt es1 _ _ (by omega) B1 (by rw[htk,ht,e1]) a ρ' st' h
def AD{t:Pj}(h:t.length<=90000){d:D}(hd:K76.m_read_web [.str t]=.ok d):∃(w:HN),qX w/\fgt d=o9 w/\rm t=Cc w.ps w.ts [w.fi,w.la]:=by
 have nn:k6 [.sh (.str t),.no,.no,.no,.no]=true/\1 < [Sl.sh (D.str t),.no,.no,.no,.no].length:=⟨rfl,by show 1<5;decide⟩
 have hp:∀{r:aj Fl},(∀a,sS (jU a [.sh (.str t),.pt a,.no,.no,.no] ⟨[],[],[]⟩)=r)->K76.m_read_web [.str t]=r.bind rA:=λ{r} e=>by
  have e1:dQ 1 jU [.sh (.str t),.no,.no,.no,.no]=r:=by
   unfold dQ;rw[if_pos nn];exact uz e
  have e2:K76.m_read_web [.str t]=(K76.b_read_web [.sh (.str t),.no,.no,.no,.no]).bind rA:=rfl;have e3:K76.b_read_web=aw (dP (cB (aW (ae 0) (gA "str"))) (aw (bI "NoText" ["row"] (ag (dC (.int 0)) av)) au) au) (dQ 1 jU):=rfl;rw[e2,e3,lK];have e4:dP (cB (aW (ae 0) (gA "str"))) (aw (bI "NoText" ["row"] (ag (dC (.int 0)) av)) au) au [.sh (.str t),.no,.no,.no,.no]=.ok (.nx [.sh (.str t),.no,.no,.no,.no]):=rfl;rw[e4,cT,jv,e1]
 have hsp:∀a,bb 2 (kU bN (ae 0) (dC (.str "\n"))) [.sh (.str t),.pt a,.no,.no,.no]=.ok (.nx [.sh (.str t),.pt a,.sh (.lst ((rm t).map D.str)),.no,.no]):=λa=>by
  have e:kU bN (ae 0) (dC (.str "\n")) [.sh (.str t),.pt a,.no,.no,.no]=.ok (.lst ((rm t).map D.str)):=yO h;open_line with[e]
 have hR:∀r∈rm t,r.length<=90000:=λr hr=>PB (fX hr) h;have he:∀a,pk (ae 2) [.sh (.str t),.pt a,.sh (.lst ((rm t).map D.str)),.no,.no]=.ok (numbered 0 ((rm t).map D.str)):=λa=>rfl;generalize rm t=RS at hsp hR he ⊢;have L:=C1 (A:=.str t) hR RS.length 0 [] [] [] .no .no .no .no (by omega) ⟨by decide,by simp,by decide,by simp,by decide⟩ (.inl rfl) (.inl rfl) (.inl rfl) (.inl rfl);rw[SE]at L;rcases L with⟨j,h1,_⟩|⟨ps,ts,es,x3,x4,y3,y4,I,⟨q1,q2,q3,q4⟩,h1,_⟩
 .exfalso
  have pr:∀a,jU a [.sh (.str t),.pt a,.no,.no,.no] ⟨[],[],[]⟩=.exn (NR j):=λa=>by
   unfold jU;rw[aR,fK,hsp a,cT,iX,cT,bQ,aR,m6 (he a),Lp,h1 a];rfl
  have:=(hp (r:=.exn (NR j)) λa=>by rw[pr a];rfl).symm.trans hd;cases this
 .obtain⟨ps',ts',es',B,eR,eS⟩:=Ly (A:=.str t) hR RS.length 0 [] [] [] .no .no (by omega) ⟨⟨by decide,by simp,by decide,by simp,by decide⟩,SD,by simp,by simp,SD⟩ rfl 0 _ _ (by rw[SE];exact h1 0)
  obtain⟨rfl,rfl,rfl⟩:=wL eS;have pr:∀a,jU a [.sh (.str t),.pt a,.no,.no,.no] ⟨[],[],[]⟩=(bw (ml DK 1 a (aa (ak (ag (aW (ae 1) (gb "ends")) av) (m1 bz)) (dC (.int 2)) jO) (bw (gZ (bI "NoText" ["row"] (ag (ak (ag (ae 2) av) (m1 bz)) av))) aZ) aZ) (bw (Bw 1 a false) aZ)) [.sh (.str t),.pt a,.sh (.lst (RS.map D.str)),x3,x4] (S ps (ts'.map dy) es):=λa=>by
   unfold jU;rw[aR,fK,hsp a,cT,iX,cT,bQ,aR,m6 (he a),Lp,h1 a];rfl
  have cP:∀a:Pg,aa (ak (ag (aW (ae 1) (gb "ends")) av) (m1 bz)) (dC (.int 2)) jO [.sh (.str t),.sh (dO DK (S ps (ts'.map dy) es)),.sh (.lst (RS.map D.str)),x3,x4]=.ok (.bl (decide (es.length<2))):=λ_=>by
   have:aa (ak (ag (aW (ae 1) (gb "ends")) av) (m1 bz)) (dC (.int 2)) jO [.sh (.str t),.sh (dO DK (S ps (ts'.map dy) es)),.sh (.lst (RS.map D.str)),x3,x4]=jO (.int ((es.map D.str).length:Int)) (.int 2):=rfl;rw[this,Ph];show aj.ok (D.bl (decide ((es.length:Int)<2)))=_
   congr 2;rw[QJ,decide_eq_true_eq,decide_eq_true_eq];omega
  by_cases c:es.length<2
  .exfalso
   have pe:∀a,jU a [.sh (.str t),.pt a,.no,.no,.no] ⟨[],[],[]⟩=.exn (NR RS.length):=λa=>by
    rw[pr a,aR,AE q1 q2,cP a,decide_eq_true c,cT,cG];have hx:bI "NoText" ["row"] (ag (ak (ag (ae 2) av) (m1 bz)) av) [.sh (.str t),.pt a,.sh (.lst (RS.map D.str)),x3,x4]=.exn (NR RS.length):=by
     have:bI "NoText" ["row"] (ag (ak (ag (ae 2) av) (m1 bz)) av) [.sh (.str t),.pt a,.sh (.lst (RS.map D.str)),x3,x4]=.exn ⟨"NoText",[("row",.int ((RS.map D.str).length:Int))]⟩:=rfl;rw[this,Ph]
    rw[aR,fK,hx];rfl
   have:=(hp (r:=.exn (NR RS.length)) λa=>by rw[pe a];rfl).symm.trans hd;cases this
  .match es,B,I,c,pr,cP,eR with
   |[],_,_,c,_,_,_=>exact absurd (show 0<2 by decide) c
   |[_],_,_,c,_,_,_=>exact absurd (show 1<2 by decide) c
   |_::_::_::_,_,I,_,_,_,_=>have:=I.n2;simp at this
   |[z0,z1],B,I,c,pr,cP,eR=>
    have pe:∀a,jU a [.sh (.str t),.pt a,.no,.no,.no] ⟨[],[],[]⟩=.ok (.fr (Ln (S ps (ts'.map dy) [z0,z1]) (.str z0) (.str z1))):=λa=>by
     rw[pr a,aR,AE q1 q2,cP a,decide_eq_false c,cT,dZ,cI,cT,bQ,aR,JK];rfl
    have e:=(hp (r:=.ok (.rt (Ln (S ps (ts'.map dy) [z0,z1]) (.str z0) (.str z1)))) λa=>by rw[pe a];rfl).symm.trans hd;injection e with e;subst e;have m0:=B.ei z0 (by simp);have m1:=B.ei z1 (by simp);have hne:z0≠z1:=by
     have:=B.ed;simp only[Q8,Qd]at this;exact this.1
    refine⟨⟨ps,ts',z0,z1⟩,⟨?_,B.I.n7,⟨B.nd,B.I.nm⟩,by have:=B.I.n14;rw[Ph]at this;exact this,B.tk,m0,m1,hne⟩,?_,eR⟩
    .have:=BP m0 m1 hne
     show 2<=ps.length;omega
    .show D.tup [.lst (fgts (ps.map D.str)),.lst (fgts (ts'.map dy)),.str z0,.str z1]=_
     rw[i7 (ts:=ts'.map dy) λt h=>(B.I.ti t h).fg,i7 (ts:=ps.map D.str) λt h=>by obtain⟨z,_,rfl⟩:=Qt.mp h;rfl];rfl
def Dy{i:Nat}{ρ:Ev}{a b:bv}(h:a.length+b.length<=1000):A9 i ρ (a.map D.str) (.lst (b.map D.str))=.ok (.nx (ρ.set i (.ow (.lst ((a++b).map D.str))))):=by
 unfold A9;dsimp only;rw[if_pos (show(a.map D.str).length+(b.map D.str).length<=line by rw[Ph,Ph];exact PB h (by decide)),Qx]
def Ca{w:HN}(W:qX w){t:wX}(T:qY w.ps t):K77.m_shown_tie [dy t]=.ok (.str (vk t))/\(vk t).length<=300:=by
 have la:=gW (W.nm.nm _ T.a);have lb:=gW (W.nm.nm _ T.b);have lw:t.w.length<=4:=by rcases T.w with h|h<;>rw[h]<;>decide
 obtain⟨e1,l1⟩:=BI T.l;have e1:K77.m_shown_ratio [fr t.l]=.ok (.str (k9 t.l.1 t.l.2)):=e1;have i0:aG (dy t) (.int 0)=.ok (.str t.a):=rfl;have i1:aG (dy t) (.int 1)=.ok (.str t.b):=rfl;have i2:aG (dy t) (.int 2)=.ok (.str t.w):=rfl;have i3:aG (dy t) (.int 3)=.ok (fr t.l):=rfl;have i4:aG (dy t) (.int 4)=.ok (je t.o):=rfl;have lo:(Jy t.o).length<=125:=by
  cases ho:t.o with|none=>decide|some v=>exact(BI (T.o v ho).1).2
 have tt:tot ["tie",t.a,t.b,t.w,k9 t.l.1 t.l.2,Jy t.o]<=300:=by
  have h3:("tie" : Pj).length=3:=rfl;simp only[cX,gL];omega
 have ej:=oV (z:=" ") (ys:=["tie",t.a,t.b,t.w,k9 t.l.1 t.l.2,Jy t.o]) rfl (by omega);have lj:=qf (z:=" ") (ys:=["tie",t.a,t.b,t.w,k9 t.l.1 t.l.2,Jy t.o]) rfl;refine⟨?_,by unfold vk;omega⟩;have ej':jL " " [.lst [.str "tie",.str t.a,.str t.b,.str t.w,.str (k9 t.l.1 t.l.2),.str (Jy t.o)]]=.ok (.str (vk t)):=ej;cases ho:t.o with
 |none=>
  rw[ho]at i4 ej';have hn:mE (je none) .non=.ok (.bl true):=rfl;have ej':jL " " [.lst [.str "tie",.str t.a,.str t.b,.str t.w,.str (k9 t.l.1 t.l.2),.str "-"]]=.ok (.str (vk t)):=ej';open_line with[K77.m_shown_tie,K77.b_shown_tie,i0,i1,i2,i3,i4,hn,e1,kR,i8,ej']
 |some v=>
  rw[ho]at i4 ej';have hn:mE (je (some v)) .non=.ok (.bl false):=rfl;have e2:K77.m_shown_ratio [je (some v)]=.ok (.str (k9 v.1 v.2)):=(BI (T.o v ho).1).1;have ej':jL " " [.lst [.str "tie",.str t.a,.str t.b,.str t.w,.str (k9 t.l.1 t.l.2),.str (k9 v.1 v.2)]]=.ok (.str (vk t)):=ej';open_line with[K77.m_shown_tie,K77.b_shown_tie,i0,i1,i2,i3,i4,hn,e1,e2,kR,i8,ej']
def Ee{ρ:Ev}{w:HN}(W:qX w):jN 1 [] (eC 0) mYes (ak (ag (ae 0) av) K77.m_shown_tie) ρ (w.ts.map dy)=.ok (.lst ((w.ts.map vk).map D.str)):=by
 have hl:=W.t14;have key:∀(ts:List wX),(∀t∈ts,qY w.ps t)->bX (dq 1 [] ρ) (eC 0) mYes (ak (ag (ae 0) av) K77.m_shown_tie) (ts.map dy)=.ok ((ts.map vk).map D.str):=λts h=>by
  induction ts with
  |nil=>rfl
  |cons t r ih=>
   have e:=(Ca W (h t P0)).1;have ih:=ih λx hx=>h x (Pw _ hx);have ex:ak (ag (ae 0) av) K77.m_shown_tie [.sh (dy t)]=.ok (.str (vk t)):=by open_line with[e]
   show bX (dq 1 [] ρ) (eC 0) mYes (ak (ag (ae 0) av) K77.m_shown_tie) (dy t::r.map dy)=_;unfold bX;rw[show eC 0 (dq 1 [] ρ) (dy t)=.ok [.sh (dy t)] from rfl,cT,show mYes [.sh (dy t)]=.ok (.bl true) from rfl,cT];dsimp only;rw[ex,cT,ih];rfl
 unfold jN;rw[if_pos (show(w.ts.map dy).length<=line by rw[Ph];exact PB hl (by decide)),key _ W.ts]
def Hm{i:Nat}{f:am}{ρ:Ev}:Fw i f ρ=JZ ρ[i]? λds=>(f ρ).bind (A9 i ρ ds):=aV rfl
def Cb{w:HN}(W:qX w):K77.m_shown_web [o9 w]=.ok (.str (Rt "\n" (Cc w.ps w.ts [w.fi,w.la]))):=by
 have hl:K77.m_look_at_web [o9 w]=.ok .non:=Nwb.webX W;have i0:aG (o9 w) (.int 0)=.ok (.lst (w.ps.map D.str)):=rfl;have i1:aG (o9 w) (.int 1)=.ok (.lst (w.ts.map dy)):=rfl;have i2:aG (o9 w) (.int 2)=.ok (.str w.fi):=rfl;have i3:aG (o9 w) (.int 3)=.ok (.str w.la):=rfl;have hc:=λρ=>yp (ρ:=ρ) W;have ht:=λρ=>Ee (ρ:=ρ) W;have n7:=W.n7;have n14:=W.t14;have tp:K76.tot (w.ps.map λy=>("place " : Pj)++y)<=15*w.ps.length:=yF (B:=14) λz hz=>by
  have l:=gW (W.nm.nm z hz);have:("place " : Pj).length=6:=rfl;rw[eg];omega
 have tq:K76.tot (w.ts.map vk)<=301*w.ts.length:=by
  have key:∀(ts:List wX),(∀t∈ts,qY w.ps t)->K76.tot (ts.map vk)<=301*ts.length:=λts h=>by
   induction ts with
   |nil=>exact P9 _
   |cons t r ih=>
    have:=(Ca W (h t P0)).2;have:=ih λx hx=>h x (Pw _ hx);rw[Qr,cX,PU];omega
  exact key _ W.ts
 have l1:=gW (W.nm.nm _ W.fi);have l2:=gW (W.nm.nm _ W.la);have c1:("first " : Pj).length=6:=rfl;have c2:("last " : Pj).length=5:=rfl;have a1:bf (.str "first ") (.str w.fi)=.ok (.str (("first " : Pj)++w.fi)):=eA (decide_eq_true (by omega));have a2:bf (.str "last ") (.str w.la)=.ok (.str (("last " : Pj)++w.la)):=eA (decide_eq_true (by omega));have m1:=eg "first " w.fi;have m2:=eg "last " w.la;have pl:(w.ps.map λy=>("place " : Pj)++y).length=w.ps.length:=Ph ..;have ql:(w.ts.map vk).length=w.ts.length:=Ph ..;unfold Cc;show _=aj.ok (D.str (Rt "\n" ((w.ps.map λy=>("place " : Pj)++y)++w.ts.map vk++[("first " : Pj)++w.fi,("last " : Pj)++w.la])));generalize (w.ps.map λy=>("place " : Pj)++y)=P at *;generalize w.ts.map vk=Q at *;generalize ("first " : Pj)++w.fi=X at *;generalize ("last " : Pj)++w.la=Y at *;have x1:∀ρ,A9 1 ρ (P.map D.str) (.lst (Q.map D.str))=.ok (.nx (ρ.set 1 (.ow (.lst ((P++Q).map D.str))))):=λρ=>Dy (by omega);have x2:∀ρ,A9 1 ρ ((P++Q).map D.str) (.lst [.str X,.str Y])=.ok (.nx (ρ.set 1 (.ow (.lst ((P++Q++[X,Y]).map D.str))))):=λρ=>Dy (b:=[X,Y]) (by rw[P1];simp;omega);have ej:=oV (z:="\n") (ys:=P++Q++[X,Y]) rfl (by rw[kC,kC,cX,cX,gL];omega);generalize P++Q++[X,Y]=Z at x2 ej ⊢;generalize P++Q=PQ at x1 x2;open_line with[K77.m_shown_web,K77.b_shown_web,hl,i0,i1,i2,i3,hc,ht,a1,a2,Hm,x1,x2,kR,i8,ej]
def Fh{t:Pj}:t=Rt "\n" (rm t):=(Sx t "\n").symm.trans (Sj "\n" (QO t "\n")).symm
def MK{f:am}{ρ:Ev}:HD f ρ=(f ρ).bind λd=>.ok (fgt d):=aV rfl
def CS{m:ac->aj D}{ds:ac}{d:D}(h:m ds=.ok d):noX m ds=.ok d:=by unfold noX;rw[h]
def O5{a:Int}:nv (.int a) (.int 5)=.ok (.int (a.fdiv 5)):=nq (zJ (by decide) (Py (show(5:Int).natAbs<iP by decide) Eu))
def O4{a:Int}:nv (.int a) (.int 6)=.ok (.int (a.fdiv 6)):=nq (zJ (by decide) (Py (show(6:Int).natAbs<iP by decide) Eu))
def LG{n:Int}(h:0<=n/\n<3):n=0∨n=1∨n=2:=by omega
def Fg{J:Pj}(hJ:J.length<=90000){A B C E:D}:(eZ (aa (aa (ak (ag (ae 4) av) K77.cJ) (dC (.int 0)) aG) (dC (.non)) nW) (aa (ak (ag (HD (ak (ag (ae 4) av) (noX K77.m_read_web))) av) (noX K77.m_shown_web)) (ae 4) cQ)) [.sh A,.sh B,.sh C,.sh E,.sh (.str J)]=.ok (.bl true):=by
 rcases wx hJ with⟨j,hr,hl⟩|⟨d,G,hr,hl⟩
 .have ix:aG (.tup [.int (j:Int),.non]) (.int 0)=.ok (.int (j:Int)):=rfl
  have hn:nW (.int (j:Int)) .non=.ok (.bl true):=rfl;have hl:K77.cJ [.str J]=.ok (.tup [.int (j:Int),.non]):=hl;open_line with[hl,ix,hn]
 .have ix:aG (.tup [.non,d]) (.int 0)=.ok .non:=rfl
  have hn:nW .non .non=.ok (.bl false):=rfl;have hl:K77.cJ [.str J]=.ok (.tup [.non,d]):=hl;obtain⟨w,W,e1,e2⟩:=AD hJ hr;have h1:noX K77.m_read_web [.str J]=.ok d:=CS hr;have h2:noX K77.m_shown_web [o9 w]=.ok (.str J):=CS (by rw[Cb W,←e2,←Fh]);have h3:=bU (a:=J) (b:=J);rw[decide_eq_true rfl]at h3;open_line with[hl,ix,hn,MK,h1,e1,h2,h3]
def uc{RS NS:bv}(tR:K76.tot RS<=60000)(h8:NS.length=8)(hN:∀z∈NS,cj z=true){way:Int}:cS [.lst (RS.map D.str),.int way,.lst (NS.map D.str)]=.ok (.bl true):=by
 obtain⟨n0,j0,m0⟩:=K76.ix_str (zs:=NS) (v:=0) (by decide) (by omega);obtain⟨n1,j1,m1⟩:=K76.ix_str (zs:=NS) (v:=1) (by decide) (by omega);have l0:=lE hN m0;have l1:=lE hN m1;have c1:("first " : Pj).length=6:=rfl;have c2:("last " : Pj).length=5:=rfl;have a0:bf (.str "first ") (.str n0)=.ok (.str (("first " : Pj)++n0)):=eA (decide_eq_true (by omega));have a1:bf (.str "last ") (.str n1)=.ok (.str (("last " : Pj)++n1)):=eA (decide_eq_true (by omega));have a2:bf (.str "first ") (.str n1)=.ok (.str (("first " : Pj)++n1)):=eA (decide_eq_true (by omega));have m1:=eg "first " n0;have m2:=eg "last " n1;have m3:=eg "first " n1;generalize ("first " : Pj)++n0=X at *;generalize ("last " : Pj)++n1=Y at *;generalize ("first " : Pj)++n1=Z at *;have f3:=jM (a:=way) (b:=3) (by decide);have pick:∃ES:bv,K76.tot ES<=100/\aG (.lst [.lst [],.lst [.str X,.str Y],.lst [.str Z]]) (.int (way.fmod 3))=.ok (.lst (ES.map D.str)):=by
  rcases LG f3 with h|h|h<;>rw[h]
  .exact⟨[],by decide,rfl⟩
  .exact⟨[X,Y],by simp only[cX,gL];omega,rfl⟩
  .exact⟨[Z],by simp only[cX,gL];omega,rfl⟩
 obtain⟨ES,tE,jE⟩:=pick;have ad:=El (a:=RS) (b:=ES) (by omega);have tt:K76.tot (RS++ES)<=60100:=by rw[kC];omega
 have ej:=oV (z:="\n") (ys:=RS++ES) rfl (by omega);have lj:=qf (z:="\n") (ys:=RS++ES) rfl;generalize Rt "\n" (RS++ES)=J at ej lj;have hJ:J.length<=90000:=by omega
 have er:=vp hJ;have et:=Fg hJ (A:=.lst (RS.map D.str)) (B:=.int way) (C:=.lst (NS.map D.str)) (E:=.lst [.lst [],.lst [.str X,.str Y],.lst [.str Z]]);open_line with[PC] seeing et;open_line with[cS,og,j0,j1,a0,a1,a2,jE,ad,kR,i8,ej,er,PC,et]
noncomputable abbrev oS:bd :=
 (aw (eX 4 (ak (ag (aa (ae 0) (ae 5) aG) (ag (ae 5) (ag (ae 2) (ag (ae 3) av)))) jk))
 (aw (dP (dm (aa (aa (ae 5) (dC (.int 5)) cZ) (dC (.int 1)) cQ) (cB (ak (ag (ae 4) (ag (aa (aa (ae 5) (dC (.int 5)) nv) (dC (.int 1)) bf) (ag (ae 2) av))) cS)))
 (aw (bG (dC (.bl false)))
 au)
 au)
 au))
def E9{ns:List Int}{NS LS:bv}{F many:Int}{k:Nat}(hk:k<ns.length)(hn:ns.length<=63)(h8:NS.length=8)(hN:∀z∈NS,cj z=true)(hm:2<=many/\many<=7)(hL:K76.tot LS<=802*k)(hl:LS.length=k) :
  ∃z,z.length<=801/\oS [.sh (.lst (ns.map D.int)),.sh (.int F),.sh (.lst (NS.map D.str)),.sh (.int many),.ow (.lst (LS.map D.str)),.sh (.int (k:Int))]=.ok (.nx [.sh (.lst (ns.map D.int)),.sh (.int F),.sh (.lst (NS.map D.str)),.sh (.int many),.ow (.lst ((LS++[z]).map D.str)),.sh (.int (k:Int))]):=by
 have ix:aG (.lst (ns.map D.int)) (.int (k:Int))=.ok (.int ns[k]):=ka (by rw[P7,Pu hk];rfl);obtain⟨z,ez,lz⟩:=JF (c:=ns[k]) (k:=(k:Int)) h8 hN hm;have ap:(LS.map D.str)++[.str z]=(LS++[z]).map D.str:=by rw[Qx];rfl
 have h9:decide (LS.length<=999)=true:=decide_eq_true (by omega);have hr:∀way:Int,cS [.lst ((LS++[z]).map D.str),.int way,.lst (NS.map D.str)]=.ok (.bl true):=λway=>uc (by rw[kC,cX,gL];omega) h8 hN;have q:=nk (n:=(k:Int).fmod 5) (m:=1);refine⟨z,lz,?_⟩;generalize hLS:(LS++[z]).map D.str=L2 at ap hr ⊢;cases c:decide ((k:Int).fmod 5=1) with
 |true=>rw[c]at q;open_line with[oS,ix,ez,Ph,h9,ap,q,O5,hr,PC]
 |false=>rw[c]at q;open_line with[oS,ix,ez,Ph,h9,ap,q]
def C5(ns:List Int)(hn:ns.length<=63):m_law [.lst (ns.map D.int)]=.ok (.bl true):=by
 have first:∃F:Int,∀(x2 x3 x4 x5:Sl),(dP (aa (ae 0) (ak av cY) ir) (aw (bb 1 (aa (ae 0) (dC (.int 0)) aG)) au) au) [.sh (.lst (ns.map D.int)),.sh (.int 0),.no,.no,.no,.no]=.ok (.nx [.sh (.lst (ns.map D.int)),.sh (.int F),.no,.no,.no,.no]):=by
  have e:=mX (xs:=ns.map D.int) λd hd=>by obtain⟨v,_,rfl⟩:=Qt.mp hd;rfl
  cases ns with
  |nil=>exact⟨0,λ_ _ _ _=>rfl⟩
  |cons v r=>
   have j:aG (.lst ((v::r).map D.int)) (.int 0)=.ok (.int v):=ka (k:=0) rfl;have e:ir (.lst ((v::r).map D.int)) (.lst [])=.ok (.bl true):=e;refine⟨v,λ_ _ _ _=>?_⟩;generalize (v::r).map D.int=W at j e ⊢;open_line with[e,j]
 obtain⟨F,hF⟩:=first
 have hF:=hF .no .no .no .no;obtain⟨NS,hN,h8,NO⟩:=CV (F.fdiv 6) 8 (by decide);obtain⟨vs,hd,V⟩:=qv F [6] (by decide) (by decide);have hd':bT [.int F,.lst [.int 6]]=.ok (.lst (vs.map D.int)):=hd;obtain⟨v,g,b,j⟩:=V.at 0 rfl;have hN':dS [.int (F.fdiv 6),.int 8]=.ok (.lst (NS.map D.str)):=hN;have j:aG (.lst (vs.map D.int)) (.int 0)=.ok (.int v):=j;have hmin:K4 (.int (ns.length:Int)) (.int 63)=.ok (.int (ns.length:Int)):=by
  show aj.ok (D.int _)=_
  congr 2
  rw[if_neg (by omega)]
 obtain⟨ρ',hf,LS,x5,rfl,hL,hl⟩:=zt (i:=5) (n:=ns.length) (ρ:=[.sh (.lst (ns.map D.int)),.sh (.int F),.sh (.lst (NS.map D.str)),.sh (.int (2+v)),.ow (.lst []),.no]) (body:=oS)
  (λk ρ=>∃(LS:bv) (x5:Sl),ρ=[.sh (.lst (ns.map D.int)),.sh (.int F),.sh (.lst (NS.map D.str)),.sh (.int (2+v)),.ow (.lst (LS.map D.str)),x5]/\K76.tot LS<=802*k/\LS.length=k) (by
   rintro k hk ρ ⟨LS,x5,rfl,hL,hl⟩;obtain⟨z,lz,e⟩:=E9 (F:=F) (many:=2+v) hk hn h8 NO.nm (by omega) hL hl;exact⟨_,e,LS++[z],_,rfl,by rw[kC,cX,gL];omega,by rw[P1,hl];rfl⟩) ⟨[],_,rfl,by decide,rfl⟩
 have r0:=λway=>uc (RS:=LS) (NS:=NS) (way:=way) (by omega) h8 NO.nm;have r1:cS [.lst [],.int 1,.lst (NS.map D.str)]=.ok (.bl true):=uc (RS:=[]) (NS:=NS) (way:=1) (by decide) h8 NO.nm;open_line with[] seeing hF;open_line with[m_law,IL,hF,O4,hN',hd',j,Ph,hmin,zC,wc (k:=ns.length) (show ns.length<=1000000 by omega),hf,r0,r1]
end K77
namespace K77
open PySem L2 DL
def sp_law(K:Pl)(H:Hp)(a:Pg)(ns:List Int)(hl:ns.length<=63)(hS:gJ K H a (ns.map V.int)):spD K 1 m_law [.ref a] H (λv _=>v=.bl true) λ_ _ _=>False:=by
 refine⟨rfl,H,[.lst (ns.map D.int)],aF.refl _,Reps.cons (aH.mpr ⟨a,_,rfl,hS,tN ns⟩) Reps.nil,?_⟩;rw[C5 ns hl];exact λv H' Ha' _ r=>aC.mp r
end K77
structure PySem.W.Fast:Prop where(tw7665070847480640824 tw15710691902116248405 tw17155602397695467538 tw16087232159988610032 tw847730727797254524 tw14337510054498952889 tw12741699085890245599 tw10104143255094268921 tw10770005915275445123 tw6965820674210564096 tw1941443644894274476 tw5012069500885463602 tw4536329756031332916 tw16036560739067208533 tw7678239599893177212 tw15714700496123132402 tw15929306730668573825 tw16013382107547471084 tw17338051922634439821 tw14481116128847531730 tw4495356862741491125 tw4652045976895838488 tw12991982973074876894 tw17033224958842708370 tw830143697249345214 tw4012558585682187329 tw2551119728420584906 tw600100201393764786 tw13686767275693308988 tw75116267190194905 tw11670527274556931695 tw9110796069148249003 tw6320878351289767235 tw16096547275293108100 tw18378188918597547498 tw2171988624271833591 tw15716600499716956770 tw16863402776336314121 tw3967976976678690217 tw5195344173252699537 tw12673714203152144282 tw5264535540815445599 tw7611040554884434265 tw6822572918004783783 tw18220653835765881951 tw3960789950082320858 tw13814891486151525673 tw17103335501538483407 tw17874035328489707153 tw3245595877186872497 tw9819472756952386508 tw11928593167600502182 tw8639965114418700175 tw13430423152144883434 tw3746596965432343662 tw14430123042974574480 tw4272750480283525917 tw12307466067312824948 tw4205965668254610665 tw5902793625714578720 tw1493525409573303766 tw12956320617890403022 tw1238773570560789027 tw13997928624459175414 tw13144197294636342657 tw2412946871961421062 tw14055666916509100704 tw17563836354409301345 tw12547130438800583248 tw11014248682533911393 tw13352229801155985158 tw6507248841524979614 tw7742280750794542019 tw14570951181040313625 tw13333327009710030865 tw5789337716886326856 tw3335502329446133124 tw16520445172230599111 tw5635146354325504249 tw6370137414518020209 tw12780491443182918279 tw11555476948783169151 tw1000508336544593136 tw16465223974824490434 tw5572521980089020549 tw14275628272951632133 tw5481376272977841902 tw18068330779994471816 tw10648946244889783689 tw10754394053895013876 tw11342737481745504624 tw16280626755873615207 tw2162437929766232217 tw10897848374990194978 tw13834785986811677626 tw782496154707703573 tw1824171444465043904 tw10999427827049684619 tw18329058367879367090 tw13801654426844242337 tw929434249447809118 tw17359895193042091024 tw11676251061951601647 tw2421488485903633924 tw2983194631948977602 tw9687254881563386796 tw28072077399062834 tw16724093490593789457 tw2854915908516352923:True)
open PySem PySem.W PyProof.Rows
set_option maxRecDepth 100000 in
set_option maxHeartbeats 0 in
theorem PySem.Challenge.cw_farthestcut_k77_whole_texts_row_by_row_holds : PySem.Challenge.rw_farthestcut_k77_whole_texts_row_by_row.Holds := by
 w_on;o_law;k_head;(case hw=>w_witness2)
 k_fill
 refine L2.walk_ofK (l:=PySem.Challenge.rw_farthestcut_k77_whole_texts_row_by_row) (n:=63) (k:=10) (x:="_law_script") (CX:=L2.CX0) (sp:=fun K=>DL.spD K 1 K77.m_law) ?I rfl (by decide) rfl ⟨rfl,by decide,by decide,rfl⟩ (fun w h Y=>W.kIn_of Y) ?F ?S ?C
 case S=>exact fun K H a ns hl _ hS=>K77.sp_law K H a ns hl hS
 case C=>exact fun _ _ _ _ h=>h
 case I=>rfl
 case F =>
  intro w mg fa h KX G hmg;have T:∃ t:K77.Adr,K77.Txt (L2.KOf KX) mg t/\mg "law"=some (.ref (t.A 40))/\∃ kV doc pm an cdv ct,t.Q 40=RY "law" "law" (L2.defArgs (K77.top 67)) (L2.defBody (K77.top 67)) (L2.defScope (K77.top 67)) .none kV doc pm an cdv ct:=by
   dsimp only[L2.KOf];refine' K77.txt_wr (K77.txt_mk KX G ?QS ?_ ?_ ?_ ?_ ?_ ?_ ?_ ?_ ?_ ?_ ?_ ?_ ?_ ?_ ?_ ?_ ?_ ?_ ?_ ?_ ?_ ?_ ?_ ?_ ?_ ?_ ?_ ?_ ?_ ?_ ?_ ?_ ?_ ?_ ?_ ?_ ?_ ?_ ?_ ?_ ⟨?_,?_,?_,?_⟩ ⟨⟨?_,?_,?_,?_⟩,?_,?_,?_,?_,?_,?_,?_,?_,?_,?_,?_,?_⟩ ⟨⟨?_,?_,?_,?_⟩,?_,?_,?_,?_,?_,?_,?_,?_,?_,?_,?_,?_⟩ ⟨_,_,_,_,_,_,_,_,_,_,_,_,_,_,_,_,_,_,_,_,_,_,_,_,_,_,_,_,_,?_,?_,?_,?_,?_,?_,?_,?_,?_,?_,(DL.noL_cons ?_ DL.noL_nil)⟩ ⟨_,_,_,_,_,_,_,_,_,_,_,_,_,_,_,_,_,_,_,_,_,_,_,_,_,_,_,_,_,?_,?_,?_,?_,?_,?_,?_,?_,?_,?_,(DL.noL_cons ?_ (DL.noL_cons ?_ DL.noL_nil))⟩ ?_ ?_ ?_ ?_ (DL.sb_c ?_ (DL.sb_c ?_ trivial)) (DL.sb_c ?_ (DL.sb_c ?_ trivial)) ?_ ?_ ?_ ?_ ?_ ?_ ?_ ?_ ?_ ?_ ?_ ?_ ?_ ?_ ?_ ?_ ?_ ?_ ?_)
   case' QS=>iterate 41 refine DL.QAs.cons ⟨by k_is,by k_is,_,_,_,_,_,_,_,_,_,by k_is,by k_is⟩ ?_
   case QS=>trivial
   all_goals try first |k_is |k_exc |rfl
   exact⟨_,_,_,_,[.str "one",.str "both"],rfl,.cons ⟨_,rfl⟩ (.cons ⟨_,rfl⟩ (.nil)),by decide,fun H=>DL.Reps.cons (DL.Rep.str_iff.mpr rfl) (DL.Reps.cons (DL.Rep.str_iff.mpr rfl) (DL.Reps.nil))⟩
  obtain⟨t,T,e0,kV,doc,pm,an,cdv,ct,ed⟩:=T;have e1:=hmg.symm.trans e0;cases e1;refine⟨t.Q 40,fun s u=>?_,fun base kb nb=>(K77.ok_law T).F⟩;rw[ed];exact .of_eq rfl
