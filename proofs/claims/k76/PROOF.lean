import PyProof.Rows.All
import Wide.All
import OpenK.AllK
import Wide.FinOn
import PyProof.EqAt
import PyProof.EqKinds
import PyProof.NeKinds
import PyProof.TupleCall
import PyProof.StrWalks
import PyProof.EnumMake
import PyProof.WalksEnum
import PyProof.ZipIter
import PyProof.Rows.ZipGen
import PyProof.Rows.SortWalk
import KE.KSortedM
import PyProof.StrLawsIdx
import PyProof.ExcInit
import PyProof.InstStoreFacts
import PyProof.AttrMissHeap
import PyProof.FactsAll.enumerate
import PyProof.FactsAll.dict_1
import KE.KDictOf
import KE.KItemsList
import PyProof.ReprRoads
import PyProof.StrLawsNeg
import PyProof.FitsInt
import PyProof.TupleIter
import PyProof.WalksMore
import PyProof.ExcClass2
import PyProof.Rows.MatchSeqLen
import PyProof.AttrMissSeq
import PyProof.FactsAll.zip_1
import KE.LcSums
import KE.KRevIter
import PyProof.DictWalks
import PyProof.DictItemsLoops
import KE.KPairComp
import KE.KDictText
import PySem.Challenge.RW_farthestcut_k76_rows_that_cannot_stand
open PySem renaming Value->OB,Addr->OE,Str->OG,Shared->OI,starEach->OJ,wpAny_bind->OM,Heap->OY,model->O2,mainGlobals->O6,wpAny->O7,wpAny_pure->Pc,Expr->Pl,Program->Pr,Around->Px,FuncData->Pz,World->PJ,backTo->PK,wpAny_mono->PN,compareOp->PR,Env->P7,swapsWith->P9,attributeBase->Qd,Stmt->Qe,wpAny_truthy_bool->Qq,wpAny_loadPart_at->Qr,NameKind->Qs,mem_of_lookup->QC,keywordEach->QF,wpAny_holding->QT,Keyword->QW,intText?->QX,codeAny->Q9,Within->Rk,backToKw->Ry,Scope->RG,typeLookup->RH,sysModules->Sh,cLine->Sm,Result->SD,size_glued->S1,DictEntry->S5,holding->TR,getAttr->TU,intBits_le_iff->Uq
open List renaming length_map->OD,getElem?_eq_getElem->OQ,mem_cons_of_mem->OT,replicate->OV,getElem?_set_ne->OW,getElem?_eq_some_iff->OZ,mem_cons->O4,getElem?_map->O5,getElem?_append_left->O8,length_cons->Pa,size_toArray->Pd,mem_cons_self->Pe,getElem?_append_right->Pg,all_eq_true->Pk,length_append->Pm,mem_of_getElem?->Pp,getElem?_replicate->Pt,map_cons->PC,mem_singleton->PD,replicate_succ->PF,getElem?_set_self->PH,mem_map->PM,mem_append_right->PX,map_append->PZ,length_eq_zero_iff->Qa,getElem?_cons_succ->Qb,range->Qc,drop_eq_getElem_cons->Qf,length_replicate->Qi,lookup_cons->Qo,cons_append->Qp,filterMap_cons->Qt,mem_append->Qv,length_take->Qw,all_cons->QH,nodup_cons->QK,nil_append->QL,length_nil->QM,append_nil->QN,flatten_cons->QP,append_assoc->QQ,getElem?_take_of_lt->QU,not_mem_nil->QZ,getElem?_cons_zero->Q0,lookup->Q3,zip_cons_cons->Q5,mem_append_left->Rh,length_drop->Rm,getElem_mem->Rn,getElem?_drop->Rv,getElem?_set_self'->Rx,reverse_cons->RB,map_map->RC,length->RK,map_nil->RO,Nodup->RW,mem_nil_iff->Se,filter_cons_of_pos->Sf,filter_cons_of_neg->Sg,range_succ_eq_map->Sj,all_map->Sk,mem_filter->Sn,eq_nil_or_concat->So,concat_eq_append->Sq,mem_range->Su,replicate_zero->Sw,set_cons_zero->SG,set_cons_succ->SH,mem_filterMap->SI,filterMap_map->SJ,drop_length->S2,range'->S8,of_mem_zip->Ta,drop_zero->Tf,sum_cons->Tu,eq_of_mem_replicate->Tv,any_cons->Tw,zipWith->T7,take_of_length_le->T8,all_nil->T9,mem_of_mem_take->Ur,take_succ_cons->Ut,length_reverse->Uu
open PySem.W renaming Frag->OH,nsIn->Qg,findIn->Qj,kia_one->Qn,emptyDict->Qu,subIn->Qx,mg_none_of->Qy,hasDictIn->Q2,mg_of->Q4,keepIn->Rc,fnOf->Ru,instObj->RQ,specialIn->R0,Looks->R6,plainGet->Sy,exmOne->SR,plainOver->S6,kitx_dict->S7,codeIn->Td,looks_clsIn->Tp,takesIn->Tz,hideAll->TC,mroIn->TV,isNs_of_in->TX,excIn->TY,methodObj->Ui,lookIn->Uj,kitx_list->Uk,kitOne->Ul,InstAt->Um
open PySem.Heap renaming get?_push_of_some->OK,lt_size->O1,get?_push_size->Pu,get?_update_other->QE,get?_update_self->QI,FlyingW->RE,get?_none_of_le->RL,SameBut->RP,size_push->Tg,MadeExcOf->Th,NotedW->Us,get?_update_ne->Uv
open Bool renaming false_and->OL,true_and->ON,not_false->OO,and_eq_true->OR,not_true->OU,and_false->Pf,eq_iff_iff->P8,false_ne_true->Qm,and_true->QV,not_eq_true'->Rb,and_eq_false_iff->Sr,false_or->Sx,false_eq_true->SO,or_eq_true->Tb,and_self->Tx
open Or renaming inl->OP,inr->Te
open Nat renaming lt_of_lt_of_le->OS,le_trans->O0,le_refl->O3,ne_of_lt->Po,pow_le_pow_right->QO,lt_succ_self->QY,lt_irrefl->Rp,zero_le->RJ,mod_lt->RU,lt_of_le_of_lt->RV,zero_add->Si,toDigits->SU,sub_zero->T3,le_of_lt->T4,le_of_eq->T5,add_zero->T6
open PySem.SeqAt renaming RcNeAt->O9,EqAt->Pb,RcAt->Pj,ne_of_list_tuple->TZ
open PySem.Value renaming ref->Pq,none->Qk,bool->Ql,str->Qz,int->QB,builtin->Q8,float->Uo
open Int renaming gcd->Pw,eq_ofNat_of_zero_le->P5,toNat_natCast->QR,fmod_nonneg_of_pos->RD,natCast_nonneg->RX,fmod_eq_emod_of_nonneg->RY,fmod_lt_of_pos->SK,gcd_one_right->SV,natAbs_ediv_le_natAbs->Tn
open Ne renaming symm->Py
open PySem.Txt renaming partition->PB,split->P6,slice->Qh,join->Q6,startswith->Rz,slice_le->SS
open PySem.Str renaming ofString->PL,length_append->RA,empty->RI,join->Sd
open False renaming elim->PQ
open Option renaming some->PU,getD_some->Rl,map_some->Rr,isSome_iff_exists->R9,bind_eq_some_iff->TN
open Option.some renaming inj->PY,injEq->Ra
open Array renaming length_toList->QD,getElem?_eq_some_iff->Ri,append_assoc->SQ,getElem?_setIfInBounds_ne->S0
open PySem.NameKind renaming free->QG
open PySem.PassesOwn renaming never->QJ
open PySem.Builtin.Str renaming occurrences->Q1,glued->TK
open PySem.Builtin renaming divisionGoesByPylong->Q7
open True renaming intro->Rg
open PySem.Builtin.Slice renaming slicePlaces->Ro,sliceAdjust->RZ,sliceApplied->Tj
open PySem.Builtin.Tuple renaming tupleExact->Rq
open ForInStep renaming yield->Rt
open PyProof.Rows renaming slot_tuple_getitem->RF,callWith_type1->RN,mem_iff_at->TM
open Sum renaming inr->RM,inl->R7
open PySem.F renaming excBase_ValueError->RT,attr_ValueError->R8,args_str_split_2->SM,entry_str_split->SX,slot_str_split->S4,type_list_append->Tr,slot_list_append->Ts,args_tuple_add_2->Tt,plainAttrs_list->TH,entry_tuple_add->TJ,slot_tuple_add->T1,plainAttrs_str->T2,typeOf_object_class->Uh
open PySem.Builtin.List renaming listTooLong->Sa
open PySem.StrLaws renaming partsFrom_ne->Ss,join_split->Sz,partsBetween_eq->TF,partition_sum->Uc,occ_length_le->Ud,glued_eq_join->Ue,sliceText_to->Up
open PySem.Calls renaming evalArgs_plain->Sv,Name_function_global->Ti,callWith_builtin->Ub
open PySem.SeqAt.EqAt renaming of_refs->SA,same->S9
open PySem.Obj renaming data_mapFields->SE,isFreed_of_fields->Ug
open PySem.Code renaming quiet_builtin->SN,isFrame->Ua
open Function renaming comp_def->SW
open PySem.Around renaming under->SY
open Iff renaming rfl->Tc
open Classical renaming byContradiction->To
open PySem.SeqAt.RcAt renaming lists_lengths->Tq
open PyProof.Rows.IsTup renaming new->TQ
open PySem.EntryCells renaming newEntry->Uw
set_option compiler.extract_closed false
set_option bootstrap.genMatcherCode false
set_option Elab.async false
set_option linter.all false
set_option maxRecDepth 100000
set_option maxHeartbeats 4000000
noncomputable section
abbrev ci:=List OG
abbrev cr:=List Nat
namespace L2
open PySem PySem.Spec PyProof.Rows
abbrev uY:=Sum Int OG
def HQ:uY->OB->Bool
 |.inl k,v=>Value.isInt k v
 |.inr x,v=>Value.isStrOf x v
def NB(w:PJ):uY->Int
 |.inl k=>hashInt k
 |.inr x=>hashStr w x
theorem dy:∀{k:uY}{v:OB},HQ k v=true->(∃i t,k=R7 i/\v=QB i t)∨(∃x t,k=RM x/\v=Qz x t)
 |.inl i,v,h=>by
  obtain⟨t,e⟩:=Value.isInt_shape (k:=i) (v:=v) h;exact .inl ⟨i,t,rfl,e⟩
 |.inr x,v,h=>by
  obtain⟨t,e⟩:=Value.isStrOf_shape (x:=x) (v:=v) h;exact .inr ⟨x,t,rfl,e⟩
def Jx(a b:Int):decide ((R7 a:uY)=R7 b)=(a==b):=by
 by_cases e:a=b
 .subst e;simp
 .have h:¬(R7 a:uY)=R7 b:=λq=>e (R7.inj q)
  rw[decide_eq_false h];exact(beq_eq_false_iff_ne.mpr e).symm
def Ju(a b:OG):decide ((RM a:uY)=RM b)=decide (a=b):=by
 by_cases e:a=b
 .subst e;simp
 .have h:¬(RM a:uY)=RM b:=λq=>e (RM.inj q)
  rw[decide_eq_false h,decide_eq_false e]
def Jw(a:Int)(b:OG):decide ((R7 a:uY)=RM b)=false:=decide_eq_false (λq=>nomatch q)
def Jv(a:OG)(b:Int):decide ((RM a:uY)=R7 b)=false:=decide_eq_false (λq=>nomatch q)
noncomputable def yZ(prog:Pr) (w:PJ):PySem.KeyKind prog w uY where
 is:=HQ
 hash:=NB w
 inj:=λv a b ha hb=>by
  rcases dy ha with⟨i,t,rfl,rfl⟩|⟨x,t,rfl,rfl⟩
  .rcases dy hb with⟨j,u,rfl,e⟩|⟨y,u,rfl,e⟩
   .injection e with e1 _;rw[e1]
   .exact nomatch e
  .rcases dy hb with⟨j,u,rfl,e⟩|⟨y,u,rfl,e⟩
   .exact nomatch e
   .injection e with e1 _;rw[e1]
 byValue:=λk v h=>by
  rcases dy h with⟨i,t,rfl,rfl⟩|⟨x,t,rfl,rfl⟩<;>rfl
 pyHash:=λhv h=>by
  rcases dy hv with⟨i,t,rfl,rfl⟩|⟨x,t,rfl,rfl⟩
  .exact wpAny_pyHash_int h
  .exact wpAny_pyHash_str h
 eqBool:=λhu hv h=>by
  rcases dy hu with⟨i,t,rfl,rfl⟩|⟨x,t,rfl,rfl⟩
  .rcases dy hv with⟨j,u,rfl,rfl⟩|⟨y,u,rfl,rfl⟩
   .rw[Jx]at h;exact wpAny_eqBool_int h
   .rw[Jw]at h;exact Pb.int_str i t y u _ _ _ _ h
  .rcases dy hv with⟨j,u,rfl,rfl⟩|⟨y,u,rfl,rfl⟩
   .rw[Jv]at h;exact Pb.str_int x t j u _ _ _ _ h
   .rw[Ju]at h;exact wpAny_eqBool_str h
 «strs»:=λk x t v h=>by
  rcases dy h with⟨i,u,rfl,e⟩|⟨y,u,rfl,e⟩
  .exact nomatch e
  .injection e with e1 _
   subst e1;cases v<;>rfl
inductive V where
 |non|bl (b:Bool)|int (i:Int)|str (x:OG)|byt (b:Array UInt8)|flt (b:UInt64)|ref (a:OE)|ty (n:String)
 deriving DecidableEq
abbrev al:=List V
noncomputable def bX:V->OB->Prop
 |.non,u=>u=Qk
 |.bl b,u=>u=Ql b
 |.int i,u=>∃t,u=QB i t
 |.str x,u=>∃t,u=Qz x t
 |.byt b,u=>∃t,u=Value.bytes b t
 |.flt b,u=>∃t,u=Uo b t
 |.ref a,u=>u=Pq a
 |.ty n,u=>u=Value.type n
abbrev bJ:al->List OB->Prop:=Paired bX
def bJ.length{xs:al}{us:List OB}(r:bJ xs us):xs.length=us.length:=Paired.length r
theorem bJ.get:∀{xs:al}{us:List OB}{i:Nat}{x:V},bJ xs us->xs[i]?=some x->∃u,us[i]?=some u/\bX x u
 |_,_,_,_,.nil,e=>by simp at e
 |_,_,0,_,.cons r _,e=>by simp at e;subst e;exact⟨_,rfl,r⟩
 |_,_,i+1,x,.cons _ t,e=>by
  obtain⟨u,h1,h2⟩:=bJ.get (i:=i) (x:=x) t (by simpa using e);exact⟨u,by simpa using h1,h2⟩
theorem bJ.append:∀{xs ys:al}{us ws:List OB},bJ xs us->bJ ys ws->bJ (xs++ys) (us++ws)
 |_,_,_,_,.nil,s=>s
 |_,_,_,_,.cons r t,s=>.cons r (bJ.append t s)
theorem bJ.take:∀{xs:al}{us:List OB}(n:Nat),bJ xs us->bJ (xs.take n) (us.take n)
 |_,_,0,_=>.nil
 |_,_,_+1,.nil=>.nil
 |_,_,n+1,.cons r t=>.cons r (bJ.take n t)
theorem bJ.drop:∀{xs:al}{us:List OB}(n:Nat),bJ xs us->bJ (xs.drop n) (us.drop n)
 |_,_,0,r=>r
 |_,_,_+1,.nil=>.nil
 |_,_,n+1,.cons _ t=>bJ.drop n t
def yo:Option V->Option OB->Prop
 |some v,some u=>bX v u
 |none,none=>True
 |_,_=>False
def KV{κ:Type}:List (κ×V)->List (κ×OB)->Prop:=Paired λ(p:κ×V) (q:κ×OB)=>p.1=q.1/\bX p.2 q.2
def kV:uY->V
 |.inl i=>.int i
 |.inr x=>.str x
inductive HO where
 |lst (xs:al)
 |tup (xs:al)
 |dK (kvs:List (uY×V))|dT (kvs:List (List uY×V))
 |set (S:Int->Bool) (n:Nat)
 |ins (C dx:OE) (fs:List (OG×V))
 |own (x:OE)
 |xd (fs:List (OG×V))
 |met (f x:OE)
 |rng (lo hi:Int)
 |frz (o:Obj) (u:HO)
 |tbl (ps:Array OB)
 |ext (φ:OY->Prop)
abbrev Hp:=OE->Option HO
def upd(H:Hp)(a:OE)(o:HO):Hp:=λb=>if b=a then some o else H b
def ay{H:Hp}{a:OE}{o:HO}:upd H a o a=some o:=by unfold upd;rw[if_pos rfl]
def av{H:Hp}{a b:OE}{o:HO}(h:b≠a):upd H a o b=H b:=by unfold upd;rw[if_neg h]
def bo{H:Hp}{a b:OE}{o:HO}(h:H a=some o)(h':H b=none):a≠b:=by
 intro e;subst e;rw[h]at h';cases h'
section
variable (P:Pr) (w:PJ)
noncomputable def dq(H:Hp) (h:OY) (a:OE):HO->Prop
 |.lst xs=>xs.length<=sizeLine/\∃(its:List OB) (n:Nat),bJ xs its/\h.get? a=some { cls:=.type "list",data:=.seq its.toArray n }
 |.tup xs=>xs.length<=sizeLine/\∃its:List OB,bJ xs its/\IsTup h a its.toArray
 |.dK kvs=>kvs.length<=sizeLine/\(a==Sh)=false/\∃vs,KV kvs vs/\h.DictOf (yZ P w) a vs
 |.dT kvs=>kvs.length<=sizeLine/\(a==Sh)=false/\∃xs:List (List uY×OE×OB),
   Paired (λ(p:List uY×V) (q:List uY×OE×OB)=>p.1=q.1/\H q.2.1=some (.tup (p.1.map kV))/\bX p.2 q.2.2) kvs xs /\
   ∃o es ep,h.get? a=some o/\o.ExactDict/\o.data=.dict es ep/\es.toList=xs.map (entryOfKey (tupleKind (yZ P w)))/\(xs.map (·.1)).Nodup
 |.set S n=>h.SetOf (intKind P w) a S n
 |.ins C dx fs=>H dx=some (.own a)/\fs.length<=1000/\dx≠a/\h.get? a=some (RQ C dx) /\
   ∃mA,h.Ns1 dx mA/\(∀f,yo (fs.lookup f) (mA f))/\Rk mA (fs.map (·.1))
 |.own _=>∃o,h.get? a=some o
 |.xd fs=>∃mA,h.Ns1 a mA/\∀f,yo (fs.lookup f) (mA f)
 |.rng lo hi=>∃t u v,h.get? a=some { cls:=.type "range",data:=.fields #[.int lo t,.int hi u,.int 1 v] }
 |.frz o u=>h.get? a=some o/\dq H h a u
 |.tbl ps=>h.get? a=some { cls:=.none,data:=.fields ps }
 |.met f x=>h.get? a=some (Ui (.ref f) (.ref x))
 |.ext φ=>φ h/\(∃o,h.get? a=some o)/\∀h1 h2:OY,φ h1->(∀o,h1.get? a=some o->h2.get? a=some o)->φ h2
def ip(H:Hp)(h:OY):Prop:=∀a o,H a=some o->dq P w H h a o
end
section
variable {P:Pr}{w:PJ}{H H':Hp}{h h':OY}{a:OE}{o:HO}
def dq.lt(x:dq P w H h a o):a<h.objs.size:=by
 cases o with|lst xs=>obtain⟨_,_,_,_,e⟩:=x;exact O1 e|tup xs=>obtain⟨_,_,_,p⟩:=x;exact p.lt|dK kvs|dT kvs=>obtain⟨_,_,_,_,o,_,_,e,_⟩:=x;exact O1 e|set S n=>obtain⟨o,_,_,_,e,_⟩:=x;exact O1 e|ins C dx fs=>obtain⟨_,_,_,e,_⟩:=x;exact O1 e|own y=>obtain⟨_,e⟩:=x;exact O1 e|xd fs=>obtain⟨_,⟨_,_,_,e,_⟩,_⟩:=x;exact O1 e|rng lo hi=>obtain⟨_,_,_,e⟩:=x;exact O1 e|frz ob u=>obtain⟨e,_⟩:=x;exact O1 e|tbl ps|met f y=>exact O1 (show h.get? a=some _ from x)|ext φ=>obtain⟨_,⟨_,e⟩,_⟩:=x;exact O1 e
theorem ot{α β:Type}{F G:α->β->Prop}:∀{lc:List α}{lf:List β},Paired F lc lf->(∀a b,F a b->G a b)->Paired G lc lf
 |_,_,.nil,_=>.nil
 |_,_,.cons r t,f=>.cons (f _ _ r) (ot t f)
def dq.stay(x:dq P w H h a o)(k:∀b u,(b=a∨H b=some (.own a))->h.get? b=some u->h'.get? b=some u)
  (ho:∀b,H b=some (.own a)->H' b=some (.own a))(ht:∀b xs,H b=some (.tup xs)->H' b=some (.tup xs)):dq P w H' h' a o:=by
 induction o with
 |lst xs=>obtain⟨z,its,n,r,e⟩:=x;exact⟨z,its,n,r,k _ _ (.inl rfl) e⟩|tup xs=>obtain⟨z,its,r,ob,e,c⟩:=x;exact⟨z,its,r,ob,k _ _ (.inl rfl) e,c⟩|dK kvs=>obtain⟨z,y,vs,r,ob,es,ep,e,c⟩:=x;exact⟨z,y,vs,r,ob,es,ep,k _ _ (.inl rfl) e,c⟩
 |dT kvs=>
  obtain⟨z,y,xs,r,ob,es,ep,e,c⟩:=x;exact⟨z,y,xs,ot r λp q z=>⟨z.1,ht _ _ z.2.1,z.2.2⟩,ob,es,ep,k _ _ (.inl rfl) e,c⟩
 |set S n=>obtain⟨ob,es,ep,t,e,c⟩:=x;exact⟨ob,es,ep,t,k _ _ (.inl rfl) e,c⟩
 |ins C dx fs=>
  obtain⟨d,z,ne,e,mA,⟨od,es,ep,e2,c⟩,r⟩:=x;exact⟨ho _ d,z,ne,k _ _ (.inl rfl) e,mA,⟨od,es,ep,k _ _ (.inr d) e2,c⟩,r⟩
 |own y=>obtain⟨ob,e⟩:=x;exact⟨ob,k _ _ (.inl rfl) e⟩|xd fs=>obtain⟨mA,⟨od,es,ep,e,c⟩,r⟩:=x;exact⟨mA,⟨od,es,ep,k _ _ (.inl rfl) e,c⟩,r⟩|rng lo hi=>obtain⟨t,u,v,e⟩:=x;exact⟨t,u,v,k _ _ (.inl rfl) e⟩|frz ob u ih=>obtain⟨e,q⟩:=x;exact⟨k _ _ (.inl rfl) e,ih q⟩
 |tbl ps=>
  have e:h.get? a=some { cls:=.none,data:=.fields ps }:=x;show h'.get? a=some { cls:=.none,data:=.fields ps };exact k a _ (.inl rfl) e
 |met f y=>
  have e:h.get? a=some (Ui (.ref f) (.ref y)):=x;show h'.get? a=some (Ui (.ref f) (.ref y));exact k a _ (.inl rfl) e
 |ext φ=>obtain⟨p,⟨o,e⟩,st⟩:=x;exact⟨st _ _ p λo q=>k _ _ (.inl rfl) q,⟨o,k _ _ (.inl rfl) e⟩,st⟩
def ip.lt(x:ip P w H h)(e:H a=some o):a<h.objs.size:=(x a o e).lt
def ip.fresh(x:ip P w H h)(e:h.objs.size<=a):H a=none:=by
 cases q:H a with|none=>rfl|some u=>exact absurd (OS (x.lt q) e) (Rp _)
def ip.kept(x:ip P w H h)(k:∀b u,h.get? b=some u->h'.get? b=some u):ip P w H h':=λa o e=>
 (x a o e).stay (λb u _ q=>k b u q) (λ_ q=>q) λ_ _ q=>q
def ip.laid(x:ip P w H h)(k:∀b u,h.get? b=some u->h'.get? b=some u)(hp:h.objs.size<=a)(new:dq P w (upd H a o) h' a o):ip P w (upd H a o) h':=λb u e=>by
 have hn:=x.fresh hp
 by_cases hb:b=a
 .subst hb;rw[ay]at e;cases e;exact new
 .rw[av hb]at e
  exact(x b u e).stay (λc v _ q=>k c v q) (λc q=>by rw[av (bo q hn)];exact q) λc xs q=>by rw[av (bo q hn)];exact q
end
def Rd(H:Hp)(a:OE)(u:HO):Prop:=H a=some u∨∃o,H a=some (.frz o u)
def Rd.ok{P:Pr}{w:PJ}{H:Hp}{h:OY}{a:OE}{u:HO}(r:Rd H a u)(x:ip P w H h):dq P w H h a u:=by
 rcases r with r|⟨o,r⟩
 .exact x a u r
 .obtain⟨_,q⟩:=x a _ r
  exact q
def KO:Option HO->Prop
 |some (.lst _)=>True
 |some (.dK _)=>True
 |some (.dT _)=>True
 |some (.set _ _)=>True
 |some (.ins _ _ _)=>True
 |some (.ext _)=>True
 |_=>False
section
variable {P:Pr}{w:PJ}{H:Hp}{h h':OY}{x e:OE}{o':HO}
def ip.write(ok:ip P w H h)(mu:KO (H x))(he:e=x∨H e=some (.own x))(k:∀b u,b≠e->h.get? b=some u->h'.get? b=some u)(heo:∃u,h'.get? e=some u)
  (new:dq P w (upd H x o') h' x o'):ip P w (upd H x o') h':=λb u q=>by
 have nown:∀c y,H c=some (.own y)->c≠x:=λc y r z=>by subst z;rw[r]at mu;exact mu
 have ntup:∀c xs,H c=some (.tup xs)->c≠x:=λc xs r z=>by subst z;rw[r]at mu;exact mu
 by_cases hb:b=x
 .subst hb;rw[ay]at q;cases q;exact new
 .rw[av hb]at q
  by_cases hbe:b=e
  .have q':H b=some (.own x):=by
    rcases he with z|z
    .exact absurd (hbe.trans z) hb
    .rw[hbe];exact z
   rw[q]at q';cases q';obtain⟨v,hv⟩:=heo;exact⟨v,by rw[hbe];exact hv⟩
  .refine(ok b u q).stay (λc v hc r=>k c v ?_ r) (λc r=>by rw[av (nown c b r)];exact r) λc xs r=>by rw[av (ntup c xs r)];exact r
   rcases hc with rfl|hc
   .exact hbe
   .rintro rfl
    rcases he with z|z
    .exact nown c b hc z
    .rw[hc]at z;cases z;exact hb rfl
end
structure Un (fs ex:List OE) (H H':Hp) (h h':OY):Prop where
 keep:∀b o,h.get? b=some o->H b=none->b∉fs->b∉ex->h'.get? b=some o
 slot:∀b o,h.get? b=some o->H b=none->b∈fs->b∉ex->∃sl,h'.get? b=some { o with slots:=sl }
 free:∀b o,h.get? b=some o->H b=none->b∉ex->H' b=none
 there:∀b o,h.get? b=some o->b∉ex->∃o',h'.get? b=some o'
 tups:∀b xs,H b=some (.tup xs)->H' b=some (.tup xs)
 frzs:∀b o u,H b=some (.frz o u)->H' b=some (.frz o u)
 tbls:∀b ps,H b=some (.tbl ps)->∃more,H' b=some (.tbl (ps++more))
section
variable {fs fs' ex ex':List OE}{H H1 H2:Hp}{h h1 h2 h':OY}{a x e:OE}{o:HO}
def Un.any(u:Un fs ex H H1 h h1){b:OE}{ob:Obj}(q:h.get? b=some ob)(n:H b=none)(hx:b∉ex):∃sl,h1.get? b=some { ob with slots:=sl }:=by
 by_cases hb:b∈fs
 .exact u.slot b ob q n hb hx
 .exact⟨ob.slots,u.keep b ob q n hb hx⟩
def Un.trans(a:Un fs ex H H1 h h1)(b:Un fs ex H1 H2 h1 h2):Un fs ex H H2 h h2 where
 keep:=λc ob q n hc hx=>b.keep c ob (a.keep c ob q n hc hx) (a.free c ob q n hx) hc hx
 slot:=λc ob q n hc hx=>by
  obtain⟨sl,e1⟩:=a.slot c ob q n hc hx;obtain⟨sl',e2⟩:=b.slot c _ e1 (a.free c ob q n hx) hc hx;exact⟨sl',e2⟩
 free:=λc ob q n hx=>by
  obtain⟨o',e1⟩:=a.there c ob q hx;exact b.free c o' e1 (a.free c ob q n hx) hx
 there:=λc ob q hx=>by
  obtain⟨o',e1⟩:=a.there c ob q hx;exact b.there c o' e1 hx
 tups:=λc xs q=>b.tups c xs (a.tups c xs q)
 frzs:=λc ob xs q=>b.frzs c ob xs (a.frzs c ob xs q)
 tbls:=λc ps q=>by
  obtain⟨m1,e1⟩:=a.tbls c ps q;obtain⟨m2,e2⟩:=b.tbls c _ e1;exact⟨m1++m2,by rw[e2,SQ]⟩
def Un.kept(k:∀b u,h.get? b=some u->h'.get? b=some u):Un fs ex H H h h' :=
 ⟨λb ob q _ _ _=>k b ob q,λb ob q _ _ _=>⟨ob.slots,k b ob q⟩,λ_ _ _ n _=>n,λb ob q _=>⟨ob,k b ob q⟩,λ_ _ q=>q,λ_ _ _ q=>q,λ_ ps q=>⟨#[],by rw[q];simp⟩⟩
def Un.refl:Un fs ex H H h h:=Un.kept λ_ _ q=>q
def Un.laid(k:∀b u,h.get? b=some u->h'.get? b=some u)(hp:h.objs.size<=a)(hn:H a=none):Un fs ex H (upd H a o) h h' where
 keep:=λb u q _ _ _=>k b u q
 slot:=λb u q _ _ _=>⟨u.slots,k b u q⟩
 free:=λb u q n _=>by rw[av (Po (OS (O1 q) hp))];exact n
 there:=λb u q _=>⟨u,k b u q⟩
 tups:=λb xs q=>by rw[av (bo q hn)];exact q
 frzs:=λb u xs q=>by rw[av (bo q hn)];exact q
 tbls:=λb ps q=>⟨#[],by rw[av (bo q hn),q];simp⟩
def Un.write(mu:KO (H x))(he:e=x∨H e=some (.own x))(k:∀b u,b≠e->h.get? b=some u->h'.get? b=some u)(heo:∃u,h'.get? e=some u):Un fs ex H (upd H x o) h h':=by
 have hx:∀b,H b=none->b≠x:=λb n z=>by subst z;rw[n]at mu;exact mu
 have hb:∀b,H b=none->b≠e:=λb n z=>by
  subst z;rcases he with r|r
  .exact hx b n r
  .rw[n]at r;cases r
 have hm:∀b u,H b=some u->¬KO (some u)->b≠x:=λb u q nm z=>by subst z;rw[q]at mu;exact nm mu
 refine⟨λb u q n _ _=>k b u (hb b n) q,λb u q n _ _=>⟨u.slots,k b u (hb b n) q⟩,λb u q n _=>by rw[av (hx b n)];exact n,λb u q _=>?_,
  λb xs q=>by rw[av (hm b _ q λz=>z)];exact q,λb u xs q=>by rw[av (hm b _ q λz=>z)];exact q,λb ps q=>⟨#[],by rw[av (hm b _ q λz=>z),q];simp⟩⟩
 by_cases hbe:b=e
 .subst hbe;exact heo
 .exact⟨u,k b u hbe q⟩
end
def MR(h:OY)(H:Hp):List OE:=(Qc h.objs.size).filter λa=>(H a).isSome
def uD(h:OY)(H:Hp):OY:=TC h (MR h H)
def A5(h:OY)(H:Hp):(uD h H).objs.size=h.objs.size:=W.hideAll_size _ _
def Dl{h:OY}{H:Hp}{b:OE}{o:Obj}(e:h.get? b=some o)(n:H b=none):(uD h H).get? b=some o :=
 W.hideAll_get _ e λhm=>by
  have q:(H b).isSome=true:=(Sn.mp hm).2;rw[n]at q;simp at q
def FQ{h:OY}{H:Hp}{b:OE}{o:Obj}(e:(uD h H).get? b=some o):h.get? b=some o/\H b=none:=by
 have e':h.get? b=some o:=W.of_hideAll (MR h H) e;refine⟨e',?_⟩;cases q:H b with
 |none=>rfl
 |some x=>
  have hm:b∈MR h H:=Sn.mpr ⟨Su.mpr (O1 e'),by simp[q]⟩;have z:(uD h H).get? b=none:=W.hideAll_none (MR h H) hm;rw[z]at e;cases e
structure Mod (K:OH) (mg:OG->Option OB) (base:OY):Prop where
 kin:K.In base
 glob:base.Ns O6 mg
 blt:∃mb,base.Ns builtinsNs mb/\∀x:OG,x≠"__name__"->mb x=bootBuiltins x
 nolimit:base.NoLimit
 sm:∃mm,base.Ns Sh mm
structure Cx where
 prog:Pr
 w:PJ
 K:OH
 mg:OG->Option OB
 base:OY
 A:Px
 N:ci
 sf:OI
 Ha:Hp
 env:Env
 outer:List Env
 stack:List Env
 ex:List OE
 fn:OG->Bool
 calm:Bool
 pn:List (OE×Obj)
 xe:OB->OI->Prop
def iS(l:List Env):List OE:=l.filterMap (·.frame)
abbrev Cx.fs(X:Cx):List OE:=iS X.outer
def zO(sc:RG)(x:OG):Prop:=sc.names.lookup x=some .local ∨ sc.names.lookup x=some .cell∨sc.names.lookup x=some .free
def zS(sc:RG)(x:OG):Prop:=sc.names.lookup x=some .local ∨ sc.names.lookup x=some .cell
def MK(env:Env)(h:OY)(m:OG->Option OB)(x:OG)(u:OB):Prop :=
 (env.kindOf x=some .local /\ m x=some u)∨((env.kindOf x=some .cell∨env.kindOf x=some .free)/\∃c,env.cells.lookup x=some c/\h.IsCell c (some u))
structure Cx.Ok (X:Cx):Prop where
 mod:Mod X.K X.mg X.base
 kind:X.env.scope.kind=.function
 glob:X.env.globals=O6
 blt:X.env.builtins=builtinsNs
 above:X.sf.heap.objs.size<=X.env.locals
 inj:∀x y c,X.env.cells.lookup x=some c->X.env.cells.lookup y=some c->x=y
 has:∀x,(X.env.kindOf x=some .cell∨X.env.kindOf x=some .free)->∃c,X.env.cells.lookup x=some c
 cab:∀x c,X.fn x=true->X.env.cells.lookup x=some c->X.sf.heap.objs.size<=c
 hd:X.calm=true->X.A.handled=none
 frames:X.A.frames=some X.stack
 stk:X.stack=X.outer∨(X.stack=X.env::X.outer/\X.env.frame=some X.env.locals)
 exf:∀b∈X.ex,b≠X.env.locals/\∀x c,X.env.cells.lookup x=some c->c≠b
 bs:∀b o,X.base.get? b=some o->X.sf.heap.get? b=some o/\X.Ha b=none
 bsz:X.base.objs.size<=X.sf.heap.objs.size
 noex:∀b o,X.base.get? b=some o->b∉X.ex
 exfs:∀b∈X.ex,b∉X.fs
 funs:X.sf.heap.FunFrames X.base X.outer
 frf:∀b∈X.fs,X.Ha b=none
structure Inv (X:Cx) (π:List (OE×Obj)) (σ:List (Option V)) (H:Hp) (s:OI):Prop where
 ok:X.Ok
 os:s.os=X.sf.os
 bare:AllBare s.gens
 base:Un X.fs X.ex X.Ha H X.sf.heap s.heap
 loc:∃m,s.heap.Ns X.env.locals m/\∀(i:Nat) (x:OG) (v:V),X.N[i]?=some x->σ[i]?=some (some v)->zO X.env.scope x->∃u,bX v u/\MK X.env s.heap m x u
 cell:∀x c,X.env.cells.lookup x=some c->∃v,s.heap.IsCell c v
 free:H X.env.locals=none
 freeC:∀x c,X.env.cells.lookup x=some c->H c=none
 pin:∀p∈X.pn++π,s.heap.get? p.1=some p.2/\H p.1=none/\p.1≠X.env.locals/\p.1∉X.fs/\∀v,p.2.data≠.cell v
 hok:ip X.prog X.w H s.heap
 len:σ.length=X.N.length
section
variable {X:Cx}{π:List (OE×Obj)}{σ:List (Option V)}{H H':Hp}{s:OI}{h':OY}
def Cx.Ok.nofr(ok:X.Ok){b:OE}{o:Obj}(e:X.base.get? b=some o):b∉X.fs:=λhb=>by
 have:=(ok.funs.mem hb).1;rw[e]at this;cases this
def Inv.bs(I:Inv X π σ H s):∀b o,X.base.get? b=some o->s.heap.get? b=some o/\H b=none:=λb o e=>
 ⟨I.base.keep b o (I.ok.bs b o e).1 (I.ok.bs b o e).2 (I.ok.nofr e) (I.ok.noex b o e),I.base.free b o (I.ok.bs b o e).1 (I.ok.bs b o e).2 (I.ok.noex b o e)⟩
def Inv.bk(I:Inv X π σ H s):∀b o,X.base.get? b=some o->s.heap.get? b=some o:=λb o e=>(I.bs b o e).1
def Inv.mod(I:Inv X π σ H s):Mod X.K X.mg X.base:=I.ok.mod
def Inv.kIn(I:Inv X π σ H s):X.K.In s.heap:=I.ok.mod.kin.keeps I.bk
def Inv.lt(I:Inv X π σ H s):X.env.locals<s.heap.objs.size:=let ⟨_,hn,_⟩:=I.loc;hn.lt
def Inv.sz(I:Inv X π σ H s):X.sf.heap.objs.size<=s.heap.objs.size:=O0 I.ok.above (T4 I.lt)
def Inv.nofs(I:Inv X π σ H s){a:OE}(h:s.heap.objs.size<=a):a∉X.fs:=λhb=>by
 obtain⟨_,o,ho,_⟩:=I.ok.funs.mem hb;exact absurd (OS (O1 ho) (O0 I.sz h)) (Rp _)
def Inv.cne(I:Inv X π σ H s):∀x c,X.env.cells.lookup x=some c->c≠X.env.locals:=λx c e z=>by
 obtain⟨v,o,ho,hd⟩:=I.cell x c e;obtain⟨m,⟨o',es,ep,ho',hd',_⟩,_⟩:=I.loc;rw[z,ho']at ho;cases ho;rw[hd']at hd;cases hd
def Inv.funs(I:Inv X π σ H s):s.heap.FunFrames X.base X.outer:=by
 have all:∀(l:List Env),(∀b∈iS l,b∈X.fs)->X.sf.heap.FunFrames X.base l->s.heap.FunFrames X.base l:=by
  intro l
  induction l with
  |nil=>intro _ _;trivial
  |cons env r ih=>
   intro hs hl;obtain⟨hk,⟨L,o,hf,hn,ho,hd⟩,hr⟩:=hl;have hL:L∈X.fs:=hs L (by unfold iS;rw[Qt,hf];exact Pe);obtain⟨sl,e⟩:=I.base.slot L o ho (I.ok.frf L hL) hL λz=>I.ok.exfs L z hL;exact⟨hk,⟨L,_,hf,hn,e,hd⟩,ih (λb hb=>hs b (by unfold iS;rw[Qt,hf];exact OT _ hb)) hr⟩
 exact all X.outer (λ_ hb=>hb) I.ok.funs
def Inv.stack(I:Inv X π σ H s):s.heap.FunFrames X.base X.stack:=by
 rcases I.ok.stk with e|⟨e,hf⟩
 .rw[e];exact I.funs
 .rw[e]
  obtain⟨m,hn,_⟩:=I.loc;refine .cons (by rw[I.ok.kind];decide) hf hn ?_ I.funs;exact RL (O0 I.ok.bsz I.ok.above)
def Inv.stkSub(I:Inv X π σ H s):∀b∈iS X.stack,b∈X.env.locals::X.fs:=λb hb=>by
 rcases I.ok.stk with e|⟨e,hf⟩
 .rw[e]at hb;exact OT _ hb
 .rw[e]at hb
  unfold iS at hb;rw[Qt,hf]at hb;exact hb
def Inv.stkFree(I:Inv X π σ H s):∀b∈iS X.stack,H b=none:=λb hb=>by
 rcases O4.mp (I.stkSub b hb) with e|hb
 .rw[e];exact I.free
 .obtain⟨_,o,ho,_⟩:=I.ok.funs.mem hb
  exact I.base.free b o ho (I.ok.frf b hb) λz=>I.ok.exfs b z hb
def Inv.step{g':Array GenState}{t':Nat}{d':Drawn}{ch:List OE}(I:Inv X π σ H s)
  (hch:∀b∈ch,(b∈X.ex∨X.sf.heap.objs.size<=b)/\b≠X.env.locals/\(∀x c,X.env.cells.lookup x=some c->c≠b)/\∀p∈X.pn++π,p.1≠b)
  (keep:∀b o,b≠X.env.locals->b∉X.fs->b∉ch->s.heap.get? b=some o->H b=none->h'.get? b=some o)
  (slot:∀b o,b≠X.env.locals->b∈X.fs->b∉ch->s.heap.get? b=some o->H b=none->∃sl,h'.get? b=some { o with slots:=sl })(free:∀b o,b∉ch->s.heap.get? b=some o->H b=none->H' b=none)
  (there:∀b o,b∉ch->s.heap.get? b=some o->∃o',h'.get? b=some o')
  (tups:∀b xs,H b=some (.tup xs)->H' b=some (.tup xs))(frzs:∀b o u,H b=some (.frz o u)->H' b=some (.frz o u))(tbls:∀b ps,H b=some (.tbl ps)->∃more,H' b=some (.tbl (ps++more)))
  (ns:∀m,s.heap.Ns X.env.locals m->h'.Ns X.env.locals m)(hok:ip X.prog X.w H' h')(hg:AllBare g') :
  Inv X π σ H' { s with heap:=h',gens:=g',drawn:=d',toks:=t' }:=by
 have neL:∀b o,X.sf.heap.get? b=some o->b≠X.env.locals:=λb o e=>Po (OS (O1 e) I.ok.above);have neC:∀b o,X.sf.heap.get? b=some o->b∉X.ex->b∉ch:=λb o e hx hb=>by
  rcases(hch b hb).1 with z|z
  .exact hx z
  .exact absurd (OS (O1 e) z) (Rp _)
 have cellK:∀x c,X.env.cells.lookup x=some c->∀v,s.heap.IsCell c v->h'.IsCell c v:=λx c e v z9=>by
  obtain⟨o,ho,hd⟩:=z9;have nch:c∉ch:=λz=>(hch c z).2.2.1 x c e rfl
  by_cases hc:c∈X.fs
  .obtain⟨sl,q⟩:=slot c o (I.cne x c e) hc nch ho (I.freeC x c e)
   exact⟨_,q,hd⟩
  .exact⟨o,keep c o (I.cne x c e) hc nch ho (I.freeC x c e),hd⟩
 refine⟨I.ok,I.os,hg,⟨λb o e n hb hx=>?_,λb o e n hb hx=>?_,λb o e n hx=>?_,λb o e hx=>?_,λb xs e=>tups b xs (I.base.tups b xs e),λb o xs e=>frzs b o xs (I.base.frzs b o xs e),λb ps e=>?_⟩,?_,λx c e=>?_,?_,λx c e=>?_,λp hp=>?_,hok,I.len⟩
 .exact keep b o (neL b o e) hb (neC b o e hx) (I.base.keep b o e n hb hx) (I.base.free b o e n hx)
 .obtain⟨sl,e1⟩:=I.base.slot b o e n hb hx
  obtain⟨sl',e2⟩:=slot b _ (neL b o e) hb (neC b o e hx) e1 (I.base.free b o e n hx);exact⟨sl',e2⟩
 .obtain⟨o',e1⟩:=I.base.there b o e hx
  exact free b o' (neC b o e hx) e1 (I.base.free b o e n hx)
 .obtain⟨o',e1⟩:=I.base.there b o e hx
  exact there b o' (neC b o e hx) e1
 .obtain⟨m1,e1⟩:=I.base.tbls b ps e
  obtain⟨m2,e2⟩:=tbls b _ e1;exact⟨m1++m2,by rw[e2,SQ]⟩
 .obtain⟨m,hn,hl⟩:=I.loc
  refine⟨m,ns m hn,λi x v e1 e2 e3=>?_⟩;obtain⟨u,r,l⟩:=hl i x v e1 e2 e3;refine⟨u,r,?_⟩;rcases l with l|⟨k,c,e,z⟩
  .exact .inl l
  .exact .inr ⟨k,c,e,cellK x c e _ z⟩
 .obtain⟨v,z⟩:=I.cell x c e
  exact⟨v,cellK x c e v z⟩
 .obtain⟨m,⟨o,_,_,ho,_⟩,_⟩:=I.loc
  exact free _ o (λz=>(hch _ z).2.1 rfl) ho I.free
 .obtain⟨v,o,ho,hd⟩:=I.cell x c e
  exact free c o (λz=>(hch c z).2.2.1 x c e rfl) ho (I.freeC x c e)
 .obtain⟨e,n,ne,nf,d⟩:=I.pin p hp
  have nch:p.1∉ch:=λz=>(hch p.1 z).2.2.2 p hp rfl;exact⟨keep p.1 p.2 ne nf nch e n,free p.1 p.2 nch e n,ne,nf,d⟩
def Inv.un{t':Nat}(I:Inv X π σ H s)(u:Un X.fs [] H H' s.heap h')(hok:ip X.prog X.w H' h'):Inv X π σ H' { s with heap:=h',toks:=t' }:=by
 obtain⟨m,⟨o,es,ep,ho,r⟩,_⟩:=id I.loc;obtain⟨sl,hL⟩:=u.any ho I.free (by simp);exact I.step (g':=s.gens) (d':=s.drawn) (ch:=[]) (λ_ z=>nomatch z) (λb o _ hb _ e n=>u.keep b o e n hb (by simp)) (λb o _ hb _ e n=>u.slot b o e n hb (by simp)) (λb o _ e n=>u.free b o e n (by simp)) (λb o _ e=>u.there b o e (by simp)) u.tups u.frzs u.tbls (λm' hm=>by
  obtain⟨o',es',ep',ho',r'⟩:=hm;rw[ho]at ho';cases ho';exact⟨_,es',ep',hL,r'⟩) hok I.bare
def Inv.call{g':Array GenState}{t':Nat}{d':Drawn}{ch:List OE}(I:Inv X π σ H s)(u:Un (iS X.stack) ch H H' s.heap h')(hok:ip X.prog X.w H' h')(hg:AllBare g')
  (hch:∀b∈ch,(b∈X.ex∨X.sf.heap.objs.size<=b)/\b≠X.env.locals/\(∀x c,X.env.cells.lookup x=some c->c≠b)/\∀p∈X.pn++π,p.1≠b) :
  Inv X π σ H' { s with heap:=h',gens:=g',drawn:=d',toks:=t' }:=by
 obtain⟨m,⟨o,es,ep,ho,r⟩,_⟩:=id I.loc;obtain⟨sl,hL⟩:=u.any ho I.free λz=>(hch _ z).2.1 rfl;exact I.step (ch:=ch) hch (λb o hL hb hc e n=>u.keep b o e n (λz=>(O4.mp (I.stkSub b z)).elim hL hb) hc) (λb o _ _ hc e n=>u.any e n hc) (λb o hc e n=>u.free b o e n hc) (λb o hc e=>u.there b o e hc) u.tups u.frzs u.tbls (λm' hm=>by
  obtain⟨o',es',ep',ho',r'⟩:=hm;rw[ho]at ho';cases ho';exact⟨_,es',ep',hL,r'⟩) hok hg
def Inv.turned{t':Nat}{it:OE}(I:Inv X π σ H s)(k:∀b o,b≠it->s.heap.get? b=some o->h'.get? b=some o)(hn:H it=none)(hL:it≠X.env.locals)
  (h1:it∈X.ex∨X.sf.heap.objs.size<=it)(h2:∀x c,X.env.cells.lookup x=some c->c≠it)(h3:∀p∈X.pn++π,p.1≠it):Inv X π σ H { s with heap:=h',toks:=t' }:=by
 have nit:∀b u,H b=some u->b≠it:=λb u e z=>by rw[z,hn]at e;cases e
 refine I.step (g':=s.gens) (d':=s.drawn) (ch:=[it]) (λb hb=>?_) (λb o _ _ hc e _=>k b o (λz=>hc (by simp[z])) e) (λb o _ _ hc e _=>⟨o.slots,k b o (λz=>hc (by simp[z])) e⟩) (λ_ _ _ _ n=>n)
  (λb o hc e=>⟨o,k b o (λz=>hc (by simp[z])) e⟩) (λ_ _ e=>e) (λ_ _ _ e=>e) (λb ps e=>⟨#[],by rw[e];simp⟩) (λm hm=>?_) (λb u e=>?_) I.bare
 .have e:b=it:=by simpa using hb
  subst e;exact⟨h1,hL,h2,h3⟩
 .obtain⟨o,es,ep,ho,r⟩:=hm
  exact⟨o,es,ep,k _ o (Py hL) ho,r⟩
 .refine(I.hok b u e).stay (λc v hc q=>k c v ?_ q) (λ_ q=>q) λ_ _ q=>q
  rcases hc with z|z
  .rw[z];exact nit b u e
  .exact nit c _ z
def Inv.tok(I:Inv X π σ H s)(t:Nat):Inv X π σ H { s with toks:=t }:=I.un (h':=s.heap) (t':=t) Un.refl I.hok
def Inv.kept{t':Nat}(I:Inv X π σ H s)(k:∀b u,s.heap.get? b=some u->h'.get? b=some u):Inv X π σ H { s with heap:=h',toks:=t' }:=I.un (Un.kept k) (I.hok.kept k)
def Inv.laid{a:OE}{o:HO}{t':Nat}(I:Inv X π σ H s)(k:∀b u,s.heap.get? b=some u->h'.get? b=some u)(hp:s.heap.objs.size<=a)(new:dq X.prog X.w (upd H a o) h' a o) :
  Inv X π σ (upd H a o) { s with heap:=h',toks:=t' }:=I.un (Un.laid k hp (I.hok.fresh hp)) (I.hok.laid k hp new)
def Inv.write{x e:OE}{o:HO}{t':Nat}(I:Inv X π σ H s)(mu:KO (H x))(he:e=x∨H e=some (.own x))(k:∀b u,b≠e->s.heap.get? b=some u->h'.get? b=some u)(heo:∃u,h'.get? e=some u)
  (new:dq X.prog X.w (upd H x o) h' x o):Inv X π σ (upd H x o) { s with heap:=h',toks:=t' }:=I.un (Un.write mu he k heo) (I.hok.write mu he k heo new)
def Inv.pins_of{pins':List (OE×Obj)}(I:Inv X π σ H s)(h:∀p∈pins',s.heap.get? p.1=some p.2/\H p.1=none/\p.1≠X.env.locals/\p.1∉X.fs/\∀v,p.2.data≠.cell v):Inv X pins' σ H s :=
 ⟨I.ok,I.os,I.bare,I.base,I.loc,I.cell,I.free,I.freeC,λp hp=>(Qv.mp hp).elim (λz=>I.pin p (Rh _ z)) (h p),I.hok,I.len⟩
def qe{N:ci}(hN:N.Nodup){i j:Nat}{x:OG}(a:N[i]?=some x)(b:N[j]?=some x):i=j:=by
 obtain⟨h1,e1⟩:=OZ.mp a;obtain⟨h2,e2⟩:=OZ.mp b;exact(List.getElem_inj hN).mp (e1.trans e2.symm)
def rX{M:Model}{A:Px}{E:OB->OI->Prop}{i:Nat}{x:OG}{v:V}{u:OB}{Q:Unit->OI->Prop}(I:Inv X π σ H s)(hN:X.N.Nodup)(hi:X.N[i]?=some x)(hx:zS X.env.scope x)(r:bX v u)
  (h:∀s',Inv X π (σ.set i (some v)) H s'->(∃a,RP a s.heap s'.heap/\(a=X.env.locals∨X.env.cells.lookup x=some a))->Q () s')(hf:X.fn x=true∨X.env.scope.names.lookup x=some .local := by first|exact .inl rfl|exact .inr rfl|assumption):O7 M A (storeName X.env x u) Q E s:=by
 obtain⟨m,hn,hl⟩:=id I.loc;have hcls:(X.env.scope.kind==.class||(X.env.scope.kind==.module&&X.env.locals != X.env.globals))=false:=by rw[I.ok.kind];rfl
 have hiσ:i<σ.length:=by rw[I.len];exact(OZ.mp hi).1
 have cne:=I.cne;have tracked:∀{a:OE}{h':OY},(∃o,s.heap.get? a=some o/\H a=none)->RP a s.heap h'->ip X.prog X.w H h':=λ{a h'} ha hs b ob e=>by
  obtain⟨_,_,hfree⟩:=ha;refine(I.hok b ob e).stay (λc w' hc q=>(hs.2 c ?_).trans q) (λ_ q=>q) λ_ _ q=>q;rintro rfl;rcases hc with rfl|hc
  .rw[hfree]at e;cases e
  .rw[hfree]at hc;cases hc
 rcases hx with hk|hk
 .refine wpAny_storeName_local hk hn (λh' hn' hs=>?_) hcls
  obtain⟨oL,_,_,hoL,_⟩:=id hn;refine h _ ⟨I.ok,I.os,I.bare,⟨λb o e n hb hx=>?_,λb o e n hb hx=>?_,I.base.free,λb o e hx=>?_,I.base.tups,I.base.frzs,I.base.tbls⟩,⟨_,hn',λj y v' e1 e2 e3=>?_⟩,λy c e=>?_,I.free,I.freeC,λp hp=>?_,tracked ⟨oL,hoL,I.free⟩ hs,by simpa using I.len⟩ ⟨_,hs,.inl rfl⟩
  .exact(hs.2 b (Po (OS (O1 e) I.ok.above))).trans (I.base.keep b o e n hb hx)
  .obtain⟨sl,e1⟩:=I.base.slot b o e n hb hx
   exact⟨sl,(hs.2 b (Po (OS (O1 e) I.ok.above))).trans e1⟩
  .obtain⟨o',e1⟩:=I.base.there b o e hx
   exact⟨o',(hs.2 b (Po (OS (O1 e) I.ok.above))).trans e1⟩
  .by_cases hj:j=i
   .subst hj
    rw[hi]at e1;cases e1;rw[PH hiσ]at e2;cases e2;exact⟨u,r,.inl ⟨hk,by simp⟩⟩
   .rw[OW (Py hj)]at e2
    obtain⟨u',r',q⟩:=hl j y v' e1 e2 e3;refine⟨u',r',?_⟩;rcases q with⟨k,e⟩|⟨k,c,e,z⟩
    .refine .inl ⟨k,?_⟩
     have:y≠x:=λe=>hj (qe hN e1 (e▸hi));simp[this,e]
    .exact .inr ⟨k,c,e,z.sameBut hs (cne y c e)⟩
  .obtain⟨w',z⟩:=I.cell y c e
   exact⟨w',z.sameBut hs (cne y c e)⟩
  .obtain⟨e,n,ne,nf,d⟩:=I.pin p hp
   exact⟨(hs.2 p.1 ne).trans e,n,ne,nf,d⟩
 .have hfn:X.fn x=true:=by
   rcases hf with z|z
   .exact z
   .rw[z]at hk;cases hk
  obtain⟨c,hc⟩:=I.ok.has x (.inl hk);obtain⟨w',z⟩:=I.cell x c hc;refine wpAny_storeName_cell I.ok.kind hk hc z (λh' hc' hs=>?_);obtain⟨oc,hoc,hocd⟩:=id z;refine h { s with heap:=h' } ⟨I.ok,I.os,I.bare,⟨λb o e n hb hx=>?_,λb o e n hb hx=>?_,I.base.free,λb o e hx=>?_,I.base.tups,I.base.frzs,I.base.tbls⟩,⟨m,hn.sameBut hs (Py (cne x c hc)),λj y v' e1 e2 e3=>?_⟩,λy c' e=>?_,I.free,I.freeC,λp hp=>?_,tracked ⟨oc,hoc,I.freeC x c hc⟩ hs,by simpa using I.len⟩ ⟨c,hs,.inr hc⟩
  .exact(hs.2 b (Po (OS (O1 e) (I.ok.cab x c hfn hc)))).trans (I.base.keep b o e n hb hx)
  .obtain⟨sl,e1⟩:=I.base.slot b o e n hb hx
   exact⟨sl,(hs.2 b (Po (OS (O1 e) (I.ok.cab x c hfn hc)))).trans e1⟩
  .obtain⟨o',e1⟩:=I.base.there b o e hx
   exact⟨o',(hs.2 b (Po (OS (O1 e) (I.ok.cab x c hfn hc)))).trans e1⟩
  .by_cases hj:j=i
   .subst hj
    rw[hi]at e1;cases e1;rw[PH hiσ]at e2;cases e2;exact⟨u,r,.inr ⟨.inl hk,c,hc,hc'⟩⟩
   .rw[OW (Py hj)]at e2
    obtain⟨u',r',q⟩:=hl j y v' e1 e2 e3;refine⟨u',r',?_⟩;rcases q with q|⟨k,c',e,z'⟩
    .exact .inl q
    .refine .inr ⟨k,c',e,z'.sameBut hs ?_⟩
     rintro rfl;exact hj (qe hN e1 (I.ok.inj _ _ _ e hc▸hi))
  .by_cases hcc:c'=c
   .subst hcc;exact⟨_,hc'⟩
   .obtain⟨w2,z2⟩:=I.cell y c' e
    exact⟨w2,z2.sameBut hs hcc⟩
  .obtain⟨e,n,ne,nf,d⟩:=I.pin p hp
   refine⟨(hs.2 p.1 ?_).trans e,n,ne,nf,d⟩;intro q;rw[q,hoc]at e;have q':oc=p.2:=PY e;exact d w' (by rw[←q'];exact hocd)
def iB{M:Model}{A:Px}{E:OB->OI->Prop}{i:Nat}{x:OG}{v:V}{u:OB}{Q:Unit->OI->Prop}(I:Inv X π σ H s)(hN:X.N.Nodup)(hi:X.N[i]?=some x)(hx:zS X.env.scope x)(r:bX v u)
  (h:∀s',Inv X π (σ.set i (some v)) H s'->Q () s')(hf:X.fn x=true∨X.env.scope.names.lookup x=some .local := by first|exact .inl rfl|exact .inr rfl|assumption):O7 M A (storeName X.env x u) Q E s :=
 rX I hN hi hx r (λs' I' _=>h s' I') hf
def Inv.call'{s':OI}{ch:List OE}(I:Inv X π σ H s)(ho:s'.os=s.os)(u:Un (iS X.stack) ch H H' s.heap s'.heap)(hok:ip X.prog X.w H' s'.heap)(hg:AllBare s'.gens)
  (hch:∀b∈ch,(b∈X.ex∨X.sf.heap.objs.size<=b)/\b≠X.env.locals/\(∀x c,X.env.cells.lookup x=some c->c≠b)/\∀p∈X.pn++π,p.1≠b):Inv X π σ H' s':=by
 obtain⟨h',g',d',t',o'⟩:=s';have e:o'=s.os:=ho;subst e;exact I.call (g':=g') (t':=t') (d':=d') u hok hg hch
end
abbrev XK:=OB->Option OE->Hp->Prop
abbrev St:=List (Option V)
abbrev VK:=V->Hp->Prop
abbrev TE:=St->Hp->VK->Prop
abbrev TT:=St->Hp->(Bool->Hp->Prop)->Prop
abbrev TA:=St->Hp->(al->Hp->Prop)->Prop
structure ic where
 nx:St->Hp->Prop
 rt:VK
 bk:St->Hp->Prop:=λ_ _=>False
 ct:St->Hp->Prop:=λ_ _=>False
abbrev TS:=ic->St->Hp->Prop
def EP(X:Cx)(π:List (OE×Obj))(σ:St)(Q:VK)(u:OB)(s':OI):Prop:=∃v H',Inv X π σ H' s'/\bX v u/\Q v H'
def TP(X:Cx)(π:List (OE×Obj))(σ:St)(Q:Bool->Hp->Prop)(b:Bool)(s':OI):Prop:=∃H',Inv X π σ H' s'/\Q b H'
def AP(X:Cx)(π:List (OE×Obj))(σ:St)(Q:al->Hp->Prop)(us:List OB)(s':OI):Prop:=∃vs H',Inv X π σ H' s'/\bJ vs us/\Q vs H'
noncomputable def SP(X:Cx) (π:List (OE×Obj)) (D:ic) (f:Flow) (s':OI):Prop :=
 match f with
 |.next=>∃σ' H',Inv X π σ' H' s'/\D.nx σ' H'
 |.brk=>∃σ' H',Inv X π σ' H' s'/\D.bk σ' H'
 |.cont=>∃σ' H',Inv X π σ' H' s'/\D.ct σ' H'
 |.ret u=>∃v σ' H',Inv X π σ' H' s'/\bX v u/\D.rt v H'
def PE(X:Cx)(e:Pl)(t:TE):Prop :=
 ∀(π:List (OE×Obj)) (s:OI) (σ:St) (H:Hp) (Q:VK),Inv X π σ H s->t σ H Q->O7 (O2 X.prog X.w) X.A (eval e X.env) (EP X π σ Q) X.xe s
def PT(X:Cx)(e:Pl)(t:TT):Prop :=
 ∀(π:List (OE×Obj)) (s:OI) (σ:St) (H:Hp) (Q:Bool->Hp->Prop),Inv X π σ H s->t σ H Q->O7 (O2 X.prog X.w) X.A (isTrue e X.env (eval e X.env)) (TP X π σ Q) X.xe s
def PW(X:Cx)(e:Pl)(t:TT):Prop :=
 ∀(whole:Sem OB) (π:List (OE×Obj)) (s:OI) (σ:St) (H:Hp) (Q:Bool->Hp->Prop),Inv X π σ H s->t σ H Q->O7 (O2 X.prog X.w) X.A (isTrue e X.env whole) (TP X π σ Q) X.xe s
def PW.pt{X:Cx}{e:Pl}{t:TT}(h:PW X e t):PT X e t:=h _
def PA(X:Cx)(es:List Pl)(t:TA):Prop :=
 ∀(pos:Pos) (π:List (OE×Obj)) (s:OI) (σ:St) (H:Hp) (Q:al->Hp->Prop),Inv X π σ H s->t σ H Q->O7 (O2 X.prog X.w) X.A (spliced (PK pos (OJ es X.env))) (AP X π σ Q) X.xe s
def PS(X:Cx)(st:Qe)(t:TS):Prop :=
 ∀(π:List (OE×Obj)) (s:OI) (σ:St) (H:Hp) (D:ic),Inv X π σ H s->t D σ H->O7 (O2 X.prog X.w) X.A (exec st X.env) (SP X π D) X.xe s
def rP(X:Cx)(st:List Qe)(t:TS):Prop :=
 ∀(π:List (OE×Obj)) (s:OI) (σ:St) (H:Hp) (D:ic),Inv X π σ H s->t D σ H->O7 (O2 X.prog X.w) X.A (execs st X.env) (SP X π D) X.xe s
def dB{α:Type}{t:Sem α}{Q Q':α->OI->Prop}{M:Model}{A:Px}{E:OB->OI->Prop}{s:OI}(h:O7 M A t Q E s)(hQ:∀a s,Q a s->Q' a s):O7 M A t Q' E s:=PN h hQ λ_ _ x=>x
section
variable {X:Cx}
def La(i:Nat):TE:=λσ H Q=>∃v,σ[i]?=some (some v)/\Q v H
def tC(v:V):TE:=λ_ H Q=>Q v H
def jJ{i:Nat}{x:OG}{pos:Pos}(hN:X.N[i]?=some x)(hv:zO X.env.scope x)(hd:(x==("__debug__" : OG))=false:=by decide)(hcd:(x==("__classdict__" : OG))=false:=by decide):PE X (.Name x pos) (La i):=by
 intro π s σ H Q I h;obtain⟨v,e,h⟩:=h;obtain⟨m,hn,hl⟩:=I.loc;obtain⟨u,r,l⟩:=hl i x v hN e hv;have fin:EP X π σ Q u s:=⟨v,H,I,r,h⟩
 rcases l with⟨hk,hm⟩|⟨hk,c,hc,hcell⟩
 .exact wpAny_Name (wpAny_loadName_local I.ok.kind hk hn hm fin) hd
 .rcases hk with hk|hk
  .exact wpAny_Name (wpAny_loadName_cell I.ok.kind hk hc hcell fin) hd
  .exact wpAny_Name (wpAny_loadName_free I.ok.kind hk hc hcell fin hcd) hd
def pR{i j pos}:PE X (.Constant (.int i) j pos) (tC (.int i)):=λ_ _ _ H _ I h=>wpAny_Constant_int ⟨.int i,H,I.tok _,⟨_,rfl⟩,h⟩
def LJ{b j pos}:PE X (.Constant (.bool b) j pos) (tC (.bl b)):=λ_ _ _ H _ I h=>Constant_bool ⟨.bl b,H,I,rfl,h⟩
def xx{j pos}:PE X (.Constant .none j pos) (tC .non):=λ_ _ _ H _ I h=>Constant_none ⟨.non,H,I,rfl,h⟩
def Jk{x j pos}:PE X (.Constant (.str x) j pos) (tC (.str x)):=λ_ _ _ H _ I h=>Calls.Constant_str ⟨.str x,H,I.tok _,⟨_,rfl⟩,h⟩
def Gl(X:Cx)(x:OG):Prop:=X.env.kindOf x=some .globalImplicit
def iT{E:OB->OI->Prop}{π:List (OE×Obj)}{s:OI}{σ:St}{H:Hp}{x:OG}{u:OB}{pos:Pos}{Q:OB->OI->Prop}(I:Inv X π σ H s)(hg:Gl X x)(hm:X.mg x=some u)(h:Q u s)
  (hd:(x==("__debug__" : OG))=false:=by decide):O7 (O2 X.prog X.w) X.A (eval (.Name x pos) X.env) Q E s :=
 Ti I.ok.kind hg (Calls.loadGlobal_global (by rw[I.ok.glob];exact I.mod.glob.keeps I.bk) hm h) hd
def qh{E:OB->OI->Prop}{π:List (OE×Obj)}{s:OI}{σ:St}{H:Hp}{x:OG}{u:OB}{pos:Pos}{Q:OB->OI->Prop}(I:Inv X π σ H s)(hg:Gl X x)(hm:X.mg x=none)(hv:bootBuiltins x=some u)(h:Q u s)
  (hn:x≠"__name__":=by decide)(hd:(x==("__debug__" : OG))=false:=by decide):O7 (O2 X.prog X.w) X.A (eval (.Name x pos) X.env) Q E s:=by
 obtain⟨mb,h1,h2⟩:=I.mod.blt;exact Ti I.ok.kind hg (Calls.loadGlobal_builtin (by rw[I.ok.glob];exact I.mod.glob.keeps I.bk) hm (by rw[I.ok.blt];exact h1.keeps I.bk) ((h2 x hn).trans hv) h) hd
def yM{x:OG}{v:V}{u:OB}{pos:Pos}(hg:Gl X x)(hm:X.mg x=some u)(r:bX v u)(hd:(x==("__debug__" : OG))=false:=by decide):PE X (.Name x pos) (tC v) :=
 λ_ _ _ H _ I h=>iT I hg hm ⟨v,H,I,r,h⟩ hd
def yP{x:OG}{v:V}{u:OB}{pos:Pos}(hg:Gl X x)(hm:X.mg x=none)(hv:bootBuiltins x=some u)(r:bX v u)(hn:x≠"__name__":=by decide)(hd:(x==("__debug__" : OG))=false:=by decide):PE X (.Name x pos) (tC v) :=
 λ_ _ _ H _ I h=>qh I hg hm hv ⟨v,H,I,r,h⟩ hn hd
variable {a b:Pl}{ta tb:TE}{pos:Pos}
def CN(b:Pl){op:CmpOp}(h:op≠.In)(h2:op≠.NotIn):behindInMarks op b=false:=by
 have e1:(op==CmpOp.In)=false:=by cases op<;>first|rfl|exact absurd rfl h
 have e2:(op==CmpOp.NotIn)=false:=by cases op<;>first|rfl|exact absurd rfl h2
 cases b<;>simp[behindInMarks,e1,e2]
def tB(t:TE):TT:=λσ H Q=>t σ H λx H1=>∃c,x=.bl c/\Q c H1
def Co{e:Pl}{t:TE}(h:PE X e t)(he:∀whole,isTrue e X.env whole=(do let v ←whole;standAt e.pos;TR [v] (truthy v)):=by intro _;rfl):PT X e (tB t):=by
 intro π s σ H Q I hw;refine isTrue_plain (dB (h π s σ H _ I hw) λv s1 z9=>?_) (he _);obtain⟨x,H1,I1,r1,q1⟩:=z9;obtain⟨d,rfl,q⟩:=q1;cases r1;exact Qq ⟨H1,I1,q⟩
variable {tA tB':TT}{rest:List Pl}
def Nk(t u:TT):TT:=λσ H Q=>t σ H λc H1=>if c=true then u σ H1 Q else Q false H1
def Og(t u:TT):TT:=λσ H Q=>t σ H λc H1=>if c=true then Q true H1 else u σ H1 Q
def Nc(t:TT):TT:=λσ H Q=>t σ H λc H1=>Q (!c) H1
def Fu(ha:PT X a tA):PW X (.BoolOp .And [a] pos) tA:=by
 intro wh π s σ H Q I h;refine isTrue_and (dB (ha π s σ H Q I h) λc s1 e=>?_);cases c with|true=>exact isTrue_and_nil e|false=>exact e
def Jd(ha:PT X a tA):PW X (.BoolOp .Or [a] pos) tA:=by
 intro wh π s σ H Q I h;refine isTrue_or (dB (ha π s σ H Q I h) λc s1 e=>?_);cases c with|false=>exact isTrue_or_nil e|true=>exact e
def Je(ha:PT X a tA)(hb:PW X (.BoolOp .And (b::rest) pos) tB'):PW X (.BoolOp .And (a::b::rest) pos) (Nk tA tB'):=by
 intro wh π s σ H Q I h;refine isTrue_and (dB (ha π s σ H _ I h) λc s1 z9=>?_);obtain⟨H1,I1,q1⟩:=z9;cases c with|true=>exact hb wh π s1 σ H1 Q I1 q1|false=>exact⟨H1,I1,q1⟩
def LD(ha:PT X a tA)(hb:PW X (.BoolOp .Or (b::rest) pos) tB'):PW X (.BoolOp .Or (a::b::rest) pos) (Og tA tB'):=by
 intro wh π s σ H Q I h;refine isTrue_or (dB (ha π s σ H _ I h) λc s1 z9=>?_);obtain⟨H1,I1,q1⟩:=z9;cases c with|true=>exact⟨H1,I1,q1⟩|false=>exact hb wh π s1 σ H1 Q I1 q1
def Cp(ha:PT X a tA):PT X (.UnaryOp .Not a pos) (Nc tA):=by
 intro π s σ H Q I h;exact isTrue_not (ha π s σ H (λc H1=>Q (!c) H1) I h)
def Ll(ta tb:TE):TE:=λσ H Q=>ta σ H λx H1=>∃c,x=.bl c/\if c=true then tb σ H1 Q else Q (.bl false) H1
def Nb(ta tb:TE):TE:=λσ H Q=>ta σ H λx H1=>∃c,x=.bl c/\if c=true then Q (.bl true) H1 else tb σ H1 Q
def Ld(ta:TE):TE:=λσ H Q=>ta σ H λx H1=>∃c,x=.bl c/\Q (.bl (!c)) H1
def Cz{op}{t:TE}(h:PE X a t):PE X (.BoolOp op [a] pos) t:=λπ s σ H Q I hw=>BoolOp_one (h π s σ H Q I hw)
def CG(ha:PE X a ta)(hb:PE X (.BoolOp .And (b::rest) pos) tb):PE X (.BoolOp .And (a::b::rest) pos) (Ll ta tb):=by
 intro π s σ H Q I h;refine BoolOp_and (dB (ha π s σ H _ I h) λv s1 ⟨x,H1,I1,r1,q1⟩=>?_);obtain⟨c,rfl,q1⟩:=q1;cases r1;refine Qq ?_;cases c with|true=>exact hb π s1 σ H1 Q I1 q1|false=>exact⟨.bl false,H1,I1,rfl,q1⟩
def LI(ha:PE X a ta)(hb:PE X (.BoolOp .Or (b::rest) pos) tb):PE X (.BoolOp .Or (a::b::rest) pos) (Nb ta tb):=by
 intro π s σ H Q I h;refine BoolOp_or (dB (ha π s σ H _ I h) λv s1 ⟨x,H1,I1,r1,q1⟩=>?_);obtain⟨c,rfl,q1⟩:=q1;cases r1;refine Qq ?_;cases c with|false=>exact hb π s1 σ H1 Q I1 q1|true=>exact⟨.bl true,H1,I1,rfl,q1⟩
def Jm(ha:PE X a ta):PE X (.UnaryOp .Not a pos) (Ld ta):=by
 intro π s σ H Q I h;refine UnaryOp_ (dB (ha π s σ H _ I h) λv s1 z9=>?_);obtain⟨x,H1,I1,r1,q1⟩:=z9;obtain⟨c,rfl,q1⟩:=q1;cases r1;exact not_of (Qq ⟨.bl (!c),H1,I1,rfl,q1⟩)
def Oh(t:TT)(ta tb:TE):TE:=λσ H Q=>t σ H λc H1=>if c=true then ta σ H1 Q else tb σ H1 Q
def CB{c:Pl}(hc:PT X c tA)(ha:PE X a ta)(hb:PE X b tb):PE X (.IfExp c a b pos) (Oh tA ta tb):=by
 intro π s σ H Q I h;refine wpAny_IfExp (dB (hc π s σ H _ I h) λd s1 z9=>?_);obtain⟨H1,I1,q1⟩:=z9;cases d with|true=>exact ha π s1 σ H1 Q I1 q1|false=>exact hb π s1 σ H1 Q I1 q1
end
def gL(K:OH)(H:Hp)(a:OE)(xs:al):Prop :=
 Rd H a (.lst xs) ∨
  ∃(o:Obj) (its:Array OB) (n:Nat),K.lookup a=some o/\o.cls=.type "list"/\o.dict=none/\o.data=.seq its n/\its.size<=sizeLine/\bJ xs its.toList
def lA(K:OH)(H:Hp)(a:OE)(xs:al):Prop :=
 Rd H a (.tup xs) ∨
  ∃(o:Obj) (its:Array OB) (n:Nat),K.lookup a=some o/\o.cls=.type "tuple"/\o.data=.seq its n/\its.size<=sizeLine/\bJ xs its.toList
def NN:OB->Option V
 |.none=>some .non
 |.bool b=>some (.bl b)
 |.int i _=>some (.int i)
 |.str x _=>some (.str x)
 |.bytes b _=>some (.byt b)
 |.float b _=>some (.flt b)
 |.ref a=>some (.ref a)
 |.type n=>some (.ty n)
 |_=>none
def bX.abs{x:V}{u:OB}(r:bX x u):NN u=some x:=by
 cases x with|non|bl _=>cases r;rfl|int _|str _|byt _|flt _=>obtain⟨t,rfl⟩:=r;rfl|ref _|ty _=>cases r;rfl
def bX.inj{x y:V}{u:OB}(r:bX x u)(q:bX y u):x=y:=PY (r.abs.symm.trans q.abs)
theorem bJ.inj:∀{xs ys:al}{us:List OB},bJ xs us->bJ ys us->xs=ys
 |_,_,_,.nil,.nil=>rfl
 |_,_,_,.cons r t,.cons r' t'=>by rw[r.inj r',bJ.inj t t']
section
variable {X:Cx}{π:List (OE×Obj)}{σ:St}{H:Hp}{s:OI}{a:OE}{xs ys:al}
def gL.of{K:OH}(h:H a=some (.lst xs)):gL K H a xs:=.inl (.inl h)
def lA.of{K:OH}(h:H a=some (.tup xs)):lA K H a xs:=.inl (.inl h)
def Inv.list(I:Inv X π σ H s)(h:gL X.K H a xs):∃its:List OB,bJ xs its/\PlainL s.heap a its.toArray/\xs.length<=sizeLine:=by
 rcases h with h|⟨o,its,n,hk,hc,hd,hs,hz,r⟩
 .obtain⟨z,its,n,r,e⟩:=h.ok I.hok
  exact⟨its,r,⟨_,n,e,rfl,rfl,rfl⟩,z⟩
 .refine⟨its.toList,r,⟨o,n,I.kIn a o hk,hc,hd,by simpa using hs⟩,?_⟩
  have e:=r.length;simp only[QD]at e;omega
def Inv.tuple(I:Inv X π σ H s)(h:lA X.K H a xs):∃its:List OB,bJ xs its/\IsTup s.heap a its.toArray/\xs.length<=sizeLine:=by
 rcases h with h|⟨o,its,n,hk,hc,hs,hz,r⟩
 .obtain⟨z,its,r,p⟩:=h.ok I.hok
  exact⟨its,r,p,z⟩
 .refine⟨its.toList,r,⟨o,I.kIn a o hk,hc,n,by simpa using hs⟩,?_⟩
  have e:=r.length;simp only[QD]at e;omega
def Inv.list_inj(I:Inv X π σ H s)(h:gL X.K H a xs)(h':gL X.K H a ys):xs=ys:=by
 obtain⟨its,r,⟨o,n,e,_,_,d⟩,_⟩:=I.list h;obtain⟨its',r',⟨o',n',e',_,_,d'⟩,_⟩:=I.list h';rw[e]at e';cases e';rw[d]at d';injection d' with d1 _;have:its=its':=by simpa using congrArg Array.toList d1
 subst this;exact r.inj r'
def Inv.tuple_inj(I:Inv X π σ H s)(h:lA X.K H a xs)(h':lA X.K H a ys):xs=ys:=by
 obtain⟨its,r,⟨o,e,_,n,d⟩,_⟩:=I.tuple h;obtain⟨its',r',⟨o',e',_,n',d'⟩,_⟩:=I.tuple h';rw[e]at e';cases e';rw[d]at d';injection d' with d1 _;have:its=its':=by simpa using congrArg Array.toList d1
 subst this;exact r.inj r'
end
abbrev Cx.wish(X:Cx)(E:OB->OI->Prop):Cx:={ X with xe:=E }
abbrev Cx.nox(X:Cx):Cx:=X.wish λ_ _=>False
def Cx.Ok.wish{X:Cx}(ok:X.Ok)(E:OB->OI->Prop):(X.wish E).Ok :=
 ⟨ok.mod,ok.kind,ok.glob,ok.blt,ok.above,ok.inj,ok.has,ok.cab,ok.hd,ok.frames,ok.stk,ok.exf,ok.bs,ok.bsz,ok.noex,ok.exfs,ok.funs,ok.frf⟩
def Cx.Ok.unwish{X:Cx}{E:OB->OI->Prop}(ok:(X.wish E).Ok):X.Ok :=
 ⟨ok.mod,ok.kind,ok.glob,ok.blt,ok.above,ok.inj,ok.has,ok.cab,ok.hd,ok.frames,ok.stk,ok.exf,ok.bs,ok.bsz,ok.noex,ok.exfs,ok.funs,ok.frf⟩
section
variable {X:Cx}{π:List (OE×Obj)}{σ:St}{H:Hp}{s:OI}{E:OB->OI->Prop}
def Inv.wish(I:Inv X π σ H s)(E:OB->OI->Prop):Inv (X.wish E) π σ H s:=⟨I.ok.wish E,I.os,I.bare,I.base,I.loc,I.cell,I.free,I.freeC,I.pin,I.hok,I.len⟩
def Inv.unwish(I:Inv (X.wish E) π σ H s):Inv X π σ H s:=⟨I.ok.unwish,I.os,I.bare,I.base,I.loc,I.cell,I.free,I.freeC,I.pin,I.hok,I.len⟩
def SP.unwish{D:ic}{f:Flow}{s':OI}(h:SP (X.wish E) π D f s'):SP X π D f s':=by
 cases f with|next|brk|cont=>obtain⟨σ',H',I,q⟩:=h;exact⟨σ',H',I.unwish,q⟩|ret u=>obtain⟨v,σ',H',I,r,q⟩:=h;exact⟨v,σ',H',I.unwish,r,q⟩
def rP.nox{st:List Qe}{t:TS}(h:rP X.nox st t):rP X st t:=λπ s σ H D I hw=>
 PN (h π s σ H D (I.wish _) hw) (λ_ _ q=>q.unwish) λ_ _ z=>PQ z
end
section
variable {X:Cx}{st:Qe}{rest:List Qe}{t u:TS}{e:Pl}{te:TE}{pos:Pos}
def Lf:TS:=λD σ H=>D.nx σ H
def M7(t u:TS):TS:=λD σ H=>t { D with nx:=u D } σ H
def kU:rP X [] Lf:=λ_ _ σ H _ I h=>wpAny_execs_nil ⟨σ,H,I,h⟩
def fA(h1:PS X st t)(h2:rP X rest u):rP X (st::rest) (M7 t u):=by
 intro π s σ H D I h;refine wpAny_execs_cons (dB (h1 π s σ H { D with nx:=u D } I h) λf s1 q=>?_);cases f with
 |next=>
  obtain⟨σ',H',I',q⟩:=q;exact h2 π s1 σ' H' D I' q
 |ret v|brk|cont=>exact q
def Inv.quiet{π:List (OE×Obj)}{σ:St}{H:Hp}{s:OI}(I:Inv X π σ H s):interactive X.env=false:=by simp[interactive,I.ok.kind]
def Li(te:TE):TS:=λD σ H=>te σ H λ_ H1=>D.nx σ H1
def ue(he:PE X e te)(hs:P9 e none pos.line X.env=pure false:=by rfl):PS X (.Expr e pos) (Li te):=by
 intro π s σ H D I h;exact wpAny_Expr_any (dB (he π s σ H _ I h) λv s1 ⟨x,H1,I1,r1,q1⟩=>⟨σ,H1,I1,q1⟩) I.quiet hs
def M9(te:TE):TS:=λD σ H=>te σ H D.rt
def nh(he:PE X e te):PS X (.Return (some e) pos) (M9 te):=by
 intro π s σ H D I h;exact wpAny_Return_some (dB (he π s σ H _ I h) λv s1 ⟨x,H1,I1,r1,q1⟩=>⟨x,σ,H1,I1,r1,q1⟩)
def Nf(c:TT)(t u:TS):TS:=λD σ H=>c σ H λb H1=>if b=true then t D σ H1 else u D σ H1
def Cs{c:Pl}{a b:List Qe}{tc:TT}(hc:PT X c tc)(ha:rP X a t)(hb:rP X b u):PS X (.If c a b pos) (Nf tc t u):=by
 intro π s σ H D I h;refine wpAny_If (dB (hc π s σ H _ I h) λd s1 z9=>?_);obtain⟨H1,I1,q1⟩:=z9;cases d with|true=>exact ha π s1 σ H1 D I1 q1|false=>exact hb π s1 σ H1 D I1 q1
end
abbrev TG:=V->St->Hp->(St->Hp->Prop)->Prop
abbrev EG:=al->St->Hp->(St->Hp->Prop)->Prop
noncomputable def PG(X:Cx) (target:Pl) (t:TG):Prop :=
 ∀(π:List (OE×Obj)) (s:OI) (σ:St) (H:Hp) (v:V) (u:OB) (Q:St->Hp->Prop),Inv X π σ H s->bX v u->t v σ H Q ->
  O7 (O2 X.prog X.w) X.A (assign target X.env u) (λ_ s'=>∃σ' H',Inv X π σ' H' s'/\Q σ' H') X.xe s
noncomputable def Bq(X:Cx) (ts:List Pl) (t:EG):Prop :=
 ∀(π:List (OE×Obj)) (s:OI) (σ:St) (H:Hp) (vs:al) (us:List OB) (Q:St->Hp->Prop),Inv X π σ H s->bJ vs us->t vs σ H Q ->
  O7 (O2 X.prog X.w) X.A (assignInOrder ((assignEach ts X.env).map (·.2)) us) (λ_ s'=>∃σ' H',Inv X π σ' H' s'/\Q σ' H') X.xe s
section
variable {X:Cx}{pos:Pos}
def Dq(i:Nat):TG:=λv σ H Q=>Q (σ.set i (some v)) H
def yK{i:Nat}{x:OG}(hN:X.N.Nodup)(hi:X.N[i]?=some x)(hx:zS X.env.scope x)(hf:X.fn x=true∨X.env.scope.names.lookup x=some .local := by first|exact .inl rfl|exact .inr rfl|assumption):PG X (.Name x pos) (Dq i):=by
 intro π s σ H v u Q I r h;exact wpAny_assign_Name (iB I hN hi hx r (λs' I'=>⟨_,H,I',h⟩) hf)
def NJ:EG:=λvs σ H Q=>vs=[]/\Q σ H
def L9(t:TG)(u:EG):EG:=λvs σ H Q=>∃v r,vs=v::r/\t v σ H λσ' H'=>u r σ' H' Q
def FD:Bq X [] NJ:=by
 intro π s σ H vs us Q I r h;obtain⟨e,h⟩:=h;subst e;cases r;exact assignInOrder_nil ⟨σ,H,I,h⟩
def Cv{e:Pl}{es:List Pl}{t:TG}{u:EG}(h1:PG X e t)(h2:Bq X es u)
  (hs:(assignEach (e::es) X.env).map (·.2)=assign e X.env::(assignEach es X.env).map (·.2):=by rfl):Bq X (e::es) (L9 t u):=by
 intro π s σ H vs us Q I r h;obtain⟨v,vr,e1,h⟩:=h;subst e1;cases r with
 |cons r rr=>
  rw[hs];refine assignInOrder_cons (dB (h1 π s σ H _ _ _ I r h) λ_ s1 z9=>?_);obtain⟨σ1,H1,I1,q1⟩:=z9;exact h2 π s1 σ1 H1 _ _ Q I1 rr q1
def NI(K:OH)(n:Nat)(t:EG):TG:=λv σ H Q=>∃a xs,v=.ref a/\lA K H a xs/\xs.length=n/\t xs σ H Q
def Jj{es:List Pl}{k:Nat}{t:EG}{n:Nat}(hc:X.calm=true)(h:Bq X es t)
  (hn:(assignEach es X.env).length=n:=by rfl)(hst:(assignEach es X.env).findIdx? (·.1)=none:=by rfl):PG X (.Tuple es k pos) (NI X.K n t):=by
 intro π s σ H v u Q I r hw;obtain⟨a,xs,e1,hq,hl,hw⟩:=hw;subst e1;cases r;obtain⟨its,rv,ht,hz⟩:=I.tuple hq;refine assign_Tuple_tuple (I.ok.hd hc) ht (by simp[hn,←hl,rv.length]) hst λh' hx=>?_;have I1:Inv X π σ H { s with heap:=h' }:=I.kept (t':=s.toks) λb o e=>hx b o (Po (O1 e)) e;exact h π _ σ H xs _ Q I1 (by simpa using rv) hw
def IK(te:TE)(g:TG):TS:=λD σ H=>te σ H λx H1=>g x σ H1 D.nx
def Jh{tg e:Pl}{te:TE}{g:TG}(he:PE X e te)(hg:PG X tg g)(hs:swapsWithSole [tg] e pos.line X.env=pure false:=by rfl)(hw:swappedStores [tg] e X.env=pure none:=by rfl)
  (h1:(assignEach [tg] X.env).map (·.2)=[assign tg X.env]:=by rfl):PS X (.Assign [tg] e pos) (IK te g):=by
 intro π s σ H D I h;refine wpAny_Assign_stores (dB (he π s σ H _ I h) λv s1 z9=>?_) hs hw;obtain⟨x,H1,I1,r1,q1⟩:=z9;rw[h1];exact dB (hg π s1 σ H1 x v _ I1 r1 q1) λ_ s2 q=>q
def ud{i:Nat}{x:OG}{e:Pl}{te:TE}{pos':Pos}(hN:X.N.Nodup)(hi:X.N[i]?=some x)(hx:zS X.env.scope x)(he:PE X e te)(hs:P9 e (some (.Name x pos')) pos.line X.env=pure false:=by rfl)(hf:X.fn x=true∨X.env.scope.names.lookup x=some .local := by first|exact .inl rfl|exact .inr rfl|assumption) :
  PS X (.Assign [.Name x pos'] e pos) (IK te (Dq i)):=by
 intro π s σ H D I h;refine wpAny_Assign_Name (dB (he π s σ H _ I h) λv s1 z9=>?_) hs;obtain⟨y,H1,I1,r1,q1⟩:=z9;exact iB I1 hN hi hx r1 (λs2 I2=>⟨_,H1,I2,q1⟩) hf
def Na(i j:Nat)(ta:TA):TS:=λD σ H=>ta σ H λvs H1=>∃v w,vs=[v,w]/\D.nx ((σ.set i (some v)).set j (some w)) H1
def Jg{i j:Nat}{x y:OG}{a b:Pl}{ta:TA}{px py pt:Pos}{kt k2 pt2}(hc:X.calm=true)(hN:X.N.Nodup)(hi:X.N[i]?=some x)(hj:X.N[j]?=some y)(hij:i≠j)
  (hx:X.env.scope.names.lookup x=some .local)(hy:X.env.scope.names.lookup y=some .local)(ha:PA X [a,b] ta)
  (hw:swappedStores [.Tuple [.Name x px,.Name y py] kt pt] (.Tuple [a,b] k2 pt2) X.env=pure (some [x,y]))
  (hs:swapsWithSole [.Tuple [.Name x px,.Name y py] kt pt] (.Tuple [a,b] k2 pt2) pos.line X.env=pure false:=by rfl) :
  PS X (.Assign [.Tuple [.Name x px,.Name y py] kt pt] (.Tuple [a,b] k2 pt2) pos) (Na i j ta):=by
 intro π s σ H D I h;rw[exec_Assign_arm];refine OM (wpAny_standAt ?_);rw[hs];refine OM (Pc ?_);rw[if_neg (by decide)];refine OM (Tuple_ (dB (ha _ π s σ H _ I h) λus s1 z9=>?_));obtain⟨vs,H1,I1,r1,q1⟩:=z9;obtain⟨v,w,e1,q1⟩:=q1;subst e1;obtain⟨u1,u2,rfl,rv,rw'⟩:∃u1 u2,us=[u1,u2]/\bX v u1/\bX w u2:=by
  cases r1 with
  |cons p q=>
   cases q with
   |cons p' q'=>
    cases q';exact⟨_,_,rfl,p,p'⟩
 refine wpAny_newObj_type ?_ (by show 2<=sizeLine;decide);have I2:Inv X π σ H1 { s1 with heap:=s1.heap.push { cls:=.type "tuple",data:=.seq [u1,u2].toArray } }:=I1.kept (t':=s1.toks) λb o e=>OK _ e;rw[hw];refine OM (Pc ?_);show O7 (O2 X.prog X.w) X.A (do rule "assign.swapped-stores";let items ←unpackItems (.ref s1.heap.objs.size) 2 none;assignInOrder [λv=>bindName X.env y v,λv=>bindName X.env x v] items.reverse;pure Flow.next) _ _ _;refine OM (wpAny_rule (OM (unpackItems_tuple (items:=#[u1,u2]) (I.ok.hd hc) (TQ s1.heap _) λh' hx'=>?_)));have I3:=I2.kept (h':=h') (t':=s1.toks) λb o e=>hx' b o (Po (O1 e)) e;show O7 _ _ (assignInOrder [λv=>bindName X.env y v,λv=>bindName X.env x v] [u2,u1] >>= λ_=>pure Flow.next) _ _ _;refine OM (assignInOrder_cons (wpAny_bindName (iB I3 hN hj (.inl hy) rw' (λs2 I4=>?_) (.inr hy))));refine assignInOrder_cons (wpAny_bindName (iB I4 hN hi (.inl hx) rv (λs3 I5=>assignInOrder_nil (Pc ?_)) (.inr hx)));rw[List.set_comm _ _ (Py hij)]at I5;exact⟨_,H1,I5,q1⟩
end
section
variable {X:Cx}{pos:Pos}
def II(c:TT)(tb:TS):TS:=λD σ H=>∃W:Nat->St->Hp->Prop,(∃m,W m σ H)/\∀m σ H,W m σ H ->
 c σ H λb H1=>if b=true then ∃N:St->Hp->Prop,(∀σ' H',N σ' H'->∃m',m' < m/\W m' σ' H')/\tb { D with nx:=N,ct:=N,bk:=D.nx } σ H1 else D.nx σ H1
def Cr{c:Pl}{body:List Qe}{tc:TT}{tb:TS}(hp:PassesOwn (O2 X.prog X.w) X.A X.env X.xe)(hc:PT X c tc)(hb:rP X body tb):PS X (.While c body [] pos) (II tc tb):=by
 intro π s σ H D I h;obtain⟨W,⟨m0,w0⟩,turn⟩:=h;refine wpAny_While (codeAny_whileLoop (λn s'=>∃σ' H',Inv X π σ' H' s'/\W n σ' H') ?_ m0 ⟨σ,H,I,w0⟩);rintro n s1 ⟨σ1,H1,I1,w1⟩;refine wpAny_passesOwn hp (dB (hc π s1 σ1 H1 _ I1 (turn n σ1 H1 w1)) λb s2 z9=>?_);obtain⟨H2,I2,q2⟩:=z9;cases b with
 |true=>
  obtain⟨N,hN,q2⟩:=q2;rw[if_pos rfl];refine wpAny_passesOwn hp (dB (hb π s2 σ1 H2 _ I2 q2) λf s3 q3=>?_);cases f with
  |next=>
   obtain⟨σ3,H3,I3,n3⟩:=q3;obtain⟨m',hm,w3⟩:=hN σ3 H3 n3;exact⟨m',hm,σ3,H3,I3,w3⟩
  |cont=>
   obtain⟨σ3,H3,I3,n3⟩:=q3;obtain⟨m',hm,w3⟩:=hN σ3 H3 n3;exact⟨m',hm,σ3,H3,I3,w3⟩
  |brk|ret v=>exact q3
 |false=>
  rw[if_neg Qm];exact wpAny_execs_nil ⟨σ1,H2,I2,q2⟩
end
structure It where
 go:Nat->Hp->Prop
 yld:Nat->Hp->V->Hp->Prop
 stop:Nat->Hp->Prop
def nK(X:Cx)(π:List (OE×Obj))(H:Hp)(b:OE):Prop :=
 H b=none/\b≠X.env.locals/\b∉X.fs/\(b∈X.ex∨X.sf.heap.objs.size<=b)/\(∀x c,X.env.cells.lookup x=some c->c≠b)/\∀p∈X.pn++π,p.1≠b
def Inv.fpOk{X:Cx}{π:List (OE×Obj)}{σ:St}{H H':Hp}{s:OI}{b:OE}(I:Inv X π σ H s)(hb:s.heap.objs.size<=b)(hn:H' b=none):nK X π H' b:=by
 refine⟨hn,Nat.ne_of_gt (OS I.lt hb),I.nofs hb,.inr (O0 I.sz hb),λx c e z=>?_,λp hp z=>?_⟩
 .obtain⟨v,q⟩:=I.cell x c e
  exact absurd (OS q.lt (by rw[z];exact hb)) (Rp _)
 .exact absurd (OS (O1 (I.pin p hp).1) (by rw[z];exact hb)) (Rp _)
structure Bo (P:Pr) (w:PJ) (K:OH) (tg:Pl) (J:It) (fp:List OE) (it:OE) (tn:Nat->OY->Prop):Prop where
 mem:it∈fp
 obj:∀i h,tn i h->∀b∈fp,∃o,h.get? b=some o/\∀v,o.data≠.cell v
 keep:∀i h h',tn i h->(∀b∈fp,∀o,h.get? b=some o->h'.get? b=some o)->tn i h'
 item:∀(X:Cx),X.prog=P->X.w=w->X.K=K->X.calm=true->∀(i:Nat) (π:List (OE×Obj)) (s:OI) (σ:St) (H:Hp) (E:OB->OI->Prop),Inv X π σ H s->(∀b∈fp,nK X π H b)->tn i s.heap->J.go i H ->
  O7 (O2 P w) X.A (pyNext (.ref it)) (λr s1=>∃u,r=some u /\
   O7 (O2 P w) X.A (letOwnedTupleGo tg (.ref it) u) (λ_ s2=>∃x H',Inv X π σ H' s2/\bX x u/\J.yld i H x H'/\tn (i+1) s2.heap/\∀b∈fp,H' b=none) E s1) E s
 done:∀(X:Cx),X.prog=P->X.w=w->X.K=K->X.calm=true->∀(i:Nat) (π:List (OE×Obj)) (s:OI) (σ:St) (H:Hp) (E:OB->OI->Prop),Inv X π σ H s->(∀b∈fp,nK X π H b)->tn i s.heap->J.stop i H ->
  O7 (O2 P w) X.A (pyNext (.ref it)) (λr s1=>r=none/\Inv X π σ H s1) E s
 self:∀(A:Px) (i:Nat) (s:OI) (Q:OB->OI->Prop) (E:OB->OI->Prop),tn i s.heap->Q (.ref it) s->O7 (O2 P w) A (pyIter (.ref it)) Q E s
abbrev TI:=St->Hp->(It->Hp->Prop)->Prop
noncomputable def NQ(X:Cx) (π:List (OE×Obj)) (σ:St) (tg:Pl) (R:It->Hp->Prop) (itv:OB) (s2:OI):Prop :=
 ∃(it:OE) (fp:List OE) (tn:Nat->OY->Prop) (J:It) (H':Hp),itv=.ref it/\Inv X π σ H' s2/\Bo X.prog X.w X.K tg J fp it tn/\tn 0 s2.heap/\(∀b∈fp,nK X π H' b)/\R J H'
noncomputable def PI(X:Cx) (tg iter:Pl) (wi:TI):Prop :=
 ∀(π:List (OE×Obj)) (s:OI) (σ:St) (H:Hp) (R:It->Hp->Prop),Inv X π σ H s->wi σ H R ->
  O7 (O2 X.prog X.w) X.A (eval iter X.env) (λv s1=>O7 (O2 X.prog X.w) X.A (pyIter v) (NQ X π σ tg R) X.xe s1) X.xe s
def zj{M:Model}{A:Px}{E:OB->OI->Prop}{s:OI}{tg:Pl}{it:OE}{u:OB}{o:Obj}{n:String}{vs:Array OB}{Q:Unit->OI->Prop}(ho:s.heap.get? it=some o)(hc:o.cls=.type n)(hd:o.data=.fields vs)
  (hn:["enumerate","zip","dict_itemiterator","dict_reverseitemiterator","odict_iterator","itertools.zip_longest","itertools.pairwise"].contains n=false)(hQ:Q () s):O7 M A (letOwnedTupleGo tg (.ref it) u) Q E s:=by
 unfold letOwnedTupleGo;cases tg<;>first
  |exact Pc hQ
  |(cases u<;>first
    |exact Pc hQ
    |(refine OM (wpAny_load ho ?_);rw[hc,hd];show O7 M A (if(["enumerate","zip","dict_itemiterator","dict_reverseitemiterator","odict_iterator","itertools.zip_longest","itertools.pairwise"].contains n&&vs[0]?==some (rawInt _))=true then _ else _) Q E s;rw[if_neg (by intro h;rw[hn,OL]at h;cases h)];exact Pc hQ))
def MN(K:OH)(a:OE):It :=
 ⟨λi H=>∃xs x,gL K H a xs/\xs[i]?=some x,λi H x H'=>H'=H/\∀xs,gL K H a xs->xs[i]?=some x,λi H=>∃xs,gL K H a xs/\xs.length<=i⟩
def KA(lo:Int)(n:Nat):It:=⟨λi _=>i<n,λi H x H'=>H'=H/\x=.int (lo+i),λi _=>n<=i⟩
def z8{P:Pr}{w:PJ}{K:OH}{tg:Pl}(a it:OE):Bo P w K tg (MN K a) [it] it (λi h=>h.IsListIter it a i) where
 mem:=by simp
 obj:=λi h st b hb=>by
  have e:b=it:=by simpa using hb
  subst e;obtain⟨o,e,c,d⟩:=st;exact⟨o,e,λv z=>by rw[d]at z;cases z⟩
 keep:=λi h h' st k=>st.at λo e=>k it (by simp) o e
 item:=by
  intro X hP hw hK hc i π s σ H E I hf st hg;subst hP hw hK;obtain⟨xs,x,hq,hx⟩:=hg;obtain⟨its,rv,p,hz⟩:=I.list hq;obtain⟨u,hu,ru⟩:=rv.get hx;obtain⟨f0,f1,f2,f3,f4,f5⟩:=hf it (by simp);refine wpAny_pyNext_list_item st p.isList (x:=u) (by simpa using hu) λh' st' sb=>?_;have I1:Inv X π σ H { s with heap:=h' }:=I.turned (t':=s.toks) (λb o hb e=>(sb.2 b hb).trans e) f0 f1 f3 f4 f5;obtain⟨o,e,c,d⟩:=id st';exact⟨u,rfl,zj (s:={ s with heap:=h' }) e c d (by decide) ⟨x,H,I1,ru,⟨rfl,λys hy=>by rw[I.list_inj hy hq];exact hx⟩,st',λb hb=>(hf b hb).1⟩⟩
 done:=by
  intro X hP hw hK hc i π s σ H E I hf st hg;subst hP hw hK;obtain⟨xs,hq,hx⟩:=hg;obtain⟨its,rv,p,hz⟩:=I.list hq;obtain⟨f0,f1,f2,f3,f4,f5⟩:=hf it (by simp);have hl:=rv.length;exact wpAny_pyNext_list_end (I.ok.hd hc) st p.isList (by simp;omega) λh' eb=>⟨rfl,I.turned (t':=s.toks) (λb o hb e=>eb b o hb e) f0 f1 f3 f4 f5⟩
 self:=λ_ _ _ _ _ st h=>wpAny_pyIter_listiter st h
def wV{P:Pr}{w:PJ}{K:OH}{tg:Pl}(it:OE)(lo:Int)(n:Nat):Bo P w K tg (KA lo n) [it] it (λi h=>IsRangeIter h it (lo+(i:Nat)*1) ((n:Int)-(i:Nat)) 1) where
 mem:=by simp
 obj:=λi h st b hb=>by
  have e:b=it:=by simpa using hb
  subst e;exact⟨_,st,λv z=>by
   have z':Data.fields _=Data.cell v:=z;cases z'⟩
 keep:=λi h h' st k=>k it (by simp) _ st
 item:=by
  intro X hP hw hK hc i π s σ H E I hf st hg;subst hP hw hK;obtain⟨f0,f1,f2,f3,f4,f5⟩:=hf it (by simp);have W:=Walks.range (prog:=X.prog) (w:=X.w) (I.ok.hd hc) it lo 1 n;refine W.item i s _ _ hg st λv h' tk hv st' kk=>?_;obtain⟨t,rfl⟩:=hv;have I1:Inv X π σ H { s with heap:=h',toks:=tk }:=I.turned (λb o hb e=>kk b o (by simpa using hb) e) f0 f1 f3 f4 f5;refine⟨_,rfl,zj (s:={ s with heap:=h',toks:=tk }) (n:="range_iterator") st' rfl rfl (by decide) ⟨.int (lo+i),H,I1,⟨t,?_⟩,⟨rfl,rfl⟩,st',λb hb=>(hf b hb).1⟩⟩;rw[Int.mul_one]
 done:=by
  intro X hP hw hK hc i π s σ H E I hf st hg;subst hP hw hK;obtain⟨f0,f1,f2,f3,f4,f5⟩:=hf it (by simp);exact wpAny_pyNext_range_end (I.ok.hd hc) st (by have:n<=i:=hg;omega) λh' eb=>⟨rfl,I.turned (t':=s.toks) (λb o hb e=>eb b o hb e) f0 f1 f3 f4 f5⟩
 self:=λ_ _ _ _ _ st h=>wpAny_pyIter_rangeiter st h
section
variable {X:Cx}{tg:Pl}
def L6(K:OH)(tl:TE):TI:=λσ H R=>tl σ H λx H1=>∃a,x=.ref a/\(∃xs,gL K H1 a xs)/\R (MN K a) H1
def yJ{l:Pl}{tl:TE}(hl:PE X l tl):PI X tg l (L6 X.K tl):=by
 intro π s σ H R I h;refine dB (hl π s σ H _ I h) λv s1 ⟨x,H1,I1,r1,q1⟩=>?_;obtain⟨a,e,⟨xs,hq⟩,q⟩:=q1;subst e;cases r1;obtain⟨its,rv,p,hz⟩:=I1.list hq;refine wpAny_pyIter_list p.isList ?_;refine⟨s1.heap.objs.size,[s1.heap.objs.size],_,_,H1,rfl,I1.kept (t':=s1.toks) λb o e=>OK _ e,z8 a _,⟨_,Pu _ rfl,rfl,rfl⟩,λb hb=>?_,q⟩;have e:b=s1.heap.objs.size:=by simpa using hb
 subst e;exact I1.fpOk (O3 _) (I1.hok.fresh (O3 _))
def Cf{π:List (OE×Obj)}{σ:St}{H:Hp}{s:OI}{R:It->Hp->Prop}{E:OB->OI->Prop}{lo hi:Int}{t u v:Tok}{tk:Nat}(I:Inv X π σ H s)(h1:-(2 ^ 62)<=lo)(h2:lo<2 ^ 62)(h3:-(2 ^ 62)<=hi)(h4:hi<2 ^ 62)
  (q:R (KA lo (hi-lo).toNat) H):O7 (O2 X.prog X.w) X.A (pyIter (.ref s.heap.objs.size)) (NQ X π σ tg R) E { s with heap:=s.heap.push { cls:=.type "range",data:=.fields #[.int lo t,.int hi u,.int 1 v] },toks:=tk }:=by
 refine wpAny_pyIter_range (IsRange.new ..) (small_one h1 h2 h3 h4) ?_;have I1:Inv X π σ H { s with heap:=s.heap.push { cls:=.type "range",data:=.fields #[.int lo t,.int hi u,.int 1 v] },toks:=tk }:=I.kept λb o e=>OK _ e;refine⟨(s.heap.push { cls:=.type "range",data:=.fields #[.int lo t,.int hi u,.int 1 v] }).objs.size,[(s.heap.push { cls:=.type "range",data:=.fields #[.int lo t,.int hi u,.int 1 v] }).objs.size],_,_,H,rfl,
  I1.kept (t':=tk) λb o e=>OK _ e,wV _ lo (hi-lo).toNat,?_,λb hb=>?_,q⟩
 .have e1:lo+((0:Nat):Int)*1=lo:=by simp
  have e2:(((hi-lo).toNat:Nat):Int)-((0:Nat):Int)=Builtin.Range.rangeSize lo hi 1:=by rw[rangeSize_one];split<;>omega
  show IsRangeIter _ _ (lo+((0:Nat):Int)*1) ((((hi-lo).toNat:Nat):Int)-((0:Nat):Int)) 1;rw[e1,e2];exact Pu _ rfl
 .have e:b=(s.heap.push { cls:=.type "range",data:=.fields #[.int lo t,.int hi u,.int 1 v] }).objs.size:=by simpa using hb
  subst e;exact I1.fpOk (O3 _) (I1.hok.fresh (O3 _))
def L5(ta:TA):TI:=λσ H R=>ta σ H λvs H1=>∃j:Int,vs=[.int j]/\-(2 ^ 62)<=j/\j<2 ^ 62/\R (KA 0 j.toNat) H1
def sA{a:Pl}{ta:TA}{p pos:Pos}(hg:Gl X "range")(hm:X.mg "range"=none)(ha:PA X [a] ta)(hs:OJ [a] X.env=[(false,eval a X.env)]:=by rfl):PI X tg (.Call (.Name "range" p) [a] [] pos) (L5 ta):=by
 intro π s σ H R I h;refine Call_ (qh I hg hm boot_range (RN (dB (ha pos π s σ H _ I h) λus s1 z9=>?_) hs rfl));obtain⟨vs,H1,I1,r1,q1⟩:=z9;obtain⟨j,e,q1,q2,q⟩:=q1;subst e;cases r1 with
 |cons r rr=>
  cases rr;obtain⟨t,rfl⟩:=r;exact call_range_1 (Cf I1 (by omega) (by omega) q1 q2 (by simpa using q))
noncomputable def Nh(wi:TI) (g:TG) (tb:TS):TS:=λD σ H=>wi σ H λJ H1=>∃W:Nat->Nat->St->Hp->Prop,(∃m,W 0 m σ H1)/\∀i m σ H,W i m σ H ->
 (J.stop i H/\D.nx σ H)∨(J.go i H/\∃N:St->Hp->Prop,(∀σ' H',N σ' H'->∃m',m' < m/\W (i+1) m' σ' H')/\∀x H',J.yld i H x H'->g x σ H' λσ2 H2=>tb { D with nx:=N,ct:=N,bk:=D.nx } σ2 H2)
def pQ(fp:List OE)(h:OY):List (OE×Obj):=fp.filterMap λb=>(h.get? b).map λo=>(b,o)
def jM{fp:List OE}{h:OY}{b:OE}{o:Obj}(hb:b∈fp)(e:h.get? b=some o):(b,o)∈pQ fp h:=SI.mpr ⟨b,hb,by rw[e];rfl⟩
def AM{fp:List OE}{h:OY}{p:OE×Obj}(hp:p∈pQ fp h):p.1∈fp/\h.get? p.1=some p.2:=by
 obtain⟨b,hb,e⟩:=SI.mp hp;cases q:h.get? b with
 |none=>rw[q]at e;cases e
 |some o=>
  rw[q]at e;have e':(b,o)=p:=PY e;subst e';exact⟨hb,q⟩
def Inv.pinned{π:List (OE×Obj)}{σ:St}{H:Hp}{s:OI}{fp:List OE}(I:Inv X π σ H s)(hf:∀b∈fp,nK X π H b)(ho:∀b∈fp,∃o,s.heap.get? b=some o/\∀v,o.data≠.cell v):Inv X (π++pQ fp s.heap) σ H s :=
 I.pins_of λp hp=>(Qv.mp hp).elim (λz=>I.pin p (PX _ z)) λz=>by
  obtain⟨hb,e⟩:=AM z;obtain⟨f0,f1,f2,_⟩:=hf p.1 hb;obtain⟨o,e',d⟩:=ho p.1 hb;rw[e]at e';cases e';exact⟨e,f0,f1,f2,d⟩
def Inv.unpinned{π pl:List (OE×Obj)}{σ:St}{H:Hp}{s:OI}(I:Inv X (π++pl) σ H s):Inv X π σ H s:=I.pins_of λp hp=>I.pin p (PX _ (Rh _ hp))
def xr{iter:Pl}{body:List Qe}{wi:TI}{g:TG}{tb:TS}{pos:Pos}(hp:PassesOwn (O2 X.prog X.w) X.A X.env X.xe)(hc:X.calm=true)(hi:PI X tg iter wi)(hg:PG X tg g)(hb:rP X body tb)
  (hs:∀x,foldedSetIterable iter X.env x=pure x:=by intro _;rfl):PS X (.For tg iter body [] pos) (Nh wi g tb):=by
 intro π s σ H D I h;refine wpAny_For (dB (hi π s σ H _ I h) λv s1 h1=>dB h1 λitv s2 h2=>?_) hs;obtain⟨it,fp,tn,J,H2,e,I2,T,st2,f2,W,⟨m0,w0⟩,turn⟩:=h2;subst e;have stat:∀{H':Hp},(∀b∈fp,H' b=none)->∀b∈fp,nK X π H' b:=λhn b hb=>⟨hn b hb,(f2 b hb).2⟩
 refine codeAny_forLoop_any (λn s'=>∃i σ' H',Inv X π σ' H' s'/\tn i s'.heap/\(∀b∈fp,H' b=none)/\W i n σ' H') ?_ m0 ⟨0,σ,H2,I2,st2,λb hb=>(f2 b hb).1,w0⟩;rintro n s3 ⟨i,σ3,H3,I3,st3,fr3,w3⟩;rcases turn i n σ3 H3 w3 with⟨stop,qn⟩|⟨go,N,hN,step⟩
 .refine wpAny_passesOwn hp (dB (T.done X rfl rfl rfl hc i π s3 σ3 H3 X.xe I3 (stat fr3) st3 stop) λr s4 ⟨hr,I4⟩=>?_)
  subst hr;exact wpAny_execs_nil ⟨σ3,H3,I4,qn⟩
 .refine wpAny_passesOwn hp (dB (T.item X rfl rfl rfl hc i π s3 σ3 H3 X.xe I3 (stat fr3) st3 go) λr s4 ⟨u,hr,h4⟩=>?_)
  subst hr;refine wpAny_passesOwn hp (dB h4 λ_ s5 ⟨x,H5,I5,r5,y5,st5,fr5⟩=>?_);have I5':=I5.pinned (stat fr5) (T.obj _ _ st5);refine wpAny_passesOwn hp (dB (hg _ s5 σ3 H5 x u _ I5' r5 (step x H5 y5)) λ_ s6 ⟨σ6,H6,I6,q6⟩=>?_);refine wpAny_passesOwn hp (dB (hb _ s6 σ6 H6 _ I6 q6) λf s7 q7=>?_);have again:∀{σ7:St}{H7:Hp},Inv X (π++pQ fp s5.heap) σ7 H7 s7->N σ7 H7->∃m,m<n/\∃i σ' H',Inv X π σ' H' s7/\tn i s7.heap/\(∀b∈fp,H' b=none)/\W i m σ' H':=λ{σ7 H7} I7 n7=>by
   obtain⟨m',hm,w7⟩:=hN σ7 H7 n7;refine⟨m',hm,i+1,σ7,H7,I7.unpinned,T.keep _ _ _ st5 λb hb o e=>(I7.pin (b,o) (PX _ (PX _ (jM hb e)))).1,λb hb=>?_,w7⟩;obtain⟨o,e,d⟩:=T.obj _ _ st5 b hb;exact(I7.pin (b,o) (PX _ (PX _ (jM hb e)))).2.1
  cases f with|next|cont=>obtain⟨σ7,H7,I7,n7⟩:=q7;exact again I7 n7|brk=>obtain⟨σ7,H7,I7,q7⟩:=q7;exact⟨σ7,H7,I7.unpinned,q7⟩|ret v=>obtain⟨x7,σ7,H7,I7,r7,q7⟩:=q7;exact⟨x7,σ7,H7,I7.unpinned,r7,q7⟩
end
def Dr{K:OH}{a:OE}{xs:al}{g:TG}{tb:TS}{D:ic}{σ:St}{H:Hp}(Pv:Nat->St->Hp->Prop)(h0:Pv 0 σ H)(hl:∀i σ H,i<=xs.length->Pv i σ H->gL K H a xs)
  (hs:∀i x σ H,xs[i]?=some x->Pv i σ H->g x σ H λσ2 H2=>tb { D with nx:=Pv (i+1),ct:=Pv (i+1),bk:=D.nx } σ2 H2)(hd:∀σ H,Pv xs.length σ H->D.nx σ H) :
  ∃W:Nat->Nat->St->Hp->Prop,(∃m,W 0 m σ H)/\∀i m σ H,W i m σ H ->
   ((MN K a).stop i H/\D.nx σ H)∨((MN K a).go i H/\∃N:St->Hp->Prop,(∀σ' H',N σ' H'->∃m',m' < m/\W (i+1) m' σ' H')/\∀x H',(MN K a).yld i H x H'->g x σ H' λσ2 H2=>tb { D with nx:=N,ct:=N,bk:=D.nx } σ2 H2):=by
 refine⟨λi m σ H=>m=xs.length-i/\i<=xs.length/\Pv i σ H,⟨xs.length,by simp,RJ _,h0⟩,?_⟩;rintro i m σ H ⟨rfl,hi,p⟩;have q:=hl i σ H hi p
 by_cases hlt:i<xs.length
 .refine .inr ⟨⟨xs,xs[i],q,by simp[hlt]⟩,Pv (i+1),λσ' H' p'=>⟨xs.length-(i+1),by omega,rfl,hlt,p'⟩,λx H' y=>?_⟩
  obtain⟨e,y⟩:=y;subst e;exact hs i x σ _ (y xs q) p
 .have e:i=xs.length:=by omega
  subst e;exact .inl ⟨⟨xs,q,O3 _⟩,hd σ H p⟩
def A6{lo:Int}{n:Nat}{g:TG}{tb:TS}{D:ic}{σ:St}{H:Hp}(Pv:Nat->St->Hp->Prop)(h0:Pv 0 σ H)
  (hs:∀i σ H,i<n->Pv i σ H->g (.int (lo+i)) σ H λσ2 H2=>tb { D with nx:=Pv (i+1),ct:=Pv (i+1),bk:=D.nx } σ2 H2)(hd:∀σ H,Pv n σ H->D.nx σ H) :
  ∃W:Nat->Nat->St->Hp->Prop,(∃m,W 0 m σ H)/\∀i m σ H,W i m σ H ->
   ((KA lo n).stop i H/\D.nx σ H)∨((KA lo n).go i H/\∃N:St->Hp->Prop,(∀σ' H',N σ' H'->∃m',m' < m/\W (i+1) m' σ' H')/\∀x H',(KA lo n).yld i H x H'->g x σ H' λσ2 H2=>tb { D with nx:=N,ct:=N,bk:=D.nx } σ2 H2):=by
 refine⟨λi m σ H=>m=n-i/\i<=n/\Pv i σ H,⟨n,by simp,RJ _,h0⟩,?_⟩;rintro i m σ H ⟨rfl,hi,p⟩
 by_cases hlt:i<n
 .refine .inr ⟨hlt,Pv (i+1),λσ' H' p'=>⟨n-(i+1),by omega,rfl,hlt,p'⟩,λx H' y=>?_⟩
  obtain⟨e,y⟩:=y;subst e y;exact hs i σ _ hlt p
 .have e:i=n:=by omega
  subst e;exact .inl ⟨O3 _,hd σ H p⟩
abbrev R2:=V->V->Hp->VK->Prop
def ib(X:Cx)(f:OB->OB->Sem OB)(r:R2):Prop :=
 ∀(π:List (OE×Obj)) (s:OI) (σ:St) (H:Hp) (x y:V) (v u:OB) (Q:VK),Inv X π σ H s->bX x v->bX y u->r x y H Q ->
  O7 (O2 X.prog X.w) X.A (f v u) (EP X π σ Q) X.xe s
def MV(X:Cx)(f:OB->Sem OB)(r:V->Hp->VK->Prop):Prop :=
 ∀(π:List (OE×Obj)) (s:OI) (σ:St) (H:Hp) (x:V) (v:OB) (Q:VK),Inv X π σ H s->bX x v->r x H Q ->
  O7 (O2 X.prog X.w) X.A (f v) (EP X π σ Q) X.xe s
def jH(X:Cx)(f:OB)(r:al->Hp->VK->Prop):Prop :=
 ∀(π:List (OE×Obj)) (s:OI) (σ:St) (H:Hp) (xs:al) (us:List OB) (Q:VK),Inv X π σ H s->bJ xs us->r xs H Q ->
  O7 (O2 X.prog X.w) X.A (call f us) (EP X π σ Q) X.xe s
def Lc(r:R2)(ta tb:TE):TE:=λσ H Q=>ta σ H λx H1=>tb σ H1 λy H2=>r x y H2 Q
def Of(r:V->Hp->VK->Prop)(ta:TE):TE:=λσ H Q=>ta σ H λx H1=>r x H1 Q
def rI(C:Int->Int->Prop)(g:Int->Int->V):R2:=λx y H Q=>∃i j,x=.int i/\y=.int j/\C i j/\Q (g i j) H
def EB(g:Int->Int->V):R2:=λx y H Q=>∃i j,x=.int i/\y=.int j/\Q (g i j) H
def rU(g:Int->V):V->Hp->VK->Prop:=λx H Q=>∃i,x=.int i/\Q (g i) H
section
variable {X:Cx}{a b c:Pl}{ta tb tc:TE}{pos:Pos}
def Ks(ha:PE X a ta)(hb:PE X b tb){π:List (OE×Obj)}{s:OI}{σ:St}{H:Hp}{R:V->V->Hp->Prop}(I:Inv X π σ H s)
  (h:ta σ H λx H1=>tb σ H1 λy H2=>R x y H2){Q:OB->OI->Prop}{f:OB->OB->Sem OB}
  (hf:∀v u s2 x y H2,Inv X π σ H2 s2->bX x v->bX y u->R x y H2->O7 (O2 X.prog X.w) X.A (f v u) Q X.xe s2) :
  O7 (O2 X.prog X.w) X.A (eval a X.env) (λv sg=>O7 (O2 X.prog X.w) X.A (eval b X.env) (λu si=>O7 (O2 X.prog X.w) X.A (f v u) Q X.xe si) X.xe sg) X.xe s:=by
 refine dB (ha π s σ H _ I h) λv s1 ⟨x,H1,I1,r1,q1⟩=>?_;refine dB (hb π s1 σ H1 _ I1 q1) λu s2 ⟨y,H2,I2,r2,q2⟩=>?_;exact hf v u s2 x y H2 I2 r1 r2 q2
def HF{op:Operator}{r:R2}(ho:ib X (binaryOp op) r)(ha:PE X a ta)(hb:PE X b tb):PE X (.BinOp a op b pos) (Lc r ta tb):=by
 intro π s σ H Q I h;exact wpAny_BinOp (Ks ha hb I h λv u s2 x y H2 I2 rx ry q=>ho π s2 σ H2 x y v u Q I2 rx ry q)
def HE{op:UnaryOp}{r:V->Hp->VK->Prop}(ho:MV X (unaryOp op) r)(ha:PE X a ta):PE X (.UnaryOp op a pos) (Of r ta):=by
 intro π s σ H Q I h;exact UnaryOp_ (dB (ha π s σ H _ I h) λv s1 ⟨x,H1,I1,r1,q1⟩=>ho π s1 σ H1 x v Q I1 r1 q1)
def MS{f:OB->OB->Sem OB}{C:Int->Int->Prop}{g:Int->Int->Int}
  (rule:∀(i j:Int) (t u:Tok) (s:OI) (Q:OB->OI->Prop) (E:OB->OI->Prop),C i j->Q (.int (g i j) s.toks) { s with toks:=s.toks+1 }->O7 (O2 X.prog X.w) X.A (f (.int i t) (.int j u)) Q E s) :
  ib X f (rI C λi j=>.int (g i j)):=by
 intro π s σ H x y v u Q I rx ry h;obtain⟨i,j,rfl,rfl,hc,q⟩:=h;obtain⟨t,rfl⟩:=rx;obtain⟨t',rfl⟩:=ry;exact rule i j t t' s _ _ hc ⟨.int (g i j),H,I.tok _,⟨_,rfl⟩,q⟩
def LM{f:OB->OB->Sem OB}{g:Int->Int->Int}
  (rule:∀(i j:Int) (t u:Tok) (s:OI) (Q:OB->OI->Prop) (E:OB->OI->Prop),Q (.int (g i j) s.toks) { s with toks:=s.toks+1 }->O7 (O2 X.prog X.w) X.A (f (.int i t) (.int j u)) Q E s) :
  ib X f (EB λi j=>.int (g i j)):=by
 intro π s σ H x y v u Q I rx ry h;obtain⟨i,j,rfl,rfl,q⟩:=h;obtain⟨t,rfl⟩:=rx;obtain⟨t',rfl⟩:=ry;exact rule i j t t' s _ _ ⟨.int (g i j),H,I.tok _,⟨_,rfl⟩,q⟩
def FO{f:OB->OB->Sem OB}{g:Int->Int->Bool}
  (rule:∀(i j:Int) (t u:Tok) (s:OI) (Q:OB->OI->Prop) (E:OB->OI->Prop),Q (.bool (g i j)) s->O7 (O2 X.prog X.w) X.A (f (.int i t) (.int j u)) Q E s) :
  ib X f (EB λi j=>.bl (g i j)):=by
 intro π s σ H x y v u Q I rx ry h;obtain⟨i,j,rfl,rfl,q⟩:=h;obtain⟨t,rfl⟩:=rx;obtain⟨t',rfl⟩:=ry;exact rule i j t t' s _ _ ⟨.bl (g i j),H,I,rfl,q⟩
def NV(i j:Int):Prop:=0<=j/\j<=1000000/\i.natAbs<2 ^ 64
def Jr:ib X (binaryOp .Add) (EB λi j=>.int (i+j)):=LM λ_ _ _ _ _ _ _ q=>add_int q
def Jn:ib X (binaryOp .Sub) (EB λi j=>.int (i-j)):=LM λ_ _ _ _ _ _ _ q=>sub_int q
def FJ:ib X (binaryOp .Mod) (rI (λ_ j=>j≠0) λi j=>.int (i.fmod j)):=MS λ_ _ _ _ _ _ _ hc q=>mod_int' hc q
def Jp:ib X (binaryOp .Pow) (rI NV λi j=>.int (i ^ j.toNat)):=MS λ_ _ _ _ _ _ _ hc q=>pow_int_small hc.1 hc.2.1 hc.2.2 q
def Ob{f:OB->Sem OB}{g:Int->Int}
  (rule:∀(i:Int) (t:Tok) (s:OI) (Q:OB->OI->Prop) (E:OB->OI->Prop),Q (.int (g i) s.toks) { s with toks:=s.toks+1 }->O7 (O2 X.prog X.w) X.A (f (.int i t)) Q E s) :
  MV X f (rU λi=>.int (g i)):=by
 intro π s σ H x v Q I rx h;obtain⟨i,rfl,q⟩:=h;obtain⟨t,rfl⟩:=rx;exact rule i t s _ _ ⟨.int (g i),H,I.tok _,⟨_,rfl⟩,q⟩
def BF:MV X (unaryOp .USub) (rU λi=>.int (-i)):=Ob λ_ _ _ _ _ q=>neg_int q
end
section
variable {X:Cx}{a b c:Pl}{ta tb tc:TE}{pos:Pos}
def xW{π:List (OE×Obj)}{σ:St}{H:Hp}{s:OI}{Q:VK}{k k':Bool}(I:Inv X π σ H s)(q:Q (.bl k) H)(e:k=k'):EP X π σ Q (.bool k') s:=by
 subst e;exact⟨.bl k,H,I,rfl,q⟩
def ku:ib X (PR .Lt) (EB λi j=>.bl (decide (i<j))):=FO λ_ _ _ _ _ _ _ q=>lt_int q
def pT:ib X (PR .LtE) (EB λi j=>.bl (decide (i<=j))):=FO λ_ _ _ _ _ _ _ q=>le_int q
def nQ:ib X (PR .Gt) (EB λi j=>.bl (decide (j<i))):=FO λ_ _ _ _ _ _ _ q=>gt_int q
def CL:ib X (PR .GtE) (EB λi j=>.bl (decide (j<=i))):=FO λ_ _ _ _ _ _ _ q=>ge_int q
def AK:ib X (PR .In) (λx y H Q=>∃i j,x=.str i/\y=.str j/\Q (.bl (!(Q1 j i 0 j.length 1).isEmpty)) H):=by
 intro π s σ H x y v u Q I rx ry h;obtain⟨i,j,rfl,rfl,q⟩:=h;obtain⟨t,rfl⟩:=rx;obtain⟨t',rfl⟩:=ry;exact in_str (xW I q rfl)
def nj:ib X (PR .Is) (λx y H Q=>y=.non/\Q (.bl (decide (x=.non))) H):=by
 intro π s σ H x y v u Q I rx ry h;obtain⟨rfl,q⟩:=h;cases ry;refine is_none_gen (xW I q ?_);cases x<;>first
  |(cases rx;rfl)
  |(obtain⟨t,rfl⟩:=rx;rfl)
def yT:ib X (PR .IsNot) (λx y H Q=>y=.non/\Q (.bl (!decide (x=.non))) H):=by
 intro π s σ H x y v u Q I rx ry h;obtain⟨rfl,q⟩:=h;cases ry;refine isnot_none_gen (xW I q ?_);cases x<;>first
  |(cases rx;rfl)
  |(obtain⟨t,rfl⟩:=rx;rfl)
def ib.or{f:OB->OB->Sem OB}{r r':R2}(h:ib X f r)(h':ib X f r'):ib X f (λx y H Q=>r x y H Q∨r' x y H Q):=by
 intro π s σ H x y v u Q I rx ry q;rcases q with q|q
 .exact h π s σ H x y v u Q I rx ry q
 .exact h' π s σ H x y v u Q I rx ry q
def FG{op:CmpOp}{r:R2}(ho:ib X (PR op) r)(ha:PE X a ta)(hb:PE X b tb)(hm:behindInMarks op b=false):PE X (.Compare a [op] [b] pos) (Lc r ta tb):=by
 intro π s σ H Q I h;exact wpAny_Compare1 (Ks ha hb I h λv u s2 x y H2 I2 rx ry q=>ho π s2 σ H2 x y v u Q I2 rx ry q) hm
def Hy(t:TE):TT:=λσ H Q=>t σ H λx H'=>∃k,x=.bl k/\Q k H'
def Fv{op:CmpOp}{r:R2}(ho:ib X (PR op) r)(ha:PE X a ta)(hb:PE X b tb)(hm:behindInMarks op b=false):PT X (.Compare a [op] [b] pos) (Hy (Lc r ta tb)):=by
 intro π s σ H Q I h;refine wpAny_isTrue_Compare1 (dB (ha π s σ H _ I h) λv s1 ⟨x,H1,I1,r1,q1⟩=>dB (hb π s1 σ H1 _ I1 q1) λu s2 ⟨y,H2,I2,r2,q2⟩ =>
  dB (ho π s2 σ H2 x y v u _ I2 r1 r2 q2) λc s3 ⟨z,H3,I3,r3,k,e,q3⟩=>?_) hm
 subst e;cases r3;exact Qq ⟨H3,I3,q3⟩
def wZ(r r':R2)(ta tb tc:TE):TE:=λσ H Q=>ta σ H λx H1=>tb σ H1 λy H2=>r x y H2 λz H3=>∃k,z=.bl k /\
 (if k=true then tc σ H3 λw' H4=>r' y w' H4 Q else Q (.bl false) H3)
def CF{op op':CmpOp}{r r':R2}(ho:ib X (PR op) r)(ho':ib X (PR op') r')(ha:PE X a ta)(hb:PE X b tb)(hc:PE X c tc)
  (hm:lastMarks [op,op'] [b,c]=false:=by with_unfolding_all rfl):PE X (.Compare a [op,op'] [b,c] pos) (wZ r r' ta tb tc):=by
 intro π s σ H Q I h;refine Compare_chain (dB (ha π s σ H _ I h) λv s1 ⟨x,H1,I1,r1,q1⟩=>chain_link (dB (hb π s1 σ H1 _ I1 q1) λu s2 ⟨y,H2,I2,r2,q2⟩ =>
  dB (ho π s2 σ H2 x y v u _ I2 r1 r2 q2) λd s3 ⟨z,H3,I3,r3,k,e,q3⟩=>?_)) hm
 subst e;cases r3;refine Qq ?_;cases k with|false=>exact ite_ff ⟨.bl false,H3,I3,rfl,q3⟩|true=>exact ite_tt (chain_last (dB (hc π s3 σ H3 _ I3 q3) λw' s4 ⟨z',H4,I4,r4,q4⟩=>ho' π s4 σ H4 y z' u w' Q I4 r2 r4 q4))
def Cq{op op':CmpOp}{r r':R2}(ho:ib X (PR op) r)(ho':ib X (PR op') r')(ha:PE X a ta)(hb:PE X b tb)(hc:PE X c tc)
  (hm:lastMarks [op,op'] [b,c]=false:=by with_unfolding_all rfl):PT X (.Compare a [op,op'] [b,c] pos) (Hy (wZ r r' ta tb tc)):=by
 intro π s σ H Q I h;refine isTrue_chain (dB (ha π s σ H _ I h) λv s1 ⟨x,H1,I1,r1,q1⟩=>test_link (dB (hb π s1 σ H1 _ I1 q1) λu s2 ⟨y,H2,I2,r2,q2⟩ =>
  dB (ho π s2 σ H2 x y v u _ I2 r1 r2 q2) λd s3 ⟨z,H3,I3,r3,k,e,q3⟩=>?_)) hm
 subst e;cases r3;refine Qq ?_;cases k with
 |false=>
  obtain⟨k',e',q'⟩:=q3;cases e';exact ite_ff ⟨H3,I3,q'⟩
 |true=>
  refine ite_tt (test_last (dB (hc π s3 σ H3 _ I3 q3) λw' s4 ⟨z',H4,I4,r4,q4⟩=>dB (ho' π s4 σ H4 y z' u w' _ I4 r2 r4 q4) λd' s5 z9=>?_));obtain⟨z2,H5,I5,r5,k2,e2,q5⟩:=z9;subst e2;cases r5;exact Qq ⟨H5,I5,q5⟩
def ux:(sizeLine:Nat)<2 ^ 63:=by rw[sizeLine_eq];decide
def xC:ib X (binaryOp .Add) (λx y H Q=>∃i j,x=.str i/\y=.str j/\i.length+j.length<=sizeLine/\Q (.str (i++j)) H):=by
 intro π s σ H x y v u Q I rx ry h;obtain⟨i,j,rfl,rfl,hz,q⟩:=h;obtain⟨t,rfl⟩:=rx;obtain⟨t',rfl⟩:=ry;exact add_str (λt' tk=>⟨.str (i++j),H,I.tok _,⟨_,rfl⟩,q⟩) hz
def pq{x:V}{us:List OB}(r:bJ [x] us):∃u,us=[u]/\bX x u:=by
 cases r with|cons r1 r2=>cases r2;exact⟨_,rfl,r1⟩
def K0{x y:V}{us:List OB}(r:bJ [x,y] us):∃u w',us=[u,w']/\bX x u/\bX y w':=by
 cases r with
 |cons r1 r2=>
  cases r2 with|cons r3 r4=>cases r4;exact⟨_,_,rfl,r1,r3⟩
def qU:jH X (.builtin "abs") (λxs H Q=>∃i,xs=[.int i]/\Q (.int (if i<0 then -i else i)) H):=by
 intro π s σ H xs us Q I r h;obtain⟨i,rfl,q⟩:=h;obtain⟨u,rfl,t,rfl⟩:=pq r;exact call_abs_int λu tk=>⟨.int (if i<0 then -i else i),H,I.tok _,⟨_,rfl⟩,q⟩
def Bi(hc:X.calm=true):jH X (.builtin "max") (λxs H Q=>∃i j,xs=[.int i,.int j]/\Q (.int (if j > i then j else i)) H):=by
 intro π s σ H xs us Q I r h;obtain⟨i,j,rfl,q⟩:=h;obtain⟨u,w',rfl,⟨t,rfl⟩,⟨t',rfl⟩⟩:=K0 r;refine max_two_ints (I.ok.hd hc) λh' tk k=>⟨_,H,I.kept k,?_,q⟩
 by_cases hj:j > i
 .rw[if_pos hj,if_pos hj];exact⟨_,rfl⟩
 .rw[if_neg hj,if_neg hj];exact⟨_,rfl⟩
def sX:jH X (.type "int") (λxs H Q=>(∃i,xs=[.int i]/\Q (.int i) H)∨∃k,xs=[.bl k]/\Q (.int (if k then 1 else 0)) H):=by
 intro π s σ H xs us Q I r h;rcases h with⟨i,rfl,q⟩|⟨k,rfl,q⟩
 .obtain⟨u,rfl,t,rfl⟩:=pq r
  exact call_int_int ⟨.int i,H,I,⟨_,rfl⟩,q⟩
 .obtain⟨u,rfl,r1⟩:=pq r
  cases r1;exact call_int_bool ⟨.int (if k then 1 else 0),H,I.tok _,⟨_,rfl⟩,q⟩
def fj:jH X (.type "str") (λxs H Q=>∃i,xs=[.int i]/\i.natAbs.log2<1920/\Q (.str (toString i)) H):=by
 intro π s σ H xs us Q I r h;obtain⟨i,rfl,hz,q⟩:=h;obtain⟨u,rfl,t,rfl⟩:=pq r;exact PySem.P.str_of_int hz ⟨.str _,H,I.tok _,⟨_,rfl⟩,q⟩
def ML(K:OH)(x:V)(H:Hp)(n:Nat):Prop :=
 match x with
 |.str y=>y.length<=sizeLine/\n=y.length
 |.byt y=>y.size<=sizeLine/\n=y.size
 |.ref p=>(∃xs,gL K H p xs/\n=xs.length)∨∃xs,lA K H p xs/\n=xs.length
 |_=>False
def aQ:jH X (.builtin "len") (λxs H Q=>∃x n,xs=[x]/\ML X.K x H n/\Q (.int n) H):=by
 intro π s σ H xs us Q I r h;obtain⟨x,n,rfl,e,q⟩:=h;obtain⟨u,rfl,rx⟩:=pq r;have hl:=ux;have hs:sizeLine=16777216:=sizeLine_eq;cases x with
 |str y=>
  obtain⟨t,rfl⟩:=rx;obtain⟨hy,e'⟩:y.length<=sizeLine/\n=y.length:=e;subst e';exact len_str (by omega) ⟨.int _,H,I.tok _,⟨_,rfl⟩,q⟩
 |byt y=>
  obtain⟨t,rfl⟩:=rx;obtain⟨hy,e'⟩:y.size<=sizeLine/\n=y.size:=e;subst e';exact W.len_bytes (by omega) ⟨.int _,H,I.tok _,⟨_,rfl⟩,q⟩
 |ref p=>
  cases rx;have e':(∃xs,gL X.K H p xs/\n=xs.length)∨∃xs,lA X.K H p xs/\n=xs.length:=e;rcases e' with⟨xs,hx,e'⟩|⟨xs,hx,e'⟩
  .subst e'
   obtain⟨its,r',pl,hz⟩:=I.list hx;have hlen:=r'.length;exact Calls.call_len_list pl.isList (by simp only[Pd];omega) ⟨.int xs.length,H,I.tok _,⟨_,by simp only[Pd];rw[hlen]⟩,q⟩
  .subst e'
   obtain⟨its,r',pl,hz⟩:=I.tuple hx;have hlen:=r'.length;exact len_tuple pl (by simp only[Pd];omega) ⟨.int xs.length,H,I.tok _,⟨_,by simp only[Pd];rw[hlen]⟩,q⟩
 |_=>exact(show False from e).elim
end
structure Br (h:OY) (x dx C:OE) (mA:OG->Option OB):Prop where
 obj:h.get? x=some (RQ C dx)
 ns:h.Ns1 dx mA
 ne:dx≠x
def sF{h:OY}{dx:OE}{mA:OG->Option OB}(n:h.Ns1 dx mA):∃od,h.get? dx=some od/\∀name,Uj name od=some (mA name):=by
 obtain⟨o,es,ep,ho,hd,hk,_,hm⟩:=n;refine⟨o,ho,λname=>?_⟩;have e:=hm name;unfold nsFind findBy at e;rw[←Array.find?_toList]at e;unfold Uj;rw[hd];dsimp only;split
 .rename_i y q
  rw[q]at e;exact congrArg some e
 .rename_i q
  rw[q]at e;have a:es.toList.any (·.refKey)=false:=by
   rw[List.any_eq_false];intro y hy;obtain⟨z,t,hkey⟩:=hk y (Array.mem_toList_iff.mp hy);simp[DictEntry.refKey,hkey]
  have a':¬es.toList.any (·.refKey)=true:=by rw[a];exact Qm
  rw[if_neg a'];exact congrArg some e
def Br.look{h:OY}{x dx C:OE}{mA:OG->Option OB}(I:Br h x dx C mA):∃od,Um h x (RQ C dx) C (some od)/\∀name,Uj name od=some (mA name) :=
 let ⟨od,ho,hl⟩:=sF I.ns
 ⟨od,⟨I.obj,rfl,rfl,ho⟩,hl⟩
section
variable {prog:Pr}{w:PJ}{A:Px}{E:OB->OI->Prop}{s:OI}{K:OH}{x dx C f:OE}{mA:OG->Option OB}{name:OG}{v:OB}
def Gj{expr:Bool}{Q:OB->OI->Prop}(X:K.In s.heap)(I:Br s.heap x dx C mA)(hg:Sy K C name=true)(hh:Q2 K C=true)
  (ha:Qj K (.ref C) name=some none)(hv:mA name=some v)(hv':W.handedIn v=true)(h:Q v { s with toks:=s.toks+1 }) :
  O7 (O2 prog w) A (TU (.ref x) name expr) Q E s:=by
 obtain⟨od,J,hl⟩:=I.look;exact W.get_value X J (W.plainGet_of hg).1 (W.findObj_own hh ha rfl (by rw[hl,hv])) hv' h
def Fm{ns:ci}{Q:Unit->OI->Prop}(X:K.In s.heap)(I:Br s.heap x dx C mA)
  (hs:Qj K (.ref C) "__setattr__"=some (some (.builtin "object.__setattr__")))(hp:S6 K C=true)(ht:W.takerIn K C name=some none)(hh:Q2 K C=true)
  (hw:Rk mA ns)(hsz:ns.length<=sizeLine)
  (h:∀h',Br h' x dx C (λy=>if y=name then some v else mA y)->RP dx s.heap h'->Q () { s with heap:=h',toks:=s.toks+2 }) :
  O7 (O2 prog w) A (setAttr (.ref x) name v) Q E s:=by
 obtain⟨od,J,hl⟩:=I.look;refine W.set_plain X J hs (W.osa_open (s:={ s with toks:=s.toks+1 }) (r:=none) X J hp ht λb=>?_);obtain⟨cd,hc,hd'⟩:=W.any_some hh;have hx:s.heap.get? x=some ⟨.ref C,some dx,.plain,#[]⟩:=I.obj;refine OM (Pc (OM (OM (wpAny_loadPart hx (OM (R6.here (s:={ s with toks:=s.toks+1 }) (Tp X hc) ?_))))));rw[hd'];refine Pc (a:=some dx) (OM (Pc (OM ?_)));refine wpAny_nsSet1 (s:={ s with toks:=s.toks+1 }) I.ns λh' hn2 hs2=>?_;obtain⟨oD,esD,epD,hoD,hdD,hcD⟩:=hn2.count (Rk.cons name v hw);refine OM (wpAny_lookBehind hoD (by rw[hdD];exact pastItsLine_dict (O0 hcD (by rw[Pa];omega))) ?_);exact Pc (h _ ⟨(hs2.2 _ (Py I.ne)).trans I.obj,hn2,I.ne⟩ hs2)
def CW{R:SD->OI->Prop}{vs:List OB}{kw:List (OG×OB)}(X:K.In s.heap)(hm:W.makesIn K C=true)
  (hi:Qj K (.ref C) "__init__"=some (some (.ref f)))(hf:W.typeIn K (.ref f)=some (.type "function"))
  (h:Q9 (O2 prog w) (A.under (.builtin "type.__call__" ⟨.ref C::vs,kw⟩)) (.call (.ref f) ⟨.ref (s.heap.objs.size+1)::vs,kw⟩) (W.InitBack (s.heap.objs.size+1) R)
   { s with heap:=(s.heap.push Qu).push (RQ C s.heap.objs.size) }) :
  Q9 (O2 prog w) A (.call (.ref C) ⟨vs,kw⟩) R s:=by
 obtain⟨hh,g,d,t,os⟩:=s;exact W.make_core (W.makes_of X hm) (W.looks_findIn X hi) (λself=>W.bind_fn X self hf) (.inl rfl) h
end
def fz(f:OG)(v:V):List (OG×V)->List (OG×V)
 |[]=>[(f,v)]
 |(g,x)::r=>if g=f then(g,v)::r else(g,x)::fz f v r
theorem kC(f g:OG)(v:V):∀fs:List (OG×V),(fz f v fs).lookup g=if g=f then some v else fs.lookup g
 |[]=>by
  show Q3 g [(f,v)]=_
  by_cases h:g=f
  .have hb:(g==f)=true:=beq_iff_eq.mpr h
   simp only[Q3,hb,if_pos h]
  .have hb:(g==f)=false:=beq_eq_false_iff_ne.mpr h
   simp only[Q3,hb,if_neg h]
 |(k,x)::r=>by
  have ih:=kC f g v r;rw[show fz f v ((k,x)::r)=(if k=f then(k,v)::r else(k,x)::fz f v r) from rfl]
  by_cases hk:k=f
  .rw[if_pos hk]
   by_cases h:g=k
   .have hb:(g==k)=true:=beq_iff_eq.mpr h
    simp only[Q3,hb,if_pos (h.trans hk)]
   .have hb:(g==k)=false:=beq_eq_false_iff_ne.mpr h
    simp only[Q3,hb,if_neg (λe:g=f=>h (e.trans hk.symm))]
  .rw[if_neg hk]
   by_cases h:g=k
   .have hb:(g==k)=true:=beq_iff_eq.mpr h
    simp only[Q3,hb,if_neg (λe:g=f=>hk (h.symm.trans e))]
   .have hb:(g==k)=false:=beq_eq_false_iff_ne.mpr h
    simp only[Q3,hb];exact ih
theorem jx(f:OG)(v:V):∀fs:List (OG×V),f∈(fz f v fs).map (·.1)/\∀g,g∈fs.map (·.1)->g∈(fz f v fs).map (·.1)
 |[]=>⟨by simp[fz],λg h=>by simp at h⟩
 |(k,x)::r=>by
  obtain⟨i1,i2⟩:=jx f v r;rw[show fz f v ((k,x)::r)=(if k=f then(k,v)::r else(k,x)::fz f v r) from rfl]
  by_cases hk:k=f
  .rw[if_pos hk]
   subst hk;exact⟨by simp,λg h=>by simpa using h⟩
  .rw[if_neg hk]
   refine⟨?_,λg h=>?_⟩
   .rw[PC]
    exact OT _ i1
   .rw[PC]at h ⊢
    rcases O4.mp h with e|e
    .exact O4.mpr (.inl e)
    .exact OT _ (i2 g e)
theorem nU(f:OG)(v:V):∀fs:List (OG×V),(fz f v fs).length<=fs.length+1
 |[]=>by simp[fz]
 |(k,x)::r=>by
  have ih:=nU f v r;rw[show fz f v ((k,x)::r)=(if k=f then(k,v)::r else(k,x)::fz f v r) from rfl]
  by_cases hk:k=f
  .rw[if_pos hk,Pa,Pa];omega
  .rw[if_neg hk,Pa,Pa];omega
def mS{v:V}{o:Option OB}(r:yo (some v) o):∃u,o=some u/\bX v u:=by
 cases o with|none=>exact(show False from r).elim|some u=>exact⟨u,rfl,r⟩
def sJ{v:V}{u:OB}(r:bX v u):W.handedIn u=true:=by
 cases v with|non=>cases (show u=Qk from r);rfl|bl b=>cases (show u=Ql b from r);rfl|int i=>obtain⟨t,e⟩:=(show ∃t,u=QB i t from r);cases e;rfl|str x=>obtain⟨t,e⟩:=(show ∃t,u=Qz x t from r);cases e;rfl|byt b=>obtain⟨t,e⟩:=(show ∃t,u=Value.bytes b t from r);cases e;rfl|flt b=>obtain⟨t,e⟩:=(show ∃t,u=Uo b t from r);cases e;rfl|ref a=>cases (show u=Pq a from r);rfl|ty n=>cases (show u=Value.type n from r);rfl
section
variable {P:Pr}{w:PJ}{H H':Hp}{h h':OY}{a C dx:OE}{fs fs':List (OG×V)}
def o9(hok:ip P w H h)(e:H a=some (.ins C dx fs)):∃mA,Br h a dx C mA/\(∀f,yo (fs.lookup f) (mA f))/\Rk mA (fs.map (·.1))/\fs.length<=1000/\H dx=some (.own a):=by
 obtain⟨d,z,ne,ob,mA,n,r,q⟩:=(show dq P w H h a (.ins C dx fs) from hok a _ e)
 exact⟨mA,⟨ob,n,ne⟩,r,q,z,d⟩
end
structure Hu (K:OH) (C:OE):Prop where
 pg:Sy K C RI=true
 hd:Q2 K C=true
 po:S6 K C=true
 sa:Qj K (.ref C) "__setattr__"=some (some (.builtin "object.__setattr__"))
def Hu.get{K:OH}{C:OE}(c:Hu K C)(f:OG):Sy K C f=true:=c.pg
def eH(K:OH)(C:OE)(f:OG):Prop:=Qj K (.ref C) f=some none
def eH.taker{K:OH}{C:OE}{f:OG}(n:eH K C f):W.takerIn K C f=some none:=by
 unfold W.takerIn;rw[show Qj K (.ref C) f=some none from n];rfl
section
variable {X:Cx}{π:List (OE×Obj)}{σ:St}{H:Hp}{s:OI}{a C dx:OE}{fs:List (OG×V)}{f:OG}{v:V}{A:Px}{E:OB->OI->Prop}
def xT{b:Bool}{Q:OB->OI->Prop}(I:Inv X π σ H s)(e:H a=some (.ins C dx fs))(c:Hu X.K C)(n:eH X.K C f)(l:fs.lookup f=some v)
  (h:∀u s',Inv X π σ H s'->bX v u->Q u s'):O7 (O2 X.prog X.w) A (TU (.ref a) f b) Q E s:=by
 obtain⟨mA,O,r,_,_,_⟩:=o9 I.hok e;obtain⟨u,hu,ru⟩:=mS (v:=v) (o:=mA f) (by rw[←l];exact r f);exact Gj I.kIn O (c.get f) c.hd n hu (sJ ru) (h u _ (I.tok _) ru)
def xa{y:V}{u:OB}{Q:Unit->OI->Prop}(I:Inv X π σ H s)(e:H a=some (.ins C dx fs))(c:Hu X.K C)(n:eH X.K C f)(hl:fs.length<1000)(ry:bX y u)
  (h:∀s',Inv X π σ (upd H a (.ins C dx (fz f y fs))) s'->Q () s'):O7 (O2 X.prog X.w) A (setAttr (.ref a) f u) Q E s:=by
 obtain⟨mA,O,r,wi,_,ho⟩:=o9 I.hok e;have hz:(fs.map (·.1)).length<=sizeLine:=by rw[OD,sizeLine_eq];omega
 refine Fm I.kIn O c.sa c.po n.taker c.hd wi hz λh' O' sb=>h _ ?_;have hd:∃o,h'.get? dx=some o:=let ⟨o,_,_,e',_⟩:=O'.ns;⟨o,e'⟩;refine I.write (x:=a) (e:=dx) (by rw[e];exact Rg) (.inr ho) (λb q hb z=>(sb.2 b hb).trans z) hd ?_;refine⟨by rw[av O.ne];exact ho,?_,O.ne,O'.obj,_,O'.ns,λg=>?_,λg hg=>?_⟩
 .have:=nU f y fs;omega
 .show yo ((fz f y fs).lookup g) (if g=f then some u else mA g)
  rw[kC]
  by_cases q:g=f
  .rw[if_pos q,if_pos q];exact ry
  .rw[if_neg q,if_neg q];exact r g
 .by_cases q:g=f
  .rw[q];exact(jx f y fs).1
  .refine(jx f y fs).2 g (wi g λz=>hg ?_)
   show(if g=f then some u else mA g)=none;rw[if_neg q];exact z
def Es(I:Inv X π σ H s):Inv X π σ (upd (upd H s.heap.objs.size (.own (s.heap.objs.size+1))) (s.heap.objs.size+1) (.ins C s.heap.objs.size []))
  { s with heap:=(s.heap.push Qu).push (RQ C s.heap.objs.size) }:=by
 have e1:(s.heap.push Qu).get? s.heap.objs.size=some Qu:=Pu s.heap rfl;have e2:((s.heap.push Qu).push (RQ C s.heap.objs.size)).get? (s.heap.objs.size+1)=some (RQ C s.heap.objs.size):=by
  have:=Pu (s.heap.push Qu) (o:=RQ C s.heap.objs.size) rfl
  rwa [Tg]at this
 have e3:(s.heap.push Qu).Ns s.heap.objs.size (λ_=>none):=⟨Qu,#[],_,e1,rfl,(λe he=>absurd he (by simp)),λ_=>rfl⟩
 have I1:=I.laid (a:=s.heap.objs.size) (o:=.own (s.heap.objs.size+1)) (h':=s.heap.push Qu) (t':=s.toks) (λb u q=>OK _ q) (O3 _) ⟨_,e1⟩;refine I1.laid (a:=s.heap.objs.size+1) (o:=.ins C s.heap.objs.size []) (t':=s.toks) (λb u q=>OK _ q) (T5 (Tg _ _)) ?_;have ne:s.heap.objs.size≠s.heap.objs.size+1:=Po (QY _);refine⟨by rw[av ne,ay],RJ _,ne,e2,λ_=>none,(Heap.Ns1.of_empty e3).at λo q=>OK _ q,λ_=>Rg,λy hy=>absurd rfl hy⟩
def zM{prog:Pr}{w:PJ}{env:Env}{e:Pl}{f:OG}{pos:Pos}{s:OI}{Q:OB->OI->Prop}(hb:Qd e f env (eval e env)=eval e env)
  (h:O7 (O2 prog w) A (eval e env) (λo sg=>O7 (O2 prog w) A (TU o f true) Q E sg) E s):O7 (O2 prog w) A (eval (.Attribute e f pos) env) Q E s :=
 Attribute_any_ h (by rw[arm_eval_Attribute,hb])
end
def Ni(K:OH)(ta:TE)(f:OG):TE:=λσ H Q=>ta σ H λx H1=>∃a C dx fs v,x=.ref a/\H1 a=some (.ins C dx fs)/\Hu K C/\eH K C f/\fs.lookup f=some v/\Q v H1
def Nm(K:OH)(ta tv:TE)(f:OG):TS:=λD σ H=>tv σ H λy H1=>ta σ H1 λx H2=>∃a C dx fs,x=.ref a/\H2 a=some (.ins C dx fs)/\Hu K C/\eH K C f/\fs.length<1000 /\
 D.nx σ (upd H2 a (.ins C dx (fz f y fs)))
section
variable {X:Cx}{o e value:Pl}{f:OG}{pos pos' tpos:Pos}{ta tv:TE}
def CC(he:PE X e ta)(hb:Qd e f X.env (eval e X.env)=eval e X.env):PE X (.Attribute e f pos) (Ni X.K ta f):=by
 intro π s σ H Q I h;refine zM hb (dB (he π s σ H _ I h) λu s1 z9=>?_);obtain⟨x,H1,I1,rx,a,C,dx,fs,v,ex,ea,c,n,l,q⟩:=z9;subst ex;obtain rfl:u=Pq a:=rx;exact xT I1 ea c n l λu' s2 I2 ru=>⟨v,H1,I2,ru,q⟩
def xt(ha:PE X o ta)(hv:PE X value tv)(hs:P9 value (some (.Attribute o f pos')) pos.line X.env=pure false):PS X (.Assign [.Attribute o f pos'] value pos) (Nm X.K ta tv f):=by
 intro π s σ H D I h;refine plainObj_wpAny_Assign_Attribute (dB (hv π s σ H _ I h) λu s1 ⟨y,H1,I1,ry,q⟩=>dB (ha π s1 σ H1 _ I1 q) λov s2 z9=>?_) hs;obtain⟨x,H2,I2,rx,a,C,dx,fs,ex,ea,c,n,l,q2⟩:=z9;subst ex;obtain rfl:ov=Pq a:=rx;exact xa I2 ea c n l ry λs3 I3=>⟨σ,_,I3,q2⟩
end
section
variable {X:Cx}{π:List (OE×Obj)}{σ:St}{H:Hp}{s:OI}{A:Px}{E:OB->OI->Prop}{Q:OB->OI->Prop}{c:OB}{b:Bool}
inductive oN (K:OH) (H:Hp):V->OB->Prop where
 |non:oN K H .non (.type "NoneType")
 |bl (x:Bool):oN K H (.bl x) (.type "bool")
 |int (i:Int):oN K H (.int i) (.type "int")
 |str (x:OG):oN K H (.str x) (.type "str")
 |flt (x:UInt64):oN K H (.flt x) (.type "float")
 |lst {a:OE}{xs:al}(e:H a=some (.lst xs)):oN K H (.ref a) (.type "list")
 |frz {a:OE}{o:Obj}{xs:al}(e:H a=some (.frz o (.lst xs))):oN K H (.ref a) (.type "list")
 |tup {a:OE}{xs:al}(e:H a=some (.tup xs)):oN K H (.ref a) (.type "tuple")
 |dK {a:OE}{kvs:List (uY×V)}(e:H a=some (.dK kvs)):oN K H (.ref a) (.type "dict")
 |dT {a:OE}{kvs:List (List uY×V)}(e:H a=some (.dT kvs)):oN K H (.ref a) (.type "dict")
 |ins {a C dx:OE}{fs:List (OG×V)}(e:H a=some (.ins C dx fs)) (cl:Hu K C) (ha:Qj K (.ref C) "__class__"=some (some (.builtin "object.__class__")))
   (hn:R0 K (.builtin "object.__class__") "__get__"=some (some (.builtin "getset_descriptor.__get__"))) (htk:Tz K (.builtin "object.__class__")=some true)
   (hm:TV K C (.type "object")=some true):oN K H (.ref a) (.ref C)
def jy{x:V}{u t:OB}(I:Inv X π σ H s)(rx:bX x u)(ty:oN X.K H x t)(e:Ul X.K t c=some b)(h:∀tk,Q (.bool b) { s with toks:=tk }) :
  O7 (O2 X.prog X.w) A (call (.builtin "isinstance") [u,c]) Q E s:=by
 cases ty with
 |non=>cases (show u=Qk from rx);exact Qn W.kitx_none I.kIn Rg e (λz=>nomatch z) h|bl y=>cases (show u=Ql y from rx);exact Qn W.kitx_bool I.kIn Rg e (λz=>nomatch z) h|int i=>obtain⟨t,q⟩:=(show ∃t,u=QB i t from rx);cases q;exact Qn W.kitx_int I.kIn Rg e (λz=>nomatch z) h|str y=>obtain⟨t,q⟩:=(show ∃t,u=Qz y t from rx);cases q;exact Qn W.kitx_str I.kIn Rg e (λz=>nomatch z) h|flt y=>obtain⟨t,q⟩:=(show ∃t,u=Uo y t from rx);cases q;exact Qn W.kitx_float I.kIn Rg e (λz=>nomatch z) h
 |@lst a xs ea=>
  cases (show u=Pq a from rx);obtain⟨_,_,n,_,h1⟩:=(show dq X.prog X.w H s.heap a (.lst xs) from I.hok a _ ea)
  exact Qn Uk I.kIn ⟨_,h1,rfl⟩ e (λz=>nomatch z) h
 |@frz a ob xs ea=>
  cases (show u=Pq a from rx);obtain⟨_,_,_,n,_,h1⟩:=(show dq X.prog X.w H s.heap a (.frz ob (.lst xs)) from I.hok a _ ea)
  exact Qn Uk I.kIn ⟨_,h1,rfl⟩ e (λz=>nomatch z) h
 |@tup a xs ea=>
  cases (show u=Pq a from rx);obtain⟨_,_,_,p⟩:=(show dq X.prog X.w H s.heap a (.tup xs) from I.hok a _ ea)
  obtain⟨o,h1,h2,_⟩:=p;exact Qn W.kitx_tuple I.kIn ⟨o,h1,h2⟩ e (λz=>nomatch z) h
 |@dK a kvs ea=>
  cases (show u=Pq a from rx);obtain⟨_,_,vs,_,p⟩:=(show dq X.prog X.w H s.heap a (.dK kvs) from I.hok a _ ea)
  obtain⟨o,es,ep,h1,h2,_⟩:=p;exact Qn S7 I.kIn ⟨o,h1,h2.1⟩ e (λz=>nomatch z) h
 |@dT a kvs ea=>
  cases (show u=Pq a from rx);obtain⟨_,_,xs,_,o,es,ep,h1,h2,_⟩:=(show dq X.prog X.w H s.heap a (.dT kvs) from I.hok a _ ea)
  exact Qn S7 I.kIn ⟨o,h1,h2.1⟩ e (λz=>nomatch z) h
 |@ins a C dx fs ea cl ha hn htk hm=>
  cases (show u=Pq a from rx);obtain⟨mA,O,_⟩:=o9 I.hok ea;obtain⟨od,J,_⟩:=O.look;exact Qn (W.kitx_own (cl.get _) cl.hd ha hn htk hm) I.kIn J e (λz=>nomatch z) h
end
structure dA (k:Nat) (A:Px):Prop where
 hd:A.handled=none
 dp:A.depth+3*k+5<recursionLimit
 un:A.units+16*k+200<Sm
 gd:A.guards=some []
def dA.mono{j k:Nat}{A:Px}(r:dA k A)(h:j<=k):dA j A:=⟨r.hd,by have:=r.dp;omega,by have:=r.un;omega,r.gd⟩
def dA.deeper{k:Nat}{A:Px}(r:dA (k+1) A)(env:Env):dA k (A.deeper env) :=
 ⟨r.hd,by have:=r.dp;show A.depth+1+3*k+5<_;omega,by have:=r.un;show A.units+3+16*k+200<_;omega,r.gd⟩
def xI{A:Px}{C:OE}{us:List OB}{kw:List (OG×OB)}:(A.under (.builtin "type.__call__" ⟨.ref C::us,kw⟩)).depth=A.depth+1:=by
 first|rfl|simp[SY,Code.weight,Code.isCreation,Code.isGuard,Code.isCaller,Code.frames,Ua,guardIds]
def xH{A:Px}{C:OE}{us:List OB}{kw:List (OG×OB)}:(A.under (.builtin "type.__call__" ⟨.ref C::us,kw⟩)).units=A.units+1:=by
 first|rfl|simp[SY,Code.cUnits,Code.frames,Ua]
def dA.make{k:Nat}{A:Px}(r:dA (k+1) A)(C:OE)(us:List OB)(kw:List (OG×OB)):dA k (A.under (.builtin "type.__call__" ⟨.ref C::us,kw⟩)) :=
 ⟨r.hd,by have:=r.dp;rw[xI];omega,by have:=r.un;rw[xH];omega,by have:=r.gd;simp[SY,Code.guards,Code.isGuard,guardIds,pushGuards,this]⟩
def dA.depth{k:Nat}{A:Px}(r:dA k A):A.depth<recursionLimit:=by have:=r.dp;omega
def dA.units{k:Nat}{A:Px}(r:dA k A):A.units+64<Sm:=by have:=r.un;omega
def Le:TA:=λ_ H Q=>Q [] H
def Lj(ta:TE)(tr:TA):TA:=λσ H Q=>ta σ H λx H1=>tr σ H1 λxs H2=>Q (x::xs) H2
section
variable {X:Cx}{e:Pl}{es:List Pl}{te:TE}{t:TA}{pos:Pos}
def dR:PA X [] Le:=λ_ _ _ _ H Q I h=>Calls.spliced_nil ⟨[],H,I,.nil,h⟩
def cF(ha:PE X e te)(hr:PA X es t)(hs:OJ (e::es) X.env=(false,eval e X.env)::OJ es X.env:=by rfl):PA X (e::es) (Lj te t):=by
 intro pos π s σ H Q I h;rw[hs];show O7 _ _ (spliced ((false,eval e X.env)::PK pos (OJ es X.env))) _ _ s;refine Calls.spliced_cons (dB (ha π s σ H _ I h) λu s1 ⟨x,H1,I1,r1,q1⟩=>?_);exact dB (hr pos π s1 σ H1 _ I1 q1) λus s2 ⟨xs,H2,I2,r2,q2⟩=>⟨x::xs,H2,I2,.cons r1 r2,q2⟩
def M6(t:TA):TE:=λσ H Q=>t σ H λxs H1=>xs.length<=sizeLine/\∀p,H1 p=none->Q (.ref p) (upd H1 p (.tup xs))
def Nd(t:TA):TE:=λσ H Q=>t σ H λxs H1=>xs.length<=sizeLine/\∀p,H1 p=none->Q (.ref p) (upd H1 p (.lst xs))
def uh{x1}(h:PA X es t):PE X (.Tuple es x1 pos) (M6 t):=by
 intro π s σ H Q I hq;refine wpAny_Tuple_spliced (dB (h pos π s σ H _ I hq) λus s1 ⟨xs,H1,I1,r,z,q⟩=>⟨by rw[←r.length];exact z,?_⟩);have hf:H1 s1.heap.objs.size=none:=I1.hok.fresh (O3 _);refine⟨.ref s1.heap.objs.size,upd H1 s1.heap.objs.size (.tup xs),I1.laid (t':=s1.toks) (λb u e=>OK _ e) (O3 _) ?_,rfl,q _ hf⟩;exact⟨z,us,r,⟨_,Pu _ rfl,rfl,_,rfl⟩⟩
def kq(h:PA X es t):PE X (.List es pos) (Nd t):=by
 intro π s σ H Q I hq;refine wpAny_List_spliced (dB (h pos π s σ H _ I hq) λus s1 ⟨xs,H1,I1,r,z,q⟩=>⟨by rw[←r.length];exact z,?_⟩);have hf:H1 s1.heap.objs.size=none:=I1.hok.fresh (O3 _);refine⟨.ref s1.heap.objs.size,upd H1 s1.heap.objs.size (.lst xs),I1.laid (t':=s1.toks) (λb u e=>OK _ e) (O3 _) ?_,rfl,q _ hf⟩;exact⟨z,us,0,r,Pu _ rfl⟩
end
abbrev Sp:=al->Hp->VK->XK->Prop
abbrev tH:=List Env->Hp->OI->XK->OB->OI->Prop
structure yr (P:Pr) (w:PJ) (K:OH) (mg:OG->Option OB) (base:OY) (A:Px) (outer:List Env) (s:OI) (H:Hp):Prop where
 frames:A.frames=some outer
 mod:Mod K mg base
 bs:∀b o,base.get? b=some o->s.heap.get? b=some o/\H b=none
 bsz:base.objs.size<=s.heap.objs.size
 funs:s.heap.FunFrames base outer
 frf:∀b∈iS outer,H b=none
 hok:ip P w H s.heap
 bare:AllBare s.gens
def CE(outer:List Env)(P:Pr)(w:PJ)(H:Hp)(s:OI)(Q:VK)(u:OB)(s':OI):Prop :=
 ∃v H',s'.os=s.os/\AllBare s'.gens/\Un (iS outer) [] H H' s.heap s'.heap/\ip P w H' s'.heap/\bX v u/\Q v H'
def CR(CX:tH)(outer:List Env)(P:Pr)(w:PJ)(H:Hp)(s:OI)(Q:VK)(E:XK)(r:SD)(s':OI):Prop :=
 match r with
 |.ok (.ret u)=>CE outer P w H s Q u s'
 |.ok _=>False
 |.error e=>CX outer H s E e s'
structure gq (P:Pr) (w:PJ) (K:OH) (mg:OG->Option OB) (base:OY) (CX:tH) (k:Nat) (f:OE) (fd:Pz) (ps:ci) (sp:Sp):Prop where
 len:∀vs H Q E,sp vs H Q E->vs.length=ps.length
 run:∀(A:Px) (outer:List Env) (s:OI) (H:Hp) (args:Args) (us:List OB) (vs:al) (Q:VK) (E:XK),dA k A->yr P w K mg base A outer s H->BindsTo s fd args (ps.zip us)->bJ vs us->sp vs H Q E ->
  Q9 (O2 P w) A (.call (.ref f) args) (CR CX outer P w H s Q E) s
def gq.mono{P:Pr}{w:PJ}{K:OH}{mg:OG->Option OB}{base:OY}{CX:tH}{j k:Nat}{f:OE}{fd:Pz}{ps:ci}{sp:Sp}(F:gq P w K mg base CX j f fd ps sp)(h:j<=k) :
  gq P w K mg base CX k f fd ps sp:=⟨F.len,λA outer s H args us vs Q E hr=>F.run A outer s H args us vs Q E (hr.mono h)⟩
def yr.make{P:Pr}{w:PJ}{K:OH}{mg:OG->Option OB}{base:OY}{A:Px}{outer:List Env}{s:OI}{H:Hp}(e:yr P w K mg base A outer s H)(C:OE)(us:List OB)(kw:List (OG×OB)) :
  yr P w K mg base (A.under (.builtin "type.__call__" ⟨.ref C::us,kw⟩)) outer s H:=⟨by first|exact e.frames|(simpa[SY,Code.envs,Ua,pushEnvs] using e.frames),e.mod,e.bs,e.bsz,e.funs,e.frf,e.hok,e.bare⟩
section
variable {X:Cx}{π:List (OE×Obj)}{σ:St}{H:Hp}{s s':OI}
def Inv.env0(I:Inv X π σ H s):yr X.prog X.w X.K X.mg X.base X.A X.stack s H :=
 ⟨I.ok.frames,I.ok.mod,I.bs,O0 I.ok.bsz I.sz,I.stack,I.stkFree,I.hok,I.bare⟩
def Inv.after{Q:VK}{u:OB}(I:Inv X π σ H s)(h:CE X.stack X.prog X.w H s Q u s'):EP X π σ Q u s':=by
 obtain⟨v,H',os,bare,un,hok,r,q⟩:=h;obtain⟨hh,g,d,t,os'⟩:=s';obtain rfl:os'=s.os:=os;exact⟨v,H',I.call (h':=hh) (g':=g) (d':=d) (t':=t) (ch:=[]) un hok bare (λb z=>absurd z (by simp)),r,q⟩
end
def Lk(sp:Sp)(dvs:al)(E:XK)(t:TA):TE:=λσ H Q=>t σ H λvs H1=>sp (vs++dvs) H1 Q E
def Lg(C:OE)(sp:Sp)(dvs:al)(E:XK)(t:TA):TE:=λσ H Q=>t σ H λvs H1=>∀x dx,H1 x=none->H1 dx=none->dx≠x ->
 sp (.ref x::(vs++dvs)) (upd (upd H1 dx (.own x)) x (.ins C dx [])) (λv H2=>v=.non/\Q (.ref x) H2) E
def gk(K:OH)(fd:Pz)(ps:ci)(ds:List OB):Prop :=
 ∀(s:OI) (us:List OB),K.In s.heap->(us++ds).length=ps.length->BindsTo s fd ⟨us,[]⟩ (ps.zip (us++ds))
def gk.all{K:OH}{fd:Pz}{ps:ci}(h:∀us:List OB,us.length=ps.length->bindArgs fd ⟨us,[]⟩=pure (ps.zip us)):gk K fd ps []:=λs us _ hl=>by
 rw[QN]at hl ⊢;exact .of_eq (h us hl)
def iO(CX:tH)(X:Cx)(E:XK):Prop:=∀(π:List (OE×Obj)) (σ:St) (H:Hp) (s:OI) (e:OB) (s':OI),Inv X π σ H s->CX X.stack H s E e s'->X.xe e s'
section
variable {X:Cx}{CX:tH}{k:Nat}{f C:OE}{fd:Pz}{ps:ci}{sp:Sp}{dvs:al}{ds:List OB}{E:XK}{x m:OG}{p pos apos:Pos}{e o:Pl}{es:List Pl}{ta:TE}{t:TA}
def IZ{π:List (OE×Obj)}{σ:St}{H:Hp}{s:OI}{Q:VK}{us:List OB}{vs:al}(F:gq X.prog X.w X.K X.mg X.base CX k f fd ps sp)(hr:dA k X.A)(hb:gk X.K fd ps ds)(hd:bJ dvs ds)(hx:iO CX X E)
  (I:Inv X π σ H s)(r:bJ vs us)(h:sp (vs++dvs) H Q E):O7 (O2 X.prog X.w) X.A (call (.ref f) us) (EP X π σ Q) X.xe s:=by
 have r2:bJ (vs++dvs) (us++ds):=r.append hd;have hl:(us++ds).length=ps.length:=by rw[←r2.length];exact F.len _ _ _ _ h
 refine wpAny_call (codeAny_mono (F.run X.A X.stack s H ⟨us,[]⟩ (us++ds) (vs++dvs) Q E hr I.env0 (hb s us I.kIn hl) r2 h) λr s' hq=>?_);cases r with
 |error e=>exact hx π σ H s e s' I hq
 |ok fl=>
  cases fl with|ret u=>exact I.after hq|next|brk|cont=>exact PQ hq
def yN(F:gq X.prog X.w X.K X.mg X.base CX k f fd ps sp)(hr:dA k X.A)(hg:Gl X x)(hm:X.mg x=some (.ref f))(hk:Rc X.K (.ref f)=true)(hb:gk X.K fd ps ds)(hd:bJ dvs ds)(hx:iO CX X E)
  (ha:PA X (e::es) t)(hdb:(x==("__debug__" : OG))=false:=by decide)(he:OJ (e::es) X.env=(false,eval e X.env)::OJ es X.env:=by rfl)(hpl:(PK pos (OJ es X.env)).any (·.1)=false:=by rfl) :
  PE X (.Call (.Name x p) (e::es) [] pos) (Lk sp dvs E t):=by
 intro π s σ H Q I h;refine wpAny_Call_Name_kw (iT I hg hm ?_ hdb);refine W.callWith_K (h₀:=X.base) I.ok.mod.kin hk (dB (ha pos π s σ H _ I h) λus s1 z9=>?_) he hpl;obtain⟨vs,H1,I1,r,q⟩:=z9;refine⟨I1.kIn,?_⟩;exact IZ F hr hb hd hx I1 r q
structure Mk (K:OH) (C f:OE):Prop where
 makes:W.makesIn K C=true
 init:Qj K (.ref C) "__init__"=some (some (.ref f))
 fn:W.isFn K (.ref f)=true
 kp:Rc K (.ref C)=true
def B7{π:List (OE×Obj)}{σ:St}{H:Hp}{s:OI}{Q:VK}{us:List OB}{vs:al}(M:Mk X.K C f)(F:gq X.prog X.w X.K X.mg X.base CX k f fd ps sp)(hr:dA (k+1) X.A)(hb:gk X.K fd ps ds)(hd:bJ dvs ds)
  (hx:iO CX X E)(I:Inv X π σ H s)(r:bJ vs us)
  (h:∀x dx,H x=none->H dx=none->dx≠x->sp (.ref x::(vs++dvs)) (upd (upd H dx (.own x)) x (.ins C dx [])) (λv H2=>v=.non/\Q (.ref x) H2) E) :
  O7 (O2 X.prog X.w) X.A (call (.ref C) us) (EP X π σ Q) X.xe s:=by
 have hq:=h (s.heap.objs.size+1) s.heap.objs.size (I.hok.fresh (Nat.le_succ _)) (I.hok.fresh (O3 _)) (Po (QY _));have I2:=Es (C:=C) I;have r2:bJ (V.ref (s.heap.objs.size+1)::(vs++dvs)) (Pq (s.heap.objs.size+1)::(us++ds)):=.cons rfl (r.append hd);have hl:(Pq (s.heap.objs.size+1)::us++ds).length=ps.length:=by
  have e:=r2.length;rw[F.len _ _ _ _ hq]at e;exact e.symm
 refine wpAny_call (CW (f:=f) I.kIn M.makes M.init (beq_iff_eq.mp M.fn) (codeAny_mono (F.run _ X.stack _ _ ⟨Pq (s.heap.objs.size+1)::us,[]⟩ (Pq (s.heap.objs.size+1)::(us++ds)) _ _ E (hr.make C us [])
  (I2.env0.make C us []) (hb _ (Pq (s.heap.objs.size+1)::us) I2.kIn hl) r2 hq) λr s' hq'=>?_))
 cases r with
 |error e=>exact hx π σ _ _ e s' I2 hq'
 |ok fl=>
  cases fl with
  |ret u=>
   obtain⟨v,H',I3,rv,ev,q3⟩:=I2.after hq';subst ev;exact⟨rv,⟨V.ref (s.heap.objs.size+1),H',I3,rfl,q3⟩⟩
  |next|brk|cont=>exact PQ hq'
def CA(M:Mk X.K C f)(F:gq X.prog X.w X.K X.mg X.base CX k f fd ps sp)(hr:dA (k+1) X.A)(hg:Gl X x)(hm:X.mg x=some (.ref C))(hb:gk X.K fd ps ds)(hd:bJ dvs ds)(hx:iO CX X E)
  (hdb:(x==("__debug__" : OG))=false:=by decide):PE X (.Call (.Name x p) [] [] pos) (Lg C sp dvs E Le):=by
 intro π s σ H Q I h;refine wpAny_Call_Name_kw (iT I hg hm ?_ hdb);exact W.callWith_K0 I.kIn M.kp (B7 (us:=[]) M F hr hb hd hx I .nil h)
end
structure fH (N P:ci) (sc:RG):Prop where
 kind:sc.kind=.function
 co:sc.isCoroutine=false
 gen:sc.isGenerator=false
 nd:N.Nodup
 pre:N.take P.length=P
 par:∀x∈P,sc.names.lookup x=some .local ∨ sc.names.lookup x=some .cell
 nofree:∀y∈sc.names,y.2≠.free
theorem sZ{kindOf:OG->Option Qs}{x:OG}:∀{binds:List (OG×OB)}{m:OG->Option OB},(∀v,(x,v)∉binds)->bindL kindOf binds m x=m x
 |[],_,_=>rfl
 |(n,v)::r,m,h=>by
  unfold bindL;rw[sZ λw hw=>h w (OT _ hw)];split
  .have:x≠n:=by rintro rfl;exact h v Pe
   simp[this]
  .rfl
theorem tj{kindOf:OG->Option Qs}{x:OG}:∀{binds:List (OG×OB)}{m:OG->Option OB},(∀v,(x,v)∉binds)->bindC kindOf binds m x=m x
 |[],_,_=>rfl
 |(n,v)::r,m,h=>by
  unfold bindC;rw[tj λw hw=>h w (OT _ hw)];split
  .rfl
  .have:x≠n:=by rintro rfl;exact h v Pe
   simp[this]
theorem tf{kindOf:OG->Option Qs}{x:OG}{v:OB}:∀{P:ci}{vs:List OB}{i:Nat}{m:OG->Option OB},P.Nodup->P[i]?=some x->vs[i]?=some v->kindOf x=some .local ->
  bindL kindOf (P.zip vs) m x=some v
 |[],_,_,_,_,h,_,_=>by simp at h
 |_::_,[],_,_,_,_,h,_=>by simp at h
 |p::P,w::vs,0,m,nd,h1,h2,hk=>by
  simp at h1 h2;subst h1;subst h2;show bindL kindOf ((p,w)::P.zip vs) m p=_;unfold bindL;rw[sZ λv hv=>(QK.mp nd).1 (Ta hv).1,if_pos hk];simp
 |p::P,w::vs,i+1,m,nd,h1,h2,hk=>by
  show bindL kindOf ((p,w)::P.zip vs) m x=_;unfold bindL;exact tf (i:=i) (QK.mp nd).2 (by simpa using h1) (by simpa using h2) hk
theorem tm{kindOf:OG->Option Qs}{x:OG}{v:OB}:∀{P:ci}{vs:List OB}{i:Nat}{m:OG->Option OB},P.Nodup->P[i]?=some x->vs[i]?=some v->kindOf x≠some .local ->
  bindC kindOf (P.zip vs) m x=some v
 |[],_,_,_,_,h,_,_=>by simp at h
 |_::_,[],_,_,_,_,h,_=>by simp at h
 |p::P,w::vs,0,m,nd,h1,h2,hk=>by
  simp at h1 h2;subst h1;subst h2;show bindC kindOf ((p,w)::P.zip vs) m p=_;unfold bindC;rw[tj λv hv=>(QK.mp nd).1 (Ta hv).1,if_neg hk];simp
 |p::P,w::vs,i+1,m,nd,h1,h2,hk=>by
  show bindC kindOf ((p,w)::P.zip vs) m x=_;unfold bindC;exact tm (i:=i) (QK.mp nd).2 (by simpa using h1) (by simpa using h2) hk
def start(N:ci)(vs:al):St:=vs.map some++OV (N.length-vs.length) none
noncomputable def gh(CX:tH) (P:Pr) (w:PJ) (K:OH) (mg:OG->Option OB) (base:OY) (N:ci) (qual:OG) (scope:RG) (f:OE) (cd:OB) (A:Px) (outer:List Env) (s:OI) (H:Hp) (E:XK):Cx where
 prog:=P
 w:=w
 K:=K
 mg:=mg
 base:=base
 A:=A.deeper (envOfC qual scope s.heap.objs.size f cd)
 N:=N
 sf:=s
 Ha:=H
 env:=envOfC qual scope s.heap.objs.size f cd
 outer:=outer
 stack:=envOfC qual scope s.heap.objs.size f cd::outer
 ex:=[]
 calm:=true
 fn:=λ_=>true
 pn:=[]
 xe:=λe s'=>O7 (O2 P w) (A.deeper (envOfC qual scope s.heap.objs.size f cd)) (leaving (envOfC qual scope s.heap.objs.size f cd) e) (λ_ s''=>CX outer H s E e s'') (λe' s''=>CX outer H s E e' s'') s'
def wA{sc:RG}{n:Nat}{x:OG}(h:sc.names.lookup x=some .cell):∃c,(cellsFrom n sc.names []).lookup x=some c:=by
 have q:=W.cellsFrom_some sc.names n [] (.inl h);exact R9.mp q
def A4{CX:tH}{P:Pr}{w:PJ}{K:OH}{mg:OG->Option OB}{base:OY}{N ps:ci}{qual:OG}{scope:RG}{f:OE}{cd:OB}{A:Px}{outer:List Env}{s s1:OI}{H:Hp}{E:XK}{us:List OB}{vs:al}
  (S:fH N ps scope)(hd:A.handled=none)(e0:yr P w K mg base A outer s H)(hl:vs.length=ps.length)(r:bJ vs us)
  (x:InCallC s s.heap.objs.size (bindL (envOfC qual scope s.heap.objs.size f cd).kindOf (ps.zip us) λ_=>none) (cellsFrom (s.heap.objs.size+1) scope.names []) (bindC (envOfC qual scope s.heap.objs.size f cd).kindOf (ps.zip us) λ_=>none) s1) :
  Inv (gh CX P w K mg base N qual scope f cd A outer s H E) [] (start N vs) H s1:=by
 have hpl:ps.length<=N.length:=by have:=congrArg RK S.pre;rw[Qw]at this;omega
 obtain⟨h1,tk,rfl,hk⟩:=x.done;have noA:∀b:OE,b∉(gh CX P w K mg base N qual scope f cd A outer s H E).ex:=λb z=>absurd (show b∈([]:List OE) from z) (by simp);refine⟨⟨e0.mod,S.kind,rfl,rfl,O3 _,λy z c h1 h2=>?_,λy hy=>?_,λy c _ h=>?_,λ_=>hd,Around.frames_deeper e0.frames,.inr ⟨rfl,rfl⟩,λb z=>absurd z (noA b),e0.bs,e0.bsz,λb _ _=>noA b,λb z=>absurd z (noA b),e0.funs,e0.frf⟩,
  rfl,e0.bare,Un.kept hk,⟨_,x.toInCall.ns,λi y v h1 h2 h3=>?_⟩,λy c h=>⟨_,x.cell y c h⟩,e0.hok.fresh (O3 _),λy c h=>?_,λp hp=>absurd (show p∈([]:List (OE×Obj)) from hp) (by simp),e0.hok.kept hk,?_⟩
 .exact name_of_addr x.apart (QC h1) (QC h2)
 .have hy:scope.names.lookup y=some .cell∨scope.names.lookup y=some .free:=hy
  rcases hy with hy|hy
  .exact wA hy
  .exact absurd rfl (S.nofree _ (QC hy))
 .exact T4 (x.above y c (QC h))
 .have hi:i<vs.length:=by
   unfold start at h2
   by_cases hi:i<vs.length
   .exact hi
   .rw[Pg (by simpa using hi)]at h2
    rw[Pt]at h2;split at h2<;>cases h2
  have ha:vs[i]?=some v:=by
   unfold start at h2;rw[O8 (by simpa using hi),O5]at h2;cases e:vs[i]? with|none=>rw[e]at h2;cases h2|some a=>rw[e]at h2;cases h2;rfl
  obtain⟨u,hu,rv⟩:=r.get ha;have hp:ps[i]?=some y:=by
   rw[←S.pre,QU (by omega)];exact h1
  have ndP:ps.Nodup:=by rw[←S.pre];exact S.nd.sublist (List.take_sublist _ _)
  refine⟨u,rv,?_⟩;rcases S.par y (Pp hp) with k|k
  .exact .inl ⟨k,tf ndP hp hu k⟩
  .obtain⟨c,e⟩:=wA (n:=s.heap.objs.size+1) k
   refine .inr ⟨.inl k,c,e,?_⟩;have q:=x.cell y c e;rw[tm ndP hp hu (by show scope.names.lookup y≠_;rw[k];decide)]at q;exact q
 .exact e0.hok.fresh (T4 (x.above y c (QC h)))
 .unfold start
  show _=N.length;rw[Pm,OD,Qi];omega
def HW{CX:tH}{P:Pr}{w:PJ}{K:OH}{mg:OG->Option OB}{base:OY}{k:Nat}{f:OE}{name qual:OG}{params:Arguments}{body:List Qe}{scope:RG}{dV kV doc pm cdv ct oc:OB}{an od:Option OE}
  {osl:Array (Option OB)}{N ps:ci}{sp:Sp}(lk:K.lookup f=some ⟨oc,od,.func (Ru name qual params body scope dV kV doc pm an cdv ct),osl⟩) (hcd:Td K cdv qual=true) (S:fH N ps scope)
  (len:∀vs H Q E,sp vs H Q E->vs.length=ps.length)
  (hbody:∀(A:Px) (outer:List Env) (s:OI) (H:Hp) (vs:al) (Q:VK) (E:XK),dA k (A.deeper (envOfC qual scope s.heap.objs.size f cdv))->sp vs H Q E ->
   ∃t,rP (gh CX P w K mg base N qual scope f cdv A outer s H E) body t/\t { nx:=λ_ H'=>Q .non H',rt:=Q } (start N vs) H) :
  gq P w K mg base CX (k+1) f (Ru name qual params body scope dV kV doc pm an cdv ct) ps sp:=by
 refine⟨len,λA outer s H args us vs Q E hr e0 hb r hsp=>?_⟩;have hl:=len _ _ _ _ hsp;have KX:K.In s.heap:=e0.mod.kin.keeps λb o e=>(e0.bs b o e).1;have lim:s.heap.NoLimit:=e0.mod.nolimit.keeps λb o e=>(e0.bs b o e).1;have hkind:∀y∈ps.zip us,scope.names.lookup y.1=some .local ∨ (scope.names.lookup y.1=some .cell/\((cellsFrom (s.heap.objs.size+1) scope.names []).lookup y.1).isSome=true):=λ⟨n,v⟩ hy=>by
  rcases S.par n (Ta hy).1 with q|q
  .exact .inl q
  .exact .inr ⟨q,W.cellsFrom_some _ _ _ (.inl q)⟩
 refine codeAny_call_function hr.depth (KX _ _ lk) rfl S.co S.gen rfl (W.codeRec_of KX hcd) (hb _ _ _ _ ?_);refine wpAny_newFunctionEnv_cells S.kind hkind λenv he s1 x=>?_;subst he;refine⟨lim.keeps x.toInCall.keep,codeAny_func ?_⟩;obtain⟨t,ht,hq⟩:=hbody A outer s H vs Q E (hr.deeper _) hsp;have I:Inv (gh CX P w K mg base N qual scope f cdv A outer s H E) [] (start N vs) H s1:=A4 S hr.hd e0 hl r x;refine PN (ht [] s1 (start N vs) H _ I hq) (λfl s' hs=>?_) λe s' hs=>hs;have fin:∀{σ':St}{H':Hp}{v:V}{u:OB},Inv (gh CX P w K mg base N qual scope f cdv A outer s H E) [] σ' H' s'->bX v u->Q v H'->CE outer P w H s Q u s' :=
  λ{σ' H' v u} J rv q=>⟨v,H',J.os,J.bare,J.base,J.hok,rv,q⟩
 cases fl with
 |ret u=>
  obtain⟨v,σ',H',J,rv,q⟩:=hs;exact fin J rv q
 |next=>
  obtain⟨σ',H',J,q⟩:=hs;exact fin (v:=V.non) (u:=Qk) J rfl q
 |brk=>
  obtain⟨_,_,_,q⟩:=hs;exact PQ q
 |cont=>
  obtain⟨_,_,_,q⟩:=hs;exact PQ q
section
variable {X:Cx}{x:OG}{p pos:Pos}{e:Pl}{es:List Pl}{t:TA}{id T:String}{r:al->Hp->VK->Prop}
def NZ(r:al->Hp->VK->Prop)(t:TA):TE:=λσ H Q=>t σ H λvs H1=>r vs H1 Q
def pS(hc:jH X (.builtin id) r)(hg:Gl X x)(hm:X.mg x=none)(hv:bootBuiltins x=some (.builtin id))(ha:PA X (e::es) t)(hn:x≠"__name__":=by decide)(hdb:(x==("__debug__" : OG))=false:=by decide)
  (he:OJ (e::es) X.env=(false,eval e X.env)::OJ es X.env:=by rfl)(hpl:(PK pos (OJ es X.env)).any (·.1)=false:=by rfl):PE X (.Call (.Name x p) (e::es) [] pos) (NZ r t):=by
 intro π s σ H Q I h;refine wpAny_Call_Name_kw (qh I hg hm hv ?_ hn hdb);exact PyProof.Rows.callWith_builtin1 (dB (ha pos π s σ H _ I h) λus s1 ⟨vs,H1,I1,r1,q1⟩=>hc π s1 σ H1 vs us Q I1 r1 q1) he hpl
def AH(hc:jH X (.type T) r)(hg:Gl X x)(hm:X.mg x=none)(hv:bootBuiltins x=some (.type T))(ha:PA X (e::es) t)(hn:x≠"__name__":=by decide)(hdb:(x==("__debug__" : OG))=false:=by decide)
  (he:OJ (e::es) X.env=(false,eval e X.env)::OJ es X.env:=by rfl)(hpl:(PK pos (OJ es X.env)).any (·.1)=false:=by rfl):PE X (.Call (.Name x p) (e::es) [] pos) (NZ r t):=by
 intro π s σ H Q I h;refine wpAny_Call_Name_kw (qh I hg hm hv ?_ hn hdb);exact RN (dB (ha pos π s σ H _ I h) λus s1 ⟨vs,H1,I1,r1,q1⟩=>hc π s1 σ H1 vs us Q I1 r1 q1) he hpl
end
end L2
namespace HT
open PySem PyProof.Rows
section
variable {prog:Pr}{w:PJ}{A:Px}{E:OB->OI->Prop}{s:OI}
def cat_tup{t b:OE}{vs ws:List OB}{Q:OB->OI->Prop}(ht:IsTup s.heap t vs.toArray)(hb:IsTup s.heap b ws.toArray)(hv:vs≠[])
  (h1:ws=[]->Q (.ref t) s)(h2:ws≠[]->Q (.ref s.heap.objs.size) { s with heap:=s.heap.push { cls:=.type "tuple",data:=.seq (vs++ws).toArray } })
  (hsz:vs.length+ws.length<=sizeLine):O7 (O2 prog w) A (binaryOp .Add (.ref t) (.ref b)) Q E s:=by
 obtain⟨⟨cls,dd,data,sl⟩,ho,hc,n,hd⟩:=id ht;obtain⟨⟨cls2,dd2,data2,sl2⟩,ho2,hc2,n2,hd2⟩:=id hb;simp only at hc hd hc2 hd2;subst hc hd hc2 hd2;have e:vs.toArray++ws.toArray=(vs++ws).toArray:=by simp
 by_cases hw:ws=[]
 .exact concat_meets ⟨_,ho,rfl⟩ ⟨_,ho2,rfl⟩ noFill_tuple_add seq_tuple_add T1 TJ (Tt _ _)
   (tuple_addW1 t b vs.toArray ws.toArray n n2 dd dd2 sl sl2 (by simpa using hv) (by simp[hw])) ⟨ho,ho2,h1 hw⟩
 .refine concat_meets ⟨_,ho,rfl⟩ ⟨_,ho2,rfl⟩ noFill_tuple_add seq_tuple_add T1 TJ (Tt _ _)
   (tuple_addW2 t b vs.toArray ws.toArray n n2 dd dd2 sl sl2 (by simpa using hv) (by simpa using hw) (by rw[Pd,Pd];exact hsz)) ⟨ho,ho2,?_⟩
  rw[e];exact h2 hw
def sIx(n d:Nat):Option Int->Nat
 |none=>d
 |some v=>if v<0 then(v+(n:Int)).toNat else min v.toNat n
def sIx_nat(n d k:Nat):sIx n d (some (k:Int))=min k n:=by
 show(if(k:Int)<0 then((k:Int)+(n:Int)).toNat else min (k:Int).toNat n)=min k n;rw[if_neg (by omega),QR]
def IW(n d:Nat)(hd:d<=n)(o:Option Int):sIx n d o<=n:=by
 cases o with
 |none=>exact hd
 |some v=>
  show(if v<0 then(v+(n:Int)).toNat else min v.toNat n)<=n
  by_cases hv:v<0
  .rw[if_pos hv];omega
  .rw[if_neg hv];exact Nat.min_le_right _ _
def zJ(v:Int)(n d:Nat):(if v<0 then max (v+(n:Int)) 0 else min v (n:Int))=((sIx n d (some v):Nat):Int):=by
 show(if v<0 then max (v+(n:Int)) 0 else min v (n:Int))=(((if v<0 then(v+(n:Int)).toNat else min v.toNat n):Nat):Int)
 by_cases hv:v<0
 .simp only[if_pos hv];omega
 .simp only[if_neg hv];omega
def yn(lo hi:Option Int)(n:Nat):RZ lo hi 1 (n:Int)=(((sIx n 0 lo:Nat):Int),((sIx n n hi:Nat):Int)):=by
 have h1:¬((1:Int)<0):=by omega
 unfold RZ;simp only[h1,if_false];refine Prod.ext ?_ ?_
 .cases lo with
  |none=>rfl
  |some v=>exact zJ v n 0
 .cases hi with
  |none=>rfl
  |some v=>exact zJ v n n
def xw(i j:Nat):Ro (i:Int) (j:Int) 1=j-i:=by
 unfold Ro;have h1:(1:Int) > 0:=by omega
 simp only[h1,if_true,Int.ediv_one];split<;>omega
def pD{v:OB}{o:Option Int}{Q:Option Int->OI->Prop}(p:IsPart v o)(h:Q o s):O7 (O2 prog w) A (Builtin.Slice.slicePartIndex v) Q E s:=by
 cases p with|none=>exact slicePart_none h|int i t=>exact slicePart_int h
def m6{sl:OE}{vl vu:OB}{lo hi:Option Int}{n:Nat}{Q:Int×Int×Nat->OI->Prop}(hs:s.heap.IsSliceOf sl vl vu .none)(pl:IsPart vl lo)(pu:IsPart vu hi)
  (h:Q (((sIx n 0 lo:Nat):Int),1,sIx n n hi-sIx n 0 lo) s):O7 (O2 prog w) A (Tj (.ref sl) (pure (n:Int))) Q E s:=by
 obtain⟨os,hos,hcs,hds⟩:=id hs;unfold Tj Builtin.Slice.sliceFields;refine OM (OM (wpAny_field hos hds (x:=vl) rfl (OM (wpAny_field hos hds (x:=vu) rfl (OM (wpAny_field hos hds (x:=.none) rfl (Pc ?_)))))));refine OM (slicePart_none ?_);show O7 _ _ (if((1:Int)==0)=true then _ else _) _ _ s;rw[if_neg (by decide)];refine OM (pD pl (OM (pD pu (OM (Pc ?_)))));show O7 _ _ (match RZ lo hi 1 (n:Int) with|(lo,hi)=>pure (lo,(1:Int),Ro lo hi 1)) _ _ s;rw[yn lo hi n];show O7 _ _ (pure (((sIx n 0 lo:Nat):Int),(1:Int),Ro ((sIx n 0 lo:Nat):Int) ((sIx n n hi:Nat):Int) 1)) _ _ s;rw[xw];exact Pc h
def Cu(xs:Array OB)(i k:Nat):((Qc k).filterMap λ(m:Nat)=>xs[((i:Int)+(m:Int)*1).toNat]?).toArray=((xs.toList.drop i).take k).toArray:=by
 have e:(λ(m:Nat)=>xs[((i:Int)+(m:Int)*1).toNat]?)=λm=>xs[i+m]?:=by
  funext m;have:((i:Int)+(m:Int)*1).toNat=i+m:=by omega
  rw[this]
 rw[e];have:=pick_run xs i k;rw[SJ]at this;have e2:((λx=>xs[x]?)∘λx=>i+x)=λm=>xs[i+m]?:=rfl;rw[e2]at this;rw[this]
def getItem_tuple_cut{t sl:OE}{items:Array OB}{vl vu:OB}{lo hi:Option Int}{Q:OB->OI->Prop}(ht:IsTup s.heap t items)(hs:s.heap.IsSliceOf sl vl vu .none)(pl:IsPart vl lo)(pu:IsPart vu hi)
  (hw:¬(sIx items.size 0 lo=0/\sIx items.size items.size hi=items.size))
  (h:Q (.ref s.heap.objs.size) { s with heap:=s.heap.push { cls:=.type "tuple",data:=.seq ((items.toList.drop (sIx items.size 0 lo)).take (sIx items.size items.size hi-sIx items.size 0 lo)).toArray } })
  (hsz:items.size<=sizeLine):O7 (O2 prog w) A (getItem (.ref t) (.ref sl)) Q E s:=by
 have htake:sizeOk (.seq ((items.toList.drop (sIx items.size 0 lo)).take (sIx items.size items.size hi-sIx items.size 0 lo)).toArray):=by
  show((items.toList.drop (sIx items.size 0 lo)).take (sIx items.size items.size hi-sIx items.size 0 lo)).toArray.size<=sizeLine;rw[Pd,Qw,Rm,QD];omega
 have hj:sIx items.size items.size hi<=items.size:=IW _ _ (O3 _) hi;obtain⟨os,hos,hcs,hds⟩:=id hs;have hTs:s.TypeIs (.ref sl) "slice":=⟨os,hos,hcs⟩
 unfold getItem
 try with_reducible refine QT ?_
 first|refine OM (Pc ?_)|skip
 refine OM (wpAny_sequenceKey ht.typeIs (by decide) ?_);refine OM (wpAny_callSpecial?_slot (name:=PL "__getitem__") ht.typeIs RF
  (wpAny_call_entry RF ht.typeIs entry_tuple_getitem ?_ (args_tuple_getitem _ _)))
 show O7 _ _ (Builtin.Tuple.tupleItemsOf (.ref t) >>= _) _ _ s;refine OM (tupleItemsOf_ ht ?_);refine OM (wpAny_typeOf hTs ?_);rw[if_pos (by decide)];refine OM (m6 hs pl pu ?_);have hno:¬((((sIx items.size 0 lo:Nat):Int)==0&&(1:Int)==1&&(sIx items.size items.size hi-sIx items.size 0 lo)==items.size)=true):=by
  intro q;rw[OR,OR]at q;have q1:((sIx items.size 0 lo:Nat):Int)=0:=eq_of_beq q.1.1;have q2:sIx items.size items.size hi-sIx items.size 0 lo=items.size:=eq_of_beq q.2;exact hw ⟨by omega,by omega⟩
 show O7 _ _ (if(((sIx items.size 0 lo:Nat):Int)==0&&(1:Int)==1&&(sIx items.size items.size hi-sIx items.size 0 lo)==items.size)=true then _ else _) _ _ s;rw[if_neg hno,Cu]
 first
  |exact OM (m:=Rq _) (wpAny_newObj_type (Pc ⟨_,rfl,Pc h⟩) htake)
  |exact OM (m:=Rq _) (wpAny_newObj_type (OM (Pc (Pc ⟨_,rfl,Pc h⟩))) htake)
  |exact OM (OM (m:=Rq _) (wpAny_newObj_type (Pc (Pc ⟨_,rfl,Pc h⟩)) htake))
  |exact OM (OM (m:=Rq _) (wpAny_newObj_type (Pc ⟨_,rfl,Pc h⟩) htake))
end
end HT
namespace L2
open PySem PySem.Spec PyProof.Rows
abbrev TO:=St->Hp->(Option Int->Hp->Prop)->Prop
def PO(X:Cx)(e:Option Pl)(t:TO):Prop :=
 ∀(π:List (OE×Obj)) (s:OI) (σ:St) (H:Hp) (Q:Option Int->Hp->Prop),Inv X π σ H s->t σ H Q ->
  O7 (O2 X.prog X.w) X.A (evalPart e X.env) (λu s'=>∃o H',Inv X π σ H' s'/\IsPart u o/\Q o H') X.xe s
def Ff:TO:=λ_ H Q=>Q none H
def Lb(t:TE):TO:=λσ H Q=>t σ H λx H1=>∃i,x=.int i/\Q (some i) H1
section
variable {X:Cx}{e:Pl}{te:TE}{lo hi:Option Pl}{tl th:TO}{pos p2:Pos}
def Fx:PO X none Ff:=by
 intro π s σ H Q I h;rw[evalPart_none];exact Pc ⟨none,H,I,.none,h⟩
def Fw(h:PE X e te):PO X (some e) (Lb te):=by
 intro π s σ H Q I hw;rw[evalPart_some];refine dB (h π s σ H _ I hw) λu s1 ⟨x,H1,I1,r1,q1⟩=>?_;obtain⟨i,rfl,q⟩:=q1;obtain⟨t,rfl⟩:=r1;exact⟨some i,H1,I1,.int i t,q⟩
noncomputable def EH(X:Cx) (r:V->Option Int->Option Int->Hp->VK->Prop):Prop :=
 ∀(π:List (OE×Obj)) (s:OI) (σ:St) (H:Hp) (x:V) (v vl vu:OB) (lo hi:Option Int) (sl:OE) (Q:VK),Inv X π σ H s->bX x v->s.heap.IsSliceOf sl vl vu .none->IsPart vl lo->IsPart vu hi->r x lo hi H Q ->
  ∃T id,RH (.type T) "__getitem__"=pure (some (.builtin id))/\s.TypeIs v T/\O7 (O2 X.prog X.w) X.A (getItem v (.ref sl)) (EP X π σ Q) X.xe s
def EH.or{r r':V->Option Int->Option Int->Hp->VK->Prop}(h:EH X r)(h':EH X r'):EH X (λx lo hi H Q=>r x lo hi H Q∨r' x lo hi H Q):=by
 intro π s σ H x v vl vu lo hi sl Q I rx hs pl pu q;rcases q with q|q
 .exact h π s σ H x v vl vu lo hi sl Q I rx hs pl pu q
 .exact h' π s σ H x v vl vu lo hi sl Q I rx hs pl pu q
def NX(r:V->Option Int->Option Int->Hp->VK->Prop)(te:TE)(tl th:TO):TE:=λσ H Q=>te σ H λx H1=>tl σ H1 λl H2=>th σ H2 λu H3=>r x l u H3 Q
def Cy{r:V->Option Int->Option Int->Hp->VK->Prop}(hr:EH X r)(he:PE X e te)(hl:PO X lo tl)(hu:PO X hi th):PE X (.Subscript e (.Slice lo hi none p2) pos) (NX r te tl th):=by
 intro π s σ H Q I h;refine Subscript_ (dB (he π s σ H _ I h) λv s1 ⟨x,H1,I1,r1,q1⟩=>?_);refine wpAny_Slice (dB (hl π s1 σ H1 _ I1 q1) λvl s2 ⟨l,H2,I2,pl,q2⟩=>dB (hu π s2 σ H2 _ I2 q2) λvu s3 ⟨u,H3,I3,pu,q3⟩=>?_);rw[evalPart_none];refine Pc ?_;have I4:Inv X π σ H3 { s3 with heap:=s3.heap.push { cls:=.type "slice",data:=.fields #[vl,vu,.none] } }:=I3.kept (t':=s3.toks) λb ob q=>OK _ q;obtain⟨T,id,hT,ht,hg⟩:=hr π { s3 with heap:=s3.heap.push { cls:=.type "slice",data:=.fields #[vl,vu,.none] } } σ H3 x v vl vu l u s3.heap.objs.size Q I4 r1 (Heap.IsSliceOf.new ..) pl pu q3;show O7 (O2 X.prog X.w) X.A (subscriptTail e (.Slice lo hi none p2) v (.ref s3.heap.objs.size)) (EP X π σ Q) X.xe { s3 with heap:=s3.heap.push { cls:=.type "slice",data:=.fields #[vl,vu,.none] } };exact tail_any (ops:=[.ref s3.heap.objs.size,v]) ht hT hg (by with_unfolding_all rfl)
def wz(xs:al)(lo hi:Option Int):al:=(xs.drop (HT.sIx xs.length 0 lo)).take (HT.sIx xs.length xs.length hi-HT.sIx xs.length 0 lo)
def n8(xs:al)(lo hi:Option Int):(wz xs lo hi).length<=xs.length:=by
 unfold wz;rw[Qw,Rm];omega
def Np(K:OH):V->Option Int->Option Int->Hp->VK->Prop:=λx lo hi H Q=>∃a xs,x=.ref a/\lA K H a xs /\
 ¬(HT.sIx xs.length 0 lo=0/\HT.sIx xs.length xs.length hi=xs.length)/\∀p,H p=none->Q (.ref p) (upd H p (.tup (wz xs lo hi)))
def IS:EH X (Np X.K):=by
 intro π s σ H x v vl vu lo hi sl Q I rx hs pl pu h;obtain⟨a,xs,rfl,hx,hw,q⟩:=h;cases rx;obtain⟨its,r,ht,hz⟩:=I.tuple hx;have hlen:its.toArray.size=xs.length:=by rw[Pd];exact r.length.symm
 refine⟨"tuple",_,RF.lookup,ht.typeIs,?_⟩;refine HT.getItem_tuple_cut ht hs pl pu (by rw[hlen];exact hw) ?_ (by rw[hlen];exact hz);rw[hlen];refine⟨.ref s.heap.objs.size,_,I.laid (t':=s.toks) (o:=.tup (wz xs lo hi)) (λb ob q=>OK _ q) (O3 _) ?_,rfl,q _ (I.hok.fresh (O3 _))⟩;exact⟨O0 (n8 xs lo hi) hz,_,(r.drop (HT.sIx xs.length 0 lo)).take (HT.sIx xs.length xs.length hi-HT.sIx xs.length 0 lo),TQ _ _⟩
def Lz(K:OH):R2:=λx y H Q=>∃a b xs ys,x=.ref a/\y=.ref b/\lA K H a xs/\lA K H b ys/\xs≠[]/\xs.length+ys.length<=sizeLine /\
 (ys=[]->Q (.ref a) H)/\(ys≠[]->∀p,H p=none->Q (.ref p) (upd H p (.tup (xs++ys))))
def bJ.nil_iff{xs:al}{us:List OB}(r:bJ xs us):us=[]↔xs=[]:=by
 cases r with|nil|cons _ _=>simp
def FL:ib X (binaryOp .Add) (Lz X.K):=by
 intro π s σ H x y v u Q I rx ry h;obtain⟨a,b,xs,ys,rfl,rfl,ha,hb,hx,hz,q1,q2⟩:=h;cases rx;cases ry;obtain⟨its,r1,p1,_⟩:=I.tuple ha;obtain⟨its2,r2,p2,_⟩:=I.tuple hb;refine HT.cat_tup p1 p2 (λz=>hx (r1.nil_iff.mp z)) (λz=>⟨.ref a,H,I,rfl,q1 (r2.nil_iff.mp z)⟩) (λz=>?_) (by rw[←r1.length,←r2.length];exact hz);refine⟨.ref s.heap.objs.size,_,I.laid (t':=s.toks) (o:=.tup (xs++ys)) (λb ob q=>OK _ q) (O3 _) ?_,rfl,q2 (λw=>z (r2.nil_iff.mpr w)) _ (I.hok.fresh (O3 _))⟩;exact⟨by rw[Pm];exact hz,_,r1.append r2,TQ _ _⟩
end
def Ge(n:Nat)(i:Int):Option Nat:=if 0<=i then(if i<n then some i.toNat else none) else if -(n:Int)<=i then some (i+n).toNat else none
def atI{α:Type}(xs:List α)(i:Int):Option α:=(Ge xs.length i).bind λj=>xs[j]?
def Gd{n:Nat}{i:Int}{j:Nat}(h:Ge n i=some j):seqIndex? i n=some j/\j<n/\-(n:Int)<=i/\i<n:=by
 unfold Ge at h
 by_cases h0:0<=i
 .rw[if_pos h0]at h
  by_cases h1:i<n
  .rw[if_pos h1]at h
   have e:i.toNat=j:=PY h;exact⟨by rw[seqIndex_of h0 h1,e],by omega,by omega,h1⟩
  .rw[if_neg h1]at h;cases h
 .rw[if_neg h0]at h
  by_cases h1:-(n:Int)<=i
  .rw[if_pos h1]at h
   have e:(i+n).toNat=j:=PY h;exact⟨by rw[seqIndex_neg (by omega) h1,e],by omega,h1,by omega⟩
  .rw[if_neg h1]at h;cases h
def uV{α:Type}{xs:List α}{i:Int}{v:α}(h:atI xs i=some v):∃j,seqIndex? i xs.length=some j/\xs[j]?=some v/\j<xs.length/\-(xs.length:Int)<=i/\i<xs.length:=by
 unfold atI at h;cases e:Ge xs.length i with
 |none=>rw[e]at h;cases h
 |some j=>
  rw[e]at h;obtain⟨h1,h2,h3,h4⟩:=Gd e;exact⟨j,h1,h,h2,h3,h4⟩
def cY{α:Type}{xs:List α}{j:Nat}{v:α}(h:xs[j]?=some v):atI xs (j:Int)=some v:=by
 have hj:j<xs.length:=(OZ.mp h).1;have e:Ge xs.length (j:Int)=some j:=by
  unfold Ge;rw[if_pos (by omega),if_pos (by omega)];simp
 unfold atI;rw[e];exact h
def lp(b:Pl):Prop:=∀o i,subscripted b false o i=operate [o,i] (getItem o i)
noncomputable def EI(X:Cx) (r:R2):Prop :=
 ∀(value slice:Pl) (π:List (OE×Obj)) (s:OI) (σ:St) (H:Hp) (x y:V) (v u:OB) (Q:VK),Inv X π σ H s->bX x v->bX y u->r x y H Q ->
  subscripted slice false v u=operate [v,u] (getItem v u)->O7 (O2 X.prog X.w) X.A (subscriptTail value slice v u) (EP X π σ Q) X.xe s
noncomputable def KP(X:Cx) (id:String) (r:V->al->Hp->VK->Prop):Prop :=
 ∀(π:List (OE×Obj)) (s:OI) (σ:St) (H:Hp) (x:V) (xs:al) (v:OB) (us:List OB) (Q:VK),Inv X π σ H s->bX x v->bJ xs us->r x xs H Q ->
  O7 (O2 X.prog X.w) X.A (call (.builtin id) (v::us)) (EP X π σ Q) X.xe s
section
variable {X:Cx}{a b:Pl}{ta tb:TE}{pos:Pos}
def EI.or{r r':R2}(h:EI X r)(h':EI X r'):EI X (λx y H Q=>r x y H Q∨r' x y H Q):=by
 intro value slice π s σ H x y v u Q I rx ry q hs;rcases q with q|q
 .exact h value slice π s σ H x y v u Q I rx ry q hs
 .exact h' value slice π s σ H x y v u Q I rx ry q hs
def yL{r:R2}(hr:EI X r)(ha:PE X a ta)(hb:PE X b tb)(hs:lp b):PE X (.Subscript a b pos) (Lc r ta tb):=by
 intro π s σ H Q I h;exact Subscript_ (Ks ha hb I h λv u s2 x y H2 I2 rx ry q=>hr a b π s2 σ H2 x y v u Q I2 rx ry q (hs _ _))
def Lx(K:OH):R2:=λx y H Q=>∃p xs i v,x=.ref p/\y=.int i/\gL K H p xs/\atI xs i=some v/\Q v H
def Lv(K:OH):R2:=λx y H Q=>∃p xs i v,x=.ref p/\y=.int i/\lA K H p xs/\atI xs i=some v/\Q v H
def Lw:R2:=λx y H Q=>∃z i c,x=.str z/\y=.int i/\z.length<=sizeLine/\atI z.cps.toList i=some c/\Q (.str ⟨#[c]⟩) H
def uA:EI X (Lx X.K):=by
 intro value slice π s σ H x y v u Q I rx ry h hs;obtain⟨p,xs,i,z,rfl,rfl,hq,he,q⟩:=h;cases rx;obtain⟨t,rfl⟩:=ry;obtain⟨its,r,pl,hz⟩:=I.list hq;obtain⟨j,h1,h2,h3,h4,h5⟩:=uV he;obtain⟨w,ew,rw'⟩:=r.get h2;have hl:=r.length;have hn:=ux;have fin:EP X π σ Q w s:=⟨z,H,I,rw',q⟩
 by_cases h0:0<=i
 .have hj:i.toNat=j:=by
   rw[seqIndex_of h0 h5]at h1;exact PY h1
  exact item_listR pl.isList h0 (by omega) (by rw[hj];simpa using ew) fin hs
 .have hj:(i+(its.toArray.size:Int)).toNat=j:=by
   rw[seqIndex_neg (by omega) h4]at h1;rw[Pd,←hl];exact PY h1
  exact subscriptTail_builtinR (x:=w) pl.isList.typeIs slot_list_getitem.lookup
   (wpAny_getItem_list_neg (Q:=λr s'=>r=w/\EP X π σ Q r s') pl.isList (by omega) (by rw[Pd]<;>omega) (by omega) (by rw[hj];simpa using ew) ⟨rfl,fin⟩) hs
def Dd:EI X (Lv X.K):=by
 intro value slice π s σ H x y v u Q I rx ry h hs;obtain⟨p,xs,i,z,rfl,rfl,hq,he,q⟩:=h;cases rx;obtain⟨t,rfl⟩:=ry;obtain⟨its,r,pl,hz⟩:=I.tuple hq;obtain⟨j,h1,h2,h3,h4,h5⟩:=uV he;obtain⟨w,ew,rw'⟩:=r.get h2;have hl:=r.length;have hn:=ux;have fin:EP X π σ Q w s:=⟨z,H,I,rw',q⟩
 exact subscriptTail_builtinR (x:=w) pl.typeIs slot_tuple_getitem.lookup
  (getItem_tuple (j:=j) (Q:=λr s'=>r=w/\EP X π σ Q r s') pl (by omega) (by omega) (by rw[Pd,←hl];exact h1) (by simpa using ew) ⟨rfl,fin⟩) hs
def jQ:EI X Lw:=by
 intro value slice π s σ H x y v u Q I rx ry h hs;obtain⟨z,i,c,rfl,rfl,hz,he,q⟩:=h;obtain⟨t,rfl⟩:=rx;obtain⟨t',rfl⟩:=ry;obtain⟨j,h1,h2,h3,h4,h5⟩:=uV he;have hl:z.cps.toList.length=z.length:=by simp[Str.length]
 rw[hl]at h1 h4 h5;have hn:=ux;exact tail_any (typeIs_str s z t) slot_str_getitem.lookup (getItem_str (c:=c) (by
  have e1:decide (i < -(2 ^ 63:Int))=false:=decide_eq_false (by omega);have e2:decide (i≥2 ^ 63)=false:=decide_eq_false (by omega);rw[e1,e2,Bool.or_false]) (by rw[h1];simpa using h2) ⟨.str ⟨#[c]⟩,H,I.tok _,⟨_,rfl⟩,q⟩) hs
def N1(K:OH):R2:=λx y H Q=>Lx K x y H Q∨Lv K x y H Q∨Lw x y H Q
def JC:EI X (N1 X.K):=uA.or (Dd.or jQ)
def tT(lo hi:Option Int)(n:Nat):(sliceBounds lo hi none n).1=((HT.sIx n 0 lo:Nat):Int)/\(sliceBounds lo hi none n).2.1=((HT.sIx n n hi:Nat):Int)/\(sliceBounds lo hi none n).2.2=1:=by
 refine⟨?_,?_,rfl⟩
 .cases lo with
  |none=>simp[sliceBounds,HT.sIx]
  |some i=>
   simp only[sliceBounds,HT.sIx,Option.getD_none,show(1:Int) > 0 by decide,if_true]
   by_cases h:i<0
   .simp only[h,if_true]<;>omega
   .simp only[h,if_false]<;>omega
 .cases hi with
  |none=>simp[sliceBounds,HT.sIx]
  |some i=>
   simp only[sliceBounds,HT.sIx,Option.getD_none,show(1:Int) > 0 by decide,if_true]
   by_cases h:i<0
   .simp only[h,if_true]<;>omega
   .simp only[h,if_false]<;>omega
def rq(its:List OB)(lo hi:Option Int):slicePick its.toArray lo hi none=((its.drop (HT.sIx its.length 0 lo)).take (HT.sIx its.length its.length hi-HT.sIx its.length 0 lo)).toArray:=by
 obtain⟨h1,h2,h3⟩:=tT lo hi its.toArray.size;unfold slicePick;rw[h1,h2,h3];simp only[sliceRange_one,pick_run,Pd]<;>rfl
def Nr(K:OH):V->Option Int->Option Int->Hp->VK->Prop:=λx lo hi H Q=>∃a xs,x=.ref a/\gL K H a xs/\∀p,H p=none->Q (.ref p) (upd H p (.lst (wz xs lo hi)))
def Fh:EH X (Nr X.K):=by
 intro π s σ H x v vl vu lo hi sl Q I rx hs pl pu h;obtain⟨a,xs,rfl,hx,q⟩:=h;cases rx;obtain⟨its,r,ht,hz⟩:=I.list hx;have hlen:=r.length;refine⟨"list",_,slot_list_getitem.lookup,ht.isList.typeIs,?_⟩;refine wpAny_getItem_list_slice ht.isList hs pl pu .none (by simp) ?_ (by rw[Pd]<;>omega);rw[rq,←hlen];refine⟨.ref s.heap.objs.size,_,I.laid (t':=s.toks) (o:=.lst (wz xs lo hi)) (λb ob q=>OK _ q) (O3 _) ?_,rfl,q _ (I.hok.fresh (O3 _))⟩;exact⟨O0 (n8 xs lo hi) hz,_,0,(r.drop (HT.sIx xs.length 0 lo)).take (HT.sIx xs.length xs.length hi-HT.sIx xs.length 0 lo),Pu _ rfl⟩
def uo:ib X (PR .NotIn) (λx y H Q=>∃i j,x=.str i/\y=.str j/\Q (.bl (!(!(Q1 j i 0 j.length 1).isEmpty))) H):=by
 intro π s σ H x y v u Q I rx ry h;obtain⟨i,j,rfl,rfl,q⟩:=h;obtain⟨t,rfl⟩:=rx;obtain⟨t',rfl⟩:=ry;exact notIn_str ⟨.bl _,H,I,rfl,q⟩
def rO:jH X (.type "tuple") (λxs H Q=>∃p ys,xs=[.ref p]/\((gL X.K H p ys/\∀l,H l=none->Q (.ref l) (upd H l (.tup ys)))∨(lA X.K H p ys/\Q (.ref p) H))):=by
 intro π s σ H xs us Q I r h;obtain⟨p,ys,rfl,h⟩:=h;obtain⟨u,rfl,rx⟩:=pq r;cases rx;rcases h with⟨hq,q⟩|⟨hq,q⟩
 .obtain⟨its,r',pl,hz⟩:=I.list hq
  have hlen:=r'.length;refine call_tuple_list pl.isList (λh' kp=>?_) (by simp only[Pd]<;>omega);have I1:Inv X π σ H { s with heap:=h' }:=I.kept (t':=s.toks) kp;have I2:Inv X π σ (upd H h'.objs.size (.tup ys)) { s with heap:=h'.push { cls:=.type "tuple",data:=.seq its.toArray } } :=
   I1.laid (t':=s.toks) (λb o e=>OK _ e) (O3 _) (show dq X.prog X.w _ _ _ (.tup ys) from⟨hz,its,r',TQ _ _⟩)
  exact⟨.ref h'.objs.size,_,I2,rfl,q _ (I1.hok.fresh (O3 _))⟩
 .obtain⟨its,r',pl,hz⟩:=I.tuple hq
  exact call_tuple_same pl ⟨.ref p,H,I,rfl,q⟩
noncomputable def NW(K:OH) (T:String) (x:V) (H:Hp):Prop:=match x with
 |.str _=>T="str"
 |.int _=>T="int"
 |.ref p=>(T="list"/\∃xs,gL K H p xs)∨(T="tuple"/\∃o,K.lookup p=some o/\o.cls=.type "tuple"/\o.dict=none) ∨
   (T="dict"/\((∃kvs,H p=some (.dK kvs))∨∃kvs,H p=some (.dT kvs)))∨(T="set"/\∃S n,H p=some (.set S n))
 |_=>False
def Iy{π:List (OE×Obj)}{σ:St}{H:Hp}{s:OI}{T:String}{x:V}{v:OB}(I:Inv X π σ H s)(r:bX x v)(ty:NW X.K T x H) :
  s.TypeIs v T/\∀a,v=.ref a->∃ob,s.heap.get? a=some ob/\ob.dict=none:=by
 cases x with
 |str z=>
  obtain⟨t,rfl⟩:=r;cases (show T="str" from ty);exact⟨typeIs_str s z t,λ_ e=>nomatch e⟩
 |int i=>
  obtain⟨t,rfl⟩:=r;cases (show T="int" from ty);exact⟨typeIs_int s i t,λ_ e=>nomatch e⟩
 |ref p=>
  cases r;rcases ty with⟨rfl,xs,hq⟩|⟨rfl,o,hk,hc,hd⟩|⟨rfl,hk⟩|⟨rfl,S,n,hk⟩
  .obtain⟨its,_,pl,_⟩:=I.list hq
   refine⟨pl.isList.typeIs,λa e=>?_⟩;cases e;obtain⟨o,n,e,c,hd,_⟩:=pl;exact⟨o,e,hd⟩
  .refine⟨⟨o,I.kIn p o hk,hc⟩,λa e=>?_⟩
   cases e;exact⟨o,I.kIn _ o hk,hd⟩
  .have z:∃o,s.heap.get? p=some o/\o.ExactDict:=by
    rcases hk with⟨kvs,hk⟩|⟨kvs,hk⟩
    .obtain⟨_,_,_,_,o,_,_,e,ex,_⟩:=I.hok p _ hk
     exact⟨o,e,ex⟩
    .obtain⟨_,_,_,_,o,_,_,e,ex,_⟩:=I.hok p _ hk
     exact⟨o,e,ex⟩
   obtain⟨o,e,ex⟩:=z;refine⟨⟨o,e,ex.1⟩,λa e2=>?_⟩;cases e2;exact⟨o,e,ex.2.1⟩
  .obtain⟨o,_,_,_,e,ex,_⟩:=I.hok p _ hk
   refine⟨⟨o,e,ex.1⟩,λa e2=>?_⟩;cases e2;exact⟨o,e,ex.2.1⟩
 |_=>exact PQ ty
def Oj(K:OH)(T:String)(r:V->al->Hp->VK->Prop)(to:TE)(t:TA):TE:=λσ H Q=>to σ H λx H1=>NW K T x H1/\t σ H1 λxs H2=>r x xs H2 Q
variable {o e:Pl}{es:List Pl}{to:TE}{t:TA}{name:OG}{apos cpos:Pos}{T id:String}{r:V->al->Hp->VK->Prop}
def yO(pa:PlainAttrs T)(slot:Slot T name id)(hty:typeOf (.builtin id)=pure (.type "method_descriptor"))(hm:KP X id r)(ho:PE X o to)(ha:PA X (e::es) t)
  (hbase:Qd o name X.env (eval o X.env)=eval o X.env:=by rfl)
  (hfew:((PK cpos (OJ (e::es) X.env)).all (λx=>!x.1)&&(Ry cpos (QF [] X.env)).all (λx=>x.1.isSome)
  &&decide ((e::es).length+([]:List QW).length+(if([]:List QW).isEmpty then 0 else 1)<30))=true:=by rfl)
  (hline:(apos.endLine==cpos.line)=true:=by rfl) (hs:OJ (e::es) X.env=(false,eval e X.env)::OJ es X.env:=by rfl) (hplain:(PK cpos (OJ es X.env)).any (·.1)=false:=by rfl) :
  PE X (.Call (.Attribute o name apos) (e::es) [] cpos) (Oj X.K T r to t):=by
 intro π s σ H Q I h;refine wpAny_Call_method_late hbase hfew hline rfl (dB (ho π s σ H _ I h) λv s1 ⟨x,H1,I1,r1,ty,q1⟩=>?_);obtain⟨h1,h2⟩:=Iy I1 r1 ty;refine⟨T,id,pa,slot,hty,h1,h2,?_⟩;have hA:=ha cpos π s1 σ H1 _ I1 q1;rw[hs]at hA ⊢;refine Ub (by show(false||(PK cpos (OJ es X.env)).any (·.1))=false;rw[hplain]<;>rfl) (Sv ?_);exact dB hA λus s2 ⟨vs,H2,I2,r2,q2⟩=>hm π s2 σ H2 x vs v us Q I2 r1 r2 q2
end
noncomputable def OA(X:Cx) (id:String) (r:V->al->Hp->VK->Prop):Prop :=
 ∀(π:List (OE×Obj)) (s:OI) (σ:St) (H:Hp) (x:V) (xs:al) (v:OB) (us:List OB) (Q:VK),Inv X π σ H s->bX x v->bJ xs us->r x xs H Q ->
  O7 (O2 X.prog X.w) X.A (call (.builtin id) (v::us)) (EP X π σ Q) X.xe s
theorem bJ.one:∀{x:V}{us:List OB},bJ [x] us->∃u,us=[u]/\bX x u
 |_,_,.cons r .nil=>⟨_,rfl,r⟩
theorem bJ.rep{xs:al}{us:List OB}(h:bJ xs us):∀k:Nat,bJ (OV k xs).flatten (OV k us).flatten
 |0=>.nil
 |k+1=>by
  rw[PF,PF,QP,QP];exact bJ.append h (bJ.rep h k)
theorem sN(its:List OB):∀(k:Nat) (acc:List OB),
  List.foldl (λx1 x2=>x1++x2) acc.toArray (OV k its.toArray)=(acc++(OV k its).flatten).toArray
 |0,acc=>by simp
 |k+1,acc=>by
  have e:acc.toArray++its.toArray=(acc++its).toArray:=by simp
  have e2:(acc++its)++(OV k its).flatten=acc++(OV (k+1) its).flatten:=by
   rw[PF,QP,QQ]
  rw[←e2,←sN its k (acc++its),←e,PF,List.foldl_cons]
section
variable {X:Cx}{π:List (OE×Obj)}{σ:St}{H:Hp}{s:OI}{l b:OE}{xs ys zs:al}
def Inv.lset{its its':List OB}{n:Nat}{f:Array OB->Array OB}{t':Nat}(I:Inv X π σ H s)(hH:H l=some (.lst xs))
  (e:s.heap.get? l=some { cls:=.type "list",data:=.seq its.toArray n })(hf:f its.toArray=its'.toArray)(hv:bJ ys its')(hz:ys.length<=sizeLine) :
  Inv X π σ (upd H l (.lst ys)) { s with heap:=s.heap.update l (Obj.mapSeq f),toks:=t' }:=by
 have q:=PySem.IsL.update e f;rw[hf]at q;refine I.write (x:=l) (e:=l) (by rw[hH];exact trivial) (.inl rfl) (λb' u hb hu=>(QE s.heap (Obj.mapSeq f) (Py hb)).trans hu) ⟨_,q⟩ ?_;exact⟨hz,its',_,hv,q⟩
def Inv.lnew{its:List OB}{t':Nat}(I:Inv X π σ H s)(hv:bJ ys its)(hz:ys.length<=sizeLine) :
  Inv X π σ (upd H s.heap.objs.size (.lst ys)) { s with heap:=s.heap.push { cls:=.type "list",data:=.seq its.toArray },toks:=t' } :=
 I.laid (λ_ _ q=>OK _ q) (O3 _) ⟨hz,its,0,hv,Pu _ rfl⟩
def Inv.fresh(I:Inv X π σ H s):H s.heap.objs.size=none:=I.hok.fresh (O3 _)
def Inv.lstM(I:Inv X π σ H s)(hH:H l=some (.lst xs)):xs.length<=sizeLine/\∃(its:List OB) (n:Nat),bJ xs its/\xs.length=its.length/\s.heap.get? l=some { cls:=.type "list",data:=.seq its.toArray n }:=by
 obtain⟨z,its,n,r,e⟩:=I.hok l _ hH;exact⟨z,its,n,r,r.length,e⟩
def CM{n:Nat}(h:n<=sizeLine):Sa n=false:=by
 unfold Sa;exact decide_eq_false (by omega)
end
section
variable {X:Cx}
def Fs:V->al->Hp->VK->Prop:=λx vs H Q=>∃l xs y,x=.ref l/\vs=[y]/\H l=some (.lst xs)/\xs.length<sizeLine/\Q .non (upd H l (.lst (xs++[y])))
def nr:OA X "list.append" Fs:=by
 intro π s σ H x vs v us Q I rx rv h;obtain⟨l,xs,y,rfl,rfl,hH,hz,q⟩:=h;cases rx;obtain⟨u,rfl,ru⟩:=rv.one;obtain⟨z,its,n,r,hl,e⟩:=I.lstM hH;refine call_meets F.slot_list_append ⟨_,e,rfl⟩ F.entry_list_append (F.args_list_append_2 _ _) (PySem.list_append l its.toArray n u (by rw[Pd];omega)) ⟨e,?_⟩;refine⟨.non,_,I.lset (its':=its++[u]) hH e (by simp) (r.append (.cons ru .nil)) ?_,rfl,q⟩;rw[Pm,List.length_singleton];omega
def Nt:R2:=λx y H Q=>∃l k xs,x=.ref l/\y=.int k/\H l=some (.lst xs)/\-(2 ^ 63)<=k/\k<2 ^ 63/\xs.length*k.toNat<=sizeLine /\
 ∀p,H p=none->Q (.ref p) (upd H p (.lst (OV k.toNat xs).flatten))
def F5{α:Type}(xs:List α)(k:Nat):(OV k xs).flatten.length=k*xs.length:=by
 induction k with|zero=>simp|succ k ih=>rw[PF,QP,Pm,ih,Nat.succ_mul,Nat.add_comm]
def Jo:ib X (binaryOp .Mult) Nt:=by
 intro π s σ H x y v u Q I rx ry h;obtain⟨l,k,xs,rfl,rfl,hH,h1,h2,hz,q⟩:=h;cases rx;obtain⟨t,rfl⟩:=ry;obtain⟨z,its,n,r,hl,e⟩:=I.lstM hH;have hlen:its.toArray.size*k.toNat<=sizeLine:=by rw[Pd,←hl];exact hz
 have hcap:¬its.toArray.size*k.toNat > (2 ^ 63-1) / 8:=by
  have:(sizeLine:Nat)<=(2 ^ 63-1) / 8:=by decide
  omega
 have hfit:¬(!Builtin.List.listFitsIndex k)=true:=by
  rw[fitsIndex_both h1 h2];exact Qm
 have hlong:¬Sa (its.toArray.size*k.toNat)=true:=by
  rw[CM hlen];exact Qm
 have hnew:List.foldl (λx1 x2=>x1++x2) #[] (OV (if its.toArray.isEmpty=true then 0 else k.toNat) its.toArray)=(OV k.toNat its).flatten.toArray:=by
  have f0:∀m:Nat,List.foldl (λx1 x2=>x1++x2) #[] (OV m its.toArray)=(OV m its).flatten.toArray:=λm=>by
   have:=sN its m [];rw[QL]at this;exact this
  rw[f0];cases its with|nil=>simp|cons a r'=>rw[if_neg (by simp)]
 refine wpAny_binaryOp_repeat_ref (T:="list") (U:="int") (by decide) ⟨_,e,rfl⟩ (λs'=>typeIs_int s' k t) noFill_list_mul F.fills_int_mul F.slot_int_rmul repeat_list F.slot_int_index.lookup
  (call_meets F.slot_int_rmul (typeIs_int s k t) F.entry_int_rmul (F.args_int_rmul_2 _ _) (int___rmul___int_list k t l its.toArray n)
   ⟨e,rfl,⟨_,e,rfl⟩,call_meets F.slot_list_mul ⟨_,e,rfl⟩ F.entry_list_mul (F.args_list_mul_2 _ _) (AutoListH.list___mul___list_int_3 l its.toArray n k t hfit hcap hlong) ⟨e,?_⟩⟩)
 rw[hnew];exact⟨.ref _,_,I.lnew (t':=s.toks) (r.rep k.toNat) (by rw[F5,Nat.mul_comm];exact hz),rfl,q _ I.fresh⟩
end
end L2
namespace Att
open PySem PySem.W PySem.Calls PyProof.Rows
def oC{P:Params}{h:OY}:∀(ns:List Int) (vs:List OB),WellAll P h vs (ns.map WData.int)->IntsAre vs ns:=by
 intro ns
 induction ns with
 |nil=>
  intro vs w;rw[RO]at w;cases w;exact .nil
 |cons n ns ih=>
  intro vs w;rw[PC]at w;cases w with
  |cons a b=>
   cases a;exact .cons _ _ (ih _ b)
def Ai{l:OpenLaw}{n:Nat}(hn:l.most=some n){P:Params}{h:OY}{args:List WData}{vals:List OB}
  (hpre:l.row.toRowW.claim.pre args=true)(hwl:WellAll P h vals args) :
  ∃a vs ns,vals=[Pq a]/\args=[WData.list (ns.map WData.int)]/\h.get? a=some { cls:=.type "list",data:=.seq vs.toArray }/\IntsAre vs ns/\ns.length<=n:=by
 have hsh:WShape.hasAll [] args [.list .int]=true:=(pre_splitW hpre).1;have hc:l.pre.holds [] { args:=args }=true:=(pre_splitW hpre).2;obtain⟨d,r,rfl,h1,h2⟩:=hasAllW_cons hsh;obtain rfl:=hasAllW_nil h2;obtain⟨xs,rfl,h3⟩:=hasW_list h1;obtain⟨ns,rfl⟩:=items_int h3;have hlen:ns.length<=n:=by
  unfold OpenLaw.pre at hc;have h4:(WTm.not (.lt (.lit (.int (n:Int))) (.len (.arg 0)))).holds [] { args:=[.list (ns.map .int)] }=true:=by
   have h4:=(holds_andW hc).1;rw[hn]at h4;exact h4
  have h5:=condW_of h4 (w_not (w_lt w_lit (w_len_list (w_arg rfl))));rw[OD]at h5;refine Nat.le_of_not_lt λq=>?_;have q':(n:Int)<((ns.length:Nat):Int):=by omega
  first
   |(rw[decide_eq_true q']at h5;exact absurd h5 (by decide))
   |(simp at h5;omega)
 cases hwl with
 |cons w1 w2=>
  cases w2;cases w1 with|list ho hall=>exact⟨_,_,ns,rfl,rfl,ho,oC ns _ hall,hlen⟩
def AF(l:OpenLaw)(args:List WData):l.row.toRowW.claim.post args (.bool true) args=true :=
 postW_of (r:=l.row.toRowW) (X:=(true==true))
  (show WShape.has [] (.bool true) .bool=true by first|rfl|decide|simp[WShape.has,WShape.arms,WShape.armsAll])
  (show(WTm.eq .res (.lit (.bool true))).value [] { args:=args,res:=some (.bool true),after:=args }=some (.bool (true==true)) from w_eq_bool (w_res rfl) w_lit) rfl
def attach_call{l:OpenLaw}{n:Nat}{q:Pr}{loose:ci}{XP:(OG->Option OB)->OY->Prop}{YP:PJ->OY->Prop}{d:DefRec}
  (hn:l.most=some n)(hdf:d.params.defaults=[])
  (call:∀(w:PJ) (sf sg:OI) (mg mb:OG->Option OB) (fa:OE) (o:Obj) (pm cd doc:OB) (a:OE) (vs:List OB) (ns:List Int),
   Ground q loose [] XP w sf mg mb sg.heap->YP w sg.heap ->
   sg.heap.get? fa=some o->o.data=.func (docDef d.name d.params d.body d.scope pm cd doc)->sg.heap.CodeRec cd d.name->mg d.name=some (.ref fa) ->
   sg.heap.get? a=some { cls:=.type "list",data:=.seq vs.toArray }->IntsAre vs ns->ns.length<=n->sg.gens=#[] ->
   Q9 (O2 l.prog w) callerA (.call (.ref fa) ⟨[.ref a],[]⟩) (λr s'=>r=.ok (.ret (.bool true))/\OldK sg.heap s'.heap/\s'.os=sg.os/\AllBare s'.gens) sg) :
  WalkO q loose XP YP l.row.toRowW d [] (λf vs=>PySem.call f vs):=by
 intro w sf sg mg mb G Y fa o pm cd doc dV kV ho hd hcd hD hmg hg args vals as hpre hlay hrd hwl hlo;obtain rfl:dV=.none:=Dflts.none hD hdf;obtain rfl:kV=.none:=Dflts.noKw hD;obtain⟨a,vs,ns,rfl,rfl,hobj,hints,hlen⟩:=Ai hn hpre hwl;refine enter_call (codeAny_mono (call w sf sg mg mb fa o pm cd doc a vs ns G Y ho (fd_plain hd) hcd hmg hobj hints hlen hg) λr s' hq=>?_);obtain⟨rfl,h2,h3,h4⟩:=hq;exact⟨.inl ⟨.bool true,.bool true,[],rfl,λ_=>rfl,.bool true,AF l _,λ_=>⟨List.Pairwise.nil,λ_ hm=>(nomatch hm)⟩⟩,h2,h3,h4⟩
end Att
namespace L2
open PySem PySem.Spec PyProof.Rows
theorem rR:∀{vs:List OB}{ns:List Int},IntsAre vs ns->bJ (ns.map V.int) vs
 |_,_,.nil=>.nil
 |_,_,.cons n t h=>.cons ⟨t,rfl⟩ (rR h)
def Hr(H:Hp):Prop:=∀b,H b=none∨∃o xs,H b=some (.frz o (.lst xs))
def C3{P:Pr}{w:PJ}{K:OH}{mg mb:OG->Option OB}{CX:tH}{k:Nat}{fa a:OE}{fd:Pz}{x:OG}{sp:Sp}{sg:OI}{vs:List OB}{ns:List Int}
  (KX:K.In sg.heap)(hns:sg.heap.Ns O6 mg)(hb:sg.heap.Ns builtinsNs mb)(hbb:∀x:OG,x≠"__name__"->mb x=bootBuiltins x)(hlim:sg.heap.NoLimit)(hsm:∃mm,sg.heap.Ns Sh mm)(hg:sg.gens=#[])
  (ha:sg.heap.get? a=some { cls:=.type "list",data:=.seq vs.toArray })(hi:IntsAre vs ns)(hl:ns.length<=sizeLine)(hr:dA k callerA)
  (F:∀base:OY,K.In base->base.Ns O6 mg->gq P w K mg base CX k fa fd [x] sp)(hbind:∀(s:OI) (u:OB),BindsTo s fd ⟨[u],[]⟩ [(x,u)])
  (hsp:∀H:Hp,Hr H->gL K H a (ns.map V.int)->sp [.ref a] H (λv _=>v=.bl true) λ_ _ _=>False)
  (hCX:∀H e s',CX [] H sg (λ_ _ _=>False) e s'->False) :
  Q9 (O2 P w) callerA (.call (.ref fa) ⟨[.ref a],[]⟩) (λr s'=>r=.ok (.ret (.bool true))/\OldK sg.heap s'.heap/\s'.os=sg.os/\AllBare s'.gens) sg:=by
 have rv:=rR hi;have lenV:=hi.length;have core:∀H:Hp,Hr H->gL K H a (ns.map V.int)->ip P w H sg.heap->(∀b,H b≠none->b=a)->(H a≠none->K.lookup a=none) ->
   Q9 (O2 P w) callerA (.call (.ref fa) ⟨[.ref a],[]⟩) (λr s'=>r=.ok (.ret (.bool true))/\OldK sg.heap s'.heap/\s'.os=sg.os/\AllBare s'.gens) sg:=by
  intro H hO hS hok hA hK;have base_of:∀{b:OE}{o:Obj},sg.heap.get? b=some o->H b=none->(uD sg.heap H).get? b=some o:=λe n=>Dl e n;have noA:∀{b:OE}{o:Obj}{es:Array S5}{ep:Nat},sg.heap.get? b=some o->o.data=.dict es ep->H b=none:=λ{b o es ep} e d=>by
   cases q:H b with
   |none=>rfl
   |some u=>
    have e':b=a:=hA b (by rw[q];simp);subst e';rw[ha]at e;cases e;have d':Data.seq vs.toArray _=Data.dict es ep:=d;cases d'
  have nsK:∀{b:OE}{m:OG->Option OB},sg.heap.Ns b m->(uD sg.heap H).Ns b m:=λ{b m} ⟨o,es,ep,e,d,r⟩=>⟨o,es,ep,base_of e (noA e d),d,r⟩
  have hKb:K.In (uD sg.heap H):=λb o e=>base_of (KX b o e) (by
   cases q:H b with
   |none=>rfl
   |some u=>
    have e':b=a:=hA b (by rw[q];simp);subst e';rw[hK (by rw[q];simp)]at e;cases e)
  have hM:Mod K mg (uD sg.heap H):=⟨hKb,nsK hns,⟨mb,nsK hb,hbb⟩,let ⟨mc,h1,h2⟩:=hlim;⟨mc,nsK h1,h2⟩,let ⟨mm,h1⟩:=hsm;⟨mm,nsK h1⟩⟩
  have e0:yr P w K mg (uD sg.heap H) callerA [] sg H:=⟨rfl,hM,λb o e=>FQ e,T5 (A5 _ _),trivial,λb hb=>absurd (show b∈([]:List OE) from hb) (by simp),hok,.of_eq hg⟩
  refine codeAny_mono ((F _ hKb (nsK hns)).run callerA [] sg H ⟨[.ref a],[]⟩ [.ref a] [.ref a] _ _ hr e0 (hbind sg (.ref a)) (.cons rfl .nil) (hsp H hO hS)) λr s' h=>?_;cases r with
  |error e=>exact(hCX H e s' h).elim
  |ok fl=>
   cases fl with
   |next|brk|cont=>exact PQ h
   |ret u=>
    obtain⟨v,H',os,bare,un,hok',r',q⟩:=h;have q':v=.bl true:=q;subst q';obtain rfl:u=Ql true:=r';refine⟨rfl,OldK.of_keep λb o e=>?_,os,bare⟩;cases q:H b with
    |none=>exact un.keep b o e q (by intro z;exact absurd (show b∈([]:List OE) from z) (by simp)) (by simp)
    |some u=>
     rcases hO b with z|⟨ob,xs,z⟩
     .rw[q]at z;cases z
     .have z2:=un.frzs b ob _ z
      obtain⟨e1,_⟩:=hok b _ z;obtain⟨e2,_⟩:=hok' b _ z2;rw[e]at e1;cases e1;exact e2
 cases hk:K.lookup a with
 |some o=>
  have e:=KX a o hk;rw[ha]at e;cases e;refine core (λ_=>none) (λ_=>.inl rfl) (.inr ⟨_,vs.toArray,_,hk,rfl,rfl,rfl,by rw[Pd,lenV];exact hl,by simpa using rv⟩) (λb u z=>by have z':(none:Option HO)=some u:=z;cases z') (λb z=>absurd rfl z) λz=>absurd rfl z
 |none=>
  refine core (λb=>if b=a then some (.frz { cls:=.type "list",data:=.seq vs.toArray } (.lst (ns.map V.int))) else none) (λb=>?_) (.inl (.inr ⟨{ cls:=.type "list",data:=.seq vs.toArray },if_pos rfl⟩)) (λb u z=>?_) (λb z=>?_) λ_=>hk
  .by_cases hb:b=a
   .exact .inr ⟨_,_,if_pos hb⟩
   .exact .inl (if_neg hb)
  .by_cases hb:b=a
   .have z':=(if_pos hb).symm.trans z
    cases z';subst hb;exact⟨ha,by rw[OD];exact hl,vs,_,rv,ha⟩
   .have z':=(if_neg hb).symm.trans z
    cases z'
  .by_cases hb:b=a
   .exact hb
   .exact absurd (if_neg hb) z
abbrev KOf{K:OH}{h:OY}(_:K.In h):OH:=K
def E1{l:W.OpenLaw}{n k:Nat}{q:Pr}{loose:ci}{XP:(OG->Option OB)->OY->Prop}{YP:PJ->OY->Prop}{d:DefRec}{K:Params->OH}{CX:PJ->tH}{sp:PJ->Sp}{x:OG}
  (hi:importsNone q=true)(hn:l.most=some n)(hn2:n<=sizeLine)(hdf:d.params.defaults=[])(hr:dA k callerA)
  (hY:∀(w:PJ) (h:OY),YP w h->(K w.params).In h)
  (F:∀(w:PJ) (mg:OG->Option OB) (fa:OE) (h:OY),(K w.params).In h->h.Ns O6 mg->mg d.name=some (.ref fa) ->
   ∃fd:Pz,(∀(s:OI) (u:OB),BindsTo s fd ⟨[u],[]⟩ [(x,u)]) /\
    ∀base:OY,(K w.params).In base->base.Ns O6 mg->gq l.prog w (K w.params) mg base (CX w) k fa fd [x] (sp w))
  (hsp:∀(w:PJ) (H:Hp) (a:OE) (ns:List Int),ns.length<=n->Hr H->gL (K w.params) H a (ns.map V.int)->sp w [.ref a] H (λv _=>v=.bl true) λ_ _ _=>False)
  (hCX:∀(w:PJ) (H:Hp) (s:OI) (e:OB) (s':OI),CX w [] H s (λ_ _ _=>False) e s'->False) :
  W.WalkO q loose XP YP l.row.toRowW d [] (λf vs=>PySem.call f vs):=by
 refine Att.attach_call hn hdf λw sf sg mg mb fa o pm cd doc a vs ns G Y ho hd hcd hmg hobj hints hlen hg=>?_;have KX:=hY w _ Y;obtain⟨fd,hb,hF⟩:=F w mg fa _ KX G.T.g hmg;exact C3 KX G.T.g G.T.b G.T.builtins G.T.nolimit (let ⟨mm,h1,_⟩:=(G.T.seer hi).mods;⟨mm,h1⟩) hg hobj hints (O0 hlen hn2) hr hF hb (λH hO hS=>hsp w H a ns hlen hO hS) λH e s'=>hCX w H sg e s'
def walk_ofK{l:W.OpenLaw}{n k:Nat}{q:Pr}{loose:ci}{XP:(OG->Option OB)->OY->Prop}{YP:PJ->OY->Prop}{d:DefRec}{K:Params->OH}{CX:tH}{sp:OH->Sp}{x:OG}
  (hi:importsNone q=true)(hn:l.most=some n)(hn2:n<=sizeLine)(hdf:d.params.defaults=[])(hr:dA k callerA)
  (hY:∀(w:PJ) (h:OY),YP w h->(K w.params).In h)
  (F:∀(w:PJ) (mg:OG->Option OB) (fa:OE) (h:OY),(K w.params).In h->h.Ns O6 mg->mg d.name=some (.ref fa) ->
   ∃fd:Pz,(∀(s:OI) (u:OB),BindsTo s fd ⟨[u],[]⟩ [(x,u)]) /\
    ∀base:OY,(K w.params).In base->base.Ns O6 mg->gq l.prog w (K w.params) mg base CX k fa fd [x] (sp (K w.params)))
  (hsp:∀(K:OH) (H:Hp) (a:OE) (ns:List Int),ns.length<=n->Hr H->gL K H a (ns.map V.int)->sp K [.ref a] H (λv _=>v=.bl true) λ_ _ _=>False)
  (hCX:∀(H:Hp) (s:OI) (e:OB) (s':OI),CX [] H s (λ_ _ _=>False) e s'->False) :
  W.WalkO q loose XP YP l.row.toRowW d [] (λf vs=>PySem.call f vs) :=
 E1 (K:=K) (CX:=λ_=>CX) (sp:=λw=>sp (K w.params)) hi hn hn2 hdf hr hY F (λw H a ns h1 h2 h3=>hsp (K w.params) H a ns h1 h2 h3) λ_ H s e s'=>hCX H s e s'
def zi(s:Qe)(j:Nat):Qe:=match s with
 |.ClassDef _ _ _ body _ _ _ _ _ _ _=>body.getD j (.Pass ⟨0,0,0,0⟩)
 |_=>.Pass ⟨0,0,0,0⟩
def defArgs(s:Qe):Arguments:=match s with
 |.FunctionDef _ a _ _ _ _ _ _ _ _=>a
 |_=>{ posonlyargs:=[],args:=[],vararg:=none,kwonlyargs:=[],kw_defaults:=[],kwarg:=none,defaults:=[] }
def defBody(s:Qe):List Qe:=match s with
 |.FunctionDef _ _ b _ _ _ _ _ _ _=>b
 |_=>[]
def defScope(s:Qe):RG:=match s with
 |.FunctionDef _ _ _ _ _ _ sc _ _ _=>sc
 |_=>{ kind:=.function,names:=[],isGenerator:=false,isCoroutine:=false }
abbrev CX0:tH:=λ_ _ _ _ _ _=>False
abbrev E0:XK:=λ_ _ _=>False
def HH{X:Cx}:iO CX0 X E0:=λ_ _ _ _ _ _ _ h=>h.elim
structure zT (K:OH) (x qual:OG) (st:Qe) (f:OE) (fd:Pz):Prop where
 ex:∃(oc:OB) (od:Option OE) (kV doc pm:OB) (an:Option OE) (cdv ct:OB) (osl:Array (Option OB)),
  fd=Ru x qual (defArgs st) (defBody st) (defScope st) .none kV doc pm an cdv ct/\K.lookup f=some ⟨oc,od,.func fd,osl⟩/\Td K cdv qual=true
 kp:Rc K (.ref f)=true
section
variable {P:Pr}{w:PJ}{K:OH}{mg:OG->Option OB}{base:OY}
def zT.ok{x qual:OG}{st:Qe}{f:OE}{fd:Pz}{N ps:ci}{k:Nat}{sp:Sp}(F:zT K x qual st f fd)(S:fH N ps (defScope st))(len:∀vs H Q E,sp vs H Q E->vs.length=ps.length)
  (hbody:∀(cdv:OB) (A:Px) (outer:List Env) (s:OI) (H:Hp) (vs:al) (Q:VK) (E:XK),dA k (A.deeper (envOfC qual (defScope st) s.heap.objs.size f cdv))->sp vs H Q E ->
   ∃t,rP (gh CX0 P w K mg base N qual (defScope st) f cdv A outer s H E).nox (defBody st) t/\t { nx:=λ_ H'=>Q .non H',rt:=Q } (start N vs) H):gq P w K mg base CX0 (k+1) f fd ps sp:=by
 obtain⟨oc,od,kV,doc,pm,an,cdv,ct,osl,rfl,lk,hcd⟩:=F.ex;refine HW lk hcd S len λA outer s H vs Q E hr hsp=>?_;obtain⟨t,h,q⟩:=hbody cdv A outer s H vs Q E hr hsp;exact⟨t,h.nox,q⟩
def zT.binds{x qual:OG}{st:Qe}{f:OE}{fd:Pz}{ps:ci}(F:zT K x qual st f fd)
  (h:∀(kV doc pm:OB) (an:Option OE) (cdv ct:OB) (us:List OB),us.length=ps.length->bindArgs (Ru x qual (defArgs st) (defBody st) (defScope st) .none kV doc pm an cdv ct) ⟨us,[]⟩=pure (ps.zip us)):gk K fd ps []:=by
 obtain⟨oc,od,kV,doc,pm,an,cdv,ct,osl,rfl,lk,hcd⟩:=F.ex;exact .all (h kV doc pm an cdv ct)
def qt{x qual:OG}{st:Qe}{f:OE}{oc:OB}{od an:Option OE}{osl:Array (Option OB)}{kV doc pm cdv ct:OB}(l:K.lookup f=some ⟨oc,od,.func (Ru x qual (defArgs st) (defBody st) (defScope st) .none kV doc pm an cdv ct),osl⟩)
  (c:Td K cdv qual=true)(k:Rc K (.ref f)=true):zT K x qual st f (Ru x qual (defArgs st) (defBody st) (defScope st) .none kV doc pm an cdv ct):=⟨⟨oc,od,kV,doc,pm,an,cdv,ct,osl,rfl,l,c⟩,k⟩
end
def aG(H H':Hp):Prop:=∀b o,H b=some o->H' b=some o
def aG.refl(H:Hp):aG H H:=λ_ _ h=>h
def aG.trans{H H1 H2:Hp}(a:aG H H1)(b:aG H1 H2):aG H H2:=λc o h=>b c o (a c o h)
def aG.free{H H':Hp}(e:aG H H'){l:OE}(h:H' l=Option.none):H l=Option.none:=by
 cases q:H l with
 |none=>rfl
 |some o=>
  rw[e l o q]at h;cases h
end L2
namespace DL
open PySem PySem.Spec PySem.Calls PySem.W PyProof.Rows Builtin Builtin.ObjectAttr Builtin.Getset_descriptor
section
variable {prog:Pr}{w:PJ}{A:Px}{E:OB->OI->Prop}{h:OY}{g:Array GenState}{d:Drawn}{t:Nat}{os:OsState}{a C:OE}{o:Obj}{K:Frag}
structure mV (K:Frag) (C:OE):Prop where
 cls:findIn K (.ref C) "__class__"=some (some (.builtin "object.__class__"))
 ga:findIn K (.ref C) "__getattribute__"=some (some (.builtin "BaseException.__getattribute__"))
 gt:findIn K (.ref C) "__getattr__"=some none
 ob:mroIn K C (.type "object")=some true
 be:subIn K (.ref C) (.type "BaseException")=some true
def Ir{R:SD->OI->Prop}{tp:OB}(X:K.In h)(Z:mV K C)(hx:h.get? a=some o)(hc:o.cls=.ref C)(hq:R (.ok (.ret (.ref C))) ⟨h,g,d,t,os⟩) :
  Q9 (O2 prog w) A (.call (.builtin "getset_descriptor.__get__") ⟨[.builtin "object.__class__",.ref a,tp],[]⟩) R ⟨h,g,d,t,os⟩:=by
 have L0:Looks (O2 prog w) h (typeOf (.ref a)) (.ref C):=hc▸(Looks.ld hx).andThen .now;have L1:=looks_mroIn (M:=O2 prog w) X Z.ob;refine codeAny_call_builtin KF.slot_gs.plain KF.entry_gs (KF.slot_gs.check _ _ _ _ _ _ _ _ KF.type_class (KF.args_gs _ _ _) ?_);unfold Builtin.«getset_descriptor.__get__» descrGet;rw[dga_obj];refine OM (Pc ?_);unfold descrGetter descrCheckInstance descrNameAndClass isInstance;simp only[KF.owner_class]
 repeat lk
 refine⟨SN _ (by decide +kernel),codeAny_builtin KF.entry_class ?_⟩;unfold Builtin.«object.__class__» shownTypeOf
 repeat lk
 exact hq
def u4{M:Model}{nameV:OB}{Q:Unit->OI->Prop}(X:K.In h)(Z:mV K C)(hx:h.get? a=some o)(hc:o.cls=.ref C)(hq:Q () ⟨h,g,d,t,os⟩):O7 M A (checkBuiltinCall "BaseException.__getattribute__" ⟨[.ref a,nameV],[]⟩) Q E ⟨h,g,d,t,os⟩:=by
 have hk:builtinKind "BaseException.__getattribute__"=some .slot:=by decide +kernel
 have hsplit:splitId "BaseException.__getattribute__"=some ("BaseException","__getattribute__"):=by decide +kernel
 have ha:=F.args_bexc_ga (.ref a) nameV;have LS:Looks M h (isSubtype (.ref C) (.type "BaseException")) true:=looks_subIn X Z.be;simp only[checkBuiltinCall,hk,hsplit];refine OM ?_
 .unfold isInstance
  repeat (first|(with_reducible refine Qr hx ?_;rw[hc])|(with_reducible refine LS.at ?_)|wp_step)
  exact hq
def BA{tk:Tok}{Q:Fin->OI->Prop}(X:K.In h)(Z:mV K C)(hx:h.get? a=some o)(hc:o.cls=.ref C)(hq:Q (.done (.ret (.ref C))) ⟨h,g,d,t,os⟩) :
  O7 (O2 prog w) A (Builtin.«object.__getattribute__» ⟨[.ref a,.str "__class__" tk],[]⟩) Q E ⟨h,g,d,t,os⟩:=by
 have hT5:(⟨h,g,d,t,os⟩:OI).TypeIs (.builtin "object.__class__") "getset_descriptor":=Uh;have f5:=Uh;have f6:=F.slot_gs_get.lookup;have f7:=F.slot_gs_set.lookup;have LC:Looks (O2 prog w) h (RH (.ref C) "__class__") (some (.builtin "object.__class__")):=looks_findIn X Z.cls
 repeat (any_goals (first|assumption|(with_reducible refine Qr hx ?_;rw[hc])|(with_reducible refine LC.at ?_)|wp_step))
 refine Ir X Z hx hc ?_
 repeat (any_goals (first|assumption|wp_step))
def EV{tk:Tok}{R:SD->OI->Prop}(X:K.In h)(Z:mV K C)(hx:h.get? a=some o)(hc:o.cls=.ref C)(hq:R (.ok (.ret (.ref C))) ⟨h,g,d,t,os⟩) :
  Q9 (O2 prog w) A (.call (.builtin "BaseException.__getattribute__") ⟨[.ref a,.str "__class__" tk],[]⟩) R ⟨h,g,d,t,os⟩ :=
 codeAny_call_builtin R8.ga.plain F.entry_bexc_ga (u4 X Z hx hc (BA X Z hx hc hq))
def KU{tk:Tok}{Q:OB->OI->Prop}(X:K.In h)(Z:mV K C)(hx:h.get? a=some o)(hc:o.cls=.ref C)(hq:Q (.ref C) ⟨h,g,d,t,os⟩) :
  O7 (O2 prog w) A (getAttrBy (.ref a) (.str "__class__" tk) false) Q E ⟨h,g,d,t,os⟩:=by
 have f3:=R8.ga.bind (.ref a);have hx2:(Q8 "BaseException.__getattribute__"==Q8 "object.__getattribute__")=false:=by decide +kernel
 have hx1:(onTheHeap (Pq C)&&Q8 "BaseException.__getattribute__"==Q8 "object.__getattribute__")=false:=by rw[hx2];rfl
 have L1:Looks (O2 prog w) h (RH (.ref C) "__getattribute__") (some (.builtin "BaseException.__getattribute__")):=looks_findIn X Z.ga;have L2:Looks (O2 prog w) h (RH (.ref C) "__getattr__") none:=looks_findIn X Z.gt
 repeat (any_goals (first|assumption|(with_reducible refine Qr hx ?_;rw[hc])|(with_reducible refine L1.at ?_)|(with_reducible refine L2.at ?_)|wp_step))
 refine EV X Z hx hc ?_
 repeat (any_goals (first|assumption|wp_step))
def EW{Q:Option OB->OI->Prop}(X:K.In h)(Z:mV K C)(hx:h.get? a=some o)(hc:o.cls=.ref C)(hq:Q (some (.ref C)) ⟨h,g,d,t+1,os⟩):O7 (O2 prog w) A (getAttr? (.ref a) "__class__") Q E ⟨h,g,d,t,os⟩:=by
 unfold getAttr? getAttrBy?
 repeat (any_goals (first|assumption|with_reducible apply KU X Z hx hc|wp_step))
end
def wR(a C:OE)(dc:Option OE):OY->Prop:=λh=>∃o vs,h.get? a=some o/\o.cls=.ref C/\o.data=.fields vs/\o.dict=dc
def qj{K:Frag}{a C:OE}{dc:Option OE}(Z:mV K C)(hC:(clsIn K C).isSome=true):KitX K (.ref a) (.ref C) (wR a C dc) where
 ty:=λ_ _ _ ⟨o,_,h1,h2,_⟩=>h2▸(Looks.ld h1).andThen .now
 it:=λ_ _ X _=>by
  obtain⟨cd,hcD⟩:=R9.mp hC;unfold clsIn at hcD;split at hcD
  .rename_i c' d' cd' sl' ho
   intro A' Q' E' s' k q;unfold isType loadHead;exact OM (wpAny_loadPart (k _ _ (X _ _ ho)) (Pc q))
  .cases hcD
 ne:=λh tp dd its n sl X htp=>by
  obtain⟨cd,hcD⟩:=R9.mp hC;refine Bool.eq_false_iff.mpr λq=>?_;have e:C=tp:=Pq.inj (beq_iff_eq.mp q);subst e;unfold clsIn at hcD;split at hcD
  .rename_i c' d' cd' sl' ho
   have z:=(X _ _ ho).symm.trans htp;cases z
  .cases hcD
 ca:=λ{_ _ _ _ _ s} X ⟨o,_,h1,h2,_⟩ k=>by
  obtain⟨h,g,d,t,os⟩:=s;exact EW X Z h1 h2 k
def mV.isCls{K:Frag}{C:OE}(Z:mV K C):(clsIn K C).isSome=true:=by
 obtain⟨cd,a,b⟩:=TN.mp Z.ob;rw[a];rfl
def ia:List String:=["NoneType","bool","int","str","tuple","list","dict"]
structure XC (K:Frag) (x:OG) (C:OE):Prop where
 ns:nsIn K O6 x=some (some (.ref C))
 ek:mV K C
 bt:∀T∈ia,kitOne K (.ref C) (.type T)=some false
end DL
namespace DL
open PySem PySem.Spec PyProof.Rows L2
def qC(o:Obj)(f:Array OB->Array OB):(o.mapFields f).dict=o.dict:=by unfold Obj.mapFields;split<;>rfl
def lZ(h:OY)(e:OE)(dc:Option OE):Prop:=∃o,h.get? e=some o/\o.dict=dc/\(dc≠none->∃vs,o.data=.fields vs/\vs[2]?=some .none)
section
variable {M:Model}{A:Px}{E:OB->OI->Prop}{s:OI}{base:OY}{env:P7}{outer l:List P7}{L e:OE}{cls a0 fl:OB}{dc:Option OE}{Q:Unit->OI->Prop}
def wb{oe:Obj}{vs:Array OB}{head:OB}{b0:Bool}(hfr:A.frames=some (env::outer))(hl:s.heap.FunFrames base (env::outer))(hf:env.frame=some L)(he:s.heap.get? e=some oe)(kb:base.StaysIn s.heap)(hen:base.get? e=none)(hd:oe.data=.fields vs)(hz:1<vs.size)(h0:vs[0]?=some a0)(hx:oe.dict≠none->vs[2]?=some .none)
  (h:∀h',Us base (env::outer) e oe.cls a0 (rawInt L) s.heap h'->lZ h' e oe.dict->Q () { s with heap:=h' }) :
  O7 M A (do
   let a ←frameOf env
   let pl ←entryPlaceOf L b0
   let b ←Uw head a .none (rawInt L) .none pl
   setField (.ref e) 1 b) Q E s:=by
 have nf:e∉(env::outer).filterMap (·.frame):=λhm=>by
  obtain⟨_,o,ho,q⟩:=hl.mem hm;rw[he]at ho;cases ho;exact q vs hd
 refine OM (wpAny_frameOf_fun hfr hl hf λg ⟨_,same,slots⟩=>OM (wpAny_entryPlaceOf λpl hpl=>?_));have ge:g.get? e=some oe:=(same e nf).trans he;have up:∀(N:Obj) (f:Obj->Obj) (b:OE) (o:Obj),b≠e->g.get? b=some o->((g.push N).update e f).get? b=some o:=λN f b o hb q=>(QE _ _ (Py hb)).trans (OK _ q);have ne:∀b o,s.heap.get? b=some o->(∀vs,o.data≠.fields vs)->b≠e:=λb o q z c=>by subst c;rw[he]at q;cases q;exact z vs hd
 have kg:base.StaysIn g:=λb o q=>(same b λhm=>by rw[(hl.mem hm).1]at q;cases q).trans (kb b o q);unfold Uw newFields;refine OM (wpAny_newObj_type ?_ (hpl.sizeOk5 _ _ _ _ _));have d3:=SE hd (·.setIfInBounds 1 (Pq g.objs.size));have hTe:g.objs.size≠e:=Nat.ne_of_gt (O1 ge);have at_e:∀N:Obj,((g.push N).update e (Obj.mapFields (·.setIfInBounds 1 (Pq g.objs.size)))).get? e=some (oe.mapFields (·.setIfInBounds 1 (Pq g.objs.size))):=λN=>QI _ (OK _ ge) (Ug d3);refine wpAny_setField (OK _ ge) hd hz (h _ ⟨λb o q=>up _ _ b o (λc=>by subst c;rw[hen]at q;cases q) (kg b o q),hl.of_keeps λb o q z=>?_,?_,λb o q z=>?_⟩ ⟨_,at_e _,qC _ _,λz=>⟨_,d3,by rw[S0 (by decide)];exact hx z⟩⟩)
 .obtain⟨sl,x⟩:=slots b o q
  exact⟨_,up _ _ b _ (ne b o q z) x,rfl⟩
 .refine⟨_,_,g.objs.size,_,_,at_e _,⟨Obj.cls_mapFields _ _,?_⟩,d3,?_,kg.fresh,hTe,(QE _ _ (Py hTe)).trans (Pu g rfl),rfl,?_⟩
  .rw[S0 (by decide)];exact h0
  .simp[hz]
  .first|(simp;done)|(rcases hpl with rfl|⟨_,_,_,_,_,_,_,rfl⟩<;>simp)
 .obtain⟨sl,x⟩:=slots b o q
  exact⟨sl,up _ _ b _ (ne b o q z) x⟩
def Dw{oe:Obj}{vs:Array OB}(hfr:A.frames=some (env::outer))(hl:s.heap.FunFrames base (env::outer))(hf:env.frame=some L)(he:s.heap.get? e=some oe)(kb:base.StaysIn s.heap)(hen:base.get? e=none)(hd:oe.data=.fields vs)(h1:vs[1]?=some .none)(h0:vs[0]?=some a0)(hx:oe.dict≠none->vs[2]?=some .none)
  (h:∀h',Us base (env::outer) e oe.cls a0 (rawInt L) s.heap h'->lZ h' e oe.dict->Q () { s with heap:=h' }):O7 M A (noteFrame (.ref e) env) Q E s:=by
 unfold noteFrame;simp only[hf];refine OM (wpAny_field he hd h1 ?_);rw[if_neg (by decide)];exact wb hfr hl hf he kb hen hd (Ri.mp h1).1 h0 hx h
def Gm(hfr:A.frames=some (env::outer))(hl:s.heap.FunFrames base (env::outer))(hf:env.frame=some L)(ht:s.heap.TracedW base e cls a0)(hc:lZ s.heap e dc)(kb:base.StaysIn s.heap)(hen:base.get? e=none)
  (h:∀h',Us base (env::outer) e cls a0 (rawInt L) s.heap h'->lZ h' e dc->Q () { s with heap:=h' }):O7 M A (noteFrame (.ref e) env) Q E s:=by
 obtain⟨oe,vs,T,oT,ts,he,⟨rfl,h0⟩,hd,h1,hnT,hTe,hT,dT,h3⟩:=ht;obtain⟨o',q,rfl,cx⟩:=hc;rw[he]at q;cases q;have hx:oe.dict≠none->vs[2]?=some .none:=λz=>by
  obtain⟨vs',d',g⟩:=cx z;rw[hd]at d';cases d';exact g
 have oth:∀(f:Obj->Obj) (b:OE),b≠T->(s.heap.update T f).get? b=s.heap.get? b:=λf b hb=>QE _ _ (Py hb);have ne:∀b o,s.heap.get? b=some o->(∀vs,o.data≠.fields vs)->b≠T:=λb o q z c=>by subst c;rw[hT]at q;cases q;exact z ts dT
 unfold noteFrame;simp only[hf];refine OM (wpAny_field he hd h1 ?_);rw[if_pos (by simp)];refine OM (wpAny_field hT dT h3 ?_);rw[if_neg (by simp[rawInt])];refine OM (wpAny_setField hT dT (Ri.mp h3).1 ?_);refine wb hfr (hl.of_keeps λb o q z=>⟨o,(oth _ b (ne b o q z)).trans q,rfl⟩) hf ((oth _ e (Py hTe)).trans he) (λb o q=>(oth _ b λc=>by subst c;rw[hnT]at q;cases q).trans (kb b o q)) hen hd (Ri.mp h1).1 h0 hx λh' ⟨x1,x2,x3,x4⟩ x5=>h h' ⟨x1,x2,x3,λb o q z=>x4 b o ((oth _ b (ne b o q z)).trans q) z⟩ x5
def nD(kb:base.StaysIn s.heap)(hl:s.heap.FunFrames base l)(ht:s.heap.TracedAtW base e cls a0 fl)(hc:lZ s.heap e dc)
  (h:∀h',base.StaysIn h'->h'.FunFrames base l->h'.TracedW base e cls a0->(∀b o,s.heap.get? b=some o->(∀vs,o.data≠.fields vs)->h'.get? b=some o)->lZ h' e dc->Q () { s with heap:=h' }):O7 M A (setFlight (.ref e) none) Q E s:=by
 obtain⟨oe,vs,T,oT,ts,he,hcl,hd,h1,hnT,hTe,hT,dT,h3⟩:=ht;have z3:3<ts.size:=(Ri.mp h3).1;have oth:∀(f:Obj->Obj) (b:OE),b≠T->(s.heap.update T f).get? b=s.heap.get? b:=λf b hb=>QE _ _ (Py hb);have ne:∀b o,s.heap.get? b=some o->(∀vs,o.data≠.fields vs)->b≠T:=λb o q z c=>by subst c;rw[hT]at q;cases q;exact z ts dT
 unfold setFlight;refine OM (wpAny_field he hd h1 ?_);rw[if_pos (by simp)];obtain⟨o',q',rfl,cx⟩:=hc;refine wpAny_setField hT dT z3 (h _ (λb o q=>(oth _ b λc=>by subst c;rw[hnT]at q;cases q).trans (kb b o q)) (hl.of_keeps λb o q z=>⟨o,(oth _ b (ne b o q z)).trans q,rfl⟩) ?_ (λb o q z=>(oth _ b (ne b o q z)).trans q) ⟨o',(oth _ e (Py hTe)).trans q',rfl,cx⟩);exact⟨oe,vs,T,_,_,(oth _ e (Py hTe)).trans he,hcl,hd,h1,hnT,hTe,QI _ hT (Ug (SE dT _)),SE dT _,by simp[z3]⟩
def MJ(h:OY)(e:OE)(ox:Option OE):Prop:=∃dc,lZ h e dc/\(ox=none∨ox=dc)
def xX{oe:Obj}{vs:Array OB}(hfr:A.frames=some (env::outer))(hl:s.heap.FunFrames base (env::outer))(hf:env.frame=some L)(he:s.heap.get? e=some oe)(kb:base.StaysIn s.heap)(hen:base.get? e=none)(hd:oe.data=.fields vs)(h1:vs[1]?=some .none)(h0:vs[0]?=some a0)(hx:oe.dict≠none->vs[2]?=some .none)
  (h:∀h',RE base outer e oe.cls a0 h'->s.heap.UpToSlots h'->lZ h' e oe.dict->Q () { s with heap:=h' }):O7 M A (leaving env (.ref e)) Q E s:=by
 unfold leaving;refine OM (Dw hfr hl hf he kb hen hd h1 h0 hx λg ⟨k1,k2,k3,k4⟩ dg=>?_);refine nD (s:={ s with heap:=g }) k1 k2 k3 dg λh' m1 ⟨_,_,m2⟩ m3 m4 dh=>h h' ⟨m1,hen,m2,m3⟩ (λb o q z=>?_) dh;obtain⟨sl,x⟩:=k4 b o q z;exact⟨sl,m4 b _ x z⟩
def v7(hfr:A.frames=some (env::outer))(hf:env.frame=some L)(hfl:RE base (env::outer) e cls a0 s.heap)(hc:lZ s.heap e dc)
  (h:∀h',Heap.HeldW base (env::outer) e cls a0 L h'->s.heap.UpToSlots h'->lZ h' e dc->Q () { s with heap:=h' }):O7 M A (noteFrame (.ref e) env) Q E s:=by
 obtain⟨f1,f2,f3,f4⟩:=hfl;exact Gm hfr f3 hf f4 hc f1 f2 λg ⟨k1,k2,k3,k4⟩ dg=>h g ⟨k1,f2,k2,k3⟩ k4 dg
def wa(hh:Heap.HeldW base l e cls a0 L s.heap)(hc:lZ s.heap e dc)(h:∀h',RE base l e cls a0 h'->s.heap.UpToSlots h'->lZ h' e dc->Q () { s with heap:=h' }):O7 M A (setFlight (.ref e) none) Q E s:=by
 obtain⟨f1,f2,f3,f4⟩:=hh;exact nD f1 f3 f4 hc λh' k1 k2 k3 k4 k5=>h h' ⟨k1,f2,k2,k3⟩ (λb o q z=>⟨o.slots,k4 b o q z⟩) k5
def wc(hh:RE base l e cls a0 s.heap)(hc:lZ s.heap e dc)(h:∀h',RE base l e cls a0 h'->s.heap.UpToSlots h'->lZ h' e dc->Q () { s with heap:=h' }):O7 M A (setFlight (.ref e) none) Q E s:=by
 obtain⟨f1,f2,f3,f4⟩:=hh;exact nD f1 f3 f4.at hc λh' k1 k2 k3 k4 k5=>h h' ⟨k1,f2,k2,k3⟩ (λb o q z=>⟨o.slots,k4 b o q z⟩) k5
end
def KH:Pl->Bool
 |.Starred _ _=>false
 |_=>true
def aJ{e:Pl}{es:List Pl}{env:P7}(h:KH e=true):OJ (e::es) env=(false,eval e env)::OJ es env:=by
 cases e<;>first|(rw[OJ];intros;contradiction)|rw[OJ]|(cases h)
def jk{e:Pl}{env:P7}(h:KH e=true):OJ [e] env=[(false,eval e env)]:=by
 rw[aJ h,OJ]
theorem bA{env:P7}{pos:Pos}:∀{es:List Pl},es.all KH=true->(PK pos (OJ es env)).any (·.1)=false
 |[],_=>by rw[OJ];rfl
 |e::es,h=>by
  rw[QH,OR]at h;rw[aJ h.1];have:=bA (env:=env) (pos:=pos) h.2;show(false||(PK pos (OJ es env)).any (·.1))=false;rw[this];rfl
def iG{e:Pl}{env:P7}{pos:Pos}(h:KH e=true):((PK pos (OJ [e] env)).all (λx=>!x.1)&&(Ry pos (QF [] env)).all (λx=>x.1.isSome)
  &&decide ([e].length+([]:List QW).length+(if([]:List QW).isEmpty then 0 else 1)<30))=true:=by
 rw[jk h,QF];rfl
inductive Kd where
 |ins (c:OG) (ks:ci)|dint (ks:List Int)|exf (c:OG) (ks:ci)|pl
inductive D where
 |non|bl (b:Bool)|int (i:Int)|str (x:OG)|tup (xs:List D)|lst (xs:List D)|dic (ks:ci) (xs:List D)|exc (x:OG)|ob (k:Kd) (xs:List D)
abbrev ac:=List D
structure Ky (K:OH) (ks:ci) (C:OE):Prop where
 cls:Hu K C
 no:∀f∈ks,eH K C f
 gc:Qj K (.ref C) "__class__"=some (some (.builtin "object.__class__"))
 gn:R0 K (.builtin "object.__class__") "__get__"=some (some (.builtin "getset_descriptor.__get__"))
 tk:Tz K (.builtin "object.__class__")=some true
 mo:TV K C (.type "object")=some true
 bt:∀T∈ia,Ul K (.ref C) (.type T)=some false
noncomputable def yp(K:OH) (H:Hp):Kd->OE->al->Prop
 |.ins c ks,a,vs=>∃C dx,Qg K O6 c=some (some (.ref C))/\Ky K ks C/\H a=some (.ins C dx (ks.zip vs))/\ks.length=vs.length
 |.dint ks,a,vs=>∃kvs,Rd H a (.dK kvs)/\kvs=(ks.map R7).zip vs/\ks.length=vs.length
 |.exf c ks,a,vs=>∃C dx fs,XC K c C/\Rd H a (.ext (wR a C (some dx)))/\H dx=some (.xd fs)/\ks.length=vs.length/\∀(i:Nat) (f:OG) (v:V),ks[i]?=some f->vs[i]?=some v->fs.lookup f=some v
 |.pl,a,vs=>H a=some (.lst vs)
structure Ij where
 cls:OG
 flds:List (OG×D)
inductive ak (α:Type) where
 |ok (a:α)|exn (x:Ij)|stuck
def ak.bind{α β:Type}(r:ak α)(f:α->ak β):ak β:=match r with
 |.ok a=>f a
 |.exn x=>.exn x
 |.stuck=>.stuck
mutual
def Rep(K:OH)(H:Hp):D->V->Prop
 |.non,v=>v=.non
 |.bl b,v=>v=.bl b
 |.int i,v=>v=.int i
 |.str x,v=>v=.str x
 |.tup ds,v=>∃a vs,v=.ref a/\lA K H a vs/\Reps K H ds vs
 |.lst ds,v=>∃a vs,v=.ref a/\gL K H a vs/\Reps K H ds vs
 |.dic ks ds,v=>∃a kvs vs,v=.ref a/\Rd H a (.dK kvs)/\kvs=(ks.map RM).zip vs/\ks.length=vs.length/\Reps K H ds vs
 |.exc x,v=>∃a C dc,v=.ref a/\XC K x C/\Rd H a (.ext (wR a C dc))
 |.ob k ds,v=>∃a vs,v=.ref a/\yp K H k a vs/\Reps K H ds vs
def Reps(K:OH)(H:Hp):ac->al->Prop
 |[],vs=>vs=[]
 |d::ds,vs=>∃v r,vs=v::r/\Rep K H d v/\Reps K H ds r
end
def aG.rd{H H':Hp}(e:aG H H'){a:OE}{o:HO}(h:Rd H a o):Rd H' a o:=by
 rcases h with h|⟨o',h⟩
 .exact .inl (e _ _ h)
 .exact .inr ⟨o',e _ _ h⟩
def aG.sqT{K:OH}{H H':Hp}(e:aG H H'){a:OE}{xs:al}(h:lA K H a xs):lA K H' a xs:=by
 rcases h with h|h
 .exact .inl (aG.rd e h)
 .exact .inr h
def aG.sqL{K:OH}{H H':Hp}(e:aG H H'){a:OE}{xs:al}(h:gL K H a xs):gL K H' a xs:=by
 rcases h with h|h
 .exact .inl (aG.rd e h)
 .exact .inr h
theorem yp.mono{K:OH}{H H':Hp}(e:aG H H'):∀{k:Kd}{a:OE}{vs:al},yp K H k a vs->yp K H' k a vs
 |.ins c ks,a,vs,⟨C,dx,h0,h1,h2,h3⟩=>⟨C,dx,h0,h1,e _ _ h2,h3⟩
 |.dint ks,a,vs,⟨kvs,h1,h2,h3⟩=>⟨kvs,aG.rd e h1,h2,h3⟩
 |.exf c ks,a,vs,⟨C,dx,fs,h1,h2,h3,h4⟩=>⟨C,dx,fs,h1,aG.rd e h2,e _ _ h3,h4⟩
 |.pl,a,vs,h=>e _ _ h
mutual
theorem Rep.mono{K:OH}{H H':Hp}(e:aG H H'):∀{d:D}{v:V},Rep K H d v->Rep K H' d v
 |.non,_,h=>by unfold Rep at h ⊢;exact h
 |.bl _,_,h=>by unfold Rep at h ⊢;exact h
 |.int _,_,h=>by unfold Rep at h ⊢;exact h
 |.str _,_,h=>by unfold Rep at h ⊢;exact h
 |.tup ds,_,h=>by
  unfold Rep at h ⊢;obtain⟨a,vs,e1,e2,e3⟩:=h;exact⟨a,vs,e1,aG.sqT e e2,Reps.mono e e3⟩
 |.lst ds,_,h=>by
  unfold Rep at h ⊢;obtain⟨a,vs,e1,e2,e3⟩:=h;exact⟨a,vs,e1,aG.sqL e e2,Reps.mono e e3⟩
 |.dic ks ds,_,h=>by
  unfold Rep at h ⊢;obtain⟨a,kvs,vs,e1,e2,e3,e4,e5⟩:=h;exact⟨a,kvs,vs,e1,aG.rd e e2,e3,e4,Reps.mono e e5⟩
 |.exc x,_,h=>by
  unfold Rep at h ⊢;obtain⟨a,C,dc,e1,e2,e3⟩:=h;exact⟨a,C,dc,e1,e2,aG.rd e e3⟩
 |.ob k ds,_,h=>by
  unfold Rep at h ⊢;obtain⟨a,vs,e1,e2,e3⟩:=h;exact⟨a,vs,e1,e2.mono e,Reps.mono e e3⟩
theorem Reps.mono{K:OH}{H H':Hp}(e:aG H H'):∀{ds:ac}{vs:al},Reps K H ds vs->Reps K H' ds vs
 |[],_,h=>by unfold Reps at h ⊢;exact h
 |d::ds,_,h=>by
  unfold Reps at h ⊢;obtain⟨v,r,e1,e2,e3⟩:=h;exact⟨v,r,e1,Rep.mono e e2,Reps.mono e e3⟩
end
section
variable {K:OH}{H:Hp}{v:V}{vs:al}{d:D}{ds:ac}
def aR:Rep K H .non v↔v=.non:=by unfold Rep;exact Tc
def aE{b}:Rep K H (.bl b) v↔v=.bl b:=by unfold Rep;exact Tc
def az{i}:Rep K H (.int i) v↔v=.int i:=by unfold Rep;exact Tc
def Rep.str_iff{x}:Rep K H (.str x) v↔v=.str x:=by unfold Rep;exact Tc
def aM:Rep K H (.tup ds) v↔∃a vs,v=.ref a/\lA K H a vs/\Reps K H ds vs:=by rw[Rep]
def aF:Rep K H (.lst ds) v↔∃a vs,v=.ref a/\gL K H a vs/\Reps K H ds vs:=by rw[Rep]
def gX{x}:Rep K H (.exc x) v↔∃a C dc,v=.ref a/\XC K x C/\Rd H a (.ext (wR a C dc)):=by rw[Rep]
def cz{k}:Rep K H (.ob k ds) v↔∃a vs,v=.ref a/\yp K H k a vs/\Reps K H ds vs:=by rw[Rep]
def Rep.exf_exc{c:OG}{ks:ci}(h:Rep K H (.ob (.exf c ks) ds) v):Rep K H (.exc c) v:=by
 obtain⟨a,vs,e,⟨C,dx,fs,h1,h2,_⟩,_⟩:=cz.mp h;exact gX.mpr ⟨a,C,some dx,e,h1,h2⟩
def Reps.nil_iff:Reps K H [] vs↔vs=[]:=by unfold Reps;exact Tc
def aD:Reps K H (d::ds) vs↔∃v r,vs=v::r/\Rep K H d v/\Reps K H ds r:=by rw[Reps]
def Reps.nil:Reps K H [] []:=Reps.nil_iff.mpr rfl
def Reps.cons(h:Rep K H d v)(h':Reps K H ds vs):Reps K H (d::ds) (v::vs):=aD.mpr ⟨_,_,rfl,h,h'⟩
end
theorem Reps.length{K:OH}{H:Hp}:∀{ds:ac}{vs:al},Reps K H ds vs->ds.length=vs.length
 |[],_,h=>by rw[Reps.nil_iff.mp h];rfl
 |d::ds,_,h=>by
  obtain⟨v,r,rfl,_,h⟩:=aD.mp h;simp[Reps.length h]
theorem Reps.get{K:OH}{H:Hp}:∀{ds:ac}{vs:al}{i:Nat}{d:D},Reps K H ds vs->ds[i]?=some d->∃v,vs[i]?=some v/\Rep K H d v
 |[],_,_,_,h,e=>by simp at e
 |x::ds,_,0,d,h,e=>by
  obtain⟨v,r,rfl,h1,_⟩:=aD.mp h;simp at e;subst e;exact⟨v,rfl,h1⟩
 |x::ds,_,i+1,d,h,e=>by
  obtain⟨v,r,rfl,_,h2⟩:=aD.mp h;obtain⟨u,e1,e2⟩:=Reps.get (i:=i) h2 (by simpa using e);exact⟨u,by simpa using e1,e2⟩
theorem Reps.app{K:OH}{H:Hp}:∀{ds es:ac}{vs us:al},Reps K H ds vs->Reps K H es us->Reps K H (ds++es) (vs++us)
 |[],_,_,_,h,h'=>by rw[Reps.nil_iff.mp h];exact h'
 |d::ds,_,_,_,h,h'=>by
  obtain⟨v,r,rfl,h1,h2⟩:=aD.mp h;exact Reps.cons h1 (Reps.app h2 h')
theorem Reps.take{K:OH}{H:Hp}:∀{ds:ac}{vs:al}(n:Nat),Reps K H ds vs->Reps K H (ds.take n) (vs.take n)
 |_,_,0,_=>by simp;exact Reps.nil
 |[],_,n+1,h=>by rw[Reps.nil_iff.mp h];exact Reps.nil
 |d::ds,_,n+1,h=>by
  obtain⟨v,r,rfl,h1,h2⟩:=aD.mp h;exact Reps.cons h1 (Reps.take n h2)
theorem Reps.drop{K:OH}{H:Hp}:∀{ds:ac}{vs:al}(n:Nat),Reps K H ds vs->Reps K H (ds.drop n) (vs.drop n)
 |_,_,0,h=>by simpa using h
 |[],_,n+1,h=>by rw[Reps.nil_iff.mp h];exact Reps.nil
 |d::ds,_,n+1,h=>by
  obtain⟨v,r,rfl,h1,h2⟩:=aD.mp h;exact Reps.drop n h2
theorem tw{K:OH}{H:Hp}:∀(ns:List Int),Reps K H (ns.map D.int) (ns.map V.int)
 |[]=>Reps.nil
 |n::r=>Reps.cons (az.mpr rfl) (tw r)
structure br (H Ha H' Ha':Hp):Prop where
 s:aG H H'
 z:aG Ha Ha'
 sub:aG Ha' H'
 nw:∀a,Ha' a≠none->Ha a=none->H a=none
def br.refl{H Ha:Hp}(h:aG Ha H):br H Ha H Ha:=⟨aG.refl _,aG.refl _,h,λa h1 h2=>absurd h2 h1⟩
theorem br.trans{H Ha H1 H01 H2 H02:Hp}(a:br H Ha H1 H01)(b:br H1 H01 H2 H02):br H Ha H2 H02 :=
 ⟨a.s.trans b.s,a.z.trans b.z,b.sub,λx h1 h2=>by
  cases q:H01 x with
  |none=>exact a.s.free (b.nw x h1 q)
  |some o=>exact a.nw x (by rw[q];simp) h2⟩
def aS{H Ha:Hp}{p:OE}{o:HO}(hs:aG Ha H)(hp:H p=none):br H Ha (upd H p o) (upd Ha p o) :=
 ⟨same_new hp o,same_new (hs.free hp) o,λb u e=>by
  by_cases hb:b=p
  .subst hb;rw[ay]at e ⊢;exact e
  .rw[av hb]at e ⊢;exact hs _ _ e,λa h1 h2=>by
  by_cases hb:a=p
  .subst hb;exact hp
  .rw[av hb]at h1;exact absurd h2 h1⟩
where
 same_new {H:Hp}{p:OE}(h:H p=none) (o:HO):aG H (upd H p o):=λb u q=>by rw[av (bo q h)];exact q
inductive Sl where
 |no|sh (d:D)|ow (d:D)|ox (j:Nat) (ds:ac)|pt (a:OE)
abbrev Ev:=List Sl
abbrev am:=Ev->ak D
def gw(K:OH)(Ha:Hp)(σ:L2.St)(ρ:Ev):Prop:=∀(i:Nat) (d:D),ρ[i]?=some (.sh d)->∃v,σ[i]?=some (some v)/\Rep K Ha d v
def gw.mono{K:OH}{H H':Hp}{σ:L2.St}{ρ:Ev}(e:aG H H')(r:gw K H σ ρ):gw K H' σ ρ:=λi d h=>
 let ⟨v,h1,h2⟩:=r i d h
 ⟨v,h1,h2.mono e⟩
def wQ(K:OH)(H:Hp)(x:Ij)(C:OB)(ox:Option OE):Prop :=
 (∃c,C=.ref c/\XC K x.cls c)/\match ox with
  |none=>x.flds=[]
  |some a=>∃fs,H a=some (.xd fs)/\∀n d,x.flds.lookup n=some d->∃v,fs.lookup n=some v/\Rep K H d v
def post(K:OH)(E:XK)(H Ha:Hp)(r:ak D)(Q:VK):Prop:=match r with
 |.ok d=>∀v H' Ha',br H Ha H' Ha'->Rep K Ha' d v->Q v H'
 |.exn x=>∀C ox H' Ha',br H Ha H' Ha'->wQ K Ha' x C ox->E C ox H'
 |.stuck=>False
def sv(K:OH)(E:XK)(H Ha:Hp)(r:ak (ac))(Q:al->Hp->Prop):Prop:=match r with
 |.ok ds=>∀vs H' Ha',br H Ha H' Ha'->Reps K Ha' ds vs->Q vs H'
 |.exn x=>∀C ox H' Ha',br H Ha H' Ha'->wQ K Ha' x C ox->E C ox H'
 |.stuck=>False
def pO(K:OH)(E:XK)(H Ha:Hp)(r:ak D)(Q:Bool->Hp->Prop):Prop:=match r with
 |.ok (.bl b)=>∀H' Ha',br H Ha H' Ha'->Q b H'
 |.ok _=>False
 |.exn x=>∀C ox H' Ha',br H Ha H' Ha'->wQ K Ha' x C ox->E C ox H'
 |.stuck=>False
section
variable {K:OH}{E:XK}{H Ha H1 H01:Hp}
def post.grow{r:ak D}{Q:VK}(h:post K E H Ha r Q)(g:br H Ha H1 H01):post K E H1 H01 r Q:=by
 cases r with|ok d=>exact λv H' Ha' g'=>h v H' Ha' (g.trans g')|exn x=>exact λC ox H' Ha' g'=>h C ox H' Ha' (g.trans g')|stuck=>exact h
def sv.grow{r:ak (ac)}{Q:al->Hp->Prop}(h:sv K E H Ha r Q)(g:br H Ha H1 H01):sv K E H1 H01 r Q:=by
 cases r with|ok d=>exact λv H' Ha' g'=>h v H' Ha' (g.trans g')|exn x=>exact λC ox H' Ha' g'=>h C ox H' Ha' (g.trans g')|stuck=>exact h
def pO.grow{r:ak D}{Q:Bool->Hp->Prop}(h:pO K E H Ha r Q)(g:br H Ha H1 H01):pO K E H1 H01 r Q:=by
 cases r with
 |ok d=>
  cases d with|bl b=>exact λH' Ha' g'=>h H' Ha' (g.trans g')| _=>exact h
 |exn x=>exact λC ox H' Ha' g'=>h C ox H' Ha' (g.trans g')
 |stuck=>exact h
end
def tD(K:OH)(E:XK)(f:am):TE:=λσ H Q=>∃Ha ρ,aG Ha H/\gw K Ha σ ρ/\post K E H Ha (f ρ) Q
def NY(K:OH)(E:XK)(f:Ev->ak (ac)):TA:=λσ H Q=>∃Ha ρ,aG Ha H/\gw K Ha σ ρ/\sv K E H Ha (f ρ) Q
def KG(K:OH)(E:XK)(f:am):TT:=λσ H Q=>∃Ha ρ,aG Ha H/\gw K Ha σ ρ/\pO K E H Ha (f ρ) Q
structure DE (X:Cx) (E:XK) (e:Pl) (f:am):Prop where
 o:PE X e (tD X.K E f)
structure DA (X:Cx) (E:XK) (es:List Pl) (f:Ev->ak (ac)):Prop where
 o:PA X es (NY X.K E f)
structure DT (X:Cx) (E:XK) (e:Pl) (f:am):Prop where
 o:PT X e (KG X.K E f)
structure DW (X:Cx) (E:XK) (e:Pl) (f:am):Prop where
 o:PW X e (KG X.K E f)
section
variable {X:Cx}{E:XK}{e a b:Pl}{es:List Pl}{f g:am}{fa:Ev->ak (ac)}{pos:Pos}
def bb{t t':TE}(h:PE X e t)(w:∀σ H Q,t' σ H Q->t σ H Q):PE X e t':=λπ s σ H Q I q=>h π s σ H Q I (w σ H Q q)
def yQ{t t':TA}(h:PA X es t)(w:∀σ H Q,t' σ H Q->t σ H Q):PA X es t':=λpos π s σ H Q I q=>h pos π s σ H Q I (w σ H Q q)
def oZ{t t':TT}(h:PT X e t)(w:∀σ H Q,t' σ H Q->t σ H Q):PT X e t':=λπ s σ H Q I q=>h π s σ H Q I (w σ H Q q)
def yG{t t':TT}(h:PW X e t)(w:∀σ H Q,t' σ H Q->t σ H Q):PW X e t':=λwh π s σ H Q I q=>h wh π s σ H Q I (w σ H Q q)
def ag(i:Nat):am:=λρ=>match ρ[i]? with
 |some (.sh d)=>.ok d
 |_=>.stuck
def dC(d:D):am:=λ_=>.ok d
def Kl{i:Nat}{x:OG}(hN:X.N[i]?=some x)(hv:zO X.env.scope x)(hd:(x==("__debug__" : OG))=false:=by decide)(hcd:(x==("__classdict__" : OG))=false:=by decide):DE X E (.Name x pos) (ag i):=by
 refine⟨?_⟩;refine bb (jJ hN hv hd hcd) λσ H Q ⟨Ha,ρ,hs,hr,q⟩=>?_;unfold ag at q;cases e:ρ[i]? with
 |none=>rw[e]at q;exact q.elim
 |some s=>
  rw[e]at q;cases s with
  |sh d=>
   obtain⟨v,e1,e2⟩:=hr i d e;exact⟨v,e1,q v H Ha (br.refl hs) e2⟩
  |no|ow d|ox j ds|pt a=>exact q.elim
def ai{i j}:DE X E (.Constant (.int i) j pos) (dC (.int i)):=⟨bb pR λσ H Q ⟨Ha,ρ,hs,hr,q⟩=>q _ H Ha (br.refl hs) (az.mpr rfl)⟩
def eK{i j}:DE X E (.Constant (.bool i) j pos) (dC (.bl i)):=⟨bb LJ λσ H Q ⟨Ha,ρ,hs,hr,q⟩=>q _ H Ha (br.refl hs) (aE.mpr rfl)⟩
def df{j}:DE X E (.Constant .none j pos) (dC .non):=⟨bb xx λσ H Q ⟨Ha,ρ,hs,hr,q⟩=>q _ H Ha (br.refl hs) (aR.mpr rfl)⟩
def aB{x j}:DE X E (.Constant (.str x) j pos) (dC (.str x)):=⟨bb Jk λσ H Q ⟨Ha,ρ,hs,hr,q⟩=>q _ H Ha (br.refl hs) (Rep.str_iff.mpr rfl)⟩
def G9{x:OG}{v:V}{u:OB}{d:D}(hg:Gl X x)(hm:X.mg x=some u)(r:bX v u)(hr:∀H,Rep X.K H d v)(hd:(x==("__debug__" : OG))=false:=by decide):DE X E (.Name x pos) (dC d) :=
 ⟨bb (yM hg hm r hd) λσ H Q ⟨Ha,ρ,hs,hr',q⟩=>q _ H Ha (br.refl hs) (hr Ha)⟩
def aa(f g:am)(op:D->D->ak D):am:=λρ=>(f ρ).bind λx=>(g ρ).bind λy=>op x y
def bc(f:am)(op:D->ak D):am:=λρ=>(f ρ).bind op
def zQ(K:OH)(E:XK)(r:R2)(op:D->D->ak D):Prop:=∀(x y:D) (v u:V) (H Ha:Hp) (Q:VK),aG Ha H->Rep K Ha x v->Rep K Ha y u->post K E H Ha (op x y) Q->r v u H Q
def kS{r:R2}{op:D->D->ak D}(ho:zQ X.K E r op)(σ:L2.St)(H:Hp)(Q:VK)(h:tD X.K E (aa f g op) σ H Q):Lc r (tD X.K E f) (tD X.K E g) σ H Q:=by
 obtain⟨Ha,ρ,hs,hr,q⟩:=h;refine⟨Ha,ρ,hs,hr,?_⟩;unfold aa at q;cases e1:f ρ with
 |stuck|exn x=>rw[e1]at q;exact q
 |ok x=>
  rw[e1]at q;intro v H1 H01 g1 r1;refine⟨H01,ρ,g1.sub,hr.mono g1.z,?_⟩;replace q:post X.K E H Ha ((g ρ).bind λy=>op x y) Q:=q;replace q:=q.grow g1;cases e2:g ρ with
  |stuck|exn x=>rw[e2]at q;exact q
  |ok y=>
   rw[e2]at q;intro u H2 H02 g2 r2;exact ho x y v u H2 H02 Q g2.sub (r1.mono g2.z) r2 (post.grow (r:=op x y) q g2)
def qG{op:Operator}{r:R2}{o:D->D->ak D}(h:ib X (binaryOp op) r)(ho:zQ X.K E r o)(ha:DE X E a f)(hb:DE X E b g):DE X E (.BinOp a op b pos) (aa f g o) :=
 ⟨bb (HF h ha.o hb.o) (kS ho)⟩
def cN{op:CmpOp}{r:R2}{o:D->D->ak D}(h:ib X (PR op) r)(ho:zQ X.K E r o)(ha:DE X E a f)(hb:DE X E b g)(hm:behindInMarks op b=false):DE X E (.Compare a [op] [b] pos) (aa f g o) :=
 ⟨bb (FG h ha.o hb.o hm) (kS ho)⟩
def My{r:R2}{o:D->D->ak D}(h:EI X r)(ho:zQ X.K E r o)(ha:DE X E a f)(hb:DE X E b g)(hs:lp b):DE X E (.Subscript a b pos) (aa f g o) :=
 ⟨bb (yL h ha.o hb.o hs) (kS ho)⟩
def Oz(K:OH)(E:XK)(r:V->Hp->VK->Prop)(op:D->ak D):Prop:=∀(x:D) (v:V) (H Ha:Hp) (Q:VK),aG Ha H->Rep K Ha x v->post K E H Ha (op x) Q->r v H Q
def Mw{op:UnaryOp}{r:V->Hp->VK->Prop}{o:D->ak D}(h:MV X (unaryOp op) r)(ho:Oz X.K E r o)(ha:DE X E a f):DE X E (.UnaryOp op a pos) (bc f o):=by
 refine⟨?_⟩;refine bb (HE h ha.o) λσ H Q z9=>?_;obtain⟨Ha,ρ,hs,hr,q⟩:=z9;refine⟨Ha,ρ,hs,hr,?_⟩
 unfold bc at q;cases e1:f ρ with
 |stuck|exn x=>rw[e1]at q;exact q
 |ok x=>
  rw[e1]at q;intro v H1 H01 g1 r1;exact ho x v H1 H01 Q g1.sub r1 (post.grow (r:=o x) q g1)
def au:Ev->ak (ac):=λ_=>.ok []
def af(f:am)(fa:Ev->ak (ac)):Ev->ak (ac):=λρ=>(f ρ).bind λx=>(fa ρ).bind λxs=>.ok (x::xs)
def aj:DA X E [] au:=⟨yQ dR λσ H Q ⟨Ha,ρ,hs,hr,q⟩=>q [] H Ha (br.refl hs) Reps.nil⟩
def ae(ha:DE X E e f)(hr:DA X E es fa)(hs:OJ (e::es) X.env=(false,eval e X.env)::OJ es X.env:=by exact aJ rfl):DA X E (e::es) (af f fa):=by
 refine⟨?_⟩;refine yQ (cF ha.o hr.o hs) λσ H Q z9=>?_;obtain⟨Ha,ρ,hs,hr,q⟩:=z9;refine⟨Ha,ρ,hs,hr,?_⟩
 unfold af at q;cases e1:f ρ with
 |stuck|exn x=>rw[e1]at q;exact q
 |ok x=>
  rw[e1]at q;intro v H1 H01 g1 r1;refine⟨H01,ρ,g1.sub,hr.mono g1.z,?_⟩;replace q:sv X.K E H Ha ((fa ρ).bind λxs=>.ok (x::xs)) Q:=q;replace q:=q.grow g1;cases e2:fa ρ with
  |stuck|exn x=>rw[e2]at q;exact q
  |ok xs=>
   rw[e2]at q;intro us H2 H02 g2 r2;exact q (v::us) H2 H02 g2 (Reps.cons (r1.mono g2.z) r2)
def line:Nat:=1000000
def fV{n:Nat}(h:n<=line):n<=sizeLine:=O0 h (by decide)
def ao(fa:Ev->ak (ac))(m:ac->ak D):am:=λρ=>(fa ρ).bind m
def iR:ac->ak D:=λds=>if ds.length<=line then .ok (.tup ds) else .stuck
def cE:ac->ak D:=λds=>if ds.length<=line then .ok (.lst ds) else .stuck
def ll{m:ac->ak D}{r:al->Hp->VK->Prop}(ho:∀(ds:ac) (vs:al) (H Ha:Hp) (Q:VK),aG Ha H->Reps X.K Ha ds vs->post X.K E H Ha (m ds) Q->r vs H Q)
  (σ:L2.St)(H:Hp)(Q:VK)(h:tD X.K E (ao fa m) σ H Q):NY X.K E fa σ H λvs H1=>r vs H1 Q:=by
 obtain⟨Ha,ρ,hs,hr,q⟩:=h;refine⟨Ha,ρ,hs,hr,?_⟩;unfold ao at q;cases e1:fa ρ with
 |stuck|exn x=>rw[e1]at q;exact q
 |ok x=>
  rw[e1]at q;intro v H1 H01 g1 r1;exact ho x v H1 H01 Q g1.sub r1 (post.grow (r:=m x) q g1)
def gY{x1}(h:DA X E es fa):DE X E (.Tuple es x1 pos) (ao fa iR):=by
 refine⟨?_⟩;refine bb (uh h.o) (ll (r:=λxs H1 Q=>xs.length<=sizeLine/\∀p,H1 p=none->Q (.ref p) (upd H1 p (.tup xs))) λds vs H Ha Q hs hr q=>?_);unfold iR at q
 by_cases hl:ds.length<=line
 .rw[if_pos hl]at q
  refine⟨by rw[←hr.length];exact fV hl,λp hp=>q _ _ _ (aS hs hp) (aM.mpr ⟨p,vs,rfl,lA.of ay,hr.mono (aS hs hp).z⟩)⟩
 .rw[if_neg hl]at q;exact q.elim
def bx(h:DA X E es fa):DE X E (.List es pos) (ao fa cE):=by
 refine⟨?_⟩;refine bb (kq h.o) (ll (r:=λxs H1 Q=>xs.length<=sizeLine/\∀p,H1 p=none->Q (.ref p) (upd H1 p (.lst xs))) λds vs H Ha Q hs hr q=>?_);unfold cE at q
 by_cases hl:ds.length<=line
 .rw[if_pos hl]at q
  refine⟨by rw[←hr.length];exact fV hl,λp hp=>q _ _ _ (aS hs hp) (aF.mpr ⟨p,vs,rfl,gL.of ay,hr.mono (aS hs hp).z⟩)⟩
 .rw[if_neg hl]at q;exact q.elim
def spD(K:OH)(n:Nat)(m:ac->ak D):Sp:=λvs H Q E=>vs.length=n/\∃Ha ds,aG Ha H/\Reps K Ha ds vs/\post K E H Ha (m ds) Q
def Hd{CX:tH}{k n:Nat}{fn:OE}{fd:Pz}{ps:ci}{m:ac->ak D}{x:OG}{p:Pos}(F:gq X.prog X.w X.K X.mg X.base CX k fn fd ps (spD X.K n m))(hr:dA k X.A)(hg:Gl X x)(hm:X.mg x=some (.ref fn))
  (hk:Rc X.K (.ref fn)=true)(hb:gk X.K fd ps [])(hx:iO CX X E)(ha:DA X E (e::es) fa)(hn:(e::es).length=n:=by rfl)(hl:∀ρ ds,fa ρ=.ok ds->ds.length=(e::es).length)
  (hdb:(x==("__debug__" : OG))=false:=by decide)(he:OJ (e::es) X.env=(false,eval e X.env)::OJ es X.env:=by exact aJ rfl)(hpl:(PK pos (OJ es X.env)).any (·.1)=false:=by exact bA rfl) :
  DE X E (.Call (.Name x p) (e::es) [] pos) (ao fa m):=by
 refine⟨?_⟩;refine bb (yN F hr hg hm hk hb .nil hx ha.o hdb he hpl) λσ H Q h=>?_;obtain⟨Ha,ρ,hs,hr,q⟩:=h;refine⟨Ha,ρ,hs,hr,?_⟩;unfold ao at q;cases e1:fa ρ with
 |stuck|exn x=>rw[e1]at q;exact q
 |ok ds=>
  rw[e1]at q;intro v H1 H01 g1 r1;refine⟨?_,H01,ds,g1.sub,by simpa using r1,post.grow (r:=m ds) q g1⟩;have:=r1.length;have:=hl ρ ds e1;simp only[QN];omega
def Em{ρ:Ev}{ds:ac}(h:au ρ=.ok ds):ds.length=0:=by cases h;rfl
def nJ{ρ:Ev}{ds:ac}{n:Nat}(hr:∀es,fa ρ=.ok es->es.length=n)(h:af f fa ρ=.ok ds):ds.length=n+1:=by
 unfold af at h;cases e1:f ρ with
 |stuck|exn x=>rw[e1]at h;cases h
 |ok x=>
  rw[e1]at h;replace h:((fa ρ).bind λxs=>ak.ok (x::xs))=.ok ds:=h;cases e2:fa ρ with
  |stuck|exn x=>rw[e2]at h;cases h
  |ok xs=>
   rw[e2]at h;cases h;simp[hr xs e2]
def ki(X:Cx)(E:XK)(r:al->Hp->VK->Prop)(m:ac->ak D):Prop:=∀(ds:ac) (vs:al) (H Ha:Hp) (Q:VK),aG Ha H->Reps X.K Ha ds vs->post X.K E H Ha (m ds) Q->r vs H Q
def aL{id:String}{r:al->Hp->VK->Prop}{m:ac->ak D}{x:OG}{p:Pos}(hc:jH X (.builtin id) r)(hd:ki X E r m)(hg:Gl X x)(hm:X.mg x=none)(hv:bootBuiltins x=some (.builtin id))(ha:DA X E (e::es) fa)(hn:x≠"__name__":=by decide)(hdb:(x==("__debug__" : OG))=false:=by decide)
  (he:OJ (e::es) X.env=(false,eval e X.env)::OJ es X.env:=by exact aJ rfl)(hpl:(PK pos (OJ es X.env)).any (·.1)=false:=by exact bA rfl):DE X E (.Call (.Name x p) (e::es) [] pos) (ao fa m) :=
 ⟨bb (pS hc hg hm hv ha.o hn hdb he hpl) (ll hd)⟩
def DQ(h:PT X e (tB (tD X.K E f))):DT X E e f:=by
 refine⟨?_⟩;refine oZ h λσ H Q z9=>?_;obtain⟨Ha,ρ,hs,hr,q⟩:=z9;refine⟨Ha,ρ,hs,hr,?_⟩
 cases e1:f ρ with
 |stuck|exn x=>rw[e1]at q;exact q
 |ok d=>
  rw[e1]at q;intro v H1 H01 g1 r1;cases d with|bl b=>rw[aE.mp r1];exact⟨b,rfl,q H1 H01 g1⟩| _=>exact q.elim
def dF(h:DE X E e f)(he:∀whole,isTrue e X.env whole=(do let v ←whole;standAt e.pos;TR [v] (truthy v)):=by intro _;rfl):DT X E e f:=DQ (Co h.o he)
def aC{op:CmpOp}{r:R2}{o:D->D->ak D}(h:ib X (PR op) r)(ho:zQ X.K E r o)(ha:DE X E a f)(hb:DE X E b g)(hm:behindInMarks op b=false):DT X E (.Compare a [op] [b] pos) (aa f g o):=by
 refine⟨?_⟩;refine oZ (Fv h ha.o hb.o hm) λσ H Q h=>?_;have w:tD X.K E (aa f g o) σ H λx H'=>∃k,x=.bl k/\Q k H':=by
  obtain⟨Ha,ρ,hs,hr,q⟩:=h;refine⟨Ha,ρ,hs,hr,?_⟩;cases e1:aa f g o ρ with
  |stuck|exn x=>rw[e1]at q;exact q
  |ok d=>
   rw[e1]at q;intro v H1 H01 g1 r1;cases d with|bl b=>rw[aE.mp r1];exact⟨b,rfl,q H1 H01 g1⟩| _=>exact q.elim
 exact kS ho σ H _ w
def dZ(f:am):am:=bc f λx=>match x with
 |.bl b=>.ok (.bl (!b))
 |_=>.stuck
def ef(f g:am):am:=λρ=>(f ρ).bind λx=>match x with
 |.bl true=>g ρ
 |.bl false=>.ok (.bl false)
 |_=>.stuck
def i8(f g:am):am:=λρ=>(f ρ).bind λx=>match x with
 |.bl true=>.ok (.bl true)
 |.bl false=>g ρ
 |_=>.stuck
def dU(ha:DT X E a f):DT X E (.UnaryOp .Not a pos) (dZ f):=by
 refine⟨?_⟩;refine oZ (Cp ha.o) λσ H Q z9=>?_;obtain⟨Ha,ρ,hs,hr,q⟩:=z9;refine⟨Ha,ρ,hs,hr,?_⟩
 unfold dZ bc at q;cases e1:f ρ with
 |stuck|exn x=>rw[e1]at q;exact q
 |ok d=>
  rw[e1]at q;cases d with|bl b=>exact q| _=>exact q.elim
def D6(ha:DE X E a f):DE X E (.UnaryOp .Not a pos) (dZ f):=by
 refine⟨?_⟩;refine bb (Jm ha.o) λσ H Q z9=>?_;obtain⟨Ha,ρ,hs,hr,q⟩:=z9;refine⟨Ha,ρ,hs,hr,?_⟩
 unfold dZ bc at q;cases e1:f ρ with
 |stuck|exn x=>rw[e1]at q;exact q
 |ok d=>
  rw[e1]at q;intro v H1 H01 g1 r1;cases d with|bl b=>rw[aE.mp r1];exact⟨b,rfl,q (.bl !b) H1 H01 g1 (aE.mpr rfl)⟩| _=>exact q.elim
variable {rest:List Pl}
def fL(ha:DT X E a f):DW X E (.BoolOp .And [a] pos) f:=⟨Fu ha.o⟩
def bw(ha:DT X E a f):DW X E (.BoolOp .Or [a] pos) f:=⟨Jd ha.o⟩
def lT(ha:DT X E a f)(hb:DW X E (.BoolOp .And (b::rest) pos) g):DW X E (.BoolOp .And (a::b::rest) pos) (ef f g):=by
 refine⟨?_⟩;refine yG (Je ha.o hb.o) λσ H Q z9=>?_;obtain⟨Ha,ρ,hs,hr,q⟩:=z9;refine⟨Ha,ρ,hs,hr,?_⟩
 unfold ef at q;cases e1:f ρ with
 |stuck|exn x=>rw[e1]at q;exact q
 |ok d=>
  rw[e1]at q;cases d with
  |bl b=>
   cases b with|true=>exact λH1 H01 g1=>⟨H01,ρ,g1.sub,hr.mono g1.z,pO.grow (r:=g ρ) q g1⟩|false=>exact λH1 H01 g1=>q H1 H01 g1
  |_=>exact q.elim
def cJ(ha:DT X E a f)(hb:DW X E (.BoolOp .Or (b::rest) pos) g):DW X E (.BoolOp .Or (a::b::rest) pos) (i8 f g):=by
 refine⟨?_⟩;refine yG (LD ha.o hb.o) λσ H Q z9=>?_;obtain⟨Ha,ρ,hs,hr,q⟩:=z9;refine⟨Ha,ρ,hs,hr,?_⟩
 unfold i8 at q;cases e1:f ρ with
 |stuck|exn x=>rw[e1]at q;exact q
 |ok d=>
  rw[e1]at q;cases d with
  |bl b=>
   cases b with|false=>exact λH1 H01 g1=>⟨H01,ρ,g1.sub,hr.mono g1.z,pO.grow (r:=g ρ) q g1⟩|true=>exact λH1 H01 g1=>q H1 H01 g1
  |_=>exact q.elim
def DW.dt(h:DW X E e f):DT X E e f:=⟨PW.pt h.o⟩
def gb{op}(h:DE X E a f):DE X E (.BoolOp op [a] pos) f:=⟨Cz h.o⟩
def eS(ha:DE X E a f)(hb:DE X E (.BoolOp .And (b::rest) pos) g):DE X E (.BoolOp .And (a::b::rest) pos) (ef f g):=by
 refine⟨?_⟩;refine bb (CG ha.o hb.o) λσ H Q z9=>?_;obtain⟨Ha,ρ,hs,hr,q⟩:=z9;refine⟨Ha,ρ,hs,hr,?_⟩
 unfold ef at q;cases e1:f ρ with
 |stuck|exn x=>rw[e1]at q;exact q
 |ok d=>
  rw[e1]at q;intro v H1 H01 g1 r1;cases d with
  |bl b=>
   rw[aE.mp r1];cases b with|true=>exact⟨true,rfl,H01,ρ,g1.sub,hr.mono g1.z,post.grow (r:=g ρ) q g1⟩|false=>exact⟨false,rfl,q (.bl false) H1 H01 g1 (aE.mpr rfl)⟩
  |_=>exact q.elim
def Mx(ha:DE X E a f)(hb:DE X E (.BoolOp .Or (b::rest) pos) g):DE X E (.BoolOp .Or (a::b::rest) pos) (i8 f g):=by
 refine⟨?_⟩;refine bb (LI ha.o hb.o) λσ H Q z9=>?_;obtain⟨Ha,ρ,hs,hr,q⟩:=z9;refine⟨Ha,ρ,hs,hr,?_⟩
 unfold i8 at q;cases e1:f ρ with
 |stuck|exn x=>rw[e1]at q;exact q
 |ok d=>
  rw[e1]at q;intro v H1 H01 g1 r1;cases d with
  |bl b=>
   rw[aE.mp r1];cases b with|false=>exact⟨false,rfl,H01,ρ,g1.sub,hr.mono g1.z,post.grow (r:=g ρ) q g1⟩|true=>exact⟨true,rfl,q (.bl true) H1 H01 g1 (aE.mpr rfl)⟩
  |_=>exact q.elim
def Ia(c f g:am):am:=λρ=>(c ρ).bind λx=>match x with
 |.bl true=>f ρ
 |.bl false=>g ρ
 |_=>.stuck
def mJ{c:Pl}{fc:am}(hc:DT X E c fc)(ha:DE X E a f)(hb:DE X E b g):DE X E (.IfExp c a b pos) (Ia fc f g):=by
 refine⟨?_⟩;refine bb (CB hc.o ha.o hb.o) λσ H Q z9=>?_;obtain⟨Ha,ρ,hs,hr,q⟩:=z9;refine⟨Ha,ρ,hs,hr,?_⟩
 unfold Ia at q;cases e1:fc ρ with
 |stuck|exn x=>rw[e1]at q;exact q
 |ok d=>
  rw[e1]at q;cases d with
  |bl b=>
   cases b with|true=>exact λH1 H01 g1=>⟨H01,ρ,g1.sub,hr.mono g1.z,post.grow (r:=f ρ) q g1⟩|false=>exact λH1 H01 g1=>⟨H01,ρ,g1.sub,hr.mono g1.z,post.grow (r:=g ρ) q g1⟩
  |_=>exact q.elim
end
noncomputable def NS(K:OH) (Ha H:Hp) (a:OE) (d:D):Prop:=match d with
 |.lst ds=>∃vs,H a=some (.lst vs)/\Reps K Ha ds vs
 |.dic ks ds=>∃vs,H a=some (.dK ((ks.map RM).zip vs))/\ks.length=vs.length/\Reps K Ha ds vs
 |.ob (.dint ks) ds=>∃vs,H a=some (.dK ((ks.map R7).zip vs))/\ks.length=vs.length/\Reps K Ha ds vs
 |_=>False
def uf(j k:Nat):Bool:=if j=99 then decide (k<=1) else k==j
noncomputable def MY(K:OH) (He Ha H:Hp) (a:OE) (j:Nat) (ds:ac) (P:Nat->OE):Prop:=∃vs,He a=none/\H a=some (.tup vs)/\ds.length=vs.length /\
 (∀k,uf j k=true->∃es us,He (P k)=none/\Ha (P k)=none/\ds[k]?=some (.lst es)/\vs[k]?=some (.ref (P k))/\H (P k)=some (.lst us)/\Reps K Ha es us) /\
 (∀k l,uf j k=true->uf j l=true->P k=P l->k=l)/\∀k d v,uf j k=false->ds[k]?=some d->vs[k]?=some v->Rep K Ha d v
noncomputable def OX(K:OH) (He Ha:Hp) (σ:L2.St) (H:Hp) (ρ:Ev):Prop:=(∀(i j:Nat) (ds:ac),ρ[i]?=some (.ox j ds)->∃a P,σ[i]?=some (some (.ref a))/\MY K He Ha H a j ds P/\(∀(k:Nat) (d:D) (l:Nat),uf j l=true->ρ[k]?=some (.ow d)->σ[k]?≠some (some (.ref (P l))))/\∀(k j':Nat) (ds':ac),ρ[k]?=some (.ox j' ds')->k=i)/\∀(i:Nat) (a:OE),ρ[i]?=some (.pt a)->σ[i]?=some (some (.ref a))
def OX.upd{K:OH}{He Ha Ha' H H':Hp}{σ σ':L2.St}{ρ ρ':Ev}(h:OX K He Ha σ H ρ)
  (hk:∀(j:Nat) (s:Sl),ρ'[j]?=some s->(ρ[j]?=some s/\σ'[j]?=σ[j]?)∨(∃d,s=.sh d)∨s=.no∨∃d q,s=.ow d/\σ'[j]?=some (some (.ref q))/\∀(i j:Nat) (ds:ac) (a:OE) (P:Nat->OE),ρ[i]?=some (.ox j ds)->σ[i]?=some (some (.ref a))->MY K He Ha H a j ds P->∀l,uf j l=true->q≠P l)
  (hz:aG Ha Ha')(ht:∀a vs,He a=none->H a=some (.tup vs)->H' a=some (.tup vs))
  (hl:∀p us,He p=none->Ha p=none->H p=some (.lst us)->(∀(k:Nat) (d:D),ρ[k]?=some (.ow d)->σ[k]?≠some (some (.ref p)))->H' p=some (.lst us)/\Ha' p=none):OX K He Ha' σ' H' ρ':=by
 refine⟨λi j ds e=>?_,λi a e=>?_⟩
 rotate_left
 .rcases hk i _ e with h1|⟨d,h1⟩|h1|⟨d,q,h1,_⟩
  .rw[h1.2];exact h.2 i a h1.1
  .cases h1
  .cases h1
  .cases h1
 have old:ρ[i]?=some (.ox j ds)/\σ'[i]?=σ[i]?:=by
  rcases hk i _ e with h1|⟨d,h1⟩|h1|⟨d,q,h1,_⟩
  .exact h1
  .cases h1
  .cases h1
  .cases h1
 obtain⟨a,P,h1,h2,h3,h4⟩:=h.1 i j ds old.1;have h2':=h2;obtain⟨vs,r1,r2,r3,r4,r5,r6⟩:=h2;refine⟨a,P,old.2.trans h1,⟨vs,r1,ht a vs r1 r2,r3,λk ok=>?_,r5,λk d v hk e1 e2=>(r6 k d v hk e1 e2).mono hz⟩,λk d l ok ek z=>?_,λk j' ds' ek=>?_⟩
 .obtain⟨es,us,q1,q2,q3,q4,q5,q6⟩:=r4 k ok
  obtain⟨l1,l2⟩:=hl (P k) us q1 q2 q5 λm d em=>h3 m d k ok em;exact⟨es,us,q1,l2,q3,q4,l1,q6.mono hz⟩
 .rcases hk k _ ek with h1'|⟨d',h1'⟩|h1'|⟨d',q,h1',h2'',h3'⟩
  .exact h3 k d l ok h1'.1 (by rw[←h1'.2];exact z)
  .cases h1'
  .cases h1'
  .rw[h2'']at z
   cases z;exact h3' i j ds a P old.1 h1 h2' l ok rfl
 .rcases hk k _ ek with h1'|⟨d',h1'⟩|h1'|⟨d',q,h1',_⟩
  .exact h4 k j' ds' h1'.1
  .cases h1'
  .cases h1'
  .cases h1'
def OX.none{K:OH}{He Ha H:Hp}{σ:L2.St}{ρ:Ev}(h:∀(i j:Nat) (ds:ac),ρ[i]?≠some (.ox j ds))(h':∀(i:Nat) (a:OE),ρ[i]?=some (.pt a)->σ[i]?=some (some (.ref a))):OX K He Ha σ H ρ:=⟨λi j ds e=>absurd e (h i j ds),h'⟩
theorem yD{K:OH}{H:Hp}:∀{ds:ac}{vs:al},ds.length=vs.length->(∀(k:Nat) (d:D) (v:V),ds[k]?=some d->vs[k]?=some v->Rep K H d v)->Reps K H ds vs
 |[],[],_,_=>Reps.nil
 |d::ds,v::vs,hl,h=>Reps.cons (h 0 d v rfl rfl) (yD (by simpa using hl) λk d' v' e1 e2=>h (k+1) d' v' e1 e2)
structure gu (K:OH) (He η Ha:Hp) (σ:L2.St) (H:Hp) (ρ:Ev):Prop where
 g:br He η H Ha
 rd:gw K Ha σ ρ
 ow:∀(i:Nat) (d:D),ρ[i]?=some (.ow d)->∃a,σ[i]?=some (some (.ref a))/\He a=none/\Ha a=none/\NS K Ha H a d
 ap:∀(i j:Nat) (d d':D),i≠j->ρ[i]?=some (.ow d)->ρ[j]?=some (.ow d')->σ[i]?≠σ[j]?
 ln:ρ.length=σ.length
 ex:OX K He Ha σ H ρ
inductive Fl where
 |nx (ρ:Ev)|rt (d:D)|bk (ρ:Ev)|ct (ρ:Ev)
abbrev bv:=Ev->ak Fl
noncomputable def du(K:OH) (E:XK) (He η Ha:Hp) (r:ak Fl) (D:ic):Prop:=match r with
 |.ok (.nx ρ)=>∀σ H Ha',aG Ha Ha'->gu K He η Ha' σ H ρ->D.nx σ H
 |.ok (.rt d)=>∀v H Ha',br He η H Ha'->Rep K Ha' d v->D.rt v H
 |.ok (.bk ρ)=>∀σ H Ha',aG Ha Ha'->gu K He η Ha' σ H ρ->D.bk σ H
 |.ok (.ct ρ)=>∀σ H Ha',aG Ha Ha'->gu K He η Ha' σ H ρ->D.ct σ H
 |.exn x=>∀C ox H Ha',br He η H Ha'->wQ K Ha' x C ox->E C ox H
 |.stuck=>False
def du.grow{K:OH}{E:XK}{He η Ha Hb:Hp}{r:ak Fl}{D:ic}(h:du K E He η Ha r D)(s:aG Ha Hb):du K E He η Hb r D:=by
 cases r with
 |ok f=>
  cases f with|nx ρ=>exact λσ H Ha' s'=>h σ H Ha' (s.trans s')|rt d=>exact h|bk ρ=>exact λσ H Ha' s'=>h σ H Ha' (s.trans s')|ct ρ=>exact λσ H Ha' s'=>h σ H Ha' (s.trans s')
 |exn x=>exact h
 |stuck=>exact h
def tS(K:OH)(E:XK)(He η:Hp)(g:bv):TS:=λD σ H=>∃Ha ρ,gu K He η Ha σ H ρ/\du K E He η Ha (g ρ) D
structure DS (X:Cx) (E:XK) (He η:Hp) (st:Qe) (g:bv):Prop where
 o:PS X st (tS X.K E He η g)
structure yt (X:Cx) (E:XK) (He η:Hp) (st:List Qe) (g:bv):Prop where
 o:rP X st (tS X.K E He η g)
def lC(ρ:Ev):Ev:=ρ.map λs=>match s with
 |.ow d=>.sh d
 |.ox _ ds=>.sh (.tup ds)
 |x=>x
def frz(He Ha H:Hp):Hp:=λa=>match He a with
 |none=>H a
 |some _=>Ha a
section
variable {K:OH}{E:XK}{He η Ha H H1:Hp}{σ:L2.St}{ρ:Ev}
def gu.same(h:gu K He η Ha σ H ρ)(s:aG H H1):gu K He η Ha σ H1 ρ :=
 ⟨⟨h.g.s.trans s,h.g.z,h.g.sub.trans s,h.g.nw⟩,h.rd,λi d e=>by
  obtain⟨a,h1,h2,h3,h4⟩:=h.ow i d e;refine⟨a,h1,h2,h3,?_⟩;cases d with
  |lst ds=>obtain⟨vs,h5,h6⟩:=h4;exact⟨vs,s _ _ h5,h6⟩|dic ks ds=>obtain⟨vs,h5,hl,h6⟩:=h4;exact⟨vs,s _ _ h5,hl,h6⟩
  |ob kk ds=>
   cases kk with|dint ks=>obtain⟨vs,h5,hl,h6⟩:=h4;exact⟨vs,s _ _ h5,hl,h6⟩| _=>exact h4.elim
  |_=>exact h4,h.ap,h.ln,h.ex.upd (λj s' e=>.inl ⟨e,rfl⟩) (aG.refl _) (λa vs _ e=>s _ _ e) λp us _ h0 hp _=>⟨s _ _ hp,h0⟩⟩
def gu.grow{H01:Hp}(h:gu K He η Ha σ H ρ)(s:br H Ha H1 H01):gu K He η H01 σ H1 ρ :=
 ⟨h.g.trans s,h.rd.mono s.z,λi d e=>by
  obtain⟨a,h1,h2,h3,h4⟩:=h.ow i d e;have ha:H01 a=none:=by
   cases q:H01 a with
   |none=>rfl
   |some o=>
    have:=s.nw a (by rw[q];simp) h3;cases d with
    |lst ds|dic ks ds=>obtain⟨vs,h5,_⟩:=h4;rw[h5]at this;cases this
    |ob kk ds=>
     cases kk with|dint ks=>obtain⟨vs,h5,_⟩:=h4;rw[h5]at this;cases this| _=>exact h4.elim
    |_=>exact h4.elim
  refine⟨a,h1,h2,ha,?_⟩;cases d with
  |lst ds=>obtain⟨vs,h5,h6⟩:=h4;exact⟨vs,s.s _ _ h5,h6.mono s.z⟩|dic ks ds=>obtain⟨vs,h5,hl,h6⟩:=h4;exact⟨vs,s.s _ _ h5,hl,h6.mono s.z⟩
  |ob kk ds=>
   cases kk with|dint ks=>obtain⟨vs,h5,hl,h6⟩:=h4;exact⟨vs,s.s _ _ h5,hl,h6.mono s.z⟩| _=>exact h4.elim
  |_=>exact h4,h.ap,h.ln,h.ex.upd (λj s' e=>.inl ⟨e,rfl⟩) s.z (λa vs _ e=>s.s _ _ e) λp us _ h0 hp _=>⟨s.s _ _ hp,by
   cases q:H01 p with
   |none=>rfl
   |some o=>have:=s.nw p (by rw[q];simp) h0;rw[hp]at this;cases this⟩⟩
def gu.frz_sub(h:gu K He η Ha σ H ρ):aG Ha (frz He Ha H):=λb o e=>by
 unfold frz;cases q:He b with|none=>exact h.g.sub _ _ e|some _=>exact e
def gu.frz_le(h:gu K He η Ha σ H ρ):aG (frz He Ha H) H:=λb o e=>by
 unfold frz at e;cases q:He b with|none=>rw[q]at e;exact e|some _=>rw[q]at e;exact h.g.sub _ _ e
theorem gu.frz_grow(h:gu K He η Ha σ H ρ):br He η H (frz He Ha H) :=
 ⟨h.g.s,h.g.z.trans h.frz_sub,h.frz_le,λa h1 h2=>by
  cases q:He a with
  |none=>rfl
  |some o=>
   unfold frz at h1;rw[q]at h1;have:=h.g.nw a h1 h2;rw[q]at this;cases this⟩
def gu.looks(h:gu K He η Ha σ H ρ):gw K (frz He Ha H) σ (lC ρ):=λi d e=>by
 unfold lC at e;rw[O5]at e;cases q:ρ[i]? with
 |none=>rw[q]at e;cases e
 |some s=>
  rw[q]at e;cases s with
  |no|pt a=>cases e
  |sh d'=>
   cases e;obtain⟨v,h1,h2⟩:=h.rd i d q;exact⟨v,h1,h2.mono h.frz_sub⟩
  |ow d'=>
   cases e;obtain⟨a,h1,h2,h3,h4⟩:=h.ow i d q;refine⟨_,h1,?_⟩;cases d with
   |lst ds=>
    obtain⟨vs,h5,h6⟩:=h4;exact aF.mpr ⟨a,vs,rfl,gL.of (by unfold frz;rw[h2];exact h5),h6.mono h.frz_sub⟩
   |dic ks ds=>
    obtain⟨vs,h5,hl,h6⟩:=h4;rw[Rep];exact⟨a,_,vs,rfl,.inl (by unfold frz;rw[h2];exact h5),rfl,hl,h6.mono h.frz_sub⟩
   |ob kk ds=>
    cases kk with
    |dint ks=>
     obtain⟨vs,h5,hl,h6⟩:=h4;exact cz.mpr ⟨a,vs,rfl,⟨_,.inl (by unfold frz;rw[h2];exact h5),rfl,hl⟩,h6.mono h.frz_sub⟩
    |_=>exact h4.elim
   |_=>exact h4.elim
  |ox j ds=>
   cases e;obtain⟨a,P,h1,⟨vs,r1,r2,r3,r4,r5,r6⟩,_⟩:=h.ex.1 i j ds q;refine⟨_,h1,aM.mpr ⟨a,vs,rfl,lA.of (by unfold frz;rw[r1];exact r2),yD r3 λk d v e1 e2=>?_⟩⟩;cases hk:uf j k with
   |true=>
    obtain⟨es,us,q1,q2,q3,q4,q5,q6⟩:=r4 k hk;rw[q3]at e1;cases e1;rw[q4]at e2;cases e2;exact aF.mpr ⟨P k,us,rfl,gL.of (by unfold frz;rw[q1];exact q5),q6.mono h.frz_sub⟩
   |false=>exact(r6 k d v hk e1 e2).mono h.frz_sub
def gu.put(h:gu K He η Ha σ H ρ){i:Nat}{d:D}{v:V}(r:Rep K Ha d v):gu K He η Ha (σ.set i (some v)) H (ρ.set i (.sh d)):=by
 have key:∀(j:Nat) (s:Sl),(ρ.set i (.sh d))[j]?=some s->(j=i/\s=.sh d/\i<σ.length)∨(j≠i/\ρ[j]?=some s):=λj s e=>by
  by_cases hj:i=j
  .subst hj
   rw[Rx]at e;cases q:ρ[i]? with
   |none=>rw[q]at e;cases e
   |some s'=>
    rw[q]at e;cases e;refine .inl ⟨rfl,rfl,?_⟩;rw[←h.ln];exact(OZ.mp q).1
  .rw[OW hj]at e
   exact .inr ⟨λz=>hj z.symm,e⟩
 refine⟨h.g,λj d' e=>?_,λj d' e=>?_,λj k d1 d2 hn e1 e2=>?_,by simp[h.ln],h.ex.upd (λj s e=>?_) (aG.refl _) (λa vs _ e=>e) λp us _ h0 hp _=>⟨hp,h0⟩⟩
 rotate_left 3
 .rcases key j _ e with⟨rfl,e',hl⟩|⟨hj,e'⟩
  .exact .inr (.inl ⟨d,e'⟩)
  .exact .inl ⟨e',by rw[OW (Py hj)]⟩
 .rcases key j _ e with⟨rfl,e',hl⟩|⟨hj,e'⟩
  .cases e'
   exact⟨v,by rw[PH hl],r⟩
  .obtain⟨v',h1,h2⟩:=h.rd j d' e'
   exact⟨v',by rw[OW (Py hj)];exact h1,h2⟩
 .rcases key j _ e with⟨rfl,e',hl⟩|⟨hj,e'⟩
  .cases e'
  .obtain⟨a,h1,h2⟩:=h.ow j d' e'
   exact⟨a,by rw[OW (Py hj)];exact h1,h2⟩
 .rcases key j _ e1 with⟨_,e',_⟩|⟨hj,e1'⟩
  .cases e'
  rcases key k _ e2 with⟨_,e',_⟩|⟨hk,e2'⟩
  .cases e'
  rw[OW (Py hj),OW (Py hk)];exact h.ap j k d1 d2 hn e1' e2'
def gu.putOwn(h:gu K He η Ha σ H ρ){i:Nat}{ds:ac}{vs:al}{p:OE}(hp:∀(j:Nat) (a:OE),σ[j]?=some (some (V.ref a))->a=p->∀d:D,ρ[j]?≠some (Sl.ow d))(he:He p=none)(h0:Ha p=none)(hv:H p=some (.lst vs))(r:Reps K Ha ds vs)(hx:∀(i j:Nat) (ds:ac) (a:OE) (P:Nat->OE),ρ[i]?=some (.ox j ds)->σ[i]?=some (some (.ref a))->MY K He Ha H a j ds P->∀l,uf j l=true->p≠P l) :
  gu K He η Ha (σ.set i (some (.ref p))) H (ρ.set i (.ow (.lst ds))):=by
 have key:∀(j:Nat) (s:Sl),(ρ.set i (.ow (.lst ds)))[j]?=some s->(j=i/\s=.ow (.lst ds)/\i<σ.length)∨(j≠i/\ρ[j]?=some s):=λj s e=>by
  by_cases hj:i=j
  .subst hj
   rw[Rx]at e;cases q:ρ[i]? with
   |none=>rw[q]at e;cases e
   |some s'=>
    rw[q]at e;cases e;refine .inl ⟨rfl,rfl,?_⟩;rw[←h.ln];exact(OZ.mp q).1
  .rw[OW hj]at e
   exact .inr ⟨λz=>hj z.symm,e⟩
 have other:∀(k:Nat) (d2:D),k≠i->ρ[k]?=some (.ow d2)->some (some (V.ref p))≠σ[k]?:=λk d2 hk e2 z=>by
  obtain⟨a,h1,_⟩:=h.ow k d2 e2;rw[h1]at z;cases z;exact hp k p h1 rfl d2 e2
 refine⟨h.g,λj d' e=>?_,λj d' e=>?_,λj k d1 d2 hn e1 e2=>?_,by simp[h.ln],h.ex.upd (λj s e=>?_) (aG.refl _) (λa vs _ e=>e) λp us _ h0 hp _=>⟨hp,h0⟩⟩
 rotate_left 3
 .rcases key j _ e with⟨rfl,e',hl⟩|⟨hj,e'⟩
  .exact .inr (.inr (.inr ⟨.lst ds,p,e',by rw[PH hl],hx⟩))
  .exact .inl ⟨e',by rw[OW (Py hj)]⟩
 .rcases key j _ e with⟨rfl,e',hl⟩|⟨hj,e'⟩
  .cases e'
  .obtain⟨v',h1,h2⟩:=h.rd j d' e'
   exact⟨v',by rw[OW (Py hj)];exact h1,h2⟩
 .rcases key j _ e with⟨rfl,e',hl⟩|⟨hj,e'⟩
  .cases e'
   exact⟨p,by rw[PH hl],he,h0,vs,hv,r⟩
  .obtain⟨a,h1,h2⟩:=h.ow j d' e'
   exact⟨a,by rw[OW (Py hj)];exact h1,h2⟩
 .rcases key j _ e1 with⟨rfl,_,hl⟩|⟨hj,e1'⟩
  .rcases key k _ e2 with⟨rfl,_,_⟩|⟨hk,e2'⟩
   .exact absurd rfl hn
   .rw[PH hl,OW (Py hk)]
    exact other k d2 hk e2'
  .rcases key k _ e2 with⟨rfl,_,hl⟩|⟨hk,e2'⟩
   .rw[PH hl,OW (Py hj)]
    exact λz=>other j d1 hj e1' z.symm
   .rw[OW (Py hj),OW (Py hk)]
    exact h.ap j k d1 d2 hn e1' e2'
def gu.fresh_x{H01:Hp}{p:OE}(h:gu K He η Ha σ H ρ)(s:aG H H1)(hp:H p=none):∀(i j:Nat) (ds:ac) (a:OE) (P:Nat->OE),ρ[i]?=some (.ox j ds)->σ[i]?=some (some (.ref a))->MY K He H01 H1 a j ds P->∀l,uf j l=true->p≠P l:=λi j ds a P x1 x2 x3 l ol=>by
 obtain⟨a2,P2,y1,⟨vs2,_,z3,_,y4,_⟩,_⟩:=h.ex.1 i j ds x1;rw[x2]at y1;cases y1;obtain⟨vs1,_,z1,_,y5,_⟩:=x3;have:=s _ _ z3;rw[z1]at this;cases this;obtain⟨_,us2,_,_,_,z4,z5,_⟩:=y4 l ol;obtain⟨_,_,_,_,_,z2,_⟩:=y5 l ol;rw[z2]at z4;injection z4 with z4;injection z4 with z4;intro z;rw[←z4,←z,hp]at z5;cases z5
def gu.write(h:gu K He η Ha σ H ρ){i:Nat}{d:D}{p:OE}{ds:ac}{vs:al}(e:ρ[i]?=some (.ow d))(es:σ[i]?=some (some (.ref p)))(r:Reps K Ha ds vs) :
  gu K He η Ha σ (upd H p (.lst vs)) (ρ.set i (.ow (.lst ds))):=by
 obtain⟨a,h1,h2,h3,h4⟩:=h.ow i d e;rw[h1]at es;cases es;have hil:i<ρ.length:=(OZ.mp e).1;have key:∀(j:Nat) (s:Sl),(ρ.set i (.ow (.lst ds)))[j]?=some s->(j=i/\s=.ow (.lst ds))∨(j≠i/\ρ[j]?=some s):=λj s e=>by
  by_cases hj:i=j
  .subst hj
   rw[PH hil]at e;cases e;exact .inl ⟨rfl,rfl⟩
  .rw[OW hj]at e
   exact .inr ⟨λz=>hj z.symm,e⟩
 refine⟨⟨λb o eb=>?_,h.g.z,λb o eb=>?_,h.g.nw⟩,λj d' e'=>?_,λj d' e'=>?_,λj k d1 d2 hn e1 e2=>?_,by simp[h.ln],h.ex.upd (λj s e'=>?_) (aG.refl _) (λb us _ eb=>?_) λq us _ q0 hq hd=>?_⟩
 rotate_left 5
 .rcases key j _ e' with⟨rfl,e''⟩|⟨hj,e''⟩
  .exact .inr (.inr (.inr ⟨.lst ds,p,e'',h1,λi' j' ds' a' P' x1 x2 x3 l ol=>by
    obtain⟨a2,P2,y1,y2,y3,_⟩:=h.ex.1 i' j' ds' x1;rw[x2]at y1;cases y1;have:P2 l=P' l:=by
     obtain⟨vs1,_,z1,_,y5,_⟩:=x3;obtain⟨vs2,_,z3,_,y4,_⟩:=y2;rw[z1]at z3;cases z3;obtain⟨_,_,_,_,_,z2,_⟩:=y5 l ol;obtain⟨_,_,_,_,_,z4,_⟩:=y4 l ol;rw[z2]at z4;injection z4 with z4;injection z4 with z4;exact z4.symm
    rw[←this];intro zz;rw[zz]at h1;exact y3 j d l ol e h1⟩))
  .exact .inl ⟨e'',rfl⟩
 .rw[av (by
   intro z;subst z;cases d with
   |lst ds'|dic ks ds'=>obtain⟨vs',h5,_⟩:=h4;rw[h5]at eb;cases eb
   |ob kk ds'=>
    cases kk with|dint ks=>obtain⟨vs',h5,_⟩:=h4;rw[h5]at eb;cases eb| _=>exact h4.elim
   |_=>exact h4)];exact eb
 .have hq':q≠p:=by
   intro z;subst z;exact hd i d e h1
  exact⟨by rw[av hq'];exact hq,q0⟩
 .rw[av (by intro z;subst z;rw[h2]at eb;cases eb)];exact h.g.s _ _ eb
 .rw[av (by intro z;subst z;rw[h3]at eb;cases eb)];exact h.g.sub _ _ eb
 .rcases key j _ e' with⟨rfl,e''⟩|⟨hj,e''⟩
  .cases e''
  .exact h.rd j d' e''
 .rcases key j _ e' with⟨rfl,e''⟩|⟨hj,e''⟩
  .cases e''
   exact⟨p,h1,h2,h3,vs,ay,r⟩
  .obtain⟨b,k1,k2,k3,k4⟩:=h.ow j d' e''
   refine⟨b,k1,k2,k3,?_⟩;have hb:b≠p:=by
    intro z;subst z;exact h.ap j i d' d hj e'' e (by rw[k1,h1])
   cases d' with
   |lst ds'=>
    obtain⟨vs',h5,h6⟩:=k4;exact⟨vs',by rw[av hb];exact h5,h6⟩
   |dic ks ds'=>
    obtain⟨vs',h5,hl,h6⟩:=k4;exact⟨vs',by rw[av hb];exact h5,hl,h6⟩
   |ob kk ds'=>
    cases kk with
    |dint ks=>
     obtain⟨vs',h5,hl,h6⟩:=k4;exact⟨vs',by rw[av hb];exact h5,hl,h6⟩
    |_=>exact k4.elim
   |_=>exact k4.elim
 .rcases key j _ e1 with⟨rfl,e1'⟩|⟨hj,e1'⟩
  .rcases key k _ e2 with⟨rfl,_⟩|⟨hk,e2'⟩
   .exact absurd rfl hn
   .exact h.ap j k d d2 hn e e2'
  .rcases key k _ e2 with⟨rfl,_⟩|⟨hk,e2'⟩
   .exact h.ap j k d1 d hn e1' e
   .exact h.ap j k d1 d2 hn e1' e2'
end
mutual
def jS:D->Bool
 |.lst _=>false
 |.dic _ _=>false
 |.exc _=>false
 |.ob _ _=>false
 |.tup ds=>flats ds
 |_=>true
def flats:ac->Bool
 |[]=>true
 |d::ds=>jS d&&flats ds
end
mutual
theorem Rep.flat_to{K:OH}{H H':Hp}(e:∀a vs,Rd H a (.tup vs)->Rd H' a (.tup vs)):∀{d:D}{v:V},jS d=true->Rep K H d v->Rep K H' d v
 |.non,_,_,h=>by unfold Rep at h ⊢;exact h
 |.bl _,_,_,h=>by unfold Rep at h ⊢;exact h
 |.int _,_,_,h=>by unfold Rep at h ⊢;exact h
 |.str _,_,_,h=>by unfold Rep at h ⊢;exact h
 |.tup ds,_,f,h=>by
  unfold jS at f;obtain⟨a,vs,e1,e2,e3⟩:=aM.mp h;refine aM.mpr ⟨a,vs,e1,?_,Reps.flat_to e f e3⟩;rcases e2 with e2|e2
  .exact .inl (e _ _ e2)
  .exact .inr e2
 |.lst ds,_,f,h=>by unfold jS at f;cases f
 |.dic ks ds,_,f,h=>by unfold jS at f;cases f
 |.exc x,_,f,h=>by unfold jS at f;cases f
 |.ob k ds,_,f,h=>by unfold jS at f;cases f
theorem Reps.flat_to{K:OH}{H H':Hp}(e:∀a vs,Rd H a (.tup vs)->Rd H' a (.tup vs)):∀{ds:ac}{vs:al},flats ds=true->Reps K H ds vs->Reps K H' ds vs
 |[],_,_,h=>by unfold Reps at h ⊢;exact h
 |d::ds,_,f,h=>by
  unfold flats at f;rw[OR]at f;obtain⟨v,r,e1,e2,e3⟩:=aD.mp h;exact aD.mpr ⟨v,r,e1,Rep.flat_to e f.1 e2,Reps.flat_to e f.2 e3⟩
end
def oM(Ha J:Hp):Hp:=λa=>match Ha a with
 |some o=>some o
 |none=>match J a with
  |some (.tup vs)=>some (.tup vs)
  |some (.frz o (.tup vs))=>some (.frz o (.tup vs))
  |_=>none
section
variable {K:OH}{E:XK}{He η Ha H H1 J:Hp}{σ:L2.St}{ρ:Ev}
def Hl(h:aG Ha J):∀a o,oM Ha J a=some o->J a=some o:=λa o e=>by
 unfold oM at e;cases q:Ha a with
 |some u=>rw[q]at e;cases e;exact h _ _ q
 |none=>
  rw[q]at e;cases q2:J a with
  |none=>rw[q2]at e;cases e
  |some u=>
   rw[q2]at e;cases u with
   |tup vs=>cases e;rfl
   |frz o u'=>
    cases u' with|tup vs=>cases e;rfl| _=>cases e
   |_=>cases e
def Hj(h:aG Ha J)(a:OE)(vs:al)(e:Rd J a (.tup vs)):Rd (oM Ha J) a (.tup vs):=by
 rcases e with e|⟨o,e⟩
 .refine .inl ?_
  unfold oM;cases q:Ha a with|some u=>have:=h _ _ q;rw[e]at this;cases this;rfl|none=>rw[e]
 .refine .inr ⟨o,?_⟩
  unfold oM;cases q:Ha a with|some u=>have:=h _ _ q;rw[e]at this;cases this;rfl|none=>rw[e]
end
section
variable {X:Cx}{E:XK}{He η:Hp}{st:Qe}{rest:List Qe}{e a b:Pl}{es:List Pl}{f g:am}{fa:Ev->ak (ac)}{s t:bv}{pos:Pos}
def cR{t t':TS}(h:PS X st t)(w:∀D σ H,t' D σ H->t D σ H):PS X st t':=λπ s σ H D I q=>h π s σ H D I (w D σ H q)
def gN{t t':TS}(h:rP X rest t)(w:∀D σ H,t' D σ H->t D σ H):rP X rest t':=λπ s σ H D I q=>h π s σ H D I (w D σ H q)
def ax:bv:=λρ=>.ok (.nx ρ)
def aw(s t:bv):bv:=λρ=>(s ρ).bind λr=>match r with
 |.nx ρ'=>t ρ'
 |r=>.ok r
def aq:yt X E He η [] ax:=⟨gN kU λD σ H ⟨Ha,ρ,h,q⟩=>q σ H Ha (aG.refl _) h⟩
def ah(h1:DS X E He η st s)(h2:yt X E He η rest t):yt X E He η (st::rest) (aw s t):=by
 refine⟨?_⟩;refine gN (fA h1.o h2.o) λD σ H z9=>?_;obtain⟨Ha,ρ,h,q⟩:=z9;refine⟨Ha,ρ,h,?_⟩
 unfold aw at q;cases e1:s ρ with
 |stuck|exn x=>rw[e1]at q;exact q
 |ok r=>
  rw[e1]at q;cases r with|nx ρ'=>exact λσ' H' Ha' s' h'=>⟨Ha',ρ',h',du.grow (r:=t ρ') q s'⟩|rt d|bk ρ'|ct ρ'=>exact q
def IV:bv:=λ_=>.stuck
def plain{K:OH}{Ha H:Hp}{σ:L2.St}{ρ:Ev}{k:D->ak Fl}{D':ic}(h:gu K He η Ha σ H ρ){r:ak D}{Q:VK}
  (q:du K E He η Ha (r.bind k) D')(hk:∀d v H' Ha',r=.ok d->br H Ha H' Ha'->Rep K Ha' d v->du K E He η Ha' (k d) D'->Q v H'):post K E H Ha r Q:=by
 cases r with|stuck=>exact q|exn x=>exact λC ox H' Ha' g ex=>q C ox H' Ha' (h.g.trans g) ex|ok d=>exact λv H' Ha' g rp=>hk d v H' Ha' rfl g rp (du.grow (r:=k d) q g.z)
def look{K:OH}{Ha H:Hp}{σ:L2.St}{ρ:Ev}{k:D->ak Fl}{D':ic}(h:gu K He η Ha σ H ρ){r:ak D}{Q:VK}
  (q:du K E He η Ha (r.bind k) D')(hk:∀d v H' J,r=.ok d->br H (frz He Ha H) H' J->Rep K J d v->du K E He η Ha (k d) D'->Q v H'):post K E H (frz He Ha H) r Q:=by
 cases r with|stuck=>exact q|exn x=>exact λC ox H' Ha' g ex=>q C ox H' Ha' (h.frz_grow.trans g) ex|ok d=>exact λv H' J g rp=>hk d v H' J rfl g rp q
def HN{K:OH}{Ha H:Hp}{σ:L2.St}{ρ:Ev}{k:Bool->ak Fl}{D':ic}(h:gu K He η Ha σ H ρ){r:ak D}{Q:Bool->Hp->Prop}
  (q:du K E He η Ha (r.bind λx=>match x with|.bl b=>k b|_=>.stuck) D')(hk:∀b H',aG H H'->du K E He η Ha (k b) D'->Q b H'):pO K E H (frz He Ha H) r Q:=by
 cases r with
 |stuck=>exact q|exn x=>exact λC ox H' Ha' g ex=>q C ox H' Ha' (h.frz_grow.trans g) ex
 |ok d=>
  cases d with|bl b=>exact λH' J g=>hk b H' g.s q| _=>exact q.elim
def aV(i:Nat)(f:am):bv:=λρ=>(f ρ).bind λd=>.ok (.nx (ρ.set i (.sh d)))
def bE(f:am):bv:=λρ=>(f (lC ρ)).bind λd=>.ok (.rt d)
def HD(f:am):bv:=λρ=>(f (lC ρ)).bind λ_=>.ok (.nx ρ)
def fw(c:am)(s t:bv):bv:=λρ=>(c (lC ρ)).bind λx=>match x with
 |.bl b=>if b=true then s ρ else t ρ
 |_=>.stuck
def aI{i:Nat}{x:OG}{pos':Pos}(hN:X.N.Nodup)(hi:X.N[i]?=some x)(hx:zS X.env.scope x)(he:DE X E e f)(hs:P9 e (some (.Name x pos')) pos.line X.env=pure false:=by rfl)
  (hf:X.fn x=true∨X.env.scope.names.lookup x=some .local := by first|exact .inl rfl|exact .inr rfl|assumption):DS X E He η (.Assign [.Name x pos'] e pos) (aV i f):=by
 refine⟨?_⟩;refine cR (ud hN hi hx he.o hs hf) λD σ H z9=>?_;obtain⟨Ha,ρ,h,q⟩:=z9;refine⟨Ha,ρ,h.g.sub,h.rd,?_⟩
 refine plain h q λd v H' Ha' _ g rp q'=>?_;exact q' _ H' Ha' (aG.refl _) ((h.grow g).put rp)
def aN(he:DE X E e f):DS X E He η (.Return (some e) pos) (bE f):=by
 refine⟨?_⟩;refine cR (nh he.o) λD σ H z9=>?_;obtain⟨Ha,ρ,h,q⟩:=z9;refine⟨frz He Ha H,lC ρ,h.frz_le,h.looks,?_⟩
 exact look h q λd v H' J _ g rp q'=>q' v H' J (h.frz_grow.trans g) rp
def bT{c:Pl}{fc:am}{sa sb:List Qe}(hc:DT X E c fc)(ha:yt X E He η sa s)(hb:yt X E He η sb t):DS X E He η (.If c sa sb pos) (fw fc s t):=by
 refine⟨?_⟩;refine cR (Cs hc.o ha.o hb.o) λD σ H z9=>?_;obtain⟨Ha,ρ,h,q⟩:=z9;refine⟨frz He Ha H,lC ρ,h.frz_le,h.looks,?_⟩
 refine HN (k:=λb=>if b=true then s ρ else t ρ) h q λb H' hs q'=>?_;cases b with|true=>rw[if_pos rfl]at q' ⊢;exact⟨Ha,ρ,h.same hs,q'⟩|false=>rw[if_neg Qm]at q' ⊢;exact⟨Ha,ρ,h.same hs,q'⟩
noncomputable def tF(K:OH) (E:XK) (f:am):TE:=λσ H Q=>∃Ha ρ,aG Ha H/\gw K Ha σ ρ/\match f ρ with
 |.ok (.lst ds)=>∀p vs H' Ha',br H Ha H' Ha'->H p=none->Ha' p=none->H' p=some (.lst vs)->Reps K Ha' ds vs->Q (.ref p) H'
 |.ok _=>False
 |.exn x=>∀C ox H' Ha',br H Ha H' Ha'->wQ K Ha' x C ox->E C ox H'
 |.stuck=>False
structure DF (X:Cx) (E:XK) (e:Pl) (f:am):Prop where
 o:PE X e (tF X.K E f)
def t8(i:Nat)(f:am):bv:=λρ=>(f ρ).bind λd=>match d with
 |.lst ds=>.ok (.nx (ρ.set i (.ow (.lst ds))))
 |_=>.stuck
def yb{i:Nat}{x:OG}{pos':Pos}(hN:X.N.Nodup)(hi:X.N[i]?=some x)(hx:zS X.env.scope x)(he:DF X E e f)(hs:P9 e (some (.Name x pos')) pos.line X.env=pure false:=by rfl)
  (hf:X.fn x=true∨X.env.scope.names.lookup x=some .local := by first|exact .inl rfl|exact .inr rfl|assumption):DS X E He η (.Assign [.Name x pos'] e pos) (t8 i f):=by
 refine⟨?_⟩;refine cR (ud hN hi hx he.o hs hf) λD σ H z9=>?_;obtain⟨Ha,ρ,h,q⟩:=z9;refine⟨Ha,ρ,h.g.sub,h.rd,?_⟩
 unfold t8 at q;cases e1:f ρ with
 |stuck=>rw[e1]at q;exact q|exn x=>rw[e1]at q;exact λC ox H' Ha' g ex=>q C ox H' Ha' (h.g.trans g) ex
 |ok d=>
  rw[e1]at q;cases d with
  |lst ds=>
   intro p vs H' Ha' g hp h0 hv rp;refine q _ H' Ha' g.z ((h.grow g).putOwn (λj a ej ea d ed=>?_) (h.g.s.free hp) h0 hv rp (h.fresh_x g.s hp));subst ea;obtain⟨a',k1,_,_,k4⟩:=h.ow j d ed;rw[ej]at k1;cases k1;cases d with
   |lst ds'|dic ks ds'=>obtain⟨vs',h5,_⟩:=k4;rw[hp]at h5;cases h5
   |ob kk ds'=>
    cases kk with|dint ks=>obtain⟨vs',h5,_⟩:=k4;rw[hp]at h5;cases h5| _=>exact k4.elim
   |_=>exact k4.elim
  |_=>exact q.elim
def qD(h:DA X E es fa):DF X E (.List es pos) (ao fa cE):=by
 refine⟨?_⟩;refine bb (kq h.o) λσ H Q h=>?_;obtain⟨Ha,ρ,hs,hr,q⟩:=h;refine⟨Ha,ρ,hs,hr,?_⟩;unfold ao at q;cases e1:fa ρ with
 |stuck|exn x=>rw[e1]at q;exact q
 |ok ds=>
  rw[e1]at q;intro vs H1 H01 g1 r1;replace q:match cE ds with
   |.ok (.lst ds)=>∀p vs H' Ha',br H Ha H' Ha'->H p=none->Ha' p=none->H' p=some (.lst vs)->Reps X.K Ha' ds vs->Q (.ref p) H'
   |.ok _=>False
   |.exn x=>∀C ox H' Ha',br H Ha H' Ha'->wQ X.K Ha' x C ox->E C ox H'
   |.stuck=>False:=q
  unfold cE at q
  by_cases hl:ds.length<=line
  .rw[if_pos hl]at q
   refine⟨by rw[←r1.length];exact fV hl,λp hp=>?_⟩;have h0:H01 p=none:=g1.sub.free hp;refine q p vs _ H01 (g1.trans ⟨λb o q=>by rw[av (bo q hp)];exact q,aG.refl _,λb o q=>?_,λa h1 h2=>absurd h2 h1⟩) (g1.s.free hp) h0 ay r1;rw[av (by intro z;subst z;rw[h0]at q;cases q)];exact g1.sub _ _ q
  .rw[if_neg hl]at q;exact q.elim
def yS(ρ:Ev)(i:Nat)(k:ac->ak Fl):ak Fl:=match ρ[i]? with
 |some (.ow (.lst ds))=>k ds
 |_=>.stuck
def eI(i:Nat)(f:am):bv:=λρ=>yS ρ i λds=>(f ρ).bind λd=>if ds.length<line then .ok (.nx (ρ.set i (.ow (.lst (ds++[d]))))) else .stuck
def CK{K:OH}{Ha H:Hp}{σ:L2.St}{ρ:Ev}{i:Nat}{k:ac->ak Fl}{D':ic}(h:gu K He η Ha σ H ρ)(q:du K E He η Ha (yS ρ i k) D') :
  ∃ds p vs,ρ[i]?=some (.ow (.lst ds))/\σ[i]?=some (some (.ref p))/\He p=none/\Ha p=none/\H p=some (.lst vs)/\Reps K Ha ds vs/\du K E He η Ha (k ds) D':=by
 unfold yS at q;cases e:ρ[i]? with
 |none=>rw[e]at q;exact q.elim
 |some s=>
  rw[e]at q;cases s with
  |no|sh d|ox j ds|pt a=>exact q.elim
  |ow d=>
   cases d with
   |lst ds=>
    obtain⟨p,h1,h2,h3,vs,h4,h5⟩:=h.ow i _ e;exact⟨ds,p,vs,rfl,h1,h2,h3,h4,h5,q⟩
   |_=>exact q.elim
def jE{i:Nat}{x:OG}{p1 p2 p3:Pos}(hN:X.N[i]?=some x)(hv:zO X.env.scope x)(he:DE X E e f)
  (hd:(x==("__debug__" : OG))=false:=by decide)(hcd:(x==("__classdict__" : OG))=false:=by decide)
  (hbase:Qd (.Name x p1) "append" X.env (eval (.Name x p1) X.env)=eval (.Name x p1) X.env:=by rfl)
  (hfew:((PK p3 (OJ [e] X.env)).all (λx=>!x.1)&&(Ry p3 (QF [] X.env)).all (λx=>x.1.isSome)
  &&decide ([e].length+([]:List QW).length+(if([]:List QW).isEmpty then 0 else 1)<30))=true:=by exact iG rfl)
  (hline:(p2.endLine==p3.line)=true:=by rfl) (hs:OJ [e] X.env=(false,eval e X.env)::OJ [] X.env:=by exact aJ rfl) (hplain:(PK p3 (OJ [] X.env)).any (·.1)=false:=by exact bA rfl)
  (hw:P9 (.Call (.Attribute (.Name x p1) "append" p2) [e] [] p3) none pos.line X.env=pure false:=by rfl) :
  DS X E He η (.Expr (.Call (.Attribute (.Name x p1) "append" p2) [e] [] p3) pos) (eI i f):=by
 refine⟨?_⟩;refine cR (ue (yO TH Ts Tr nr (jJ hN hv hd hcd) (cF he.o dR hs) hbase hfew hline hs hplain) hw) λD σ H ⟨Ha,ρ,h,q⟩=>?_;obtain⟨ds,p,vs,e1,e2,e3,e4,e5,e6,q⟩:=CK h q;refine⟨.ref p,e2,.inl ⟨rfl,vs,gL.of e5⟩,?_⟩;refine⟨Ha,ρ,h.g.sub,h.rd,plain h q λd v H' Ha' _ g rp q'=>?_⟩
 by_cases hl:ds.length<line
 .rw[if_pos hl]at q'
  have e5':H' p=some (.lst vs):=g.s _ _ e5;refine⟨p,vs,v,rfl,rfl,e5',by rw[←e6.length];exact OS hl (by decide),?_⟩;exact q' σ _ Ha' (aG.refl _) ((h.grow g).write e1 e2 ((e6.mono g.z).app (Reps.cons rp Reps.nil)))
 .rw[if_neg hl]at q';exact q'.elim
def putAt(ρ:Ev)(i:Nat)(ds:ac)(d:D)(j:D):ak Fl:=match j with
 |.int j=>match Ge ds.length j with
  |some n=>.ok (.nx (ρ.set i (.ow (.lst (ds.set n d)))))
  |none=>.stuck
 |_=>.stuck
noncomputable def gp(tg:Ev->D->ak Ev) (body:bv):ac->bv
 |[],ρ=>.ok (.nx ρ)
 |d::r,ρ=>(tg ρ d).bind λρ1=>(body ρ1).bind λx=>match x with
  |.nx ρ2=>gp tg body r ρ2
  |.ct ρ2=>gp tg body r ρ2
  |.bk ρ2=>.ok (.nx ρ2)
  |.rt d=>.ok (.rt d)
def tG(K:OH)(He η:Hp)(tg:Ev->D->ak Ev):TG:=λv σ H Q=>∃Ha ρ d,gu K He η Ha σ H ρ/\Rep K Ha d v/\match tg ρ d with
  |.ok ρ'=>∀σ' H' Ha',aG Ha Ha'->gu K He η Ha' σ' H' ρ'->Q σ' H'
  |_=>False
structure DG (X:Cx) (E:XK) (He η:Hp) (target:Pl) (tg:Ev->D->ak Ev):Prop where
 o:PG X target (tG X.K He η tg)
def fv(i:Nat):Ev->D->ak Ev:=λρ d=>.ok (ρ.set i (.sh d))
def ug{tgt:Pl}{t t':TG}(h:PG X tgt t)(w:∀v σ H Q,t' v σ H Q->t v σ H Q):PG X tgt t':=λπ s σ H v u Q I r q=>h π s σ H v u Q I r (w v σ H Q q)
def fE{i:Nat}{x:OG}(hN:X.N.Nodup)(hi:X.N[i]?=some x)(hx:zS X.env.scope x)(hf:X.fn x=true∨X.env.scope.names.lookup x=some .local := by first|exact .inl rfl|exact .inr rfl|assumption):DG X E He η (.Name x pos) (fv i) :=
 ⟨ug (yK hN hi hx hf) λv σ H Q ⟨Ha,ρ,d,h,rp,q⟩=>q _ H Ha (aG.refl _) (h.put rp)⟩
def mU(K:OH)(E:XK)(He η Hb:Hp)(tg:Ev->D->ak Ev)(s:bv)(ds:ac)(D':ic)(i:Nat)(σ:L2.St)(H:Hp):Prop :=
 ∃Ha ρ,aG Hb Ha/\gu K He η Ha σ H ρ/\du K E He η Ha (gp tg s (ds.drop i) ρ) D'
def mU.step{K:OH}{Hb:Hp}{tg:Ev->D->ak Ev}{ds:ac}{D':ic}{i:Nat}{σ:L2.St}{H:Hp}{d:D}{v:V}(h:mU K E He η Hb tg s ds D' i σ H)(hd:ds[i]?=some d)(rv:Rep K Hb d v)
  (he:∀ρ,tg ρ d=.stuck∨∃ρ',tg ρ d=.ok ρ') :
  tG K He η tg v σ H λσ2 H2=>tS K E He η s { D' with nx:=mU K E He η Hb tg s ds D' (i+1),ct:=mU K E He η Hb tg s ds D' (i+1),bk:=D'.nx } σ2 H2:=by
 obtain⟨Ha,ρ,z,h,q⟩:=h;have hi:i<ds.length:=(OZ.mp hd).1;have hdr:ds.drop i=d::ds.drop (i+1):=by
  rw[Qf hi];rw[OQ hi]at hd;cases hd;rfl
 rw[hdr]at q;refine⟨Ha,ρ,d,h,rv.mono z,?_⟩;unfold gp at q;rcases he ρ with e1|⟨ρ1,e1⟩
 .rw[e1]at q;exact q.elim
 .rw[e1]at q ⊢
  intro σ' H' Ha' z' h';refine⟨Ha',ρ1,h',?_⟩;replace q:=du.grow (r:=(s ρ1).bind λx=>match x with
   |.nx ρ2=>gp tg s (ds.drop (i+1)) ρ2
   |.ct ρ2=>gp tg s (ds.drop (i+1)) ρ2
   |.bk ρ2=>.ok (.nx ρ2)
   |.rt d=>.ok (.rt d)) q z'
  cases e2:s ρ1 with
  |stuck|exn x=>rw[e2]at q;exact q
  |ok r=>
   rw[e2]at q;cases r with|nx ρ2=>exact λσ3 H3 H03 z3 h3=>⟨H03,ρ2,(z.trans z').trans z3,h3,du.grow (r:=gp tg s (ds.drop (i+1)) ρ2) q z3⟩|ct ρ2=>exact λσ3 H3 H03 z3 h3=>⟨H03,ρ2,(z.trans z').trans z3,h3,du.grow (r:=gp tg s (ds.drop (i+1)) ρ2) q z3⟩|bk ρ2|rt d=>exact q
def mU.done{K:OH}{Hb:Hp}{tg:Ev->D->ak Ev}{ds:ac}{D':ic}{σ:L2.St}{H:Hp}(h:mU K E He η Hb tg s ds D' ds.length σ H):D'.nx σ H:=by
 obtain⟨Ha,ρ,z,h,q⟩:=h;rw[S2]at q;unfold gp at q;exact q σ H Ha (aG.refl _) h
def wH(tg:Ev->D->ak Ev):Prop:=∀ρ d,tg ρ d=.stuck∨∃ρ',tg ρ d=.ok ρ'
def jh{i:Nat}:wH (fv i):=λρ d=>.inr ⟨_,rfl⟩
def Ak(f:am)(tg:Ev->D->ak Ev)(s:bv):bv:=λρ=>(f ρ).bind λd=>match d with
 |.lst ds=>gp tg s ds ρ
 |_=>.stuck
def DU{tgt iter:Pl}{body:List Qe}{tg:Ev->D->ak Ev}(hp:PassesOwn (O2 X.prog X.w) X.A X.env X.xe)(hc:X.calm=true)(hi:DE X E iter f)(hg:DG X E He η tgt tg)(ht:wH tg)(hb:yt X E He η body s)
  (hs:∀x,foldedSetIterable iter X.env x=pure x:=by intro _;rfl):DS X E He η (.For tgt iter body [] pos) (Ak f tg s):=by
 refine⟨?_⟩;refine cR (xr hp hc (yJ hi.o) hg.o hb.o hs) λD' σ H z9=>?_;obtain⟨Ha,ρ,h,q⟩:=z9;refine⟨Ha,ρ,h.g.sub,h.rd,?_⟩
 refine plain h q λd v H1 H01 _ g rp q1=>?_;cases d with
 |lst ds=>
  obtain⟨a,vs,rfl,hv,hr⟩:=aF.mp rp;refine⟨a,rfl,⟨vs,aG.sqL g.sub hv⟩,?_⟩;refine Dr (K:=X.K) (a:=a) (g:=tG X.K He η tg) (tb:=tS X.K E He η s) (D:=D') (xs:=vs) (mU X.K E He η H01 tg s ds D') ⟨H01,ρ,aG.refl _,h.grow g,q1⟩ ?_ ?_ ?_
  .rintro i σ' H' _ ⟨Ha',ρ',z,h',_⟩
   exact aG.sqL (z.trans h'.g.sub) hv
  .intro i x σ' H' hx hI
   have hil:i<ds.length:=by rw[hr.length];exact(OZ.mp hx).1
   obtain⟨u,e1,e2⟩:=hr.get (OQ hil);rw[hx]at e1;cases e1;exact hI.step (OQ hil) e2 λρ=>ht ρ _
  .intro σ' H' hI
   rw[←hr.length]at hI;exact hI.done
 |_=>exact q1.elim
def intsFrom(lo:Int)(n:Nat):ac:=(Qc n).map λ(k:Nat)=>D.int (lo+(k:Int))
def pI(f:am)(tg:Ev->D->ak Ev)(s:bv):bv:=λρ=>(f (lC ρ)).bind λd=>match d with
 |.int j=>if -4611686018427387904<=j/\j<4611686018427387904 then gp tg s (intsFrom 0 j.toNat) ρ else .stuck
 |_=>.stuck
def uL{tgt iter:Pl}{p pos2:Pos}{body:List Qe}{tg:Ev->D->ak Ev}(hp:PassesOwn (O2 X.prog X.w) X.A X.env X.xe)(hc:X.calm=true)(hgl:Gl X "range")(hm:X.mg "range"=none)(hi:DE X E iter f)(hg:DG X E He η tgt tg)(ht:wH tg)(hb:yt X E He η body s)
  (hst:OJ [iter] X.env=[(false,eval iter X.env)]:=by exact jk rfl)(hs:∀x,foldedSetIterable (.Call (.Name "range" p) [iter] [] pos2) X.env x=pure x:=by intro _;rfl):DS X E He η (.For tgt (.Call (.Name "range" p) [iter] [] pos2) body [] pos) (pI f tg s):=by
 refine⟨?_⟩;refine cR (xr hp hc (sA hgl hm (cF hi.o dR hst) hst) hg.o hb.o hs) λD' σ H ⟨Ha,ρ,h,q⟩=>?_;refine⟨frz He Ha H,lC ρ,h.frz_le,h.looks,look h q λd v H1 J _ g rp q1=>?_⟩;cases d with
 |int j=>
  rw[az.mp rp];replace q1:du X.K E He η Ha (if -4611686018427387904<=j/\j<4611686018427387904 then gp tg s (intsFrom 0 j.toNat) ρ else .stuck) D':=q1
  by_cases hj:-4611686018427387904<=j/\j<4611686018427387904
  .rw[if_pos hj]at q1
   refine⟨j,rfl,by omega,by omega,?_⟩;have hlen:(intsFrom 0 j.toNat).length=j.toNat:=by unfold intsFrom;simp
   refine A6 (lo:=0) (n:=j.toNat) (g:=tG X.K He η tg) (tb:=tS X.K E He η s) (D:=D') (mU X.K E He η Ha tg s (intsFrom 0 j.toNat) D') ⟨Ha,ρ,aG.refl _,h.same g.s,q1⟩ ?_ ?_
   .intro i σ' H' hlt hI
    refine hI.step (d:=.int (0+i)) ?_ (az.mpr rfl) λρ=>ht ρ _;unfold intsFrom;simp[hlt]
   .intro σ' H' hI
    exact mU.done (ds:=intsFrom 0 j.toNat) (by rw[hlen];exact hI)
  .rw[if_neg hj]at q1;exact q1.elim
 |_=>exact q1.elim
noncomputable def fQ(c:am) (s:bv):Nat->bv
 |0,_=>.stuck
 |n+1,ρ=>(c (lC ρ)).bind λx=>match x with
  |.bl b=>if b=true then(s ρ).bind λx=>match x with
    |.nx ρ2=>fQ c s n ρ2
    |.ct ρ2=>fQ c s n ρ2
    |.bk ρ2=>.ok (.nx ρ2)
    |.rt d=>.ok (.rt d)
   else .ok (.nx ρ)
  |_=>.stuck
def pH(fuel:Ev->Nat)(c:am)(s:bv):bv:=λρ=>fQ c s (fuel ρ) ρ
def wq(fuel:Ev->Nat){c:Pl}{body:List Qe}{fc:am}(hp:PassesOwn (O2 X.prog X.w) X.A X.env X.xe)(hc:DT X E c fc)(hb:yt X E He η body s):DS X E He η (.While c body [] pos) (pH fuel fc s):=by
 refine⟨?_⟩;refine cR (Cr hp hc.o hb.o) λD' σ H ⟨Ha,ρ,h,q⟩=>?_;refine⟨λm σ H=>∃Ha ρ,gu X.K He η Ha σ H ρ/\du X.K E He η Ha (fQ fc s m ρ) D',⟨fuel ρ,Ha,ρ,h,q⟩,?_⟩;rintro m σ1 H1 ⟨H01,ρ1,h1,q1⟩;cases m with
 |zero=>exact q1.elim
 |succ m=>
  refine⟨frz He H01 H1,lC ρ1,h1.frz_le,h1.looks,?_⟩;unfold fQ at q1;refine HN (k:=λb=>if b=true then(s ρ1).bind λx=>match x with
    |.nx ρ2=>fQ fc s m ρ2
    |.ct ρ2=>fQ fc s m ρ2
    |.bk ρ2=>.ok (.nx ρ2)
    |.rt d=>.ok (.rt d)
   else .ok (.nx ρ1)) h1 q1 λb H2 hs q2=>?_
  cases b with
  |false=>
   rw[if_neg Qm]at q2 ⊢;exact q2 σ1 H2 H01 (aG.refl _) (h1.same hs)
  |true=>
   rw[if_pos rfl]at q2 ⊢;refine⟨λσ' H'=>∃m',m' < m+1/\∃Ha ρ,gu X.K He η Ha σ' H' ρ/\du X.K E He η Ha (fQ fc s m' ρ) D',λσ' H' z=>z,H01,ρ1,h1.same hs,?_⟩;cases e2:s ρ1 with
   |stuck|exn x=>rw[e2]at q2;exact q2
   |ok r=>
    rw[e2]at q2;cases r with|nx ρ2=>exact λσ3 H3 H03 z3 h3=>⟨m,QY _,H03,ρ2,h3,du.grow (r:=fQ fc s m ρ2) q2 z3⟩|ct ρ2=>exact λσ3 H3 H03 z3 h3=>⟨m,QY _,H03,ρ2,h3,du.grow (r:=fQ fc s m ρ2) q2 z3⟩|bk ρ2|rt d=>exact q2
end
def da(n:Nat)(s:bv)(ds:ac):ak D:=(s (ds.map Sl.sh++OV (n-ds.length) .no)).bind λr=>match r with
 |.nx _=>.ok .non
 |.rt d=>.ok d
 |_=>.stuck
def nM{K:OH}{Ha:Hp}{N:ci}{ds:ac}{vs:al}(h:Reps K Ha ds vs):gw K Ha (start N vs) (ds.map Sl.sh++OV (N.length-ds.length) .no):=by
 intro i d e;have hl:=h.length
 by_cases hi:i<ds.length
 .rw[O8 (by simpa using hi),O5]at e
  cases q:ds[i]? with
  |none=>rw[q]at e;cases e
  |some d'=>
   rw[q]at e;cases e;obtain⟨v,h1,h2⟩:=h.get q;refine⟨v,?_,h2⟩;unfold L2.start;rw[O8 (by simp;omega),O5,h1];rfl
 .rw[Pg (by simpa using hi),Pt]at e
  split at e<;>cases e
def rY{ds:ac}{n:Nat}(i j:Nat)(es:ac):(ds.map Sl.sh++OV n Sl.no)[i]?≠some (.ox j es):=λe=>by
 have:=Pp e;rw[Qv]at this;rcases this with h|h
 .obtain⟨_,_,h⟩:=PM.mp h;cases h
 .have:=Tv h;cases this
def pA{ds:ac}{n:Nat}{σ:L2.St}(i:Nat)(a:OE)(e:(ds.map Sl.sh++OV n Sl.no)[i]?=some (.pt a)):σ[i]?=some (some (.ref a)):=by
 have:=Pp e;rw[Qv]at this;rcases this with h|h
 .obtain⟨_,_,h⟩:=PM.mp h;cases h
 .have:=Tv h;cases this
def A7{P:Pr}{w:PJ}{K:OH}{mg:OG->Option OB}{base:OY}{x qual:OG}{st:Qe}{f:OE}{fd:Pz}{N ps:ci}{k:Nat}{s:bv}(F:zT K x qual st f fd)(S:fH N ps (defScope st))
  (hbody:∀(cdv:OB) (A:Px) (outer:List P7) (s0:OI) (H Ha:Hp) (E:XK),dA k (A.deeper (envOfC qual (defScope st) s0.heap.objs.size f cdv)) ->
   yt (gh CX0 P w K mg base N qual (defScope st) f cdv A outer s0 H E).nox E H Ha (defBody st) s):gq P w K mg base CX0 (k+1) f fd ps (spD K ps.length (da N.length s)):=by
 have hpl:ps.length<=N.length:=by have:=congrArg RK S.pre;rw[Qw]at this;omega
 refine F.ok S (λvs H Q E h=>h.1) λcdv A outer s0 H vs Q E hr h=>?_;obtain⟨hn,Ha,ds,hs,hv,q⟩:=h;refine⟨_,(hbody cdv A outer s0 H Ha E hr).o,Ha,ds.map Sl.sh++OV (N.length-ds.length) .no,?_,?_⟩
 .refine⟨br.refl hs,nM hv,λi d e=>?_,λi j d d' hij e=>?_,?_,OX.none rY pA⟩
  .by_cases hi:i<ds.length
   .rw[O8 (by simpa using hi),O5]at e
    cases q:ds[i]? with|none|some d'=>rw[q]at e;cases e
   .rw[Pg (by simpa using hi),Pt]at e
    split at e<;>cases e
  .by_cases hi:i<ds.length
   .rw[O8 (by simpa using hi),O5]at e
    cases q:ds[i]? with|none|some d'=>rw[q]at e;cases e
   .rw[Pg (by simpa using hi),Pt]at e
    split at e<;>cases e
  .unfold L2.start
   have:=hv.length;simp only[Pm,OD,Qi];omega
 .unfold da at q
  cases e1:s (ds.map Sl.sh++OV (N.length-ds.length) .no) with
  |stuck|exn x=>rw[e1]at q;exact q
  |ok r=>
   rw[e1]at q;cases r with|nx ρ'=>exact λσ' H' Ha' _ h'=>q .non H' Ha' h'.g (aR.mpr rfl)|rt d=>exact λv H' Ha' g rp=>q v H' Ha' g rp|bk ρ'|ct ρ'=>exact q.elim
mutual
def cH:D->D->Bool
 |.non,.non=>true
 |.bl a,.bl b=>a==b
 |.bl a,.int b=>(if a then 1 else 0)==b
 |.int a,.bl b=>a==(if b then 1 else 0)
 |.int a,.int b=>a==b
 |.str a,.str b=>a==b
 |.tup xs,.tup ys=>eqDs xs ys
 |.lst xs,.lst ys=>eqDs xs ys
 |_,_=>false
def eqDs:ac->ac->Bool
 |[],[]=>true
 |x::xs,y::ys=>cH x y&&eqDs xs ys
 |_,_=>false
end
def bh:Nat->D->Bool
 |_,.non=>true
 |_,.bl _=>true
 |_,.int _=>true
 |_,.str _=>true
 |n+1,.tup ds=>ds.all (bh n)
 |n+1,.lst ds=>ds.all (bh n)
 |_,_=>false
def sP{ds:ac}(h:∀d∈ds,cH d d=true):eqDs ds ds=true:=by
 induction ds with
 |nil=>simp[eqDs]
 |cons d r ih=>
  unfold eqDs;rw[h d Pe,ih λx hx=>h x (OT _ hx)];rfl
theorem kI:∀(n:Nat) (d:D),bh n d=true->cH d d=true
 |_,.non,_=>by simp[cH]
 |_,.bl b,_=>by simp[cH]
 |_,.int b,_=>by simp[cH]
 |_,.str b,_=>by simp[cH]
 |n+1,.tup ds,h=>by
  unfold bh at h;unfold cH;exact sP λd hd=>kI n d (Pk.mp h d hd)
 |n+1,.lst ds,h=>by
  unfold bh at h;unfold cH;exact sP λd hd=>kI n d (Pk.mp h d hd)
 |0,.tup ds,h=>by unfold bh at h;cases h
 |0,.lst ds,h=>by unfold bh at h;cases h
 |0,.dic ks ds,h=>by unfold bh at h;cases h
 |n+1,.dic ks ds,h=>by unfold bh at h;cases h
 |0,.exc x,h=>by unfold bh at h;cases h
 |0,.ob k x,h=>by unfold bh at h;cases h
 |n+1,.ob k x,h=>by unfold bh at h;cases h
 |n+1,.exc x,h=>by unfold bh at h;cases h
def G3{xs ys:ac}:cH (.tup xs) (.tup ys)=eqDs xs ys:=by rw[cH]
def zE{xs ys:ac}:cH (.lst xs) (.lst ys)=eqDs xs ys:=by rw[cH]
theorem lS:∀(xs ys:ac),xs.length=ys.length->eqDs xs ys=(Qc xs.length).all λj=>cH (xs.getD j .non) (ys.getD j .non)
 |[],[],_=>by simp[eqDs]
 |x::xs,y::ys,h=>by
  have ih:=lS xs ys (by simpa using h);unfold eqDs;rw[ih,Pa,Sj,QH,Sk];rfl
 |[],_::_,h=>by simp at h
 |_::_,[],h=>by simp at h
theorem qw:∀(xs ys:ac),xs.length≠ys.length->eqDs xs ys=false
 |[],[],h=>absurd rfl h
 |x::xs,y::ys,h=>by
  unfold eqDs;rw[qw xs ys (by simpa using h),Pf]
 |[],_::_,h=>by simp[eqDs]
 |_::_,[],h=>by simp[eqDs]
section
variable {X:Cx}{π:List (OE×Obj)}{σ:L2.St}{H:Hp}{s:OI}
def bB(I:Inv X π σ H s){ds:ac}{v:V}{u:OB}(r:Rep X.K H (.tup ds) v)(rv:bX v u):∃a vs its,v=.ref a/\u=.ref a/\lA X.K H a vs/\Reps X.K H ds vs/\bJ vs its/\IsTup s.heap a its.toArray/\ds.length=its.length:=by
 obtain⟨a,vs,rfl,h1,h2⟩:=aM.mp r;obtain rfl:u=Pq a:=rv;obtain⟨its,h3,h4,_⟩:=I.tuple h1;exact⟨a,vs,its,rfl,rfl,h1,h2,h3,h4,h2.length.trans h3.length⟩
def bu(I:Inv X π σ H s){ds:ac}{v:V}{u:OB}(r:Rep X.K H (.lst ds) v)(rv:bX v u):∃a vs its,v=.ref a/\u=.ref a/\gL X.K H a vs/\Reps X.K H ds vs/\bJ vs its/\s.heap.IsList a its.toArray/\ds.length=its.length:=by
 obtain⟨a,vs,rfl,h1,h2⟩:=aF.mp r;obtain rfl:u=Pq a:=rv;obtain⟨its,h3,h4,_⟩:=I.list h1;exact⟨a,vs,its,rfl,rfl,h1,h2,h3,h4.isList,h2.length.trans h3.length⟩
theorem pK{n:Nat}(ih:∀(d d':D) (v:V),bh n d=true->bh n d'=true->Rep X.K H d v->Rep X.K H d' v->d=d'):∀(ds ds':ac) (vs:al),ds.all (bh n)=true->ds'.all (bh n)=true->Reps X.K H ds vs->Reps X.K H ds' vs->ds=ds'
 |[],ds',vs,_,_,h,h'=>by
  rw[Reps.nil_iff.mp h]at h';cases ds' with|nil=>rfl|cons d r=>obtain⟨_,_,e,_⟩:=aD.mp h';cases e
 |d::ds,ds',vs,a,a',h,h'=>by
  obtain⟨v,r,rfl,h1,h2⟩:=aD.mp h;cases ds' with
  |nil=>cases Reps.nil_iff.mp h'
  |cons d' ds'=>
   obtain⟨v',r',e,h1',h2'⟩:=aD.mp h';cases e;rw[QH,OR]at a a';rw[ih d d' v a.1 a'.1 h1 h1',pK ih ds ds' r a.2 a'.2 h2 h2']
def Rep.inj(I:Inv X π σ H s):∀(n:Nat) (d d':D) (v:V),bh n d=true->bh n d'=true->Rep X.K H d v->Rep X.K H d' v->d=d':=by
 have atom:∀(n:Nat) (d d':D) (v:V),(∀ds,d≠.tup ds)->(∀ds,d≠.lst ds)->bh n d=true->bh n d'=true->Rep X.K H d v->Rep X.K H d' v->d=d':=by
  intro n d d' v n1 n2 s1 s2 h h';have nd:∀m ks ds,bh m (.dic ks ds)=true->False:=λm ks ds h=>by cases m<;>(unfold bh at h;cases h)
  have nx:∀m x,bh m (.exc x)=true->False:=λm x h=>by cases m<;>(unfold bh at h;cases h)
  have nb:∀m k x,bh m (.ob k x)=true->False:=λm k x h=>by cases m<;>(unfold bh at h;cases h)
  cases d with
  |tup ds=>exact absurd rfl (n1 ds)|lst ds=>exact absurd rfl (n2 ds)|dic ks ds=>exact(nd _ _ _ s1).elim|exc x=>exact(nx _ _ s1).elim|ob k x=>exact(nb _ _ _ s1).elim
  |non=>
   rw[aR.mp h]at h';cases d' with|non=>rfl|bl b=>cases aE.mp h'|int b=>cases az.mp h'|str b=>cases Rep.str_iff.mp h'|tup ds=>obtain⟨_,_,e,_⟩:=aM.mp h';cases e|lst ds=>obtain⟨_,_,e,_⟩:=aF.mp h';cases e|dic ks ds=>exact(nd _ _ _ s2).elim|exc x=>exact(nx _ _ s2).elim|ob k x=>exact(nb _ _ _ s2).elim
  |bl x=>
   rw[aE.mp h]at h';cases d' with|non=>cases aR.mp h'|bl b=>cases aE.mp h';rfl|int b=>cases az.mp h'|str b=>cases Rep.str_iff.mp h'|tup ds=>obtain⟨_,_,e,_⟩:=aM.mp h';cases e|lst ds=>obtain⟨_,_,e,_⟩:=aF.mp h';cases e|dic ks ds=>exact(nd _ _ _ s2).elim|exc x=>exact(nx _ _ s2).elim|ob k x=>exact(nb _ _ _ s2).elim
  |int x=>
   rw[az.mp h]at h';cases d' with|non=>cases aR.mp h'|bl b=>cases aE.mp h'|int b=>cases az.mp h';rfl|str b=>cases Rep.str_iff.mp h'|tup ds=>obtain⟨_,_,e,_⟩:=aM.mp h';cases e|lst ds=>obtain⟨_,_,e,_⟩:=aF.mp h';cases e|dic ks ds=>exact(nd _ _ _ s2).elim|exc x=>exact(nx _ _ s2).elim|ob k x=>exact(nb _ _ _ s2).elim
  |str x=>
   rw[Rep.str_iff.mp h]at h';cases d' with|non=>cases aR.mp h'|bl b=>cases aE.mp h'|int b=>cases az.mp h'|str b=>cases Rep.str_iff.mp h';rfl|tup ds=>obtain⟨_,_,e,_⟩:=aM.mp h';cases e|lst ds=>obtain⟨_,_,e,_⟩:=aF.mp h';cases e|dic ks ds=>exact(nd _ _ _ s2).elim|exc x=>exact(nx _ _ s2).elim|ob k x=>exact(nb _ _ _ s2).elim
 intro n
 induction n with
 |zero=>
  intro d d' v s1 s2 h h';exact atom 0 d d' v (λds e=>by subst e;unfold bh at s1;cases s1) (λds e=>by subst e;unfold bh at s1;cases s1) s1 s2 h h'
 |succ n ih=>
  intro d d' v s1 s2 h h'
  by_cases t1:∃ds,d=.tup ds
  .obtain⟨ds,rfl⟩:=t1
   by_cases t2:∃ds',d'=.tup ds'
   .obtain⟨ds',rfl⟩:=t2
    obtain⟨a,vs,rfl,h1,h2⟩:=aM.mp h;obtain⟨a',vs',e,h1',h2'⟩:=aM.mp h';cases e;rw[I.tuple_inj h1' h1]at h2';unfold bh at s1 s2;rw[pK ih ds ds' vs s1 s2 h2 h2']
   .by_cases t3:∃ds',d'=.lst ds'
    .obtain⟨ds',rfl⟩:=t3
     obtain⟨a0,_,ev,_,_⟩:=aM.mp h;subst ev;obtain⟨a,vs,its,ea,_,h1,h2,h3,h4,_⟩:=bB I h rfl;cases ea;obtain⟨a',vs',its',e,_,h1',h2',h3',h4',_⟩:=bu I h' rfl;cases e;exact absurd rfl (TZ h4' h4)
    .exact(atom (n+1) d' _ v (λds e=>t2 ⟨ds,e⟩) (λds e=>t3 ⟨ds,e⟩) s2 s1 h' h).symm
  .by_cases t1':∃ds,d=.lst ds
   .obtain⟨ds,rfl⟩:=t1'
    by_cases t2:∃ds',d'=.lst ds'
    .obtain⟨ds',rfl⟩:=t2
     obtain⟨a,vs,rfl,h1,h2⟩:=aF.mp h;obtain⟨a',vs',e,h1',h2'⟩:=aF.mp h';cases e;rw[I.list_inj h1' h1]at h2';unfold bh at s1 s2;rw[pK ih ds ds' vs s1 s2 h2 h2']
    .by_cases t3:∃ds',d'=.tup ds'
     .obtain⟨ds',rfl⟩:=t3
      obtain⟨a0,_,ev,_,_⟩:=aF.mp h;subst ev;obtain⟨a,vs,its,ea,_,h1,h2,h3,h4,_⟩:=bu I h rfl;cases ea;obtain⟨a',vs',its',e,_,h1',h2',h3',h4',_⟩:=bB I h' rfl;cases e;exact absurd rfl (TZ h4 h4')
     .exact(atom (n+1) d' _ v (λds e=>t3 ⟨ds,e⟩) (λds e=>t2 ⟨ds,e⟩) s2 s1 h' h).symm
   .exact atom (n+1) d d' v (λds e=>t1 ⟨ds,e⟩) (λds e=>t1' ⟨ds,e⟩) s1 s2 h h'
def vO{n:Nat}{A:Px}{xs ys:ac}{vs us:al}{is js:List OB}
  (ih:∀(x y:D) (v u:V) (a b:OB),bh n x=true->bh n y=true->Rep X.K H x v->Rep X.K H y u->bX v a->bX u b->Pb A.in1 s a b (cH x y))
  (sx:xs.all (bh n)=true)(sy:ys.all (bh n)=true)(rx:Reps X.K H xs vs)(ry:Reps X.K H ys us)(qx:bJ vs is)(qy:bJ us js) :
  ∀j (h1:j<is.toArray.size) (h2:j<js.toArray.size),Pb A.in1 s is.toArray[j] js.toArray[j] (cH (xs.getD j .non) (ys.getD j .non)):=by
 intro j h1 h2;have lx:=rx.length;have ly:=ry.length;have kx:=qx.length;have ky:=qy.length;have h1':j<is.length:=by simpa using h1
 have h2':j<js.length:=by simpa using h2
 have hx:j<xs.length:=by omega
 have hy:j<ys.length:=by omega
 obtain⟨v,e1,r1⟩:=rx.get (OQ hx);obtain⟨u,e2,r2⟩:=ry.get (OQ hy);obtain⟨a,e3,r3⟩:=qx.get e1;obtain⟨b,e4,r4⟩:=qy.get e2;have ea:is.toArray[j]=a:=by
  rw[OQ h1']at e3;simpa using PY e3
 have eb:js.toArray[j]=b:=by
  rw[OQ h2']at e4;simpa using PY e4
 rw[ea,eb];have gx:xs.getD j .non=xs[j]:=by simp[List.getD,OQ hx]
 have gy:ys.getD j .non=ys[j]:=by simp[List.getD,OQ hy]
 rw[gx,gy];exact ih _ _ v u a b (Pk.mp sx _ (Rn hx)) (Pk.mp sy _ (Rn hy)) r1 r2 r3 r4
def vn(I:Inv X π σ H s){A:Px}(hu:A.units<Sm){x y:D}{v u:V}{a b:OB}(rx:Rep X.K H x v)(ry:Rep X.K H y u)(qx:bX v a)(qy:bX u b)
  (n1:∀ds ds',¬(x=.lst ds/\y=.lst ds'))(n2:∀ds ds',¬(x=.tup ds/\y=.tup ds'))(d1:∀ks ds,x≠.dic ks ds)(d2:∀ks ds,y≠.dic ks ds)(x1:∀c,x≠.exc c)(x2:∀c,y≠.exc c)(o1:∀k c,x≠.ob k c)(o2:∀k c,y≠.ob k c) :
  Pj A s a b (cH x y)/\Pb A s a b (cH x y)/\O9 A s a b (!(cH x y)):=by
 cases x with
 |non=>
  cases y with
  |non=>
   obtain rfl:=aR.mp rx;obtain rfl:a=Qk:=qx;obtain rfl:=aR.mp ry;obtain rfl:b=Qk:=qy;unfold cH;exact⟨Pj.none_none ,S9 _,O9.none_none ⟩
  |bl y=>
   obtain rfl:=aR.mp rx;obtain rfl:a=Qk:=qx;obtain rfl:=aE.mp ry;obtain rfl:b=Ql _:=qy;unfold cH;exact⟨Pj.none_bool _,Pb.none_bool _,O9.none_bool _⟩
  |int y=>
   obtain rfl:=aR.mp rx;obtain rfl:a=Qk:=qx;obtain rfl:=az.mp ry;obtain⟨ty,rfl⟩:∃t,b=QB _ t:=qy;unfold cH;exact⟨Pj.none_int _ _,Pb.none_int _ _,O9.none_int _ _⟩
  |str y=>
   obtain rfl:=aR.mp rx;obtain rfl:a=Qk:=qx;obtain rfl:=Rep.str_iff.mp ry;obtain⟨ty,rfl⟩:∃t,b=Qz _ t:=qy;unfold cH;exact⟨Pj.none_str _ _,Pb.none_str _ _,O9.none_str _ _⟩
  |lst y=>
   obtain rfl:=aR.mp rx;obtain rfl:a=Qk:=qx;obtain⟨ly,_,_,rfl,rfl,_,_,_,hy,_⟩:=bu I ry qy;unfold cH;exact⟨Pj.none_list  hy hu,Pb.none_list  hy hu,O9.none_list  hy hu⟩
  |tup y=>
   obtain rfl:=aR.mp rx;obtain rfl:a=Qk:=qx;obtain⟨ly,_,_,rfl,rfl,_,_,_,hy,_⟩:=bB I ry qy;unfold cH;exact⟨Pj.none_tuple  hy hu,Pb.none_tuple  hy hu,O9.none_tuple  hy hu⟩
  |dic ks ds=>exact absurd rfl (d2 ks ds)|exc c=>exact absurd rfl (x2 c)|ob k c=>exact absurd rfl (o2 k c)
 |bl x=>
  cases y with
  |non=>
   obtain rfl:=aE.mp rx;obtain rfl:a=Ql _:=qx;obtain rfl:=aR.mp ry;obtain rfl:b=Qk:=qy;unfold cH;exact⟨Pj.bool_none _,Pb.bool_none _,O9.bool_none _⟩
  |bl y=>
   obtain rfl:=aE.mp rx;obtain rfl:a=Ql _:=qx;obtain rfl:=aE.mp ry;obtain rfl:b=Ql _:=qy;unfold cH;exact⟨Pj.bool_bool _ _,Pb.bool_bool _ _,O9.bool_bool _ _⟩
  |int y=>
   obtain rfl:=aE.mp rx;obtain rfl:a=Ql _:=qx;obtain rfl:=az.mp ry;obtain⟨ty,rfl⟩:∃t,b=QB _ t:=qy;unfold cH;exact⟨Pj.bool_int _ _ _,Pb.bool_int _ _ _,O9.bool_int _ _ _⟩
  |str y=>
   obtain rfl:=aE.mp rx;obtain rfl:a=Ql _:=qx;obtain rfl:=Rep.str_iff.mp ry;obtain⟨ty,rfl⟩:∃t,b=Qz _ t:=qy;unfold cH;exact⟨Pj.bool_str _ _ _,Pb.bool_str _ _ _,O9.bool_str _ _ _⟩
  |lst y=>
   obtain rfl:=aE.mp rx;obtain rfl:a=Ql _:=qx;obtain⟨ly,_,_,rfl,rfl,_,_,_,hy,_⟩:=bu I ry qy;unfold cH;exact⟨Pj.bool_list _ hy hu,Pb.bool_list _ hy hu,O9.bool_list _ hy hu⟩
  |tup y=>
   obtain rfl:=aE.mp rx;obtain rfl:a=Ql _:=qx;obtain⟨ly,_,_,rfl,rfl,_,_,_,hy,_⟩:=bB I ry qy;unfold cH;exact⟨Pj.bool_tuple _ hy hu,Pb.bool_tuple _ hy hu,O9.bool_tuple _ hy hu⟩
  |dic ks ds=>exact absurd rfl (d2 ks ds)|exc c=>exact absurd rfl (x2 c)|ob k c=>exact absurd rfl (o2 k c)
 |int x=>
  cases y with
  |non=>
   obtain rfl:=az.mp rx;obtain⟨tx,rfl⟩:∃t,a=QB _ t:=qx;obtain rfl:=aR.mp ry;obtain rfl:b=Qk:=qy;unfold cH;exact⟨Pj.int_none _ _,Pb.int_none _ _,O9.int_none _ _⟩
  |bl y=>
   obtain rfl:=az.mp rx;obtain⟨tx,rfl⟩:∃t,a=QB _ t:=qx;obtain rfl:=aE.mp ry;obtain rfl:b=Ql _:=qy;unfold cH;exact⟨Pj.int_bool _ _ _,Pb.int_bool _ _ _,O9.int_bool _ _ _⟩
  |int y=>
   obtain rfl:=az.mp rx;obtain⟨tx,rfl⟩:∃t,a=QB _ t:=qx;obtain rfl:=az.mp ry;obtain⟨ty,rfl⟩:∃t,b=QB _ t:=qy;unfold cH;exact⟨Pj.int_int _ _ _ _,Pb.int_int _ _ _ _,O9.int_int _ _ _ _⟩
  |str y=>
   obtain rfl:=az.mp rx;obtain⟨tx,rfl⟩:∃t,a=QB _ t:=qx;obtain rfl:=Rep.str_iff.mp ry;obtain⟨ty,rfl⟩:∃t,b=Qz _ t:=qy;unfold cH;exact⟨Pj.int_str _ _ _ _,Pb.int_str _ _ _ _,O9.int_str _ _ _ _⟩
  |lst y=>
   obtain rfl:=az.mp rx;obtain⟨tx,rfl⟩:∃t,a=QB _ t:=qx;obtain⟨ly,_,_,rfl,rfl,_,_,_,hy,_⟩:=bu I ry qy;unfold cH;exact⟨Pj.int_list _ _ hy hu,Pb.int_list _ _ hy hu,O9.int_list _ _ hy hu⟩
  |tup y=>
   obtain rfl:=az.mp rx;obtain⟨tx,rfl⟩:∃t,a=QB _ t:=qx;obtain⟨ly,_,_,rfl,rfl,_,_,_,hy,_⟩:=bB I ry qy;unfold cH;exact⟨Pj.int_tuple _ _ hy hu,Pb.int_tuple _ _ hy hu,O9.int_tuple _ _ hy hu⟩
  |dic ks ds=>exact absurd rfl (d2 ks ds)|exc c=>exact absurd rfl (x2 c)|ob k c=>exact absurd rfl (o2 k c)
 |str x=>
  cases y with
  |non=>
   obtain rfl:=Rep.str_iff.mp rx;obtain⟨tx,rfl⟩:∃t,a=Qz _ t:=qx;obtain rfl:=aR.mp ry;obtain rfl:b=Qk:=qy;unfold cH;exact⟨Pj.str_none _ _,Pb.str_none _ _,O9.str_none _ _⟩
  |bl y=>
   obtain rfl:=Rep.str_iff.mp rx;obtain⟨tx,rfl⟩:∃t,a=Qz _ t:=qx;obtain rfl:=aE.mp ry;obtain rfl:b=Ql _:=qy;unfold cH;exact⟨Pj.str_bool _ _ _,Pb.str_bool _ _ _,O9.str_bool _ _ _⟩
  |int y=>
   obtain rfl:=Rep.str_iff.mp rx;obtain⟨tx,rfl⟩:∃t,a=Qz _ t:=qx;obtain rfl:=az.mp ry;obtain⟨ty,rfl⟩:∃t,b=QB _ t:=qy;unfold cH;exact⟨Pj.str_int _ _ _ _,Pb.str_int _ _ _ _,O9.str_int _ _ _ _⟩
  |str y=>
   obtain rfl:=Rep.str_iff.mp rx;obtain⟨tx,rfl⟩:∃t,a=Qz _ t:=qx;obtain rfl:=Rep.str_iff.mp ry;obtain⟨ty,rfl⟩:∃t,b=Qz _ t:=qy;unfold cH;exact⟨Pj.str_str _ _ _ _,Pb.str_str _ _ _ _,O9.str_str _ _ _ _⟩
  |lst y=>
   obtain rfl:=Rep.str_iff.mp rx;obtain⟨tx,rfl⟩:∃t,a=Qz _ t:=qx;obtain⟨ly,_,_,rfl,rfl,_,_,_,hy,_⟩:=bu I ry qy;unfold cH;exact⟨Pj.str_list _ _ hy hu,Pb.str_list _ _ hy hu,O9.str_list _ _ hy hu⟩
  |tup y=>
   obtain rfl:=Rep.str_iff.mp rx;obtain⟨tx,rfl⟩:∃t,a=Qz _ t:=qx;obtain⟨ly,_,_,rfl,rfl,_,_,_,hy,_⟩:=bB I ry qy;unfold cH;exact⟨Pj.str_tuple _ _ hy hu,Pb.str_tuple _ _ hy hu,O9.str_tuple _ _ hy hu⟩
  |dic ks ds=>exact absurd rfl (d2 ks ds)|exc c=>exact absurd rfl (x2 c)|ob k c=>exact absurd rfl (o2 k c)
 |lst x=>
  cases y with
  |non=>
   obtain⟨lx,_,_,rfl,rfl,_,_,_,hx,_⟩:=bu I rx qx;obtain rfl:=aR.mp ry;obtain rfl:b=Qk:=qy;unfold cH;exact⟨Pj.list_none  hx hu,Pb.list_none  hx hu,O9.list_none  hx hu⟩
  |bl y=>
   obtain⟨lx,_,_,rfl,rfl,_,_,_,hx,_⟩:=bu I rx qx;obtain rfl:=aE.mp ry;obtain rfl:b=Ql _:=qy;unfold cH;exact⟨Pj.list_bool _ hx hu,Pb.list_bool _ hx hu,O9.list_bool _ hx hu⟩
  |int y=>
   obtain⟨lx,_,_,rfl,rfl,_,_,_,hx,_⟩:=bu I rx qx;obtain rfl:=az.mp ry;obtain⟨ty,rfl⟩:∃t,b=QB _ t:=qy;unfold cH;exact⟨Pj.list_int _ _ hx hu,Pb.list_int _ _ hx hu,O9.list_int _ _ hx hu⟩
  |str y=>
   obtain⟨lx,_,_,rfl,rfl,_,_,_,hx,_⟩:=bu I rx qx;obtain rfl:=Rep.str_iff.mp ry;obtain⟨ty,rfl⟩:∃t,b=Qz _ t:=qy;unfold cH;exact⟨Pj.list_str _ _ hx hu,Pb.list_str _ _ hx hu,O9.list_str _ _ hx hu⟩
  |lst y=>
   exact absurd ⟨rfl,rfl⟩ (n1 x y)
  |tup y=>
   obtain⟨lx,_,_,rfl,rfl,_,_,_,hx,_⟩:=bu I rx qx;obtain⟨ly,_,_,rfl,rfl,_,_,_,hy,_⟩:=bB I ry qy;unfold cH;exact⟨Pj.list_tuple  hx hy hu,Pb.list_tuple  hx hy hu,O9.list_tuple  hx hy hu⟩
  |dic ks ds=>exact absurd rfl (d2 ks ds)|exc c=>exact absurd rfl (x2 c)|ob k c=>exact absurd rfl (o2 k c)
 |tup x=>
  cases y with
  |non=>
   obtain⟨lx,_,_,rfl,rfl,_,_,_,hx,_⟩:=bB I rx qx;obtain rfl:=aR.mp ry;obtain rfl:b=Qk:=qy;unfold cH;exact⟨Pj.tuple_none  hx hu,Pb.tuple_none  hx hu,O9.tuple_none  hx hu⟩
  |bl y=>
   obtain⟨lx,_,_,rfl,rfl,_,_,_,hx,_⟩:=bB I rx qx;obtain rfl:=aE.mp ry;obtain rfl:b=Ql _:=qy;unfold cH;exact⟨Pj.tuple_bool _ hx hu,Pb.tuple_bool _ hx hu,O9.tuple_bool _ hx hu⟩
  |int y=>
   obtain⟨lx,_,_,rfl,rfl,_,_,_,hx,_⟩:=bB I rx qx;obtain rfl:=az.mp ry;obtain⟨ty,rfl⟩:∃t,b=QB _ t:=qy;unfold cH;exact⟨Pj.tuple_int _ _ hx hu,Pb.tuple_int _ _ hx hu,O9.tuple_int _ _ hx hu⟩
  |str y=>
   obtain⟨lx,_,_,rfl,rfl,_,_,_,hx,_⟩:=bB I rx qx;obtain rfl:=Rep.str_iff.mp ry;obtain⟨ty,rfl⟩:∃t,b=Qz _ t:=qy;unfold cH;exact⟨Pj.tuple_str _ _ hx hu,Pb.tuple_str _ _ hx hu,O9.tuple_str _ _ hx hu⟩
  |lst y=>
   obtain⟨lx,_,_,rfl,rfl,_,_,_,hx,_⟩:=bB I rx qx;obtain⟨ly,_,_,rfl,rfl,_,_,_,hy,_⟩:=bu I ry qy;unfold cH;exact⟨Pj.tuple_list  hx hy hu,Pb.tuple_list  hx hy hu,O9.tuple_list  hx hy hu⟩
  |tup y=>
   exact absurd ⟨rfl,rfl⟩ (n2 x y)
  |dic ks ds=>exact absurd rfl (d2 ks ds)|exc c=>exact absurd rfl (x2 c)|ob k c=>exact absurd rfl (o2 k c)
 |dic ks ds=>exact absurd rfl (d1 ks ds)
 |exc c=>exact absurd rfl (x1 c)
 |ob k c=>exact absurd rfl (o1 k c)
def Jb(I:Inv X π σ H s):∀(n:Nat) (A:Px),A.units+n<Sm->∀(x y:D) (v u:V) (a b:OB),bh n x=true->bh n y=true->Rep X.K H x v->Rep X.K H y u->bX v a->bX u b ->
  Pj A s a b (cH x y)/\Pb A s a b (cH x y)/\O9 A s a b (!(cH x y)):=by
 have nd:∀m ks ds,bh m (.dic ks ds)=true->False:=λm ks ds h=>by cases m<;>(unfold bh at h;cases h)
 have nx:∀m x,bh m (.exc x)=true->False:=λm x h=>by cases m<;>(unfold bh at h;cases h)
 have nb:∀m k x,bh m (.ob k x)=true->False:=λm k x h=>by cases m<;>(unfold bh at h;cases h)
 intro n
 induction n with
 |zero=>
  intro A hu x y v u a b sx sy rx ry qa qb;refine vn I (by omega) rx ry qa qb (λds ds' z=>?_) (λds ds' z=>?_) (λks ds z=>?_) (λks ds z=>?_) (λc z=>nx _ _ (z▸sx)) (λc z=>nx _ _ (z▸sy)) (λk c z=>nb _ _ _ (z▸sx)) (λk c z=>nb _ _ _ (z▸sy))
  .rw[z.1]at sx;unfold bh at sx;cases sx
  .rw[z.1]at sx;unfold bh at sx;cases sx
  .rw[z]at sx;exact nd _ _ _ sx
  .rw[z]at sy;exact nd _ _ _ sy
 |succ n ih=>
  intro A hu x y v u a b sx sy rx ry qa qb;have ih':∀(x y:D) (v u:V) (a b:OB),bh n x=true->bh n y=true->Rep X.K H x v->Rep X.K H y u->bX v a->bX u b->Pb A.in1 s a b (cH x y) :=
   λx y v u a b s1 s2 r1 r2 q1 q2=>(ih A.in1 (by show A.units+1+n<Sm;omega) x y v u a b s1 s2 r1 r2 q1 q2).2.1
  by_cases t1:∃ds ds',x=.tup ds/\y=.tup ds'
  .obtain⟨xs,ys,rfl,rfl⟩:=t1
   obtain⟨l,vs,is,rfl,rfl,h1,h2,h3,h4,h5⟩:=bB I rx qa;obtain⟨m,us,js,rfl,rfl,k1,k2,k3,k4,k5⟩:=bB I ry qb;have hsx:=sx;have hsy:=sy;unfold bh at sx sy;have each:=vO (A:=A) ih' sx sy h2 k2 h3 k3;have eall:cH (.tup xs) (.tup ys)=((Qc (min is.toArray.size js.toArray.size)).all (λj=>cH (xs.getD j .non) (ys.getD j .non))&&is.toArray.size==js.toArray.size):=by
    rw[G3];simp only[Pd,←h5,←k5]
    by_cases hl:xs.length=ys.length
    .rw[lS xs ys hl,←hl,Nat.min_self,beq_self_eq_true,QV]
    .rw[qw xs ys hl,beq_eq_false_iff_ne.mpr hl,Pf]
   refine⟨?_,?_,?_⟩
   .rw[eall];exact Pj.tuples h4 k4 (by omega) each
   .by_cases hlm:l=m
    .subst hlm
     rw[Rep.inj I (n+1) _ _ _ hsx hsy rx ry,kI (n+1) _ hsy];exact S9 _
    .refine SA hlm ?_
     rw[eall];exact Pj.tuples h4 k4 (by omega) each
   .rw[eall];exact O9.tuples h4 k4 (by omega) each
  .by_cases t2:∃ds ds',x=.lst ds/\y=.lst ds'
   .obtain⟨xs,ys,rfl,rfl⟩:=t2
    obtain⟨l,vs,is,rfl,rfl,h1,h2,h3,h4,h5⟩:=bu I rx qa;obtain⟨m,us,js,rfl,rfl,k1,k2,k3,k4,k5⟩:=bu I ry qb;have hsx:=sx;have hsy:=sy;unfold bh at sx sy;have each:=vO (A:=A) ih' sx sy h2 k2 h3 k3
    by_cases hl:xs.length=ys.length
    .have hsz:is.toArray.size=js.toArray.size:=by simp only[Pd];omega
     have eall:cH (.lst xs) (.lst ys)=(Qc is.toArray.size).all (λj=>cH (xs.getD j .non) (ys.getD j .non)):=by
      rw[zE];simp only[Pd,←h5];exact lS xs ys hl
     refine⟨?_,?_,?_⟩
     .rw[eall];exact Pj.lists h4 k4 hsz (by omega) each
     .by_cases hlm:l=m
      .subst hlm
       rw[Rep.inj I (n+1) _ _ _ hsx hsy rx ry,kI (n+1) _ hsy];exact S9 _
      .refine SA hlm ?_
       rw[eall];exact Pj.lists h4 k4 hsz (by omega) each
     .rw[eall];exact O9.lists h4 k4 hsz (by omega) each
    .have hsz:(is.toArray.size != js.toArray.size)=true:=by simp only[Pd,bne_iff_ne,ne_eq];omega
     have eall:cH (.lst xs) (.lst ys)=false:=by rw[zE];exact qw xs ys hl
     rw[eall];refine⟨Tq h4 k4 hsz (by omega),?_,O9.lists_lengths h4 k4 hsz (by omega)⟩;refine SA (λe=>?_) (Tq h4 k4 hsz (by omega));subst e;have:=Rep.inj I (n+1) _ _ _ hsx hsy rx ry;cases this;exact hl rfl
   .exact vn I (by omega) rx ry qa qb (λds ds' z=>t2 ⟨ds,ds',z⟩) (λds ds' z=>t1 ⟨ds,ds',z⟩) (λks ds z=>by rw[z]at sx;exact nd _ _ _ sx) (λks ds z=>by rw[z]at sy;exact nd _ _ _ sy) (λc z=>nx _ _ (z▸sx)) (λc z=>nx _ _ (z▸sy)) (λk c z=>nb _ _ _ (z▸sx)) (λk c z=>nb _ _ _ (z▸sy))
end
section
variable {X:Cx}{E:XK}
def dm(x y:D):ak D:=if bh 40 x=true/\bh 40 y=true then .ok (.bl (cH x y)) else .stuck
def jf(x y:D):ak D:=if bh 40 x=true/\bh 40 y=true then .ok (.bl (!(cH x y))) else .stuck
def Ly(K:OH):R2:=λv u H Q=>∃x y,Rep K H x v/\Rep K H y u/\bh 40 x=true/\bh 40 y=true/\Q (.bl (cH x y)) H
def Ls(K:OH):R2:=λv u H Q=>∃x y,Rep K H x v/\Rep K H y u/\bh 40 x=true/\bh 40 y=true/\Q (.bl (!(cH x y))) H
def aX(hu:X.A.units+64<Sm):ib X (PR .Eq) (Ly X.K):=by
 intro π s σ H x y v u Q I rx ry h;obtain⟨d,d',h1,h2,s1,s2,q⟩:=h;exact(Jb I 40 X.A (by omega) d d' x y v u s1 s2 h1 h2 rx ry).1 _ _ _ _ ⟨.bl _,H,I,rfl,q⟩
def eD(hu:X.A.units+64<Sm):ib X (PR .NotEq) (Ls X.K):=by
 intro π s σ H x y v u Q I rx ry h;obtain⟨d,d',h1,h2,s1,s2,q⟩:=h;exact(Jb I 40 X.A (by omega) d d' x y v u s1 s2 h1 h2 rx ry).2.2 _ _ _ _ ⟨.bl _,H,I,rfl,q⟩
def bK:zQ X.K E (Ly X.K) dm:=by
 intro x y v u H Ha Q hs r1 r2 q;unfold dm at q
 by_cases c:bh 40 x=true/\bh 40 y=true
 .rw[if_pos c]at q
  exact⟨x,y,r1.mono hs,r2.mono hs,c.1,c.2,q _ H Ha (br.refl hs) (aE.mpr rfl)⟩
 .rw[if_neg c]at q;exact q.elim
def gr:zQ X.K E (Ls X.K) jf:=by
 intro x y v u H Ha Q hs r1 r2 q;unfold jf at q
 by_cases c:bh 40 x=true/\bh 40 y=true
 .rw[if_pos c]at q
  exact⟨x,y,r1.mono hs,r2.mono hs,c.1,c.2,q _ H Ha (br.refl hs) (aE.mpr rfl)⟩
 .rw[if_neg c]at q;exact q.elim
open Classical in
noncomputable def lu(K:OH) (H:Hp) (ds:ac) (x:D) (u:OB):Bool :=
 if h:∃d,d∈ds/\∃v,Rep K H d v/\bX v u then cH h.choose x else false
def zD{π:List (OE×Obj)}{σ:L2.St}{H:Hp}{s:OI}(I:Inv X π σ H s){ds:ac}{x d:D}{v:V}{u:OB}(sd:ds.all (bh 40)=true)(hd:d∈ds)(r:Rep X.K H d v)(q:bX v u):lu X.K H ds x u=cH d x:=by
 have h:∃d,d∈ds/\∃v,Rep X.K H d v/\bX v u:=⟨d,hd,v,r,q⟩
 unfold lu;rw[dif_pos h];obtain⟨h1,v',h2,h3⟩:=h.choose_spec;have e:v'=v:=h3.inj q;subst e;rw[Rep.inj I 40 _ _ _ (Pk.mp sd _ h1) (Pk.mp sd _ hd) h2 r]
def xq(K:OH)(neg:Bool):R2:=λv u H Q=>∃x ds,Rep K H x v/\(Rep K H (.lst ds) u∨Rep K H (.tup ds) u)/\bh 40 x=true/\ds.all (bh 40)=true/\Q (.bl (if neg then !(ds.any λd=>cH d x) else ds.any λd=>cH d x)) H
theorem kP{π:List (OE×Obj)}{σ:L2.St}{H:Hp}{s:OI}(I:Inv X π σ H s){x:D}{es:ac}(se:es.all (bh 40)=true):∀{ds:ac}{vs:al}{us:List OB},(∀d∈ds,d∈es)->Reps X.K H ds vs->bJ vs us->us.any (lu X.K H es x)=ds.any λd=>cH d x
 |[],_,_,_,h,q=>by
  rw[Reps.nil_iff.mp h]at q;cases q;rfl
 |d::ds,_,_,hm,h,q=>by
  obtain⟨v,r,rfl,h1,h2⟩:=aD.mp h;cases q with
  |cons q1 q2=>
   rw[Tw,Tw,zD I se (hm d Pe) h1 q1,kP I se (λx hx=>hm x (OT _ hx)) h2 q2]
theorem jC{π:List (OE×Obj)}{σ:L2.St}{H:Hp}{s:OI}(I:Inv X π σ H s)(hu:X.A.units+64<Sm){x:D}{v:V}{u:OB}(sx:bh 40 x=true)(rx:Rep X.K H x v)(qx:bX v u){es:ac}(se:es.all (bh 40)=true):∀{ds:ac}{vs:al}{us:List OB},(∀d∈ds,d∈es)->Reps X.K H ds vs->bJ vs us->∀y∈us,Pb X.A.in1 s y u (lu X.K H es x y)
 |[],_,_,_,h,q=>λy hy=>by
  rw[Reps.nil_iff.mp h]at q;cases q;cases hy
 |d::ds,_,_,hm,h,q=>λy hy=>by
  obtain⟨w,r,rfl,h1,h2⟩:=aD.mp h;cases q with
  |cons q1 q2=>
   rcases O4.mp hy with rfl|hy
   .rw[zD I se (hm d Pe) h1 q1]
    exact(Jb I 40 X.A.in1 (by show X.A.units+1+40<Sm;omega) d x w v _ u (Pk.mp se _ (hm d Pe)) sx h1 rx q1 qx).2.1
   .exact jC I hu sx rx qx se (λx hx=>hm x (OT _ hx)) h2 q2 y hy
def Jq(hu:X.A.units+64<Sm):ib X (PR .In) (xq X.K false):=by
 intro π s σ H x y v u Q I rx ry h;obtain⟨d,ds,h1,h2,s1,s2,q⟩:=h;rcases h2 with h2|h2
 .obtain⟨a,vs,its,rfl,rfl,k1,k2,k3,k4,k5⟩:=bu I h2 ry
  refine SeqAt.in_listAt (lu X.K H ds d) k4 (λw hw=>jC I hu s1 h1 rx s2 (λ_ z=>z) k2 k3 w (by simpa using hw)) ⟨.bl _,H,I,rfl,?_⟩;rw[show its.toArray.any (lu X.K H ds d)=its.any (lu X.K H ds d) by simp,kP I s2 (λ_ z=>z) k2 k3];exact q
 .obtain⟨a,vs,its,rfl,rfl,k1,k2,k3,k4,k5⟩:=bB I h2 ry
  refine SeqAt.in_tupleAt (lu X.K H ds d) k4 (λw hw=>jC I hu s1 h1 rx s2 (λ_ z=>z) k2 k3 w (by simpa using hw)) ⟨.bl _,H,I,rfl,?_⟩;rw[show its.toArray.any (lu X.K H ds d)=its.any (lu X.K H ds d) by simp,kP I s2 (λ_ z=>z) k2 k3];exact q
def AJ(hu:X.A.units+64<Sm):ib X (PR .NotIn) (xq X.K true):=by
 intro π s σ H x y v u Q I rx ry h;obtain⟨d,ds,h1,h2,s1,s2,q⟩:=h;rcases h2 with h2|h2
 .obtain⟨a,vs,its,rfl,rfl,k1,k2,k3,k4,k5⟩:=bu I h2 ry
  refine SeqAt.notIn_listAt (lu X.K H ds d) k4 (λw hw=>jC I hu s1 h1 rx s2 (λ_ z=>z) k2 k3 w (by simpa using hw)) ⟨.bl _,H,I,rfl,?_⟩;rw[show its.toArray.any (lu X.K H ds d)=its.any (lu X.K H ds d) by simp,kP I s2 (λ_ z=>z) k2 k3];exact q
 .obtain⟨a,vs,its,rfl,rfl,k1,k2,k3,k4,k5⟩:=bB I h2 ry
  refine SeqAt.notIn_tupleAt (lu X.K H ds d) k4 (λw hw=>jC I hu s1 h1 rx s2 (λ_ z=>z) k2 k3 w (by simpa using hw)) ⟨.bl _,H,I,rfl,?_⟩;rw[show its.toArray.any (lu X.K H ds d)=its.any (lu X.K H ds d) by simp,kP I s2 (λ_ z=>z) k2 k3];exact q
def HJ(i j:OG):Bool:=!(Q1 j i 0 j.length 1).isEmpty
noncomputable def Dg(x y:D):Option Bool:=match y with
 |.lst ds=>if bh 40 x=true/\ds.all (bh 40)=true then some (ds.any λd=>cH d x) else none
 |.tup ds=>if bh 40 x=true/\ds.all (bh 40)=true then some (ds.any λd=>cH d x) else none
 |.str j=>match x with
  |.str i=>some (HJ i j)
  |_=>none
 |_=>none
def Bt(x y:D):ak D:=match Dg x y with
 |some b=>.ok (.bl b)
 |none=>.stuck
def dk(x y:D):ak D:=match Dg x y with
 |some b=>.ok (.bl (!b))
 |none=>.stuck
def Cg(neg:Bool):R2:=λx y H Q=>∃i j,x=.str i/\y=.str j/\Q (.bl (if neg then !(HJ i j) else HJ i j)) H
def yU(hu:X.A.units+64<Sm):ib X (PR .In) (λv u H Q=>xq X.K false v u H Q∨Cg false v u H Q):=ib.or (Jq hu) (by
 intro π s σ H x y v u Q I rx ry h;obtain⟨i,j,rfl,rfl,q⟩:=h;exact AK π s σ H _ _ v u Q I rx ry ⟨i,j,rfl,rfl,q⟩)
def eN(hu:X.A.units+64<Sm):ib X (PR .NotIn) (λv u H Q=>xq X.K true v u H Q∨Cg true v u H Q):=ib.or (AJ hu) (by
 intro π s σ H x y v u Q I rx ry h;obtain⟨i,j,rfl,rfl,q⟩:=h;exact uo π s σ H _ _ v u Q I rx ry ⟨i,j,rfl,rfl,q⟩)
def vG{neg:Bool}{x y:D}{v u:V}{H Ha:Hp}{Q:VK}(hs:aG Ha H)(r1:Rep X.K Ha x v)(r2:Rep X.K Ha y u)
  (q:post X.K E H Ha (match Dg x y with|some b=>.ok (.bl (if neg then !b else b))|none=>.stuck) Q):xq X.K neg v u H Q∨Cg neg v u H Q:=by
 cases y with
 |lst ds=>
  simp only[Dg]at q
  by_cases c:bh 40 x=true/\ds.all (bh 40)=true
  .rw[if_pos c]at q
   exact .inl ⟨x,ds,r1.mono hs,.inl (r2.mono hs),c.1,c.2,q _ H Ha (br.refl hs) (aE.mpr rfl)⟩
  .rw[if_neg c]at q;exact q.elim
 |tup ds=>
  simp only[Dg]at q
  by_cases c:bh 40 x=true/\ds.all (bh 40)=true
  .rw[if_pos c]at q
   exact .inl ⟨x,ds,r1.mono hs,.inr (r2.mono hs),c.1,c.2,q _ H Ha (br.refl hs) (aE.mpr rfl)⟩
  .rw[if_neg c]at q;exact q.elim
 |str j=>
  cases x with|str i=>exact .inr ⟨i,j,Rep.str_iff.mp r1,Rep.str_iff.mp r2,q _ H Ha (br.refl hs) (aE.mpr rfl)⟩| _=>exact q.elim
 |_=>exact q.elim
def yW:zQ X.K E (λv u H Q=>xq X.K false v u H Q∨Cg false v u H Q) Bt:=λx y v u H Ha Q hs r1 r2 q=>vG (neg:=false) (E:=E) hs r1 r2 (by
 unfold Bt at q;cases e:Dg x y with
 |none=>rw[e]at q;exact q
 |some b=>rw[e]at q;exact q)
def eO:zQ X.K E (λv u H Q=>xq X.K true v u H Q∨Cg true v u H Q) dk:=λx y v u H Ha Q hs r1 r2 q=>vG (neg:=true) (E:=E) hs r1 r2 (by
 unfold dk at q;cases e:Dg x y with
 |none=>rw[e]at q;exact q
 |some b=>rw[e]at q;exact q)
end
@[irreducible] def B9:Nat:=2 ^ 9000
@[irreducible] def EA:Nat:=2 ^ 13500
@[irreducible] def KQ:Nat:=2 ^ 60000
theorem zU:B9=2 ^ 9000:=by unfold B9;rfl
def Ez:EA=2 ^ 13500:=by unfold EA;rfl
def Ey:KQ=2 ^ 60000:=by unfold KQ;rfl
def qg{n k:Nat}(h:n<2 ^ k)(hk:0<k):n.log2<k:=by
 by_cases h0:n=0
 .rw[h0]
  have:Nat.log2 0=0:=by decide
  omega
 .exact(Nat.log2_lt h0).mpr h
def LP{x y:Int}(h:y.natAbs<B9):Q7 x y=false:=by
 rw[zU]at h;exact PyProof.noPylong_of_log2 (qg h (by omega))
def Js{x y:Int}(h:x.natAbs<EA):Q7 x y=false:=by
 rw[Ez]at h;have hx:x.natAbs.log2<13500:=qg h (by omega);show(decide ((if y==0 then 0 else y.natAbs.log2 / 30+1) > 300)&&decide ((if x==0 then 0 else x.natAbs.log2 / 30+1) > (if y==0 then 0 else y.natAbs.log2 / 30+1)+150))=false;have k:(if x==0 then 0 else x.natAbs.log2 / 30+1)<=450:=by
  by_cases hx0:(x==0)=true
  .rw[if_pos hx0];omega
  .rw[if_neg hx0];omega
 by_cases c:(if y==0 then 0 else y.natAbs.log2 / 30+1) > 300
 .rw[Sr];right;exact decide_eq_false (by omega)
 .rw[Sr];left;exact decide_eq_false c
def kh(i j:Int):Bool:=decide (j≠0)&&(decide (j.natAbs<B9)||decide (i.natAbs<EA))
def ke(i j:Int):Bool:=decide (i.natAbs<KQ)&&decide (j.natAbs<KQ)
def kh.ok{i j:Int}(h:kh i j=true):j≠0/\Q7 i j=false:=by
 unfold kh at h;rw[OR,Tb]at h;refine⟨of_decide_eq_true h.1,?_⟩;rcases h.2 with h|h
 .exact LP (of_decide_eq_true h)
 .exact Js (of_decide_eq_true h)
def ke.ok{i j:Int}(h:ke i j=true):IntMulOk i j:=by
 unfold ke at h;rw[OR]at h;have h1:=of_decide_eq_true h.1;have h2:=of_decide_eq_true h.2;rw[Ey]at h1 h2;exact PyProof.Rows.mulOk_of_bits (m:=60000) (n:=60000) (Uq.mpr h1) (Uq.mpr h2) (by decide)
section
variable {X:Cx}{E:XK}{e a b c:Pl}{es:List Pl}{f g k:am}{fa:Ev->ak (ac)}{pos:Pos}
def bM{K:OH}{H Ha:Hp}{d:D}{v:V}{Q:VK}(hs:aG Ha H)(q:post K E H Ha (.ok d) Q)(r:Rep K Ha d v):Q v H:=q v H Ha (br.refl hs) r
def vP(c:Int->Int->Bool)(g:Int->Int->D)(x y:D):ak D:=match x,y with
 |.int i,.int j=>if c i j=true then .ok (g i j) else .stuck
 |_,_=>.stuck
def xD{C:Int->Int->Prop}{c:Int->Int->Bool}{gv:Int->Int->V}{g:Int->Int->D}(hc:∀i j,c i j=true->C i j)(hg:∀K H i j,Rep K H (g i j) (gv i j)):zQ X.K E (rI C gv) (vP c g):=by
 intro x y v u H Ha Q hs r1 r2 q;unfold vP at q;cases x with
 |int i=>
  cases y with
  |int j=>
   by_cases h:c i j=true
   .simp only[if_pos h]at q
    exact⟨i,j,az.mp r1,az.mp r2,hc i j h,bM hs q (hg _ _ i j)⟩
   .simp only[if_neg h]at q;exact q.elim
  |_=>exact q.elim
 |_=>exact q.elim
def cc{gv:Int->Int->V}{g:Int->Int->D}(hg:∀K H i j,Rep K H (g i j) (gv i j)):zQ X.K E (EB gv) (vP (λ_ _=>true) g):=by
 intro x y v u H Ha Q hs r1 r2 q;unfold vP at q;cases x with
 |int i=>
  cases y with|int j=>simp only[if_pos]at q;exact⟨i,j,az.mp r1,az.mp r2,bM hs q (hg _ _ i j)⟩| _=>exact q.elim
 |_=>exact q.elim
def ri{K:OH}{H:Hp}(n:Int):Rep K H (.int n) (.int n):=az.mpr rfl
def rb{K:OH}{H:Hp}(n:Bool):Rep K H (.bl n) (.bl n):=aE.mpr rfl
abbrev wt:=vP (λ_ _=>true) λi j=>.int (i-j)
abbrev qJ:=vP kh λi j=>.int (i.fdiv j)
abbrev cO:=vP (λ_ j=>decide (j≠0)) λi j=>.int (i.fmod j)
abbrev oK:=vP (λi j=>decide (0<=j)&&decide (j<=1000000)&&decide (i.natAbs<18446744073709551616)) λi j=>.int (i ^ j.toNat)
abbrev mY:=vP (λ_ _=>true) λi j=>.bl (decide (i<j))
abbrev HZ:=vP (λ_ _=>true) λi j=>.bl (decide (i<=j))
abbrev wO:=vP (λ_ _=>true) λi j=>.bl (decide (j<i))
abbrev MA:=vP (λ_ _=>true) λi j=>.bl (decide (j<=i))
def FI:ib X (binaryOp .Mult) (rI IntMulOk λi j=>.int (i*j)):=MS λ_ _ _ _ _ _ _ hc q=>mul_int q hc
def FK:ib X (binaryOp .FloorDiv) (rI (λi j=>j≠0/\Q7 i j=false) λi j=>.int (i.fdiv j)):=MS λ_ _ _ _ _ _ _ hc q=>floordiv_int hc.1 q (.inl hc.2)
def qF(ha:DE X E a f)(hb:DE X E b g):DE X E (.BinOp a .Sub b pos) (aa f g wt):=qG Jn (cc λ_ _ _ _=>ri _) ha hb
def qH(ha:DE X E a f)(hb:DE X E b g):DE X E (.BinOp a .FloorDiv b pos) (aa f g qJ):=qG FK (xD (λ_ _ h=>kh.ok h) λ_ _ _ _=>ri _) ha hb
def di(ha:DE X E a f)(hb:DE X E b g):DE X E (.BinOp a .Mod b pos) (aa f g cO):=qG FJ (xD (λ_ _ h=>of_decide_eq_true h) λ_ _ _ _=>ri _) ha hb
def yd(ha:DE X E a f)(hb:DE X E b g):DE X E (.BinOp a .Pow b pos) (aa f g oK):=qG Jp (xD (λi j h=>by
 rw[OR,OR]at h;exact⟨of_decide_eq_true h.1.1,of_decide_eq_true h.1.2,of_decide_eq_true h.2⟩) λ_ _ _ _=>ri _) ha hb
def nm{op:CmpOp}{b:Pl}(h1:op≠.In:=by decide)(h2:op≠.NotIn:=by decide):behindInMarks op b=false:=CN _ h1 h2
def Ea(x:D):ak D:=match x with
 |.int i=>.ok (.int (-i))
 |_=>.stuck
def ye(ha:DE X E a f):DE X E (.UnaryOp .USub a pos) (bc f Ea):=Mw BF (by
 intro x v H Ha Q hs r q;cases x with
 |int i=>exact⟨i,az.mp r,bM hs q (ri _)⟩
 |_=>exact q.elim) ha
def FN:ib X (binaryOp .Add) (λx y H Q=>∃l b xs zs,x=.ref l/\y=.ref b/\gL X.K H l xs/\gL X.K H b zs/\xs.length+zs.length<=sizeLine/\∀p,H p=none->Q (.ref p) (upd H p (.lst (xs++zs)))):=by
 intro π s σ H x y v u Q I rx ry h;obtain⟨l,b,xs,zs,rfl,rfl,hH,hB,hz,q⟩:=h;cases rx;cases ry;obtain⟨its,r,pl,z⟩:=I.list hH;obtain⟨its2,r2,pl2,z2⟩:=I.list hB;obtain⟨⟨cls,dd,data,sl⟩,ho,hc,n,hd⟩:=pl.isList;obtain⟨⟨cls2,dd2,data2,sl2⟩,ho2,hc2,n2,hd2⟩:=pl2.isList;simp only at hc hd hc2 hd2;subst hc hd hc2 hd2;have e:its.toArray++its2.toArray=(its++its2).toArray:=by simp
 have l1:=r.length;have l2:=r2.length;refine concat_meets ⟨_,ho,rfl⟩ ⟨_,ho2,rfl⟩ noFill_list_add seq_list_add PySem.F.slot_list_add PySem.F.entry_list_add (PySem.F.args_list_add_2 _ _) (list_addW l b its.toArray its2.toArray n n2 dd dd2 sl sl2 (by simp only[Pd];omega)) ⟨ho,ho2,?_⟩;rw[e];exact⟨.ref _,_,I.lnew (t':=s.toks) (r.append r2) (by rw[Pm];omega),rfl,q _ I.fresh⟩
noncomputable def aP(x y:D):ak D:=match x,y with
 |.int i,.int j=>.ok (.int (i+j))
 |.str i,.str j=>if i.length+j.length<=line then .ok (.str (i++j)) else .stuck
 |.lst ds,.lst es=>if ds.length+es.length<=line then .ok (.lst (ds++es)) else .stuck
 |.tup ds,.tup es=>if ds.isEmpty=false/\ds.length+es.length<=line then .ok (.tup (ds++es)) else .stuck
 |_,_=>.stuck
def aK(ha:DE X E a f)(hb:DE X E b g):DE X E (.BinOp a .Add b pos) (aa f g aP):=qG (ib.or Jr (ib.or xC (ib.or FN FL))) (by
 intro x y v u H Ha Q hs r1 r2 q;unfold aP at q;cases x with
 |int i=>
  cases y with|int j=>exact .inl ⟨i,j,az.mp r1,az.mp r2,bM hs q (ri _)⟩| _=>exact q.elim
 |str i=>
  cases y with
  |str j=>
   by_cases h:i.length+j.length<=line
   .simp only[if_pos h]at q
    exact .inr (.inl ⟨i,j,Rep.str_iff.mp r1,Rep.str_iff.mp r2,fV h,bM hs q (Rep.str_iff.mpr rfl)⟩)
   .simp only[if_neg h]at q;exact q.elim
  |_=>exact q.elim
 |lst ds=>
  cases y with
  |lst es=>
   by_cases h:ds.length+es.length<=line
   .simp only[if_pos h]at q
    obtain⟨l,vs,rfl,h1,h2⟩:=aF.mp r1;obtain⟨m,us,rfl,k1,k2⟩:=aF.mp r2;refine .inr (.inr (.inl ⟨l,m,vs,us,rfl,rfl,aG.sqL hs h1,aG.sqL hs k1,by rw[←h2.length,←k2.length];exact fV h,λp hp=>?_⟩));exact q _ _ _ (aS hs hp) (aF.mpr ⟨p,_,rfl,gL.of ay,(h2.app k2).mono (aS hs hp).z⟩)
   .simp only[if_neg h]at q;exact q.elim
  |_=>exact q.elim
 |tup ds=>
  cases y with
  |tup es=>
   by_cases h:ds.isEmpty=false/\ds.length+es.length<=line
   .simp only[if_pos h]at q
    obtain⟨l,vs,rfl,h1,h2⟩:=aM.mp r1;obtain⟨m,us,rfl,k1,k2⟩:=aM.mp r2;refine .inr (.inr (.inr ⟨l,m,vs,us,rfl,rfl,aG.sqT hs h1,aG.sqT hs k1,λz=>?_,by rw[←h2.length,←k2.length];exact fV h.2,λz=>?_,λz p hp=>?_⟩))
    .have:=h2.length
     rw[z]at this;have e:ds=[]:=Qa.mp this;rw[e]at h;exact absurd h.1 (by decide)
    .have:=k2.length
     rw[z]at this;have e:es=[]:=Qa.mp this;rw[e,QN]at q;exact bM hs q r1
    .exact q _ _ _ (aS hs hp) (aM.mpr ⟨p,_,rfl,lA.of ay,(h2.app k2).mono (aS hs hp).z⟩)
   .simp only[if_neg h]at q;exact q.elim
  |_=>exact q.elim
 |_=>exact q.elim) ha hb
noncomputable def aO(x y:D):ak D:=match y with
 |.int i=>match x with
  |.lst ds=>match atI ds i with
   |some d=>.ok d
   |none=>.stuck
  |.tup ds=>match atI ds i with
   |some d=>.ok d
   |none=>.stuck
  |.str z=>if z.length<=line then match atI z.cps.toList i with
   |some c=>.ok (.str ⟨#[c]⟩)
   |none=>.stuck else .stuck
  |_=>.stuck
 |_=>.stuck
def Reps.atI{K:OH}{H:Hp}{ds:ac}{vs:al}{i:Int}{d:D}(h:Reps K H ds vs)(e:atI ds i=some d):∃v,L2.atI vs i=some v/\Rep K H d v:=by
 unfold L2.atI at e ⊢;rw[←h.length];cases q:Ge ds.length i with
 |none=>rw[q]at e;cases e
 |some j=>
  rw[q]at e;exact h.get e
def LN:zQ X.K E (N1 X.K) aO:=by
 intro x y v u H Ha Q hs r1 r2 q;unfold aO at q;cases y with
 |int i=>
  cases x with
  |lst ds=>
   obtain⟨l,vs,rfl,h1,h2⟩:=aF.mp r1;cases e:atI ds i with
   |none=>simp only[e]at q;exact q.elim
   |some d=>
    simp only[e]at q;obtain⟨w,e1,e2⟩:=h2.atI e;exact .inl ⟨l,vs,i,w,rfl,az.mp r2,aG.sqL hs h1,e1,bM hs q e2⟩
  |tup ds=>
   obtain⟨l,vs,rfl,h1,h2⟩:=aM.mp r1;cases e:atI ds i with
   |none=>simp only[e]at q;exact q.elim
   |some d=>
    simp only[e]at q;obtain⟨w,e1,e2⟩:=h2.atI e;exact .inr (.inl ⟨l,vs,i,w,rfl,az.mp r2,aG.sqT hs h1,e1,bM hs q e2⟩)
  |str z=>
   by_cases hz:z.length<=line
   .simp only[if_pos hz]at q
    cases e:atI z.cps.toList i with
    |none=>simp only[e]at q;exact q.elim
    |some c=>
     simp only[e]at q;exact .inr (.inr ⟨z,i,c,Rep.str_iff.mp r1,az.mp r2,fV hz,e,bM hs q (Rep.str_iff.mpr rfl)⟩)
   .simp only[if_neg hz]at q;exact q.elim
  |_=>exact q.elim
 |_=>exact q.elim
def ar(ha:DE X E a f)(hb:DE X E b g)(hs:lp b:=by intro _ _;rfl):DE X E (.Subscript a b pos) (aa f g aO):=My JC LN ha hb hs
def dH:Ev->ak (Option Int):=λ_=>.ok none
def bQ(f:am):Ev->ak (Option Int):=λρ=>(f ρ).bind λx=>match x with
 |.int i=>.ok (some i)
 |_=>.stuck
def Nj(K:OH)(E:XK)(f:Ev->ak (Option Int)):TO:=λσ H Q=>∃Ha ρ,aG Ha H/\gw K Ha σ ρ/\match f ρ with
 |.ok o=>∀H' Ha',br H Ha H' Ha'->Q o H'
 |.exn x=>∀C ox H' Ha',br H Ha H' Ha'->wQ K Ha' x C ox->E C ox H'
 |.stuck=>False
structure DO (X:Cx) (E:XK) (e:Option Pl) (f:Ev->ak (Option Int)):Prop where
 o:PO X e (Nj X.K E f)
def yI{eo:Option Pl}{t t':TO}(h:PO X eo t)(w:∀σ H Q,t' σ H Q->t σ H Q):PO X eo t':=λπ s σ H Q I q=>h π s σ H Q I (w σ H Q q)
def cy:DO X E none dH:=⟨yI Fx λσ H Q ⟨Ha,ρ,hs,hr,q⟩=>q H Ha (br.refl hs)⟩
def bg(ha:DE X E a f):DO X E (some a) (bQ f):=by
 refine⟨?_⟩;refine yI (Fw ha.o) λσ H Q z9=>?_;obtain⟨Ha,ρ,hs,hr,q⟩:=z9;refine⟨Ha,ρ,hs,hr,?_⟩
 unfold bQ at q;cases e1:f ρ with
 |stuck|exn x=>rw[e1]at q;exact q
 |ok d=>
  rw[e1]at q;intro v H1 H01 g1 r1;cases d with|int i=>exact⟨i,az.mp r1,q H1 H01 g1⟩| _=>exact q.elim
def mL(xs:ac)(lo hi:Option Int):ac:=(xs.drop (HT.sIx xs.length 0 lo)).take (HT.sIx xs.length xs.length hi-HT.sIx xs.length 0 lo)
def Reps.cut{K:OH}{H:Hp}{ds:ac}{vs:al}(h:Reps K H ds vs)(lo hi:Option Int):Reps K H (mL ds lo hi) (wz vs lo hi):=by
 unfold mL wz;rw[←h.length];exact(h.drop _).take _
def vf{r:V->Option Int->Option Int->Hp->VK->Prop}{lo hi:Ev->ak (Option Int)}{m:D->Option Int->Option Int->ak D}
  (ho:∀x v l h H Ha Q,aG Ha H->Rep X.K Ha x v->post X.K E H Ha (m x l h) Q->r v l h H Q)(σ:L2.St)(H:Hp)(Q:VK)
  (h:tD X.K E (λρ=>(f ρ).bind λx=>(lo ρ).bind λl=>(hi ρ).bind λh=>m x l h) σ H Q):NX r (tD X.K E f) (Nj X.K E lo) (Nj X.K E hi) σ H Q:=by
 obtain⟨Ha,ρ,hs,hr,q⟩:=h;refine⟨Ha,ρ,hs,hr,?_⟩;replace q:post X.K E H Ha ((f ρ).bind λx=>(lo ρ).bind λl=>(hi ρ).bind λh=>m x l h) Q:=q;cases e1:f ρ with
 |stuck|exn x=>rw[e1]at q;exact q
 |ok x=>
  rw[e1]at q;intro v H1 H01 g1 r1;refine⟨H01,ρ,g1.sub,hr.mono g1.z,?_⟩;replace q:post X.K E H Ha ((lo ρ).bind λl=>(hi ρ).bind λh=>m x l h) Q:=q;replace q:=q.grow g1;cases e2:lo ρ with
  |stuck|exn x=>rw[e2]at q;exact q
  |ok l=>
   rw[e2]at q;intro H2 H02 g2;refine⟨H02,ρ,g2.sub,(hr.mono g1.z).mono g2.z,?_⟩;replace q:post X.K E H1 H01 ((hi ρ).bind λh=>m x l h) Q:=q;replace q:=q.grow g2;cases e3:hi ρ with
   |stuck|exn x=>rw[e3]at q;exact q
   |ok h=>
    rw[e3]at q;intro H3 H03 g3;exact ho x v l h H3 H03 Q g3.sub ((r1.mono g2.z).mono g3.z) (post.grow (r:=m x l h) q g3)
def m1(m:D->ak D)(ds:ac):ak D:=match ds with
 |[x]=>m x
 |_=>.stuck
def m2(m:D->D->ak D)(ds:ac):ak D:=match ds with
 |[x,y]=>m x y
 |_=>.stuck
def qV{r:al->Hp->VK->Prop}{m:D->ak D}(h:∀x v H Ha Q,aG Ha H->Rep X.K Ha x v->post X.K E H Ha (m x) Q->r [v] H Q):ki X E r (m1 m):=by
 intro ds vs H Ha Q hs hr q;unfold m1 at q
 match ds,hr,q with
 |[x],hr,q=>
  obtain⟨v,r',rfl,h1,h2⟩:=aD.mp hr;rw[Reps.nil_iff.mp h2];exact h x v H Ha Q hs h1 q
 |[],_,q=>exact q.elim
 |_::_::_,_,q=>exact q.elim
def MC{r:al->Hp->VK->Prop}{m:D->D->ak D}(h:∀x y v u H Ha Q,aG Ha H->Rep X.K Ha x v->Rep X.K Ha y u->post X.K E H Ha (m x y) Q->r [v,u] H Q):ki X E r (m2 m):=by
 intro ds vs H Ha Q hs hr q;unfold m2 at q
 match ds,hr,q with
 |[x,y],hr,q=>
  obtain⟨v,r',rfl,h1,h2⟩:=aD.mp hr;obtain⟨u,r'',rfl,h3,h4⟩:=aD.mp h2;rw[Reps.nil_iff.mp h4];exact h x y v u H Ha Q hs h1 h3 q
 |[],_,q=>exact q.elim
 |[_],_,q=>exact q.elim
 |_::_::_::_,_,q=>exact q.elim
def Hf(x:D):ak D:=match x with
 |.int i=>.ok (.int (if i<0 then -i else i))
 |_=>.stuck
def Mz(x y:D):ak D:=match x,y with
 |.int i,.int j=>.ok (.int (if j > i then j else i))
 |_,_=>.stuck
def bN(x:D):ak D:=match x with
 |.lst ds=>.ok (.int ds.length)
 |.tup ds=>.ok (.int ds.length)
 |.str z=>if z.length<=line then .ok (.int z.length) else .stuck
 |_=>.stuck
def nE(x:D):ak D:=match x with
 |.int i=>.ok (.int i)
 |.bl b=>.ok (.int (if b then 1 else 0))
 |_=>.stuck
def yk:ki X E (λxs H Q=>∃i,xs=[.int i]/\Q (.int (if i<0 then -i else i)) H) (m1 Hf):=qV λx v H Ha Q hs r q=>by
 cases x with|int i=>exact⟨i,by rw[az.mp r],bM hs q (ri _)⟩| _=>exact q.elim
def Kp:ki X E (λxs H Q=>∃i j,xs=[.int i,.int j]/\Q (.int (if j > i then j else i)) H) (m2 Mz):=MC λx y v u H Ha Q hs r r' q=>by
 cases x with
 |int i=>
  cases y with|int j=>exact⟨i,j,by rw[az.mp r,az.mp r'],bM hs q (ri _)⟩| _=>exact q.elim
 |_=>exact q.elim
def bz:ki X E (λxs H Q=>∃x n,xs=[x]/\ML X.K x H n/\Q (.int n) H) (m1 bN):=qV λx v H Ha Q hs r q=>by
 cases x with
 |lst ds=>
  obtain⟨p,vs,rfl,h1,h2⟩:=aF.mp r;refine⟨_,vs.length,rfl,.inl ⟨vs,aG.sqL hs h1,rfl⟩,?_⟩;rw[←h2.length];exact bM hs q (ri _)
 |tup ds=>
  obtain⟨p,vs,rfl,h1,h2⟩:=aM.mp r;refine⟨_,vs.length,rfl,.inr ⟨vs,aG.sqT hs h1,rfl⟩,?_⟩;rw[←h2.length];exact bM hs q (ri _)
 |str z=>
  unfold bN at q
  by_cases hz:z.length<=line
  .simp only[if_pos hz]at q
   rw[Rep.str_iff.mp r];exact⟨_,z.length,rfl,⟨fV hz,rfl⟩,bM hs q (ri _)⟩
  .simp only[if_neg hz]at q;exact q.elim
 |_=>exact q.elim
def Kq:ki X E (λxs H Q=>(∃i,xs=[.int i]/\Q (.int i) H)∨∃k,xs=[.bl k]/\Q (.int (if k then 1 else 0)) H) (m1 nE):=qV λx v H Ha Q hs r q=>by
 cases x with|int i=>exact .inl ⟨i,by rw[az.mp r],bM hs q (ri _)⟩|bl i=>exact .inr ⟨i,by rw[aE.mp r],bM hs q (ri _)⟩| _=>exact q.elim
def dj{T:String}{r:al->Hp->VK->Prop}{m:ac->ak D}{x:OG}{p:Pos}(hc:jH X (.type T) r)(hd:ki X E r m)(hg:Gl X x)(hm:X.mg x=none)(hv:bootBuiltins x=some (.type T))(ha:DA X E (e::es) fa)(hn:x≠"__name__":=by decide)(hdb:(x==("__debug__" : OG))=false:=by decide)
  (he:OJ (e::es) X.env=(false,eval e X.env)::OJ es X.env:=by exact aJ rfl)(hpl:(PK pos (OJ es X.env)).any (·.1)=false:=by exact bA rfl):DE X E (.Call (.Name x p) (e::es) [] pos) (ao fa m) :=
 ⟨bb (AH hc hg hm hv ha.o hn hdb he hpl) (ll hd)⟩
def fX:D->Bool
 |.non=>true
 |_=>false
def rL(x y:D):ak D:=match y with
 |.non=>.ok (.bl (fX x))
 |_=>.stuck
def n6(x y:D):ak D:=match y with
 |.non=>.ok (.bl (!(fX x)))
 |_=>.stuck
def Rep.is_non{K:OH}{H:Hp}{x:D}{v:V}(r:Rep K H x v):decide (v=.non)=fX x:=by
 cases x with|non=>rw[aR.mp r];rfl|bl b=>rw[aE.mp r];rfl|int b=>rw[az.mp r];rfl|str b=>rw[Rep.str_iff.mp r];rfl|tup ds=>obtain⟨_,_,e,_⟩:=aM.mp r;rw[e];rfl|lst ds=>obtain⟨_,_,e,_⟩:=aF.mp r;rw[e];rfl|dic ks ds=>rw[Rep]at r;obtain⟨_,_,_,e,_⟩:=r;rw[e];rfl|exc x=>obtain⟨_,_,_,e,_⟩:=gX.mp r;rw[e];rfl|ob k x=>obtain⟨_,_,e,_⟩:=cz.mp r;rw[e];rfl
def nk:zQ X.K E (λx y H Q=>y=.non/\Q (.bl (decide (x=.non))) H) rL:=by
 intro x y v u H Ha Q hs r1 r2 q;unfold rL at q;cases y with|non=>exact⟨aR.mp r2,by rw[r1.is_non];exact bM hs q (rb _)⟩| _=>exact q.elim
def yV:zQ X.K E (λx y H Q=>y=.non/\Q (.bl (!decide (x=.non))) H) n6:=by
 intro x y v u H Ha Q hs r1 r2 q;unfold n6 at q;cases y with
 |non=>
  refine⟨aR.mp r2,?_⟩;rw[r1.is_non];exact bM hs q (rb _)
 |_=>exact q.elim
noncomputable def wM:D->String
 |.non=>"NoneType"
 |.bl _=>"bool"
 |.int _=>"int"
 |.str _=>"str"
 |.tup _=>"tuple"
 |.lst _=>"list"
 |.dic _ _=>"dict"
 |.exc _=>"<exc>"
 |.ob (.ins _ _) _=>"<exc>"
 |.ob (.dint _) _=>"dict"
 |.ob (.exf _ _) _=>"<exc>"
 |.ob .pl _=>"list"
def i9(T:String)(x:D):ak D:=.ok (.bl (wM x==T||(wM x=="bool"&&T=="int")))
def tE(K:OH)(T:String):Prop:=∀S,S∈["NoneType","bool","int","str","tuple","list","dict"]->Ul K (.type S) (.type T)=some (S==T||(S=="bool"&&T=="int"))
def De{π:List (OE×Obj)}{σ:L2.St}{H:Hp}{s:OI}{A:Px}{Q:OB->OI->Prop}{x:D}{v:V}{u:OB}{T:String}(I:Inv X π σ H s)(r:Rep X.K H x v)(q:bX v u)(hk:tE X.K T)(hT:T∈ia)(h:∀tk,Q (.bool (wM x==T||(wM x=="bool"&&T=="int"))) { s with toks:=tk }) :
  O7 (O2 X.prog X.w) A (call (.builtin "isinstance") [u,.type T]) Q X.xe s:=by
 cases x with
 |non=>rw[aR.mp r]at q;exact jy I q .non (hk _ (by simp)) h|bl b=>rw[aE.mp r]at q;exact jy I q (.bl b) (hk _ (by simp)) h|int b=>rw[az.mp r]at q;exact jy I q (.int b) (hk _ (by simp)) h|str b=>rw[Rep.str_iff.mp r]at q;exact jy I q (.str b) (hk _ (by simp)) h
 |tup ds=>
  obtain⟨a,vs,its,rfl,rfl,h1,h2,h3,h4,_⟩:=bB I r q;obtain⟨o,k1,k2,_⟩:=h4;exact Qn W.kitx_tuple I.kIn ⟨o,k1,k2⟩ (hk _ (by simp)) (λz=>nomatch z) h
 |lst ds=>
  obtain⟨a,vs,its,rfl,rfl,h1,h2,h3,h4,_⟩:=bu I r q;obtain⟨o,k1,k2,_⟩:=h4;exact Qn Uk I.kIn ⟨o,k1,k2⟩ (hk _ (by simp)) (λz=>nomatch z) h
 |dic ks ds=>
  rw[Rep]at r;obtain⟨a,kvs,vs,rfl,h1,h2,_⟩:=r;cases (show u=Pq a from q);obtain⟨_,_,vs',_,p⟩:=h1.ok I.hok;obtain⟨o,es,ep,k1,k2,_⟩:=p;exact Qn S7 I.kIn ⟨o,k1,k2.1⟩ (hk _ (by simp)) (λz=>nomatch z) h
 |exc x=>
  obtain⟨a,C,dc,rfl,hc,h1⟩:=gX.mp r;cases (show u=Pq a from q);obtain⟨p,_,_⟩:=h1.ok I.hok;have e:(wM (.exc x)==T||(wM (.exc x)=="bool"&&T=="int"))=false:=by
   have:∀T∈ia,(wM (.exc x)==T||(wM (.exc x)=="bool"&&T=="int"))=false:=by show ∀T∈ia,("<exc>"==T||("<exc>"=="bool"&&T=="int"))=false;decide
   exact this T hT
  rw[e]at h;exact Qn (qj hc.ek hc.ek.isCls) I.kIn p (hc.bt T hT) (λz=>nomatch z) h
 |ob k xs=>
  obtain⟨a,vs,rfl,h1,_⟩:=cz.mp r;cases (show u=Pq a from q);cases k with
  |exf c ks=>
   obtain⟨C,dx,fs,hc,h2,_⟩:=h1;obtain⟨p,_,_⟩:=h2.ok I.hok;have e:(wM (.ob (.exf c ks) xs)==T||(wM (.ob (.exf c ks) xs)=="bool"&&T=="int"))=false:=by
    have:∀T∈ia,("<exc>"==T||("<exc>"=="bool"&&T=="int"))=false:=by decide
    exact this T hT
   rw[e]at h;exact Qn (qj hc.ek hc.ek.isCls) I.kIn p (hc.bt T hT) (λz=>nomatch z) h
  |ins c ks=>
   obtain⟨C,dx,_,hc,h2,_⟩:=h1;obtain⟨mA,O,_⟩:=o9 I.hok h2;obtain⟨od,O',_⟩:=O.look;have e:(wM (.ob (.ins c ks) xs)==T||(wM (.ob (.ins c ks) xs)=="bool"&&T=="int"))=false:=by
    have:∀T∈ia,(wM (.ob (.ins c ks) xs)==T||(wM (.ob (.ins c ks) xs)=="bool"&&T=="int"))=false:=by show ∀T∈ia,("<exc>"==T||("<exc>"=="bool"&&T=="int"))=false;decide
    exact this T hT
   rw[e]at h;exact Qn (W.kitx_own (hc.cls.get _) hc.cls.hd hc.gc hc.gn hc.tk hc.mo) I.kIn O' (hc.bt T hT) (λz=>nomatch z) h
  |dint ks=>
   obtain⟨kvs,h2,_⟩:=h1;obtain⟨_,_,vs',_,p⟩:=h2.ok I.hok;obtain⟨o,es,ep,k1,k2,_⟩:=p;exact Qn S7 I.kIn ⟨o,k1,k2.1⟩ (hk _ (by simp)) (λz=>nomatch z) h
  |pl=>exact jy I (show bX (.ref a) (Pq a) from rfl) (.lst h1) (hk _ (by simp)) h
def et{T:String}{x:OG}{p1 p2:Pos}(hk:tE X.K T)(hgi:Gl X "isinstance")(hmi:X.mg "isinstance"=none)(hg:Gl X x)(hm:X.mg x=none)(hv:bootBuiltins x=some (.type T))(ha:DE X E a f)
  (hn:x≠"__name__":=by decide)(hdb:(x==("__debug__" : OG))=false:=by decide)(hT:T∈ia:=by decide)
  (he:OJ [a,.Name x p2] X.env=(false,eval a X.env)::OJ [.Name x p2] X.env:=by exact aJ rfl)(he2:OJ [.Name x p2] X.env=(false,eval (.Name x p2) X.env)::OJ [] X.env:=by exact aJ rfl)(hpl:(PK pos (OJ [.Name x p2] X.env)).any (·.1)=false:=by exact bA rfl) :
  DE X E (.Call (.Name "isinstance" p1) [a,.Name x p2] [] pos) (bc f (i9 T)):=by
 refine⟨?_⟩;refine bb (pS (r:=λvs H Q=>∃d v,vs=[v,.ty T]/\Rep X.K H d v/\Q (.bl (wM d==T||(wM d=="bool"&&T=="int"))) H) ?_ hgi hmi PyProof.Rows.Boot.«isinstance» (cF ha.o (cF (yP (v:=.ty T) hg hm hv rfl hn hdb) dR he2) he) (by decide) (by decide) he hpl) λσ H Q ⟨Ha,ρ,hs,hr,q⟩=>⟨Ha,ρ,hs,hr,?_⟩
 .intro π s σ H xs us Q I r h
  obtain⟨d,v,rfl,h1,q⟩:=h;cases r with
  |cons r1 r2=>
   cases r2 with
   |cons r3 r4=>
    cases r4;rename_i u1 u2;obtain rfl:u2=Value.type T:=r3;exact De I h1 r1 hk hT λtk=>⟨.bl _,H,I.tok _,rfl,q⟩
 .unfold bc at q
  cases e1:f ρ with
  |stuck|exn x=>rw[e1]at q;exact q
  |ok d=>
   rw[e1]at q;intro v H1 H01 g1 r1;exact⟨d,v,rfl,r1.mono g1.sub,q _ H1 H01 g1 (rb _)⟩
end
theorem sQ{prog:Pr}{w:PJ}{A:Px}{E:OB->OI->Prop}{it t:OE}{items:Array OB}(hne:t≠it):∀(n i:Nat) (s:OI) (Q:List OB->OI->Prop),s.heap.IsListIter it t i->s.heap.IsList t items->i+n<=items.size ->
  (∀h',h'.IsListIter it t (i+n)->RP it s.heap h'->Q ((items.toList.drop i).take n) { s with heap:=h' })->O7 (O2 prog w) A (draw (.ref it) n) Q E s
 |0,i,s,Q,hit,_,_,hQ=>by
  show O7 _ _ (pure []) Q E s;exact Pc (by simpa using hQ s.heap hit (RP.refl ..))
 |n+1,i,s,Q,hit,ht,hle,hQ=>by
  have hlt:i<items.size:=by omega
  show O7 _ _ (pyNext (.ref it) >>= _) Q E s;refine OM (wpAny_pyNext_list_item hit ht (x:=items[i]) (by simp[hlt]) λh₁ hit₁ hs₁=>?_);have ht₁:h₁.IsList t items:=by
   obtain⟨o,k1,k2⟩:=ht;exact⟨o,(hs₁.2 t hne).trans k1,k2⟩
  refine OM (QT (sQ hne n (i+1) _ _ hit₁ ht₁ (by omega) λhG hit₂ hs₂=>Pc ?_));have hd:items.toList.drop i=items[i]::items.toList.drop (i+1):=by simp[Qf,hlt]
  have:=hQ hG (by rw[show i+(n+1)=i+1+n by omega];exact hit₂) (hs₁.trans hs₂);rw[hd,Ut]at this;exact this
def m5{prog:Pr}{w:PJ}{A:Px}{E:OB->OI->Prop}{s:OI}{t:OE}{items:Array OB}{Q:List OB->OI->Prop}(hh:A.handled=none)(ht:s.heap.IsList t items)
  (hQ:∀h',Heap.ExtBut s.heap.objs.size s.heap h'->Q items.toList { s with heap:=h' }):O7 (O2 prog w) A (unpackItems (.ref t) items.size none) Q E s:=by
 have hlt:t≠s.heap.objs.size:=by obtain⟨o,ho,_⟩:=ht;exact Po (O1 ho)
 unfold unpackItems;refine OM ?_
 .unfold notIterableAtAll
  refine OM (wpAny_specialOf ht.typeIs slot_list_iter.lookup ?_);refine Pc ?_;simp only[SO,if_false];refine OM (QT (wpAny_pyIter_list ht ?_));have ht0:(s.heap.push { cls:=.type "list_iterator",data:=.fields #[.ref t,.int 0 0] }).IsList t items:=by
   obtain⟨o,k1,k2⟩:=ht;exact⟨o,OK _ k1,k2⟩
  refine OM (QT (sQ hlt items.size 0 _ _ ⟨_,Pu _ rfl,rfl,rfl⟩ ht0 (by omega) λh₁ hit₁ hs₁=>?_));have hall:List.take items.size (List.drop 0 items.toList)=items.toList:=by
   rw[Tf];exact T8 (by simp)
  rw[hall];rw[if_neg (by simp)];have ht₁:h₁.IsList t items:=by
   obtain⟨o,k1,k2⟩:=ht0;exact⟨o,(hs₁.2 t hlt).trans k1,k2⟩
  refine OM (QT (wpAny_pyNext_list_end hh hit₁ ht₁ (by simp) λhG he₂=>?_));simp only[Option.isSome_none,SO,if_false];refine Pc (hQ hG λb o hb e=>he₂ b o hb (hs₁.extBut b o hb (OK _ e)))
def xg(σ:L2.St):cr->al->L2.St
 |i::is,v::vs=>xg (σ.set i (some v)) is vs
 |_,_=>σ
def fR(ρ:Ev):cr->ac->Ev
 |i::is,d::ds=>fR (ρ.set i (.sh d)) is ds
 |_,_=>ρ
theorem gu.putAll{K:OH}{He η Ha H:Hp}:∀{is:cr}{ds:ac}{vs:al}{σ:L2.St}{ρ:Ev},gu K He η Ha σ H ρ->Reps K Ha ds vs->gu K He η Ha (xg σ is vs) H (fR ρ is ds)
 |[],_,_,_,_,h,_=>by unfold xg fR;exact h
 |_::_,[],_,_,_,h,r=>by rw[Reps.nil_iff.mp r];unfold xg fR;exact h
 |i::is,d::ds,_,_,_,h,r=>by
  obtain⟨v,vs,rfl,h1,h2⟩:=aD.mp r;unfold xg fR;exact gu.putAll (h.put h1) h2
section
variable {X:Cx}{E:XK}{He η:Hp}{e a b:Pl}{es:List Pl}{f g:am}{fa:Ev->ak (ac)}{pos:Pos}{is:cr}
def KD(is:cr):EG:=λvs σ H Q=>vs.length=is.length/\Q (xg σ is vs) H
def vy{t t':EG}(h:Bq X es t)(w:∀vs σ H Q,t' vs σ H Q->t vs σ H Q):Bq X es t':=λπ s σ H vs us Q I r q=>h π s σ H vs us Q I r (w vs σ H Q q)
def jT:Bq X [] (KD []):=vy FD λvs σ H Q z9=>by
 obtain⟨h,q⟩:=z9;have e:vs=[]:=Qa.mp h;subst e;exact⟨rfl,q⟩
def bU{i:Nat}{x:OG}{p:Pos}(hN:X.N.Nodup)(hi:X.N[i]?=some x)(hx:zS X.env.scope x)(h:Bq X es (KD is))(hf:X.fn x=true∨X.env.scope.names.lookup x=some .local := by first|exact .inl rfl|exact .inr rfl|assumption)
  (hs:(assignEach (.Name x p::es) X.env).map (·.2)=assign (.Name x p) X.env::(assignEach es X.env).map (·.2):=by rfl):Bq X (.Name x p::es) (KD (i::is)) :=
 vy (Cv (yK hN hi hx hf) h hs) λvs σ H Q z9=>by
  obtain⟨h,q⟩:=z9;cases vs with|nil=>simp at h|cons v vs=>exact⟨v,vs,rfl,by simpa using h,q⟩
def FE{k:Nat}{t:EG}{n:Nat}(hc:X.calm=true)(h:Bq X es t)
  (hn:(assignEach es X.env).length=n:=by rfl)(hst:(assignEach es X.env).findIdx? (·.1)=none:=by rfl):PG X (.Tuple es k pos) (λv σ H Q=>∃a xs,v=.ref a/\gL X.K H a xs/\xs.length=n/\t xs σ H Q):=by
 intro π s σ H v u Q I r hw;obtain⟨a,xs,e1,hq,hl,hw⟩:=hw;subst e1;cases r;obtain⟨its,rv,ht,hz⟩:=I.list hq;rw[assign_Tuple];refine OM (wpAny_standAt ?_);unfold unpack;rw[hn,hst];have hsz:n=its.toArray.size:=by rw[Pd,←rv.length,hl]
 rw[hsz];refine OM (QT (m5 (I.ok.hd hc) ht.isList λh' hx=>?_));have I1:Inv X π σ H { s with heap:=h' }:=I.kept (t':=s.toks) λb o e=>hx b o (Po (O1 e)) e;exact h π _ σ H xs _ Q I1 (by simpa using rv) hw
def LG{tgt:Pl}{t t':TG}(h:PG X tgt t)(h':PG X tgt t'):PG X tgt (λv σ H Q=>t v σ H Q∨t' v σ H Q):=λπ s σ H v u Q I r q=>q.elim (h π s σ H v u Q I r) (h' π s σ H v u Q I r)
def Cw{k:Nat}(hc:X.calm=true)(h:Bq X es (KD is))(hn:(assignEach es X.env).length=is.length:=by rfl)(hst:(assignEach es X.env).findIdx? (·.1)=none:=by rfl) :
  PG X (.Tuple es k pos) (λv σ H Q=>∃a xs,v=.ref a/\(lA X.K H a xs∨gL X.K H a xs)/\xs.length=is.length/\Q (xg σ is xs) H) :=
 ug (LG (Jj hc h hn hst) (FE hc h hn hst)) λv σ H Q ⟨a,xs,e,hq,hl,q⟩=>hq.elim (λz=>.inl ⟨a,xs,e,z,hl,hl,q⟩) λz=>.inr ⟨a,xs,e,z,hl,hl,q⟩
def fS(n:Nat)(d:D):Option (ac):=match d with
 |.tup ds=>if ds.length=n then some ds else none
 |.lst ds=>if ds.length=n then some ds else none
 |_=>none
def nP{K:OH}{H:Hp}{n:Nat}{d:D}{ds:ac}{v:V}(h:fS n d=some ds)(r:Rep K H d v):∃a vs,v=.ref a/\(lA K H a vs∨gL K H a vs)/\vs.length=n/\Reps K H ds vs:=by
 unfold fS at h;cases d with
 |tup es=>
  by_cases c:es.length=n
  .simp only[if_pos c]at h;cases h
   obtain⟨a,vs,rfl,h1,h2⟩:=aM.mp r;exact⟨a,vs,rfl,.inl h1,by rw[←h2.length];exact c,h2⟩
  .simp only[if_neg c]at h;cases h
 |lst es=>
  by_cases c:es.length=n
  .simp only[if_pos c]at h;cases h
   obtain⟨a,vs,rfl,h1,h2⟩:=aF.mp r;exact⟨a,vs,rfl,.inr h1,by rw[←h2.length];exact c,h2⟩
  .simp only[if_neg c]at h;cases h
 |_=>cases h
def vg{K:OH}{H H':Hp}{a:OE}{vs:al}(hs:aG H H')(h:lA K H a vs∨gL K H a vs):lA K H' a vs∨gL K H' a vs:=h.elim (λz=>.inl (aG.sqT hs z)) λz=>.inr (aG.sqL hs z)
def xj(is:cr)(f:am):bv:=λρ=>(f ρ).bind λd=>match fS is.length d with
 |some ds=>.ok (.nx (fR ρ is ds))
 |none=>.stuck
def qz{k:Nat}{tp:Pos}(hc:X.calm=true)(he:DE X E e f)(h:Bq X es (KD is))(hs:swapsWithSole [.Tuple es k tp] e pos.line X.env=pure false:=by rfl)(hw:swappedStores [.Tuple es k tp] e X.env=pure none:=by rfl)
  (h1:(assignEach [.Tuple es k tp] X.env).map (·.2)=[assign (.Tuple es k tp) X.env]:=by rfl)(hn:(assignEach es X.env).length=is.length:=by rfl)(hst:(assignEach es X.env).findIdx? (·.1)=none:=by rfl) :
  DS X E He η (.Assign [.Tuple es k tp] e pos) (xj is f):=by
 refine⟨?_⟩;refine cR (Jh he.o (Cw hc h hn hst) hs hw h1) λD σ H z9=>?_;obtain⟨Ha,ρ,h,q⟩:=z9;refine⟨Ha,ρ,h.g.sub,h.rd,?_⟩
 refine plain (k:=λd=>match fS is.length d with
  |some ds=>.ok (.nx (fR ρ is ds))
  |none=>.stuck) h q λd v H' Ha' _ g rp q'=>?_
 cases e1:fS is.length d with
 |none=>rw[e1]at q';exact q'.elim
 |some ds=>
  rw[e1]at q';obtain⟨a,vs,rfl,k1,k2,k3⟩:=nP e1 rp;exact⟨a,vs,rfl,vg g.sub k1,k2,q' _ H' Ha' (aG.refl _) ((h.grow g).putAll k3)⟩
def rH(is:cr):Ev->D->ak Ev:=λρ d=>match fS is.length d with
 |some ds=>.ok (fR ρ is ds)
 |none=>.stuck
def rW:wH (rH is):=λρ d=>by
 unfold rH;cases fS is.length d with|none=>exact .inl rfl|some ds=>exact .inr ⟨_,rfl⟩
def D0{k:Nat}(hc:X.calm=true)(h:Bq X es (KD is))(hn:(assignEach es X.env).length=is.length:=by rfl)(hst:(assignEach es X.env).findIdx? (·.1)=none:=by rfl):DG X E He η (.Tuple es k pos) (rH is) :=
 ⟨ug (Cw hc h hn hst) λv σ H Q z9=>by
  obtain⟨Ha,ρ,d,h,rp,q⟩:=z9;unfold rH at q;cases e1:fS is.length d with
  |none=>rw[e1]at q;exact q.elim
  |some ds=>
   rw[e1]at q;obtain⟨a,vs,rfl,k1,k2,k3⟩:=nP e1 rp;exact⟨a,vs,rfl,vg h.g.sub k1,k2,q _ H Ha (aG.refl _) (h.putAll k3)⟩⟩
def xo(i j:Nat)(fa:Ev->ak (ac)):bv:=λρ=>(fa ρ).bind λds=>match ds with
 |[x,y]=>.ok (.nx ((ρ.set i (.sh x)).set j (.sh y)))
 |_=>.stuck
def Kk{i j:Nat}{x y:OG}{px py pt pt2:Pos}{kt k2}(hc:X.calm=true)(hN:X.N.Nodup)(hi:X.N[i]?=some x)(hj:X.N[j]?=some y)(hij:i≠j)
  (hx:X.env.scope.names.lookup x=some .local)(hy:X.env.scope.names.lookup y=some .local)(ha:DA X E [a,b] fa)
  (hw:swappedStores [.Tuple [.Name x px,.Name y py] kt pt] (.Tuple [a,b] k2 pt2) X.env=pure (some [x,y]))
  (hs:swapsWithSole [.Tuple [.Name x px,.Name y py] kt pt] (.Tuple [a,b] k2 pt2) pos.line X.env=pure false:=by rfl) :
  DS X E He η (.Assign [.Tuple [.Name x px,.Name y py] kt pt] (.Tuple [a,b] k2 pt2) pos) (xo i j fa):=by
 refine⟨?_⟩;refine cR (Jg hc hN hi hj hij hx hy ha.o hw hs) λD σ H z9=>?_;obtain⟨Ha,ρ,h,q⟩:=z9;refine⟨Ha,ρ,h.g.sub,h.rd,?_⟩
 unfold xo at q;cases e1:fa ρ with
 |stuck=>rw[e1]at q;exact q|exn x=>rw[e1]at q;exact λC ox H' Ha' g ex=>q C ox H' Ha' (h.g.trans g) ex
 |ok ds=>
  rw[e1]at q;intro vs H1 H01 g1 r1
  match ds,r1,q with
  |[x,y],r1,q=>
   obtain⟨v,r',rfl,h1,h2⟩:=aD.mp r1;obtain⟨u,r'',rfl,h3,h4⟩:=aD.mp h2;rw[Reps.nil_iff.mp h4];exact⟨v,u,rfl,q _ H1 H01 g1.z (((h.grow g1).put h1).put h3)⟩
  |[],_,q=>exact q.elim
  |[_],_,q=>exact q.elim
  |_::_::_::_,_,q=>exact q.elim
end
def qk{K:OH}:tE K "int":=by
 intro S hS;simp only[O4,Se,or_false]at hS;rcases hS with rfl|rfl|rfl|rfl|rfl|rfl|rfl<;>first|rfl|decide +kernel
def nV{K:OH}:tE K "bool":=by
 intro S hS;simp only[O4,Se,or_false]at hS;rcases hS with rfl|rfl|rfl|rfl|rfl|rfl|rfl<;>first|rfl|decide +kernel
def jP{K:OH}:tE K "str":=by
 intro S hS;simp only[O4,Se,or_false]at hS;rcases hS with rfl|rfl|rfl|rfl|rfl|rfl|rfl<;>first|rfl|decide +kernel
def mn{K:OH}:tE K "tuple":=by
 intro S hS;simp only[O4,Se,or_false]at hS;rcases hS with rfl|rfl|rfl|rfl|rfl|rfl|rfl<;>first|rfl|decide +kernel
section
variable {X:Cx}{E:XK}{He η:Hp}{e a b c:Pl}{f g h:am}{pos:Pos}
def dv(i:Nat){x:OG}(hN:X.N[i]?=some x:=by rfl)(hv:zO X.env.scope x:=by first|exact OP rfl|exact Te (OP rfl)|exact Te (Te rfl))(hd:(x==("__debug__" : OG))=false:=by decide)
  (hcd:(x==("__classdict__" : OG))=false:=by decide):DE X E (.Name x pos) (ag i):=Kl hN hv hd hcd
def wK(K:OH)(mg:OG->Option OB)(x:OG)(d:D):Prop:=∃v u,mg x=some u/\bX v u/\∀H,Rep K H d v
def eF{x:OG}{d:D}(k:wK X.K X.mg x d)(hg:Gl X x)(hd:(x==("__debug__" : OG))=false:=by decide):DE X E (.Name x pos) (dC d):=by
 obtain⟨v,u,h1,h2,h3⟩:=k;exact G9 hg h1 h2 h3 hd
def gH{K:OH}{mg:OG->Option OB}{x:OG}{i:Int}{t:Tok}(h:mg x=some (.int i t)):wK K mg x (.int i):=⟨.int i,_,h,⟨t,rfl⟩,λ_=>ri _⟩
def y9{K:OH}{mg:OG->Option OB}{x:OG}{i:OG}{t:Tok}(h:mg x=some (.str i t)):wK K mg x (.str i):=⟨.str i,_,h,⟨t,rfl⟩,λ_=>Rep.str_iff.mpr rfl⟩
def F8{K:OH}{mg:OG->Option OB}{x:OG}{a:OE}{od:Option OE}{its:Array OB}{n:Nat}{sl:Array (Option OB)}{ds:ac}{vs:al}(h:mg x=some (.ref a))(l:K.lookup a=some ⟨.type "tuple",od,.seq its n,sl⟩)
  (hv:bJ vs its.toList)(hz:its.size<=sizeLine)(hd:∀H,Reps K H ds vs):wK K mg x (.tup ds):=⟨.ref a,_,h,rfl,λH=>aM.mpr ⟨a,vs,rfl,.inr ⟨_,its,n,l,rfl,rfl,hz,hv⟩,hd H⟩⟩
def ja(op op':D->D->ak D)(f g h:am):am:=λρ=>(f ρ).bind λx=>(g ρ).bind λy=>(op x y).bind λz=>match z with
 |.bl true=>(h ρ).bind λw=>op' y w
 |.bl false=>.ok (.bl false)
 |_=>.stuck
def rg(r:R2)(o:D->D->ak D):Prop:=∀(K:OH) (x y:D) (v u:V) (H Ha:Hp) (Q:VK) (d:D),aG Ha H->Rep K Ha x v->Rep K Ha y u->o x y=.ok d->(∀w,Rep K Ha d w->Q w H)->r v u H Q
def iu{gv:Int->Int->V}{g:Int->Int->D}(hg:∀K H i j,Rep K H (g i j) (gv i j)):rg (EB gv) (vP (λ_ _=>true) g):=by
 intro K x y v u H Ha Q d hs r1 r2 e q;unfold vP at e;cases x with
 |int i=>
  cases y with|int j=>simp only[if_pos]at e;cases e;exact⟨i,j,az.mp r1,az.mp r2,q _ (hg _ _ i j)⟩| _=>cases e
 |_=>cases e
def rh(o:D->D->ak D):Prop:=∀x y,∀z,o x y≠.exn z
def oi{r r':R2}{o o':D->D->ak D}(p:rg r o)(p':rg r' o')(n:rh o)(n':rh o')(σ:L2.St)(H:Hp)(Q:VK)(q:tD X.K E (ja o o' f g h) σ H Q) :
  wZ r r' (tD X.K E f) (tD X.K E g) (tD X.K E h) σ H Q:=by
 obtain⟨Ha,ρ,hs,hr,q⟩:=q;refine⟨Ha,ρ,hs,hr,?_⟩;unfold ja at q;cases e1:f ρ with
 |stuck|exn x=>rw[e1]at q;exact q
 |ok x=>
  rw[e1]at q;intro v H1 H01 g1 r1;refine⟨H01,ρ,g1.sub,hr.mono g1.z,?_⟩;replace q:=post.grow (r:=(g ρ).bind λy=>(o x y).bind λz=>match z with
   |.bl true=>(h ρ).bind λw=>o' y w
   |.bl false=>.ok (.bl false)
   |_=>.stuck) q g1
  cases e2:g ρ with
  |stuck|exn x=>rw[e2]at q;exact q
  |ok y=>
   rw[e2]at q;intro u H2 H02 g2 r2;replace q:=post.grow (r:=(o x y).bind λz=>match z with
    |.bl true=>(h ρ).bind λw=>o' y w
    |.bl false=>.ok (.bl false)
    |_=>.stuck) q g2
   cases e3:o x y with
   |stuck=>rw[e3]at q;exact q.elim|exn z=>exact absurd e3 (n x y z)
   |ok z=>
    rw[e3]at q;refine p X.K x y v u H2 H02 _ z g2.sub (r1.mono g2.z) r2 e3 λw rw'=>?_;cases z with
    |bl b=>
     rw[aE.mp rw'];refine⟨b,rfl,?_⟩;cases b with
     |false=>rw[if_neg Qm];exact q _ H2 H02 (br.refl g2.sub) (rb _)
     |true=>
      rw[if_pos rfl];refine⟨H02,ρ,g2.sub,(hr.mono g1.z).mono g2.z,?_⟩;replace q:post X.K E H2 H02 ((h ρ).bind λw=>o' y w) Q:=q;cases e4:h ρ with
      |stuck|exn x=>rw[e4]at q;exact q
      |ok w2=>
       rw[e4]at q;intro v3 H3 H03 g3 r3;replace q:=post.grow (r:=o' y w2) q g3;cases e5:o' y w2 with
       |stuck=>rw[e5]at q;exact q.elim|exn z=>exact absurd e5 (n' y w2 z)
       |ok d=>
        rw[e5]at q;exact p' X.K y w2 u v3 H3 H03 Q d g3.sub (r2.mono g3.z) r3 e5 λw3 r5=>q w3 H3 H03 (br.refl g3.sub) r5
    |_=>exact q.elim
def D9{op op':CmpOp}{r r':R2}{o o':D->D->ak D}(ho:ib X (PR op) r)(ho':ib X (PR op') r')(p:rg r o)(p':rg r' o')(n:rh o)(n':rh o')(ha:DE X E a f)(hb:DE X E b g)(hc:DE X E c h)
  (hm:lastMarks [op,op'] [b,c]=false:=by with_unfolding_all rfl):DE X E (.Compare a [op,op'] [b,c] pos) (ja o o' f g h):=⟨bb (CF ho ho' ha.o hb.o hc.o hm) (oi p p' n n')⟩
def wo{op op':CmpOp}{r r':R2}{o o':D->D->ak D}(ho:ib X (PR op) r)(ho':ib X (PR op') r')(p:rg r o)(p':rg r' o')(n:rh o)(n':rh o')(ha:DE X E a f)(hb:DE X E b g)(hc:DE X E c h)
  (hm:lastMarks [op,op'] [b,c]=false:=by with_unfolding_all rfl):DT X E (.Compare a [op,op'] [b,c] pos) (ja o o' f g h):=by
 refine⟨?_⟩;refine oZ (Cq ho ho' ha.o hb.o hc.o hm) λσ H Q q=>?_;have w:tD X.K E (ja o o' f g h) σ H λx H'=>∃k,x=.bl k/\Q k H':=by
  obtain⟨Ha,ρ,hs,hr,q⟩:=q;refine⟨Ha,ρ,hs,hr,?_⟩;cases e1:ja o o' f g h ρ with
  |stuck|exn x=>rw[e1]at q;exact q
  |ok d=>
   rw[e1]at q;intro v H1 H01 g1 r1;cases d with|bl b=>rw[aE.mp r1];exact⟨b,rfl,q H1 H01 g1⟩| _=>exact q.elim
 exact oi p p' n n' σ H _ w
def iw{c:Int->Int->Bool}{g:Int->Int->D}:rh (vP c g):=by
 intro x y z;unfold vP;cases x<;>cases y<;>simp<;>split<;>simp
end
def pb(i:Nat):Ev->Nat:=λρ=>match ρ[i]? with
 |some (.sh (.int j))=>j.natAbs+1
 |_=>0
section
variable {X:Cx}{E:XK}{a b:Pl}{f g:am}{pos:Pos}
def dO(x y:D):ak D:=match x,y with
 |.int i,.int j=>if ke i j=true then .ok (.int (i*j)) else .stuck
 |_,_=>.stuck
def jU(ha:DE X E a f)(hb:DE X E b g):DE X E (.BinOp a .Mult b pos) (aa f g dO):=qG FI (by
 intro x y v u H Ha Q hs r1 r2 q;unfold dO at q;cases x with
 |int i=>
  cases y with
  |int j=>
   by_cases h:ke i j=true
   .simp only[if_pos h]at q
    exact⟨i,j,az.mp r1,az.mp r2,ke.ok h,bM hs q (ri _)⟩
   .simp only[if_neg h]at q;exact q.elim
  |_=>exact q.elim
 |_=>exact q.elim) ha hb
end
def JG(K:OH)(tg:Ev->D->ak Ev):TG:=λv σ H Q=>∃He η,tG K He η tg v σ H Q
theorem Reps.rep{K:OH}{H:Hp}{ds:ac}{vs:al}(h:Reps K H ds vs):∀k:Nat,Reps K H (OV k ds).flatten (OV k vs).flatten
 |0=>by simp;exact Reps.nil
 |k+1=>by
  rw[PF,PF,QP,QP];exact h.app (Reps.rep h k)
section
variable {X:Cx}{E:XK}{a b:Pl}{f g:am}{pos:Pos}
def wu(x y:D):ak D:=match x,y with
 |.lst ds,.int k=>if ds.length*k.toNat<=line/\-9223372036854775808<=k/\k<9223372036854775808 then .ok (.lst (OV k.toNat ds).flatten) else .stuck
 |_,_=>.stuck
def B8(f g:am):am:=λρ=>(f ρ).bind λx=>match x with
 |.lst ds=>(g ρ).bind λy=>wu (.lst ds) y
 |_=>.stuck
def D4(ha:DF X E a f)(hb:DE X E b g):DE X E (.BinOp a .Mult b pos) (B8 f g):=by
 refine⟨?_⟩;refine bb (HF Jo ha.o hb.o) λσ H Q z9=>?_;obtain⟨Ha,ρ,hs,hr,q⟩:=z9;refine⟨Ha,ρ,hs,hr,?_⟩
 unfold B8 at q;cases e1:f ρ with
 |stuck|exn x=>rw[e1]at q;exact q
 |ok x=>
  rw[e1]at q;cases x with
  |lst ds=>
   replace q:post X.K E H Ha ((g ρ).bind λy=>wu (.lst ds) y) Q:=q;intro p vs H1 H01 g1 hp h0 hv rp;refine⟨H01,ρ,g1.sub,hr.mono g1.z,?_⟩;replace q:=q.grow g1;cases e2:g ρ with
   |stuck|exn x=>rw[e2]at q;exact q
   |ok y=>
    rw[e2]at q;intro u H2 H02 g2 r2;replace q:=post.grow (r:=wu (.lst ds) y) q g2;cases y with
    |int k=>
     unfold wu at q
     by_cases c:ds.length*k.toNat<=line/\-9223372036854775808<=k/\k<9223372036854775808
     .simp only[if_pos c]at q
      refine⟨p,k,vs,rfl,az.mp r2,g2.s _ _ hv,by omega,by omega,by rw[←rp.length];exact fV c.1,λn hn=>?_⟩;exact q _ _ _ (aS g2.sub hn) (aF.mpr ⟨n,_,rfl,gL.of ay,((rp.mono g2.z).rep _).mono (aS g2.sub hn).z⟩)
     .simp only[if_neg c]at q;exact q.elim
    |_=>exact q.elim
  |_=>exact q.elim
def uP(x:D):ak D:=match x with
 |.lst ds=>.ok (.tup ds)
 |.tup ds=>.ok (.tup ds)
 |_=>.stuck
def Ef:ki X E (λxs H Q=>∃p ys,xs=[.ref p]/\((gL X.K H p ys/\∀l,H l=none->Q (.ref l) (upd H l (.tup ys)))∨(lA X.K H p ys/\Q (.ref p) H))) (m1 uP):=qV λx v H Ha Q hs r q=>by
 cases x with
 |lst ds=>
  obtain⟨p,vs,rfl,h1,h2⟩:=aF.mp r;exact⟨p,vs,rfl,.inl ⟨aG.sqL hs h1,λn hn=>q _ _ _ (aS hs hn) (aM.mpr ⟨n,_,rfl,lA.of ay,h2.mono (aS hs hn).z⟩)⟩⟩
 |tup ds=>
  obtain⟨p,vs,e,h1,h2⟩:=aM.mp r;subst e;exact⟨p,vs,rfl,.inr ⟨aG.sqT hs h1,bM hs q r⟩⟩
 |_=>exact q.elim
end
def gz:ac->Option (ci)
 |[]=>some []
 |.str x::r=>(gz r).map (x::·)
 |_=>none
theorem vc{K:OH}{H:Hp}:∀{ds:ac}{ys:ci}{vs:al}{us:List OB},gz ds=some ys->Reps K H ds vs->bJ vs us->StrsAre us ys
 |[],ys,vs,us,h,r,q=>by
  cases h;rw[Reps.nil_iff.mp r]at q;cases q;exact .nil
 |d::ds,ys,vs,us,h,r,q=>by
  obtain⟨v,r',rfl,h1,h2⟩:=aD.mp r;cases q with
  |cons q1 q2=>
   cases d with
   |str x=>
    unfold gz at h;cases e:gz ds with
    |none=>rw[e]at h;cases h
    |some zs=>
     rw[e]at h;cases h;rw[Rep.str_iff.mp h1]at q1;obtain⟨t,rfl⟩:=q1;exact .cons _ _ (vc e h2 q2)
   |_=>cases h
section
variable {X:Cx}{E:XK}{o e:Pl}{fo:am}{fa:Ev->ak (ac)}
def gI(z:OG)(ys:ci):Bool:=decide (z.length<=16)&&decide ((ys.map (·.length)).sum+ys.length<=1048576)
def Lu(K:OH):V->al->Hp->VK->Prop:=λx xs H Q=>∃z p ds ys,x=.str z/\xs=[.ref p]/\Rep K H (.lst ds) (.ref p)/\gz ds=some ys/\gI z ys=true/\Q (.str (Q6 z ys)) H
def FW:KP X "str.join" (Lu X.K):=by
 intro π s σ H x xs v us Q I rx rs h;obtain⟨z,p,ds,ys,rfl,rfl,hr,hy,hf,q⟩:=h;obtain⟨t,rfl⟩:=rx;obtain⟨u,rfl,ru⟩:=rs.one;obtain⟨a,vs,its,ea,rfl,h1,h2,h3,h4,_⟩:=bu I hr ru;unfold gI at hf;rw[OR]at hf;exact join_listW h4 (by simpa using vc hy h2 h3) (of_decide_eq_true hf.1) (of_decide_eq_true hf.2) λt' k=>⟨.str (Q6 z ys),H,I.tok _,⟨_,rfl⟩,q⟩
def kf(z:OG)(xs:ac):ak D:=match xs with
 |[.lst ds]=>match gz ds with
  |some ys=>if gI z ys=true then .ok (.str (Q6 z ys)) else .stuck
  |none=>.stuck
 |_=>.stuck
def kL(fo:am)(fa:Ev->ak (ac)):am:=λρ=>(fo ρ).bind λx=>match x with
 |.str z=>(fa ρ).bind λxs=>kf z xs
 |_=>.stuck
def lh{apos cpos:Pos}(ho:DE X E o fo)(ha:DA X E [e] fa)
  (hbase:Qd o "join" X.env (eval o X.env)=eval o X.env:=by rfl)
  (hfew:((PK cpos (OJ [e] X.env)).all (λx=>!x.1)&&(Ry cpos (QF [] X.env)).all (λx=>x.1.isSome)
  &&decide ([e].length+([]:List QW).length+(if([]:List QW).isEmpty then 0 else 1)<30))=true:=by exact iG rfl)
  (hline:(apos.endLine==cpos.line)=true:=by rfl) (hs:OJ [e] X.env=(false,eval e X.env)::OJ [] X.env:=by exact aJ rfl) (hplain:(PK cpos (OJ [] X.env)).any (·.1)=false:=by exact bA rfl) :
  DE X E (.Call (.Attribute o "join" apos) [e] [] cpos) (kL fo fa):=by
 refine⟨?_⟩;refine bb (yO T2 PySem.F.slot_str_join PySem.F.type_str_join FW ho.o ha.o hbase hfew hline hs hplain) λσ H Q z9=>?_;obtain⟨Ha,ρ,hs,hr,q⟩:=z9;refine⟨Ha,ρ,hs,hr,?_⟩
 unfold kL at q;cases e1:fo ρ with
 |stuck|exn x=>rw[e1]at q;exact q
 |ok x=>
  rw[e1]at q;intro v H1 H01 g1 r1;cases x with
  |str z=>
   rw[Rep.str_iff.mp r1];refine⟨rfl,H01,ρ,g1.sub,hr.mono g1.z,?_⟩;replace q:=post.grow (r:=(fa ρ).bind λxs=>kf z xs) q g1;cases e2:fa ρ with
   |stuck|exn x=>rw[e2]at q;exact q
   |ok xs=>
    rw[e2]at q;intro us H2 H02 g2 r2;replace q:=post.grow (r:=kf z xs) q g2;unfold kf at q
    match xs,r2,q with
    |[.lst ds],r2,q=>
     obtain⟨w,r',rfl,k1,k2⟩:=aD.mp r2;rw[Reps.nil_iff.mp k2];obtain⟨p,vs,rfl,k3,k4⟩:=aF.mp k1;cases e3:gz ds with
     |none=>simp only[e3]at q;exact q.elim
     |some ys=>
      simp only[e3]at q
      by_cases c:gI z ys=true
      .rw[if_pos c]at q
       exact⟨z,p,ds,ys,rfl,rfl,k1.mono g2.sub,e3,c,bM g2.sub q (Rep.str_iff.mpr rfl)⟩
      .rw[if_neg c]at q;exact q.elim
    |[],_,q=>exact q.elim
    |d1::_::_,_,q=>cases d1<;>exact PQ q
    |[.non],_,q=>exact q.elim
    |[.bl _],_,q=>exact q.elim
    |[.int _],_,q=>exact q.elim
    |[.str _],_,q=>exact q.elim
    |[.tup _],_,q=>exact q.elim
    |[.dic _ _],_,q=>exact q.elim
    |[.exc _],_,q=>exact q.elim
    |[.ob _ _],_,q=>exact q.elim
  |_=>exact q.elim
end
section
variable {X:Cx}{E:XK}{a:Pl}{f:am}{pos:Pos}
def Nq:V->Option Int->Option Int->Hp->VK->Prop:=λx lo hi H Q=>∃z,x=.str z/\z.length<=sizeLine/\Q (.str (Qh z lo hi)) H
def IT:EH X Nq:=by
 intro π s σ H x v vl vu lo hi sl Q I rx hs pl pu h;obtain⟨z,rfl,hz,q⟩:=h;obtain⟨t,rfl⟩:=rx;have fin:∀t' k,EP X π σ Q (.str (Qh z lo hi) t') { s with toks:=k }:=λt' k=>⟨.str (Qh z lo hi),H,I.tok _,⟨_,rfl⟩,q⟩
 refine⟨"str",_,PySem.F.slot_str_getitem.lookup,typeIs_str s z t,?_⟩;cases pl with
 |none=>
  cases pu with|none=>exact wpAny_getItem_str_slice (l:=none) (u:=none) (st:=none) hs rfl (post_val_or_str ⟨O0 (SS z _ _) hz,fin⟩)|int j uj=>exact wpAny_getItem_str_slice (l:=none) (u:=some (j,uj)) (st:=none) hs rfl (post_val_or_str ⟨O0 (SS z _ _) hz,fin⟩)
 |int i ui=>
  cases pu with|none=>exact wpAny_getItem_str_slice (l:=some (i,ui)) (u:=none) (st:=none) hs rfl (post_val_or_str ⟨O0 (SS z _ _) hz,fin⟩)|int j uj=>exact wpAny_getItem_str_slice (l:=some (i,ui)) (u:=some (j,uj)) (st:=none) hs rfl (post_val_or_str ⟨O0 (SS z _ _) hz,fin⟩)
noncomputable def lM(x:D) (l h:Option Int):ak D:=match x with
 |.lst ds=>.ok (.lst (mL ds l h))
 |.str z=>if z.length<=line then .ok (.str (Qh z l h)) else .stuck
 |.tup ds=>if HT.sIx ds.length 0 l=0/\HT.sIx ds.length ds.length h=ds.length then .stuck else .ok (.tup (mL ds l h))
 |_=>.stuck
def eG(f:am)(lo hi:Ev->ak (Option Int)):am:=λρ=>(f ρ).bind λx=>(lo ρ).bind λl=>(hi ρ).bind λh=>lM x l h
def aW{lo hi:Option Pl}{p2:Pos}{fl fh:Ev->ak (Option Int)}(ha:DE X E a f)(hl:DO X E lo fl)(hh:DO X E hi fh):DE X E (.Subscript a (.Slice lo hi none p2) pos) (eG f fl fh) :=
 ⟨bb (Cy (EH.or Fh (EH.or IT IS)) ha.o hl.o hh.o) (vf (m:=lM) λx v l h H Ha Q hs r q=>by
  cases x with
  |lst ds=>
   obtain⟨p,vs,rfl,h1,h2⟩:=aF.mp r;exact .inl ⟨p,vs,rfl,aG.sqL hs h1,λn hn=>q _ _ _ (aS hs hn) (aF.mpr ⟨n,_,rfl,gL.of ay,(h2.cut l h).mono (aS hs hn).z⟩)⟩
  |str z=>
   unfold lM at q
   by_cases c:z.length<=line
   .simp only[if_pos c]at q
    exact .inr (.inl ⟨z,Rep.str_iff.mp r,fV c,bM hs q (Rep.str_iff.mpr rfl)⟩)
   .simp only[if_neg c]at q;exact q.elim
  |tup ds=>
   unfold lM at q
   by_cases c:HT.sIx ds.length 0 l=0/\HT.sIx ds.length ds.length h=ds.length
   .simp only[if_pos c]at q;exact q.elim
   .simp only[if_neg c]at q
    obtain⟨p,vs,rfl,h1,h2⟩:=aM.mp r;exact .inr (.inr ⟨p,vs,rfl,aG.sqT hs h1,by rw[←h2.length];exact c,λn hn=>q _ _ _ (aS hs hn) (aM.mpr ⟨n,_,rfl,lA.of ay,(h2.cut l h).mono (aS hs hn).z⟩)⟩)
  |_=>exact q.elim)⟩
end
def NU(z:OG):It:=⟨λi _=>i<z.cps.size,λi H x H'=>H'=H/\∃c,z.cps[i]?=some c/\x=.str ⟨#[c]⟩,λi _=>z.cps.size<=i⟩
def wW{P:Pr}{w:PJ}{K:OH}{tg:Pl}(z:OG)(t:Tok)(it:OE):Bo P w K tg (NU z) [it] it (λi h=>h.IsStrIter it "str_ascii_iterator" z t i) where
 mem:=by simp
 obj:=λi h st b hb=>by
  have e:b=it:=by simpa using hb
  subst e;obtain⟨o,e,c,d⟩:=st;exact⟨o,e,λv z=>by rw[d]at z;cases z⟩
 keep:=λi h h' st k=>let ⟨o,ho,r⟩:=st;⟨o,k it (by simp) o ho,r⟩
 item:=by
  intro X hP hw hK hc i π s σ H E I hf st hg;subst hP hw hK;have hg':i<z.cps.size:=hg;obtain⟨f0,f1,f2,f3,f4,f5⟩:=hf it (by simp);refine wpAny_pyNext_ascii_item st (c:=z.cps[i]) (by simp[hg']) λh' st' sb=>?_;have I1:Inv X π σ H { s with heap:=h',toks:=s.toks+1 }:=I.turned (t':=s.toks+1) (λb o hb e=>(sb.2 b hb).trans e) f0 f1 f3 f4 f5;obtain⟨o,e,c,d⟩:=id st';exact⟨_,rfl,zj (s:={ s with heap:=h',toks:=s.toks+1 }) e c d (by decide) ⟨.str ⟨#[z.cps[i]]⟩,H,I1,⟨_,rfl⟩,⟨rfl,_,by simp[hg'],rfl⟩,st',λb hb=>(hf b hb).1⟩⟩
 done:=by
  intro X hP hw hK hc i π s σ H E I hf st hg;subst hP hw hK;have hg':z.cps.size<=i:=hg;obtain⟨f0,f1,f2,f3,f4,f5⟩:=hf it (by simp);exact wpAny_pyNext_ascii_end (I.ok.hd hc) st (by simp[hg']) λh' eb=>⟨rfl,I.turned (t':=s.toks) (λb o hb e=>eb b o hb e) f0 f1 f3 f4 f5⟩
 self:=λ_ _ _ _ _ st h=>wpAny_pyIter_striter_ascii st h
def z7{P:Pr}{w:PJ}{K:OH}{tg:Pl}(z:OG)(t:Tok)(it:OE):Bo P w K tg (NU z) [it] it (λi h=>h.IsStrIter it "str_iterator" z t i) where
 mem:=by simp
 obj:=λi h st b hb=>by
  have e:b=it:=by simpa using hb
  subst e;obtain⟨o,e,c,d⟩:=st;exact⟨o,e,λv z=>by rw[d]at z;cases z⟩
 keep:=λi h h' st k=>let ⟨o,ho,r⟩:=st;⟨o,k it (by simp) o ho,r⟩
 item:=by
  intro X hP hw hK hc i π s σ H E I hf st hg;subst hP hw hK;have hg':i<z.cps.size:=hg;obtain⟨f0,f1,f2,f3,f4,f5⟩:=hf it (by simp);refine wpAny_pyNext_wide_item st (c:=z.cps[i]) (by simp[hg']) λh' st' sb=>?_;have I1:Inv X π σ H { s with heap:=h',toks:=s.toks+1 }:=I.turned (t':=s.toks+1) (λb o hb e=>(sb.2 b hb).trans e) f0 f1 f3 f4 f5;obtain⟨o,e,c,d⟩:=id st';exact⟨_,rfl,zj (s:={ s with heap:=h',toks:=s.toks+1 }) e c d (by decide) ⟨.str ⟨#[z.cps[i]]⟩,H,I1,⟨_,rfl⟩,⟨rfl,_,by simp[hg'],rfl⟩,st',λb hb=>(hf b hb).1⟩⟩
 done:=by
  intro X hP hw hK hc i π s σ H E I hf st hg;subst hP hw hK;have hg':z.cps.size<=i:=hg;obtain⟨f0,f1,f2,f3,f4,f5⟩:=hf it (by simp);exact wpAny_pyNext_wide_end (I.ok.hd hc) st (by simp[hg']) λh' eb=>⟨rfl,I.turned (t':=s.toks) (λb o hb e=>eb b o hb e) f0 f1 f3 f4 f5⟩
 self:=λ_ _ _ _ _ st h=>wpAny_pyIter_striter_wide st h
def NG(tl:TE):TI:=λσ H R=>tl σ H λx H1=>∃z,x=.str z/\R (NU z) H1
def Ji{X:Cx}{tg l:Pl}{tl:TE}(hl:PE X l tl):PI X tg l (NG tl):=by
 intro π s σ H R I h;refine dB (hl π s σ H _ I h) λv s1 ⟨x,H1,I1,r1,q1⟩=>?_;obtain⟨z,rfl,q⟩:=q1;obtain⟨t,rfl⟩:=r1;have fpo:∀b∈[s1.heap.objs.size],nK X π H1 b:=λb hb=>by
  have e:b=s1.heap.objs.size:=by simpa using hb
  subst e;exact I1.fpOk (O3 _) (I1.hok.fresh (O3 _))
 cases ha:z.cps.all (· < 128) with|false=>exact wpAny_pyIter_wide ha ⟨s1.heap.objs.size,[s1.heap.objs.size],_,_,H1,rfl,I1.kept (t':=s1.toks) λb o e=>OK _ e,z7 z t _,⟨_,Pu _ rfl,rfl,rfl⟩,fpo,q⟩|true=>exact wpAny_pyIter_ascii ha ⟨s1.heap.objs.size,[s1.heap.objs.size],_,_,H1,rfl,I1.kept (t':=s1.toks) λb o e=>OK _ e,wW z t _,⟨_,Pu _ rfl,rfl,rfl⟩,fpo,q⟩
def dr(z:OG):ac:=z.cps.toList.map λc=>.str ⟨#[c]⟩
def gA(z:OG):(dr z).length=z.cps.size:=by unfold dr;simp
section
variable {X:Cx}{E:XK}
def LA(K:OH):al->Hp->VK->Prop:=λxs H Q=>∃(p:OE) (bs:List Bool),xs=[.ref p]/\gL K H p (bs.map V.bl)/\Q (.bl (bs.all id)) H
theorem tu:∀bs:List Bool,(Qc bs.length).all (λi=>bs.getD i false)=bs.all id
 |[]=>rfl
 |b::r=>by
  rw[Pa,Sj,QH,Sk,QH,←tu r];rfl
def qT(hc:X.calm=true):jH X (.builtin "all") (LA X.K):=by
 intro π s σ H xs us Q I r h;obtain⟨p,bs,rfl,hq,q⟩:=h;obtain⟨u,rfl,rx⟩:=pq r;cases rx;obtain⟨its,rv,pl,hz⟩:=I.list hq;have hlen:=rv.length;rw[OD]at hlen;have hne:p≠s.heap.objs.size:=Po pl.lt;refine call_all_walk (wpAny_pyIter_list pl.isList ?_);have pl2:(s.heap.push { cls:=.type "list_iterator",data:=.fields #[.ref p,.int 0 0] }).IsList p its.toArray:=by
  obtain⟨o,k1,k2⟩:=pl.isList;exact⟨o,OK _ k1,k2⟩
 refine⟨s.heap.objs.size,_,_,_,_,_,λi=>bs.getD i false,rfl,Walks.list (A:=X.A.in1) (I.ok.hd hc) s.heap.objs.size p hne its.toArray,⟨⟨_,Pu _ rfl,rfl,rfl⟩,pl2⟩,?_,λh' tk hk=>?_⟩
 .intro i v s' Q' E' hv hQ
  have hv':its[i]?=some v:=by simpa using hv
  have hi:i<its.length:=(OZ.mp hv').1;obtain⟨w,e1,e2⟩:=rv.get (show(bs.map V.bl)[i]?=some (V.bl (bs.getD i false)) by
   rw[O5,OQ (by omega)];simp[List.getD,OQ (show i<bs.length by omega)])
  rw[hv']at e1;cases e1;obtain rfl:v=Ql _:=e2;exact Qq hQ
 .have hall:(Qc its.toArray.size).all (λi=>bs.getD i false)=bs.all id:=by
   rw[Pd,←hlen];exact tu bs
  rw[hall];exact⟨.bl _,H,I.kept (t':=tk) (λb o e=>hk b o (by simp only[PD];exact Po (O1 e)) (OK _ e)),rfl,q⟩
def fF:ac->Option (List Bool)
 |[]=>some []
 |.bl b::r=>(fF r).map (b::·)
 |_=>none
theorem sY{K:OH}{H:Hp}:∀{ds:ac}{bs:List Bool}{vs:al},fF ds=some bs->Reps K H ds vs->vs=bs.map V.bl
 |[],bs,vs,h,r=>by cases h;exact Reps.nil_iff.mp r
 |d::ds,bs,vs,h,r=>by
  obtain⟨v,r',rfl,h1,h2⟩:=aD.mp r;cases d with
  |bl x=>
   unfold fF at h;cases e:fF ds with
   |none=>rw[e]at h;cases h
   |some zs=>
    rw[e]at h;cases h;rw[aE.mp h1,sY e h2];rfl
  |_=>cases h
def rM(x:D):ak D:=match x with
 |.lst ds=>match fF ds with
  |some bs=>.ok (.bl (bs.all id))
  |none=>.stuck
 |_=>.stuck
def yj:ki X E (LA X.K) (m1 rM):=qV λx v H Ha Q hs r q=>by
 cases x with
 |lst ds=>
  unfold rM at q;obtain⟨p,vs,rfl,h1,h2⟩:=aF.mp r;cases e:fF ds with
  |none=>simp only[e]at q;exact q.elim
  |some bs=>
   simp only[e]at q;exact⟨p,bs,rfl,by rw[←sY e h2];exact aG.sqL hs h1,bM hs q (rb _)⟩
 |_=>exact q.elim
end
end DL
namespace L2
open PySem PySem.Spec PyProof.Rows
section
variable {X:Cx}{π:List (OE×Obj)}{σ:St}{H:Hp}{s:OI}{a:OE}{y v:V}{u r:OB}{o:Option V}{A:Px}{E:OB->OI->Prop}
def Inv.big(I:Inv X π σ H s):Sh<s.heap.objs.size:=by
 have h:O6<s.heap.objs.size:=(I.mod.glob.keeps I.bk).lt;exact Nat.lt_trans (by decide) h
end
def DX{P:Pr}{w:PJ}{H:Hp}(h:OY)(hb:Sh<h.objs.size):dq P w H (h.push { cls:=.type "dict",data:=.dict #[] }) h.objs.size (.dK []) :=
 ⟨RJ _,beq_eq_false_iff_ne.mpr (Py (Po hb)),[],.nil,Heap.DictOf.new h⟩
def IJ:TE:=λ_ H Q=>∀p,H p=none->Q (.ref p) (upd H p (.dK []))
section
variable {X:Cx}{pos:Pos}
def CD:PE X (.Dict [] [] pos) IJ:=λπ s σ H Q I h=>
 wpAny_Dict_empty ⟨.ref s.heap.objs.size,_,I.laid (a:=s.heap.objs.size) (o:=.dK []) (t':=s.toks) (λ_ _ q=>OK _ q) (O3 _) (DX s.heap I.big),rfl,h _ (I.hok.fresh (O3 _))⟩
end
end L2
namespace DL
open PySem PySem.Spec PyProof.Rows L2
def wI{K:OH}{H:Hp}{ks:ci}{ds:ac}{v:V}:Rep K H (.dic ks ds) v↔∃a kvs vs,v=.ref a/\Rd H a (.dK kvs)/\kvs=(ks.map RM).zip vs/\ks.length=vs.length/\Reps K H ds vs:=by rw[Rep]
section
variable {X:Cx}{E:XK}{e:Pl}{f:am}{pos p1:Pos}
def Hc:DE X E (.Dict [] [] pos) (dC (.dic [] [])):=by
 refine⟨?_⟩;refine bb CD λσ H Q ⟨Ha,ρ,hs,hr,q⟩ p hp=>?_;exact q _ _ _ (aS hs hp) (wI.mpr ⟨p,[],[],rfl,.inl ay,rfl,rfl,Reps.nil⟩)
def dOne(x:OG)(d:D):ak D:=.ok (.dic [x] [d])
end
def jb(cells:List (OG×OE)):List (OG×Qs)->List (OG×OE)->List (OG×OE)
 |[],acc=>acc
 |(n,k)::r,acc=>if(k==QG)=true then jb cells r ((n,(cells.lookup n).getD 0)::acc) else jb cells r acc
def rN{scope:RG}{env:P7}(h:∀x∈scope.names,x.2=.free->∃c,env.cells.lookup x.1=some c):closureFor scope env=pure (jb env.cells scope.names []):=by
 simp only[closureFor];have key:∀(names:List (OG×Qs)) (acc:List (OG×OE)),(∀x∈names,x.2=.free->∃c,env.cells.lookup x.1=some c) ->
   (forIn names acc λ(x:OG×Qs) (z:List (OG×OE))=>
      if(x.snd==QG)=true then do
       let y ←cellOf env x.fst
       pure (Rt ((x.fst,y)::z))
      else(pure (Rt z):Sem _))=pure (jb env.cells names acc):=by
  intro names
  induction names with
  |nil=>intro acc _;rfl
  |cons x r ih=>
   intro acc hh;obtain⟨n,k⟩:=x;rw[List.forIn_cons]
   by_cases hk:(k==QG)=true
   .obtain⟨c,hc⟩:=hh (n,k) Pe (by simpa using hk)
    have hcell:cellOf env n=pure c:=by unfold cellOf;rw[show env.cells.lookup n=some c from hc]
    simp only[hk,if_true];rw[hcell];have:=ih ((n,c)::acc) (λy hy=>hh y (OT _ hy));rw[show jb env.cells ((n,k)::r) acc=jb env.cells r ((n,c)::acc) by
     show(if(k==QG)=true then _ else _)=_;rw[if_pos hk,show env.cells.lookup n=some c from hc];rfl]
    rw[←this];rfl
   .have:=ih acc (λy hy=>hh y (OT _ hy))
    rw[if_neg hk];rw[show jb env.cells ((n,k)::r) acc=jb env.cells r acc by
     show(if(k==QG)=true then _ else _)=_;rw[if_neg hk]]
    rw[←this];rfl
 rw[key _ _ h];rfl
theorem qQ{cells:List (OG×OE)}:∀{names:List (OG×Qs)}{acc:List (OG×OE)}{x:OG}{c:OE},(∀y∈names,y.2=.free->∃c,cells.lookup y.1=some c) ->
  (jb cells names acc).lookup x=some c->acc.lookup x=some c∨cells.lookup x=some c
 |[],acc,x,c,_,h=>.inl h
 |(n,k)::r,acc,x,c,hh,h=>by
  unfold jb at h
  by_cases hk:(k==QG)=true
  .rw[if_pos hk]at h
   obtain⟨d,hd⟩:=hh (n,k) Pe (by simpa using hk);rcases qQ (λy hy=>hh y (OT _ hy)) h with h|h
   .rw[Qo]at h
    cases e:x==n with
    |true=>
     rw[e]at h;rw[show cells.lookup n=some d from hd]at h;cases h;rw[eq_of_beq e];exact .inr hd
    |false=>rw[e]at h;exact .inl h
   .exact .inr h
  .rw[if_neg hk]at h
   exact qQ (λy hy=>hh y (OT _ hy)) h
theorem nT{α:Type}{x:OG}:∀{l:List (OG×α)},(∃v,(x,v)∈l)->∃v,l.lookup x=some v
 |[],⟨v,h⟩=>by cases h
 |(n,w)::r,⟨v,h⟩=>by
  rw[Qo];cases e:x==n with
  |true=>exact⟨w,rfl⟩
  |false=>
   rcases O4.mp h with h|h
   .cases h;simp at e
   .exact nT ⟨v,h⟩
theorem qS{cells:List (OG×OE)}{x:OG}{c:OE}:∀{names:List (OG×Qs)}{acc:List (OG×OE)},(x,c)∈acc->(x,c)∈jb cells names acc
 |[],acc,h=>h
 |(n,k)::r,acc,h=>by
  unfold jb
  by_cases hk:(k==QG)=true
  .rw[if_pos hk];exact qS (OT _ h)
  .rw[if_neg hk];exact qS h
def qR{cells:List (OG×OE)}{x:OG}:∀{names:List (OG×Qs)}{acc:List (OG×OE)},(x,QG)∈names->∃c,(jb cells names acc).lookup x=some c:=by
 intro names
 induction names with
 |nil=>intro acc h;cases h
 |cons y r ih=>
  intro acc h;obtain⟨n,k⟩:=y;unfold jb;rcases O4.mp h with h|h
  .cases h
   rw[if_pos (by rfl)];exact nT ⟨_,qS Pe⟩
  .by_cases hk:(k==QG)=true
   .rw[if_pos hk];exact ih h
   .rw[if_neg hk];exact ih h
noncomputable def fO(X:Cx) (N:ci) (scope:RG) (s:OI) (H:Hp) (C:OE) (fp:List OE) (pn:List (OE×Obj)):Cx :=
 { X with N:=N,sf:=s,Ha:=H,env:=compEnvC scope (jb X.env.cells scope.names []) C X.env,outer:=X.stack,stack:=X.stack,ex:=fp,fn:=λ_=>false,pn:=pn,xe:=λ_ _=>False }
def mO(n:Nat)(fr:cr)(σ:L2.St):L2.St:=OV n none++fr.map λ(i:Nat)=>(σ[i]?).getD none
noncomputable def Eu(X:Cx) (N:ci) (n:Nat) (fr:cr) (scope:RG):Prop :=
 N.length=n+fr.length/\((N.drop n).zip fr).all (λp=>X.N[p.2]?==some p.1&&X.env.scope.names.lookup p.1==some .cell&&scope.names.lookup p.1==some .free&&(relabel scope X.env).names.lookup p.1==some .cell)=true
theorem Eu.at{X:Cx}{N:ci}{n:Nat}{fr:cr}{scope:RG}(h:Eu X N n fr scope){k:Nat}{x:OG}{v:V}{σ:L2.St}(hx:N[k]?=some x)(hv:(mO n fr σ)[k]?=some (some v)) :
  ∃i:Nat,X.N[i]?=some x/\σ[i]?=some (some v)/\X.env.scope.names.lookup x=some .cell/\scope.names.lookup x=some .free/\(relabel scope X.env).names.lookup x=some .cell:=by
 unfold mO at hv
 by_cases hk:k<n
 .rw[O8 (by simpa using hk),Pt,if_pos hk]at hv
  cases hv
 .rw[Pg (by simpa using hk),Qi,O5]at hv
  cases hi:fr[k-n]? with
  |none=>rw[hi]at hv;cases hv
  |some i=>
   rw[hi]at hv;have hz:((N.drop n).zip fr)[k-n]?=some (x,i):=by
    rw[List.getElem?_zip_eq_some];exact⟨by rw[Rv,show n+(k-n)=k by omega];exact hx,hi⟩
   have:=Pk.mp h.2 _ (Pp hz);simp only[OR,beq_iff_eq]at this;refine⟨i,this.1.1.1,?_,this.1.1.2,this.1.2,this.2⟩;simp only[Rr,Ra]at hv;cases hs:σ[i]? with|none=>rw[hs]at hv;cases hv|some u=>rw[hs]at hv;exact congrArg some hv
noncomputable def MI(X:Cx) (ifs:List Pl) (t:TT):Prop :=
 ∀(π:List (OE×Obj)) (s:OI) (σ:L2.St) (H:Hp) (Q:Bool->Hp->Prop),Inv X π σ H s->t σ H Q ->
  O7 (O2 X.prog X.w) X.A (forIn ifs true λc r=>if r=true then do let ok ←isTrue c X.env (eval c X.env);pure (Rt ok) else pure (Rt r)) (TP X π σ Q) X.xe s
def M5:TT:=λ_ H Q=>Q true H
def Fz{X:Cx}:MI X [] M5:=λ_ _ _ H _ I h=>wpAny_tests_nil ⟨H,I,h⟩
def Fy{X:Cx}{c:Pl}{t:TT}(h:PT X c t):MI X [c] t:=λπ s σ H Q I q=>wpAny_tests_one (h π s σ H Q I q)
theorem qM{prog:Pr}{w:PJ}{A:Px}{R:SD->OI->Prop}{s:OI}{elt target iter:Pl}{ifs:List Pl}{scope:RG}{pos:Pos}{it acc:OB}{env:P7}(I:Nat->OI->Prop)
  (turn:∀n s,I n s->O7 (O2 prog w) A (pyNext it) (λr sg=>match r with
   |none=>R (.ok .next) sg
   |some v=>O7 (O2 prog w) A (letOwnedTupleGo target it v) (λ_ sg'=>O7 (O2 prog w) A (assign target env v) (λ_ si=>
     O7 (O2 prog w) A (forIn ifs true λc r=>if r=true then do let ok ←isTrue c env (eval c env);pure (Rt ok) else pure (Rt r)) (λok sj=>
      if ok=true then O7 (O2 prog w) A (eval elt env) (λx sk=>
       O7 (O2 prog w) A (call (.builtin "list.append") [acc,x]) (λ_ so=>∃m,m<n/\I m so) (λ_ _=>False) sk) (λ_ _=>False) sj
      else ∃m,m<n/\I m sj) (λ_ _=>False) si) (λ_ _=>False) sg') (λ_ _=>False) sg) (λ_ _=>False) s)
  (n:Nat) (h:I n s) :
  Q9 (O2 prog w) A (.compLoop (.ListComp elt [⟨target,iter,ifs,0⟩] scope pos) 0 it acc env) R s:=by
 refine codeAny_loop rfl I (λn s hI=>?_) n h;show O7 _ A ((compTurn (.ListComp elt [⟨target,iter,ifs,0⟩] scope pos) 0 it acc env).onRaise (λx=>do noteFrame x env;theTreesLotGoes x)) _ _ s;refine wpAny_noted ?_;rw[compTurn_list];refine OM (wpAny_standAt (OM (PN (turn n s hI) (λr sg h₁=>?_) λ_ _ h'=>h'.elim)));cases r with
 |none=>exact Pc h₁
 |some v=>
  refine OM (PN h₁ (λ_ sg' h₁'=>?_) λ_ _ h'=>h'.elim);refine OM (PN h₁' (λ_ si hG=>OM (PN hG (λok sj hU=>?_) λ_ _ h'=>h'.elim)) λ_ _ h'=>h'.elim);cases ok with
  |false=>exact Pc ⟨rfl,hU⟩
  |true=>
   exact OM (OM (PN hU (λx sk hV=>OM (PN hV (λ_ so hW=>Pc (Pc ⟨rfl,hW⟩)) λ_ _ h'=>h'.elim)) λ_ _ h'=>h'.elim))
noncomputable def wY(n:Nat) (fr:cr) (g:TG) (tt:TT) (te:TE) (J:It) (σ:L2.St) (H1:Hp) (Q:VK):Prop:=∀D,H1 D=none->∃W:Nat->Nat->al->L2.St->Hp->Prop,(∃m,W 0 m [] (mO n fr σ) (upd H1 D (.lst []))) /\
 ∀i m ys σ' H',W i m ys σ' H'->H' D=some (.lst ys)/\((J.stop i H'/\Q (.ref D) H')∨(J.go i H'/\ys.length<sizeLine/\∀x H2,J.yld i H' x H2->g x σ' H2 λσ3 H3=>tt σ3 H3 λb H4=>
  if b=true then te σ3 H4 λy H5=>H5 D=some (.lst ys)/\∃m',m' < m/\W (i+1) m' (ys++[y]) σ3 (upd H5 D (.lst (ys++[y])))
  else ∃m',m' < m/\W (i+1) m' ys σ3 H4))
def Bh{X:Cx}{tg iter elt:Pl}{ifs:List Pl}{scope:RG}{pos:Pos}{N:ci}{n:Nat}{fr:cr}{g:TG}{tt:TT}{te:TE}(hc:X.calm=true)(hfr:Eu X N n fr scope)
  (hcell:∀x∈scope.names,x.2≠.cell)(hfree:∀x∈scope.names,x.2=.free->X.env.scope.names.lookup x.1=some .cell)(hkind:scope.kind=.function)
  (blk:∀s H C fp pn,PG (fO X N scope s H C fp pn) tg g/\MI (fO X N scope s H C fp pn) ifs tt/\PE (fO X N scope s H C fp pn) elt te)
  {π:List (OE×Obj)}{σ:L2.St}{s2:OI}{Q:VK}{itv:OB}{RR:OB->OE->SD->OI->Prop}
  (h2:NQ X π σ tg (λJ H1=>wY n fr g tt te J σ H1 Q) itv s2)
  (fin:∀(Da C:OE) (s6:OI) (H5:Hp) (m:OG->Option OB),Inv X π σ H5 s6->s6.heap.Ns C m->nK X π H5 C->Q (.ref Da) H5->RR (.ref Da) C (.ok .next) s6) :
  O7 (O2 X.prog X.w) X.A (newList []) (λacc sj=>O7 (O2 X.prog X.w) X.A (newFunctionEnv scope X.env.globals (jb X.env.cells scope.names []) [] X.env.qual none .none (some X.env)) (λcenv sk=>
   Q9 (O2 X.prog X.w) X.A (.compStart (.ListComp elt [⟨tg,iter,ifs,0⟩] scope pos) 0 itv acc { cenv with scope:=relabel scope X.env }) (RR acc cenv.locals) sk) X.xe sj) X.xe s2:=by
 obtain⟨it,fp,tn,J,H2,e,I2,T,st2,f2,q⟩:=h2;subst e;have hD:H2 s2.heap.objs.size=none:=I2.fresh;refine wpAny_newObj_type ?_;have I3:Inv X π σ (upd H2 s2.heap.objs.size (.lst [])) { s2 with heap:=s2.heap.push { cls:=.type "list",data:=.seq ([]:List OB).toArray } }:=I2.lnew (t':=s2.toks) (its:=[]) .nil (RJ _);obtain⟨W,⟨m0,w0⟩,turn⟩:=q s2.heap.objs.size hD;generalize hs3:({ s2 with heap:=s2.heap.push { cls:=.type "list",data:=.seq ([]:List OB).toArray } }:OI)=s3 at I3 ⊢;have hs3h:s3.heap=s2.heap.push { cls:=.type "list",data:=.seq ([]:List OB).toArray }:=by rw[←hs3]
 have hDs:s2.heap.objs.size<s3.heap.objs.size:=by rw[hs3h,Tg];exact QY _
 have fpl:∀b∈fp,b<s2.heap.objs.size:=λb hb=>by
  obtain⟨o,ho,_⟩:=T.obj _ _ st2 b hb;exact O1 ho
 have kept3:∀b o,s2.heap.get? b=some o->s3.heap.get? b=some o:=λb o e=>by rw[hs3h];exact OK _ e
 have st3:tn 0 s3.heap:=T.keep _ _ _ st2 λb _ o e=>kept3 b o e;generalize hDa:s2.heap.objs.size=Da at *;generalize hH3:upd H2 Da (.lst [])=H3 at *;have fr3:∀b∈fp,H3 b=none:=λb hb=>by rw[←hH3,av (Po (fpl b hb))];exact(f2 b hb).1
 have cls:∀x c,(jb X.env.cells scope.names []).lookup x=some c->X.env.cells.lookup x=some c:=λx c e=>by
  rcases qQ (λy hy hf=>I3.ok.has y.1 (.inl (hfree y hy hf))) e with e|e
  .cases e
  .exact e
 refine wpAny_newFunctionEnv hcell (by intro y hy;simp at hy) (λh4 ns4 sb4=>?_) hkind;have k4:∀b o,s3.heap.get? b=some o->h4.get? b=some o:=λb o e=>(sb4.2 b (Po (O1 e))).trans (OK _ e);generalize hC:s3.heap.objs.size=C at *;have hCn:H3 C=none:=I3.hok.fresh (by rw[hC];exact O3 _);have ltC:∀b o,s3.heap.get? b=some o->b≠C:=λb o e=>by rw[←hC];exact Po (O1 e)
 have cellC:∀x c,X.env.cells.lookup x=some c->c≠C:=λx c e=>by
  obtain⟨v,o,ho,_⟩:=I3.cell x c e;exact ltC c o ho
 have fpC:∀b∈fp,b≠C:=λb hb=>by
  have:=fpl b hb;exact Po (Nat.lt_trans this hDs)
 show Q9 (O2 X.prog X.w) X.A (.compStart (.ListComp elt [⟨tg,iter,ifs,0⟩] scope pos) 0 (.ref it) (.ref Da) (compEnvC scope (jb X.env.cells scope.names []) C X.env)) _ _;generalize hs4:({ s3 with heap:=h4,toks:=s3.toks+([]:List (OG×OB)).length }:OI)=s4;have hs4h:s4.heap=h4:=by rw[←hs4]
 have ok:(fO X N scope s3 H3 C fp (X.pn++π)).Ok:=by
  refine⟨I3.ok.mod,hkind,I3.ok.glob,I3.ok.blt,T5 hC,λx y c e1 e2=>I3.ok.inj x y c (cls x c e1) (cls y c e2),λx e=>?_,λx c e=>?_,λ_=>I3.ok.hd hc,I3.ok.frames,.inl rfl,λb hb=>⟨fpC b hb,λx c e=>(f2 b hb).2.2.2.2.1 x c (cls x c e)⟩,I3.bs,O0 I3.ok.bsz I3.sz,λb o e hb=>?_,λb hb z=>?_,I3.stack,I3.stkFree⟩
  .have mm:∀k:Qs,(relabel scope X.env).names.lookup x=some k->(k=.cell∨k=.free)->(x,QG)∈scope.names:=λk hk hk2=>by
    have hm:=QC hk;obtain⟨⟨n',k'⟩,hm1,hm2⟩:=PM.mp hm;dsimp only at hm2;split at hm2
    .rename_i hcnd
     cases hm2;simp only[OR,beq_iff_eq]at hcnd;rw[hcnd.1.1]at hm1;exact hm1
    .cases hm2
     rcases hk2 with rfl|rfl
     .exact absurd rfl (hcell _ hm1)
     .exact hm1
   rcases e with e|e
   .exact qR (mm _ e (.inl rfl))
   .exact qR (mm _ e (.inr rfl))
  .cases e
  .rcases(f2 b hb).2.2.2.1 with z|z
   .exact I3.ok.noex b o e z
   .exact absurd (OS (O1 e) (O0 I3.ok.bsz z)) (Rp _)
  .rcases O4.mp (I3.stkSub b z) with z|z
   .exact(f2 b hb).2.1 z
   .exact(f2 b hb).2.2.1 z
 have I4:Inv (fO X N scope s3 H3 C fp (X.pn++π)) [] (mO n fr σ) H3 s4:=by
  refine⟨ok,by rw[←hs4];rfl,by rw[←hs4];exact I3.bare,by rw[hs4h];exact Un.kept k4,⟨_,by rw[hs4h];exact ns4,λi x v h1 h2 h3=>?_⟩,λx c e=>?_,hCn,λx c e=>I3.freeC x c (cls x c e),λp hp=>?_,by rw[hs4h];exact I3.hok.kept k4,?_⟩
  .obtain⟨j,j1,j2,j3,j4,j5⟩:=hfr.at h1 h2
   obtain⟨m,hn,hl⟩:=I3.loc;obtain⟨u,ru,l⟩:=hl j x v j1 j2 (.inr (.inl j3));refine⟨u,ru,.inr ⟨.inl j5,?_⟩⟩;rcases l with⟨z,_⟩|⟨_,c,z1,z2⟩
   .rw[show X.env.kindOf x=X.env.scope.names.lookup x from rfl,j3]at z;cases z
   .obtain⟨c',hc'⟩:=qR (cells:=X.env.cells) (names:=scope.names) (acc:=[]) (QC j4)
    have:=cls x c' hc';rw[z1]at this;cases this;obtain⟨oc,q1,q2⟩:=z2;exact⟨c,hc',oc,by rw[hs4h];exact k4 _ _ q1,q2⟩
  .obtain⟨v,oc,q1,q2⟩:=I3.cell x c (cls x c e)
   exact⟨v,oc,by rw[hs4h];exact k4 _ _ q1,q2⟩
  .rw[QN]at hp
   obtain⟨p1,p2,p3,p4,p5⟩:=I3.pin p hp;refine⟨by rw[hs4h];exact k4 _ _ p1,p2,ltC _ _ p1,λz=>?_,p5⟩;rcases O4.mp (I3.stkSub _ z) with z|z
   .exact p3 z
   .exact p4 z
  .show(mO n fr σ).length=N.length
   unfold mO;rw[Pm,Qi,OD,hfr.1]
 have st4:tn 0 s4.heap:=by rw[hs4h];exact T.keep _ _ _ st3 λb _ o e=>k4 b o e
 have stat:∀{H':Hp},(∀b∈fp,H' b=none)->∀b∈fp,nK (fO X N scope s3 H3 C fp (X.pn++π)) [] H' b:=λhn b hb=>by
  refine⟨hn b hb,fpC b hb,λz=>?_,.inl hb,λx c e=>(f2 b hb).2.2.2.2.1 x c (cls x c e),λp hp=>?_⟩
  .rcases O4.mp (I3.stkSub b z) with z|z
   .exact(f2 b hb).2.1 z
   .exact(f2 b hb).2.2.1 z
  .rw[QN]at hp
   exact(f2 b hb).2.2.2.2.2 p hp
 have loop:Q9 (O2 X.prog X.w) X.A (.compLoop (.ListComp elt [⟨tg,iter,ifs,0⟩] scope pos) 0 (.ref it) (.ref Da) (compEnvC scope (jb X.env.cells scope.names []) C X.env)) (RR (.ref Da) C) s4:=by
  refine qM (λn s'=>∃i ys σ' H',Inv (fO X N scope s3 H3 C fp (X.pn++π)) [] σ' H' s'/\tn i s'.heap/\(∀b∈fp,H' b=none)/\W i n ys σ' H') ?_ m0 ⟨0,[],_,H3,I4,st4,fr3,w0⟩;rintro k s5 ⟨i,ys,σ5,H5,I5,st5,fr5,w5⟩;obtain⟨hDl,ways⟩:=turn i k ys σ5 H5 w5;rcases ways with⟨stop,fin'⟩|⟨go,hz,step⟩
  .refine dB (T.done (fO X N scope s3 H3 C fp (X.pn++π)) rfl rfl rfl hc i [] s5 σ5 H5 (λ_ _=>False) I5 (stat fr5) st5 stop) λr s6 ⟨hr,I6⟩=>?_
   subst hr;obtain⟨mm,nsm,_⟩:=I6.loc;have free6:H5 C=none:=I6.free;have hok:ip X.prog X.w H5 s6.heap:=I6.hok;have un:Un (iS X.stack) fp H3 H5 s3.heap s6.heap:=I6.base;have IX:Inv X π σ H5 s6:=I3.call' (s':=s6) (ch:=fp) I6.os un hok I6.bare (λb hb=>⟨(f2 b hb).2.2.2.1,(f2 b hb).2.1,(f2 b hb).2.2.2.2.1,(f2 b hb).2.2.2.2.2⟩);have fC:nK X π H5 C:=I3.fpOk (b:=C) (H':=H5) (by rw[hC];exact O3 _) free6;exact fin Da C s6 H5 mm IX nsm fC fin'
  .refine dB (T.item (fO X N scope s3 H3 C fp (X.pn++π)) rfl rfl rfl hc i [] s5 σ5 H5 (λ_ _=>False) I5 (stat fr5) st5 go) λr s6 ⟨u,hr,h6⟩=>?_
   subst hr;refine dB h6 λ_ s7 ⟨x,H7,I7,r7,y7,st7,fr7⟩=>?_;have I7':=I7.pinned (stat fr7) (T.obj _ _ st7);refine dB ((blk s3 H3 C fp (X.pn++π)).1 _ s7 σ5 H7 x u _ I7' r7 (step x H7 y7)) λ_ s8 ⟨σ8,H8,I8,q8⟩=>?_;refine dB ((blk s3 H3 C fp (X.pn++π)).2.1 _ s8 σ8 H8 _ I8 q8) λb s8b ⟨H8b,I8b,q8b⟩=>?_;have back:∀{σ':L2.St}{H':Hp}{s':OI},L2.Inv (fO X N scope s3 H3 C fp (X.pn++π)) (([]:List (OE×Obj))++pQ fp s7.heap) σ' H' s'->tn (i+1) s'.heap/\∀b∈fp,H' b=none:=λ{σ' H' s'} I'=>by
    refine⟨T.keep _ _ _ st7 λb hb o e=>(I'.pin (b,o) (PX _ (PX _ (jM hb e)))).1,λb hb=>?_⟩;obtain⟨o,e,d⟩:=T.obj _ _ st7 b hb;exact(I'.pin (b,o) (PX _ (PX _ (jM hb e)))).2.1
   cases b with
   |false=>
    rw[if_neg Qm]at q8b ⊢;obtain⟨m',hm,w9⟩:=q8b;exact⟨m',hm,i+1,ys,σ8,_,I8b.unpinned,(back I8b).1,(back I8b).2,w9⟩
   |true=>
    rw[if_pos rfl]at q8b ⊢;refine dB ((blk s3 H3 C fp (X.pn++π)).2.2 _ s8b σ8 H8b _ I8b q8b) λy s9 ⟨yv,H9,I9,r9,hD9,m',hm,w9⟩=>?_;refine dB (nr (X:=fO X N scope s3 H3 C fp (X.pn++π)) _ s9 σ8 H9 (.ref Da) [yv] (.ref Da) [y] (λv H'=>H'=upd H9 Da (.lst (ys++[yv]))) I9 rfl (.cons r9 .nil) ⟨Da,ys,yv,rfl,rfl,hD9,hz,rfl⟩) λ_ s10 ⟨v10,H10,I10,_,e10⟩=>?_;subst e10;exact⟨m',hm,i+1,ys++[yv],σ8,_,I10.unpinned,(back I10).1,(back I10).2,w9⟩
 exact codeAny_compStart_list loop (T.self _ 0 _ _ _ st4 loop)
structure MZ (K:OH) (ds:ac) (J:It) (Ha:Hp):Prop where
 go:∀(i:Nat) (H' Ha':Hp),aG Ha Ha'->aG Ha' H'->i<ds.length->J.go i H'
 yld:∀(i:Nat) (H' Ha':Hp) (x:V) (H2:Hp) (d:D),aG Ha Ha'->aG Ha' H'->ds[i]?=some d->J.yld i H' x H2->∃H₀2,br H' Ha' H2 H₀2/\Rep K H₀2 d x
 stop:∀(i:Nat) (H' Ha':Hp),aG Ha Ha'->aG Ha' H'->ds.length<=i->J.stop i H'
noncomputable def Oi(K:OH) (E:XK) (src:Ev->ak (ac)):TI:=λσ H R=>∃Ha ρ,aG Ha H/\gw K Ha σ ρ/\match src ρ with
 |.ok ds=>∀J H' Ha',br H Ha H' Ha'->MZ K ds J Ha'->R J H'
 |.exn x=>∀C ox H' Ha',br H Ha H' Ha'->wQ K Ha' x C ox->E C ox H'
 |.stuck=>False
structure DI (X:Cx) (E:XK) (tg iter:Pl) (src:Ev->ak (ac)):Prop where
 o:PI X tg iter (Oi X.K E src)
def o3{X:Cx}{tg iter:Pl}{t t':TI}(h:PI X tg iter t)(w:∀σ H R,t' σ H R->t σ H R):PI X tg iter t':=λπ s σ H R I q=>h π s σ H R I (w σ H R q)
def Ae(f:am):Ev->ak (ac):=λρ=>(f ρ).bind λd=>match d with
 |.lst ds=>.ok ds
 |_=>.stuck
def tR(f:am):Ev->ak (ac):=λρ=>(f ρ).bind λd=>match d with
 |.str z=>.ok (dr z)
 |_=>.stuck
def pB(f:am):Ev->ak (ac):=λρ=>(f ρ).bind λd=>match d with
 |.int j=>if -4611686018427387904<=j/\j<4611686018427387904 then .ok (intsFrom 0 j.toNat) else .stuck
 |_=>.stuck
section
variable {X:Cx}{E:XK}{tg e a b:Pl}{f g:am}
def uO(h:DE X E e f):DI X E tg e (Ae f):=by
 refine⟨o3 (yJ h.o) λσ H R z9=>?_⟩;obtain⟨Ha,ρ,hs,hr,q⟩:=z9;refine⟨Ha,ρ,hs,hr,?_⟩;unfold Ae at q;cases e1:f ρ with
 |stuck|exn x=>rw[e1]at q;exact q
 |ok d=>
  rw[e1]at q;intro v H1 H01 g1 r1;cases d with
  |lst ds=>
   obtain⟨p,vs,rfl,hv,hrv⟩:=aF.mp r1;refine⟨p,rfl,⟨vs,aG.sqL g1.sub hv⟩,q _ H1 H01 g1 ⟨λi H' Ha' s1 s2 hi=>?_,λi H' Ha' x H2 d s1 s2 hd hy=>?_,λi H' Ha' s1 s2 hi=>?_⟩⟩
   .exact⟨vs,vs[i]'(by rw[←hrv.length];exact hi),aG.sqL (s1.trans s2) hv,by simp⟩
   .obtain⟨rfl,hy⟩:=hy
    obtain⟨u,k1,k2⟩:=hrv.get hd;have:=hy vs (aG.sqL (s1.trans s2) hv);rw[k1]at this;cases this;exact⟨Ha',br.refl s2,k2.mono s1⟩
   .exact⟨vs,aG.sqL (s1.trans s2) hv,by rw[←hrv.length];exact hi⟩
  |_=>exact q.elim
def uN(h:DE X E e f):DI X E tg e (tR f):=by
 refine⟨o3 (Ji h.o) λσ H R z9=>?_⟩;obtain⟨Ha,ρ,hs,hr,q⟩:=z9;refine⟨Ha,ρ,hs,hr,?_⟩;unfold tR at q;cases e1:f ρ with
 |stuck|exn x=>rw[e1]at q;exact q
 |ok d=>
  rw[e1]at q;intro v H1 H01 g1 r1;cases d with
  |str z=>
   refine⟨z,Rep.str_iff.mp r1,q _ H1 H01 g1 ⟨λi H' Ha' s1 s2 hi=>?_,λi H' Ha' x H2 d s1 s2 hd hy=>?_,λi H' Ha' s1 s2 hi=>?_⟩⟩
   .rw[gA]at hi;exact hi
   .obtain⟨rfl,c,hc,rfl⟩:=hy
    have:d=.str ⟨#[c]⟩:=by
     unfold dr at hd;rw[O5]at hd;have h2:z.cps.toList[i]?=some c:=by simpa using hc
     rw[h2]at hd;cases hd;rfl
    subst this;exact⟨Ha',br.refl s2,Rep.str_iff.mpr rfl⟩
   .rw[gA]at hi;exact hi
  |_=>exact q.elim
def A3{K:OH}{lo:Int}{n:Nat}{H:Hp}:MZ K (intsFrom lo n) (KA lo n) H:=by
 have hl:(intsFrom lo n).length=n:=by unfold intsFrom;simp
 refine⟨λi H' Ha' _ _ hi=>?_,λi H' Ha' x H2 d s1 s2 hd hy=>?_,λi H' Ha' _ _ hi=>?_⟩
 .rw[hl]at hi;exact hi
 .obtain⟨rfl,rfl⟩:=hy
  have:d=.int (lo+i):=by
   unfold intsFrom at hd;rw[O5]at hd;cases e:(Qc n)[i]? with
   |none=>rw[e]at hd;cases hd
   |some k=>
    rw[e]at hd;have hk:k=i:=by
     obtain⟨h1,h2⟩:=OZ.mp e;simpa using h2.symm
    subst hk;cases hd;rfl
  subst this;exact⟨Ha',br.refl s2,az.mpr rfl⟩
 .rw[hl]at hi;exact hi
def Ba{p pos:Pos}(hg:Gl X "range")(hm:X.mg "range"=none)(h:DE X E a f)(hn:KH a=true:=by exact rfl):DI X E tg (.Call (.Name "range" p) [a] [] pos) (pB f):=by
 refine⟨o3 (sA hg hm (cF h.o dR (jk hn)) (jk hn)) λσ H R z9=>?_⟩;obtain⟨Ha,ρ,hs,hr,q⟩:=z9;refine⟨Ha,ρ,hs,hr,?_⟩;unfold pB at q;cases e1:f ρ with
 |stuck|exn x=>rw[e1]at q;exact q
 |ok d=>
  rw[e1]at q;intro v H1 H01 g1 r1;cases d with
  |int j=>
   replace q:match (if -4611686018427387904<=j/\j<4611686018427387904 then ak.ok (intsFrom 0 j.toNat) else .stuck) with
    |.ok ds=>∀J H' Ha',br H Ha H' Ha'->MZ X.K ds J Ha'->R J H'
    |.exn x=>∀C ox H' Ha',br H Ha H' Ha'->wQ X.K Ha' x C ox->E C ox H'
    |.stuck=>False:=q
   by_cases hj:-4611686018427387904<=j/\j<4611686018427387904
   .rw[if_pos hj]at q
    rw[az.mp r1];exact⟨j,rfl,hj.1,hj.2,q _ H1 H01 g1 A3⟩
   .rw[if_neg hj]at q;exact q.elim
  |_=>exact q.elim
end
def HC(src:Ev->ak (ac))(tg:Ev->D->ak Ev)(s:bv):bv:=λρ=>(src ρ).bind λds=>gp tg s ds ρ
def rj(f:am):Prop:=∀ρ d,f ρ=.ok d->∃ds,d=.lst ds
def BU{K:OH}{E:XK}{f:am}(hf:rj f){σ:L2.St}{H:Hp}{Q:VK}(h:tD K E f σ H Q):tF K E f σ H Q:=by
 obtain⟨Ha,ρ,hs,hr,q⟩:=h;refine⟨Ha,ρ,hs,hr,?_⟩;cases e1:f ρ with
 |stuck|exn x=>rw[e1]at q;exact q
 |ok d=>
  obtain⟨ds,rfl⟩:=hf ρ d e1;rw[e1]at q;intro p vs H' Ha' g hp h0 hv rp;have n0:Ha p=none:=hs.free hp;refine q (.ref p) H' (upd Ha' p (.lst vs)) ⟨g.s,λb o e=>?_,λb o e=>?_,λb k1 k2=>?_⟩ (aF.mpr ⟨p,vs,rfl,gL.of ay,rp.mono λb o e=>?_⟩)
  .rw[av (by intro z;subst z;rw[n0]at e;cases e)];exact g.z _ _ e
  .by_cases hb:b=p
   .subst hb;rw[ay]at e;cases e;exact hv
   .rw[av hb]at e;exact g.sub _ _ e
  .by_cases hb:b=p
   .subst hb;exact hp
   .rw[av hb]at k1;exact g.nw b k1 k2
  .rw[av (by intro z;subst z;rw[h0]at e;cases e)];exact e
def D5{X:Cx}{E:XK}{e:Pl}{f:am}(hf:rj f)(h:DF X E e f):DE X E e f:=⟨bb h.o λσ H Q q=>BU hf q⟩
def dP(n:Nat)(fr:cr)(ρ:Ev):Ev:=OV n .no++fr.map λ(i:Nat)=>match ρ[i]? with
 |some (.sh d)=>.sh d
 |_=>.no
noncomputable def cC(b:Ev) (tg:Ev->D->ak Ev) (tt fe:am):ac->ak (ac)
 |[]=>.ok []
 |d::r=>(tg b d).bind λρ1=>(tt ρ1).bind λt=>match t with
  |.bl true=>(fe ρ1).bind λx=>(cC b tg tt fe r).bind λxs=>.ok (x::xs)
  |.bl false=>cC b tg tt fe r
  |_=>.stuck
def fN(n:Nat)(fr:cr)(src:Ev->ak (ac))(tg:Ev->D->ak Ev)(tt fe:am):am:=λρ=>(src ρ).bind λds=>
 if ds.length<=line then match cC (dP n fr ρ) tg tt fe ds with
  |.ok es=>.ok (.lst es)
  |_=>.stuck
 else .stuck
def Bg{n:Nat}{fr:cr}{src:Ev->ak (ac)}{tg:Ev->D->ak Ev}{tt fe:am}:rj (fN n fr src tg tt fe):=λρ d h=>by
 unfold fN at h;cases e1:src ρ with
 |stuck|exn x=>rw[e1]at h;cases h
 |ok ds=>
  rw[e1]at h;replace h:(if ds.length<=line then match cC (dP n fr ρ) tg tt fe ds with
   |.ok es=>ak.ok (D.lst es)
   |_=>.stuck else .stuck)=.ok d:=h
  split at h
  .split at h
   .cases h;exact⟨_,rfl⟩
   .cases h
  .cases h
def jX{b:Ev}{tg:Ev->D->ak Ev}{tt fe:am}{d:D}{r es:ac}(h:cC b tg tt fe (d::r)=.ok es) :
  ∃ρ1 t,tg b d=.ok ρ1/\tt ρ1=.ok (.bl t)/\((t=true/\∃x xs,fe ρ1=.ok x/\cC b tg tt fe r=.ok xs/\es=x::xs)∨(t=false/\cC b tg tt fe r=.ok es)):=by
 unfold cC at h;cases e1:tg b d with
 |stuck|exn z=>rw[e1]at h;cases h
 |ok ρ1=>
  rw[e1]at h;replace h:((tt ρ1).bind λt=>match t with
   |.bl true=>(fe ρ1).bind λx=>(cC b tg tt fe r).bind λxs=>ak.ok (x::xs)
   |.bl false=>cC b tg tt fe r
   |_=>.stuck)=.ok es:=h
  cases e2:tt ρ1 with
  |stuck|exn z=>rw[e2]at h;cases h
  |ok t=>
   rw[e2]at h;cases t with
   |bl t=>
    cases t with
    |true=>
     replace h:((fe ρ1).bind λx=>(cC b tg tt fe r).bind λxs=>ak.ok (x::xs))=.ok es:=h;cases e3:fe ρ1 with
     |stuck|exn z=>rw[e3]at h;cases h
     |ok x=>
      rw[e3]at h;replace h:((cC b tg tt fe r).bind λxs=>ak.ok (x::xs))=.ok es:=h;cases e4:cC b tg tt fe r with|stuck|exn z=>rw[e4]at h;cases h|ok xs=>rw[e4]at h;cases h;exact⟨ρ1,true,rfl,e2,.inl ⟨rfl,x,xs,e3,rfl,rfl⟩⟩
    |false=>exact⟨ρ1,false,rfl,e2,.inr ⟨rfl,h⟩⟩
   |_=>cases h
def iz{b:Ev}{tg:Ev->D->ak Ev}{tt fe:am}{d x:D}{r:ac}{ρ1:Ev}(h1:tg b d=.ok ρ1)(h2:tt ρ1=.ok (.bl true))(h3:fe ρ1=.ok x):cC b tg tt fe (d::r)=(cC b tg tt fe r).bind λxs=>.ok (x::xs):=by
 rw[cC,h1];simp only[ak.bind,h2,h3]
def qO{b:Ev}{tg:Ev->D->ak Ev}{tt fe:am}{d:D}{r:ac}{ρ1:Ev}(h1:tg b d=.ok ρ1)(h2:tt ρ1=.ok (.bl false)):cC b tg tt fe (d::r)=cC b tg tt fe r:=by
 rw[cC,h1];simp only[ak.bind,h2]
theorem nF{b:Ev}{tg:Ev->D->ak Ev}{tt fe:am}:∀{r q es:ac},cC b tg tt fe (r++q)=.ok es->∃e1 e2,cC b tg tt fe r=.ok e1/\cC b tg tt fe q=.ok e2/\es=e1++e2
 |[],q,es,h=>⟨[],es,rfl,h,rfl⟩
 |d::r,q,es,h=>by
  obtain⟨ρ1,t,h1,h2,h3⟩:=jX h;rcases h3 with⟨rfl,x,xs,h3,h4,rfl⟩|⟨rfl,h4⟩
  .obtain⟨e1,e2,k1,k2,rfl⟩:=nF h4
   refine⟨x::e1,e2,?_,k2,rfl⟩;rw[iz h1 h2 h3,k1];rfl
  .obtain⟨e1,e2,k1,k2,rfl⟩:=nF h4
   refine⟨e1,e2,?_,k2,rfl⟩;rw[qO h1 h2];exact k1
theorem jW{b:Ev}{tg:Ev->D->ak Ev}{tt fe:am}:∀{r q e1 e2:ac},cC b tg tt fe r=.ok e1->cC b tg tt fe q=.ok e2->cC b tg tt fe (r++q)=.ok (e1++e2)
 |[],q,e1,e2,h,h'=>by cases h;exact h'
 |d::r,q,e1,e2,h,h'=>by
  obtain⟨ρ1,t,h1,h2,h3⟩:=jX h;show cC b tg tt fe (d::(r++q))=_;rcases h3 with⟨rfl,x,xs,h3,h4,rfl⟩|⟨rfl,h4⟩
  .rw[iz h1 h2 h3,jW h4 h'];rfl
  .rw[qO h1 h2];exact jW h4 h'
theorem qP{b:Ev}{tg:Ev->D->ak Ev}{tt fe:am}:∀{r es:ac},cC b tg tt fe r=.ok es->es.length<=r.length
 |[],es,h=>by cases h;exact O3 _
 |d::r,es,h=>by
  obtain⟨ρ1,t,h1,h2,h3⟩:=jX h;rcases h3 with⟨rfl,x,xs,h3,h4,rfl⟩|⟨rfl,h4⟩
  .exact Nat.succ_le_succ (qP h4)
  .exact Nat.le_succ_of_le (qP h4)
def Hq(n:Nat)(tg:Ev->D->ak Ev):Prop:=∀ρ d ρ',tg ρ d=.ok ρ'->ρ'.length=ρ.length/\∀(k:Nat),n<=k->ρ'[k]?=ρ[k]?
def iA{i n:Nat}(h:i<n):Hq n (fv i):=λρ d ρ' e=>by
 cases e;exact⟨by simp,λk hk=>by rw[OW (by omega)]⟩
def yl{K:OH}{Ha:Hp}{σ:L2.St}{ρ:Ev}{n:Nat}{fr:cr}(h:gw K Ha σ ρ):gw K Ha (mO n fr σ) (dP n fr ρ):=λi d e=>by
 unfold dP at e;unfold mO
 by_cases hi:i<n
 .rw[O8 (by simpa using hi),Pt,if_pos hi]at e
  cases e
 .rw[Pg (by simpa using hi),Qi,O5]at e ⊢
  cases hf:fr[i-n]? with
  |none=>rw[hf]at e;cases e
  |some j=>
   rw[hf]at e;simp only[Rr,Ra]at e ⊢;cases hj:ρ[j]? with
   |none=>rw[hj]at e;cases e
   |some s=>
    rw[hj]at e;cases s with
    |sh d'=>
     cases e;obtain⟨v,h1,h2⟩:=h j d hj;exact⟨v,by rw[h1];rfl,h2⟩
    |_=>cases e
def Hi{n:Nat}{fr:cr}{ρ:Ev}{k:Nat}(h:k<n):(dP n fr ρ)[k]?=some .no:=by
 unfold dP;rw[O8 (by simpa using h),Pt,if_pos h]
def Ei{n:Nat}{fr:cr}{ρ:Ev}(i j:Nat)(es:ac):(dP n fr ρ)[i]?≠some (.ox j es):=λe=>by
 unfold dP at e
 by_cases hj:i<n
 .rw[O8 (by simpa using hj),Pt,if_pos hj]at e;cases e
 .rw[Pg (by simpa using hj),O5]at e
  cases hf:fr[i-(OV n Sl.no).length]? with
  |none=>rw[hf]at e;cases e
  |some z=>
   rw[hf]at e;simp only[Rr,Ra]at e;split at e<;>cases e
def Bj{n:Nat}{fr:cr}{ρ:Ev}{σ:L2.St}(i:Nat)(a:OE)(e:(dP n fr ρ)[i]?=some (.pt a)):σ[i]?=some (some (.ref a)):=by
 unfold dP at e
 by_cases hj:i<n
 .rw[O8 (by simpa using hj),Pt,if_pos hj]at e;cases e
 .rw[Pg (by simpa using hj),O5]at e
  cases hf:fr[i-(OV n Sl.no).length]? with
  |none=>rw[hf]at e;cases e
  |some z=>
   rw[hf]at e;simp only[Rr,Ra]at e;split at e<;>cases e
def wD{n:Nat}{fr:cr}{ρ:Ev}:(dP n fr ρ).length=n+fr.length:=by unfold dP;simp
def yh{K:OH}{E:XK}{n:Nat}{fr:cr}{tg:Ev->D->ak Ev}{tt fe:am}{σ:L2.St}{ρ:Ev}{H Ha H1 H01:Hp}{ds es:ac}{J:It}{Q:VK}(hsame:aG Ha H)(g1:br H Ha H1 H01)(it:MZ K ds J H01)(hl:ds.length<=line)
  (e2:cC (dP n fr ρ) tg tt fe ds=.ok es)(hr:gw K H01 σ ρ)(hok:Hq n tg)
  (q:∀p vs H' Ha',br H Ha H' Ha'->H p=none->Ha' p=none->H' p=some (.lst vs)->Reps K Ha' es vs->Q (.ref p) H') :
  wY n fr (JG K tg) (KG K E tt) (tD K E fe) J σ H1 Q:=by
 intro Da hDa;have h0D:H01 Da=none:=g1.sub.free hDa;refine⟨λi m ys σ' H'=>m=ds.length-i/\i<=ds.length/\σ'.length=n+fr.length/\∃Ha',br H1 H01 H' Ha'/\Ha' Da=none/\H' Da=some (.lst ys)/\gw K Ha' σ' (dP n fr ρ)/\∃es1,cC (dP n fr ρ) tg tt fe (ds.take i)=.ok es1/\Reps K Ha' es1 ys,
  ⟨ds.length,by simp,RJ _,by unfold mO;simp,H01,?_,h0D,ay,yl hr,[],rfl,Reps.nil⟩,?_⟩
 .refine⟨λb o e=>by rw[av (bo e hDa)];exact e,aG.refl _,λb o e=>?_,λb k1 k2=>absurd k2 k1⟩
  rw[av (by intro z;subst z;rw[h0D]at e;cases e)];exact g1.sub _ _ e
 .rintro i m ys σ' H' ⟨rfl,hile,hsl,Ha',gg,hD0,hDl,hrd,es1,hes1,hys⟩
  refine⟨hDl,?_⟩
  by_cases hlt:i<ds.length
  .refine .inr ⟨it.go i H' Ha' gg.z gg.sub hlt,?_,?_⟩
   .rw[←hys.length]
    have:=qP hes1;rw[Qw]at this;have h2:line<sizeLine:=by decide
    omega
   .intro x H2 hy
    obtain⟨H₀2,g2,rp⟩:=it.yld i H' Ha' x H2 ds[i] gg.z gg.sub (OQ hlt) hy;have hsplit:ds=ds.take i++(ds[i]::ds.drop (i+1)):=by rw[←Qf hlt,List.take_append_drop]
    rw[hsplit]at e2;obtain⟨a1,a2,k1,k2,k3⟩:=nF e2;rw[hes1]at k1;cases k1;obtain⟨ρ1,t,t1,t2,t3⟩:=jX k2;have hn2:H₀2 Da=none:=by
     cases qq:H₀2 Da with|none=>rfl|some o=>have:=g2.nw Da (by rw[qq];simp) hD0;rw[hDl]at this;cases this
    have hD2:H2 Da=some (.lst ys):=g2.s _ _ hDl;refine⟨H2,H₀2,H₀2,dP n fr ρ,ds[i],⟨br.refl g2.sub,hrd.mono g2.z,λj d' e=>?_,λj k d1 d2 _ e=>?_,by rw[wD,hsl],OX.none Ei Bj⟩,rp,?_⟩
    .unfold dP at e
     by_cases hj:j<n
     .rw[O8 (by simpa using hj),Pt,if_pos hj]at e;cases e
     .rw[Pg (by simpa using hj),O5]at e
      cases hf:fr[j-(OV n Sl.no).length]? with
      |none=>rw[hf]at e;cases e
      |some z=>
       rw[hf]at e;simp only[Rr,Ra]at e;split at e<;>cases e
    .unfold dP at e
     by_cases hj:j<n
     .rw[O8 (by simpa using hj),Pt,if_pos hj]at e;cases e
     .rw[Pg (by simpa using hj),O5]at e
      cases hf:fr[j-(OV n Sl.no).length]? with
      |none=>rw[hf]at e;cases e
      |some z=>
       rw[hf]at e;simp only[Rr,Ra]at e;split at e<;>cases e
    .rw[t1]
     intro σ3 H3 H03 z3 s3;have hrl:=hok _ _ _ t1;have hσ3:σ3.length=n+fr.length:=by rw[←s3.ln,hrl.1,wD]
     have back:∀{Hx:Hp},aG H03 Hx->gw K Hx σ3 (dP n fr ρ):=λ{Hx} sx k d e=>by
      by_cases hk:k<n
      .rw[Hi hk]at e;cases e
      .rw[←hrl.2 k (by omega)]at e
       obtain⟨v,h1,h2⟩:=s3.rd k d e;exact⟨v,h1,h2.mono sx⟩
     have n3:H03 Da=none:=by
      cases qq:H03 Da with|none=>rfl|some o=>have:=s3.g.nw Da (by rw[qq];simp) hn2;rw[hD2]at this;cases this
     have hD3:H3 Da=some (.lst ys):=s3.g.s _ _ hD2;refine⟨H03,ρ1,s3.g.sub,s3.rd,?_⟩;rw[t2];intro H4 H04 g4;have hD4:H4 Da=some (.lst ys):=g4.s _ _ hD3;have n4:H04 Da=none:=by
      cases qq:H04 Da with|none=>rfl|some o=>have:=g4.nw Da (by rw[qq];simp) n3;rw[hD3]at this;cases this
     have htake:ds.take (i+1)=ds.take i++[ds[i]]:=by rw[List.take_add_one,OQ hlt];rfl
     have g04:=(gg.trans g2).trans (s3.g.trans g4);rcases t3 with⟨rfl,y,xs,t3,t4,_⟩|⟨rfl,t4⟩
     .rw[if_pos rfl]
      refine⟨H04,ρ1,g4.sub,s3.rd.mono g4.z,?_⟩;rw[t3];intro yv H5 H05 g5 ry;have hD5:H5 Da=some (.lst ys):=g5.s _ _ hD4;have n5:H05 Da=none:=by
       cases qq:H05 Da with|none=>rfl|some o=>have:=g5.nw Da (by rw[qq];simp) n4;rw[hD4]at this;cases this
      have gall:=g04.trans g5;refine⟨hD5,ds.length-(i+1),by omega,rfl,hlt,hσ3,H05,⟨λb o e=>?_,gall.z,λb o e=>?_,gall.nw⟩,n5,ay,back (g4.z.trans g5.z),es1++[y],?_,?_⟩
      .rw[av (bo e hDa)];exact gall.s _ _ e
      .rw[av (by intro z;subst z;rw[n5]at e;cases e)];exact gall.sub _ _ e
      .rw[htake]
       refine jW hes1 ?_;rw[iz t1 t2 t3];rfl
      .exact(hys.mono ((g2.z.trans s3.g.z).trans (g4.z.trans g5.z))).app (Reps.cons ry Reps.nil)
     .rw[if_neg Qm]
      refine⟨ds.length-(i+1),by omega,rfl,hlt,hσ3,H04,g04,n4,hD4,back g4.z,es1,?_,hys.mono ((g2.z.trans s3.g.z).trans g4.z)⟩;rw[htake];rw[show es1=es1++[] by simp];refine jW hes1 ?_;rw[qO t1 t2];rfl
  .have hi2:i=ds.length:=by omega
   refine .inl ⟨it.stop i H' Ha' gg.z gg.sub (by omega),?_⟩;rw[hi2,List.take_length]at hes1;rw[e2]at hes1;cases hes1;exact q Da ys H' Ha' (g1.trans gg) (g1.s.free hDa) hD0 hDl hys
structure M0 (X:Cx) (E:XK) (ifs:List Pl) (f:am):Prop where
 o:MI X ifs (KG X.K E f)
def mYes:am:=λ_=>.ok (.bl true)
def mH{X:Cx}{E:XK}:M0 X E [] mYes:=⟨λπ s σ H Q I ⟨Ha,ρ,hs,hr,q⟩=>Fz π s σ H Q I (q H Ha (br.refl hs))⟩
def zF{X:Cx}{E:XK}{c:Pl}{f:am}(h:DT X E c f):M0 X E [c] f:=⟨Fy h.o⟩
structure MP (X:Cx) (E:XK) (e:Pl) (f:am):Prop where
 ev:PE X e (tF X.K E f)
 st:∀{i:Nat}{x:OG}{pos' spos:Pos},X.N.Nodup->X.N[i]?=some x->X.env.scope.names.lookup x=some .local -> P9 e (some (.Name x pos')) spos.line X.env=pure true->PS X (.Assign [.Name x pos'] e spos) (IK (tF X.K E f) (Dq i))
def Ou{X:Cx}{E:XK}{tgt iter elt:Pl}{ifs:List Pl}{scope:RG}{pos:Pos}(N:ci)(n:Nat)(fr:cr){src:Ev->ak (ac)}{tg:Ev->D->ak Ev}{tt fe:am}(hc:X.calm=true)(hi:DI X E tgt iter src)(hok:Hq n tg)
  (blk:∀s H C fp pn,(∀He η,DG (fO X N scope s H C fp pn) E He η tgt tg)/\M0 (fO X N scope s H C fp pn) E ifs tt/\DE (fO X N scope s H C fp pn) E elt fe)
  (hfr:Eu X N n fr scope)(hcell:∀x∈scope.names,x.2≠.cell)(hfree:∀x∈scope.names,x.2=.free->X.env.scope.names.lookup x.1=some .cell)(hkind:scope.kind=.function)(hnames:∀x∈scope.names,x.2=.local -> scope.names.lookup x.1=some .local)
  (hs:∀x,foldedSetIterable iter X.env x=pure x:=by intro _;rfl):MP X E (.ListComp elt [⟨tgt,iter,ifs,0⟩] scope pos) (fN n fr src tg tt fe):=by
 have blk':∀s H C fp pn,PG (fO X N scope s H C fp pn) tgt (JG X.K tg)/\MI (fO X N scope s H C fp pn) ifs (KG X.K E tt)/\PE (fO X N scope s H C fp pn) elt (tD X.K E fe):=λs H C fp pn=>
  ⟨λπ s' σ' H' v u Q' I r ⟨He,η,q'⟩=>((blk s H C fp pn).1 He η).o π s' σ' H' v u Q' I r q',(blk s H C fp pn).2.1.o,(blk s H C fp pn).2.2.o⟩
 have first:∀{π:List (OE×Obj)}{s:OI}{σ:L2.St}{H:Hp}{Q:VK}{RR:OB->OE->SD->OI->Prop},L2.Inv X π σ H s->tF X.K E (fN n fr src tg tt fe) σ H Q ->
   (∀(Da C:OE) (s6:OI) (H5:Hp) (m:OG->Option OB),L2.Inv X π σ H5 s6->s6.heap.Ns C m->nK X π H5 C->Q (.ref Da) H5->RR (.ref Da) C (.ok .next) s6) ->
   O7 (O2 X.prog X.w) X.A (eval iter X.env) (λx sg=>O7 (O2 X.prog X.w) X.A (pyIter x) (λit si=>O7 (O2 X.prog X.w) X.A (newList []) (λacc sj=>
    O7 (O2 X.prog X.w) X.A (newFunctionEnv scope X.env.globals (jb X.env.cells scope.names []) [] X.env.qual none .none (some X.env)) (λcenv sk=>
     Q9 (O2 X.prog X.w) X.A (.compStart (.ListComp elt [⟨tgt,iter,ifs,0⟩] scope pos) 0 it acc { cenv with scope:=relabel scope X.env }) (RR acc cenv.locals) sk) X.xe sj) X.xe si) X.xe sg) X.xe s:=by
  intro π s σ H Q RR I ⟨Ha,ρ,hsame,hr,q⟩ fin;refine dB (hi.o π s σ H (λJ H1=>wY n fr (JG X.K tg) (KG X.K E tt) (tD X.K E fe) J σ H1 Q) I ⟨Ha,ρ,hsame,hr,?_⟩) λv s1 h1=>dB h1 λitv s2 h2=>Bh (N:=N) hc hfr hcell hfree hkind blk' h2 fin;unfold fN at q;cases e1:src ρ with
  |stuck|exn x=>rw[e1]at q;exact q
  |ok ds=>
   rw[e1]at q;intro J H1 H01 g1 it;replace q:match (if ds.length<=line then match cC (dP n fr ρ) tg tt fe ds with
     |.ok es=>ak.ok (D.lst es)
     |_=>.stuck else .stuck) with
    |.ok (.lst ds)=>∀p vs H' Ha',br H Ha H' Ha'->H p=none->Ha' p=none->H' p=some (.lst vs)->Reps X.K Ha' ds vs->Q (.ref p) H'
    |.ok _=>False
    |.exn x=>∀C ox H' Ha',br H Ha H' Ha'->wQ X.K Ha' x C ox->E C ox H'
    |.stuck=>False:=q
   by_cases hl:ds.length<=line
   .rw[if_pos hl]at q
    cases e2:cC (dP n fr ρ) tg tt fe ds with
    |stuck|exn x=>rw[e2]at q;exact q.elim
    |ok es=>
     rw[e2]at q;exact yh hsame g1 it hl e2 (hr.mono g1.z) hok q
   .rw[if_neg hl]at q;exact q.elim
 have hcl:∀{π:List (OE×Obj)}{s:OI}{σ:L2.St}{H:Hp},L2.Inv X π σ H s->closureFor scope X.env=pure (jb X.env.cells scope.names []):=λ{π s σ H} I=>rN λy hy hf=>I.ok.has y.1 (.inl (hfree y hy hf));refine⟨λπ s σ H Q I h=>?_,λ{i x pos' spos} hN hi' hx hsw π s σ H D' I h=>?_⟩
 .rw[eval_ListComp]
  refine wpAny_comprehension_free (use:=none) rfl hs (hcl I) hkind hnames (first (RR:=λacc C=>compPost (O2 X.prog X.w) X.A X.xe none (EP X π σ Q) acc C) I h λDa C s6 H5 m I6 ns fC q=>?_);refine⟨m,ns,λh' sb=>⟨.ref Da,H5,?_,rfl,q⟩⟩;exact I6.turned (t':=s6.toks) (it:=C) (λb o hb e=>(sb.2 b hb).trans e) fC.1 fC.2.1 fC.2.2.2.1 fC.2.2.2.2.1 fC.2.2.2.2.2
 .rw[exec_Assign_Name_used _ _ _ _ hsw]
  refine OM (wpAny_standAt (OM ?_));show O7 _ X.A (do let _ ←comprehension (.ListComp elt [⟨tgt,iter,ifs,0⟩] scope pos) scope X.env _ (newList []) false (eval iter X.env) (some (assign (.Name x pos') X.env))) _ _ s;refine OM (PN (wpAny_comprehension_free (use:=some (assign (.Name x pos') X.env)) (Q:=λ_ s'=>SP X π D' .next s') rfl hs (hcl I) hkind hnames
   (first (RR:=λacc C=>compPost (O2 X.prog X.w) X.A X.xe (some (assign (.Name x pos') X.env)) (λ_ s'=>SP X π D' .next s') acc C) I h λDa C s6 H5 m I6 ns fC q=>?_)) (λ_ s' hq=>Pc (Pc hq)) λ_ _ e=>e)
  show O7 _ X.A (assign (.Name x pos') X.env (.ref Da)) _ _ _;refine wpAny_assign_Name (rX (v:=.ref Da) I6 hN hi' (.inl hx) rfl (λs' I' z9=>?_) (.inr hx));obtain⟨a,sb,ha⟩:=z9;have hCa:C≠a:=by
   rcases ha with rfl|ha
   .exact fC.2.1
   .exact λz=>fC.2.2.2.2.1 x a ha z.symm
  refine⟨m,ns.sameBut sb hCa,λh' sb'=>⟨_,H5,?_,q⟩⟩;exact I'.turned (t':=s'.toks) (it:=C) (λb o hb e=>(sb'.2 b hb).trans e) fC.1 fC.2.1 fC.2.2.2.1 fC.2.2.2.2.1 fC.2.2.2.2.2
def Mv{X:Cx}{E:XK}{e:Pl}{f:am}(h:MP X E e f):DF X E e f:=⟨h.ev⟩
def sS{X:Cx}{E:XK}{e:Pl}{n:Nat}{fr:cr}{src:Ev->ak (ac)}{tg:Ev->D->ak Ev}{tt fe:am}(h:MP X E e (fN n fr src tg tt fe)):DE X E e (fN n fr src tg tt fe):=D5 Bg (Mv h)
section
variable {X:Cx}{E:XK}{He η:Hp}{e:Pl}{f:am}{s:bv}{pos:Pos}{st:Qe}
def G6{i:Nat}{x:OG}{pos':Pos}(hN:X.N.Nodup)(hi:X.N[i]?=some x)(hx:X.env.scope.names.lookup x=some .local)(he:MP X E e f)(hs:P9 e (some (.Name x pos')) pos.line X.env=pure true:=by rfl):DS X E He η (.Assign [.Name x pos'] e pos) (t8 i f):=by
 refine⟨cR (he.st hN hi hx hs) λD σ H z9=>?_⟩;obtain⟨Ha,ρ,h,q⟩:=z9;refine⟨Ha,ρ,h.g.sub,h.rd,?_⟩;unfold t8 at q;cases e1:f ρ with
 |stuck=>rw[e1]at q;exact q|exn x=>rw[e1]at q;exact λC ox H' Ha' g ex=>q C ox H' Ha' (h.g.trans g) ex
 |ok d=>
  rw[e1]at q;cases d with
  |lst ds=>
   intro p vs H' Ha' g hp h0 hv rp;refine q _ H' Ha' g.z ((h.grow g).putOwn (λj a ej ea d ed=>?_) (h.g.s.free hp) h0 hv rp (h.fresh_x g.s hp));subst ea;obtain⟨a',k1,_,_,k4⟩:=h.ow j d ed;rw[ej]at k1;cases k1;cases d with
   |lst ds'|dic ks ds'=>obtain⟨vs',h5,_⟩:=k4;rw[hp]at h5;cases h5
   |ob kk ds'=>
    cases kk with|dint ks=>obtain⟨vs',h5,_⟩:=k4;rw[hp]at h5;cases h5| _=>exact k4.elim
   |_=>exact k4.elim
  |_=>exact q.elim
end
def yf{X:Cx}{E:XK}{tgt iter elt:Pl}{ifs:List Pl}{scope:RG}{pos:Pos}(N:ci)(n:Nat)(fr:cr){src:Ev->ak (ac)}{tg:Ev->D->ak Ev}{tt fe:am}(hc:X.calm=true)(hi:DI X E tgt iter src)(hok:Hq n tg)
  (blk:∀s H C fp pn,(∀He η,DG (fO X N scope s H C fp pn) E He η tgt tg)/\M0 (fO X N scope s H C fp pn) E ifs tt/\DE (fO X N scope s H C fp pn) E elt fe)
  (hfr:Eu X N n fr scope)(hcell:(scope.names.all λx=>!(x.2==.cell))=true)(hfree:(scope.names.all λx=>!(x.2==.free)||(X.env.scope.names.lookup x.1==some .cell))=true)(hkind:scope.kind=.function)
  (hnames:(scope.names.all λx=>!(x.2==.local)||(scope.names.lookup x.1==some .local))=true)
  (hs:∀x,foldedSetIterable iter X.env x=pure x:=by intro _;rfl):MP X E (.ListComp elt [⟨tgt,iter,ifs,0⟩] scope pos) (fN n fr src tg tt fe):=by
 refine Ou N n fr hc hi hok blk hfr (λx hx z=>?_) (λx hx z=>?_) hkind (λx hx z=>?_) hs
 .have:=Pk.mp hcell x hx
  rw[z]at this;simp at this
 .have:=Pk.mp hfree x hx
  rw[z]at this;simpa using this
 .have:=Pk.mp hnames x hx
  rw[z]at this;simpa using this
end DL
namespace Com
open PySem L2 DL
noncomputable def j7:bv :=
 (aw (aV 2 (ao (af (ag 0) (af (aa (bc (dC (.int 1)) Ea) (ag 0) wt) au)) (m2 Mz)))
 (aw (aV 3 (ag 2))
 (aw (t8 4 (ao au cE))
 (aw (pI (ao (af (ag 1) au) (m1 bN)) (fv 5)
 (aw (fw (ef (aa (ag 2) (aa (dC (.int 10)) (dC (.int 18)) oK) MA) (aa (ag 3) (dC (.int 0)) wO))
 (aw (eI 4 (aa (ag 3) (aa (ag 1) (ag 5) aO) cO))
 (aw (aV 3 (aa (ag 3) (aa (ag 1) (ag 5) aO) qJ))
 ax))
 (aw (aV 6 (aa (aa (aa (aa (aa (aa (ag 2) (dC (.int 2147483647)) cO) (aa (aa (dC (.int 1009)) (ag 5) dO) (ag 5) dO) aP) (aa (dC (.int 31)) (ag 5) dO) aP) (dC (.int 7)) aP) (dC (.int 48271)) dO) (dC (.int 2147483629)) cO))
 (aw (aV 6 (aa (aa (aa (aa (aa (ag 6) (ag 6) dO) (dC (.int 2147483647)) cO) (ag 5) aP) (dC (.int 39373)) dO) (dC (.int 2147483587)) cO))
 (aw (eI 4 (aa (aa (ag 6) (dC (.int 8)) qJ) (aa (ag 1) (ag 5) aO) cO))
 ax))))
 ax))
 (aw (bE (ag 4))
 ax)))))
def bL:ac->ak D:=da 7 j7
def gj:bv :=
 (aw (pH (pb 1) (aa (ag 1) (dC (.int 0)) jf)
 (aw (xo 0 1 (af (ag 1) (af (aa (ag 0) (ag 1) cO) au)))
 ax))
 (aw (bE (ao (af (ag 0) au) (m1 Hf)))
 ax))
def cj:ac->ak D:=da 2 gj
def gK:bv :=
 (aw (aV 2 (ao (af (ag 0) (af (ag 1) au)) cj))
 (aw (bE (ao (af (aa (ag 0) (ag 2) qJ) (af (aa (ag 1) (ag 2) qJ) au)) iR))
 ax))
def cZ:ac->ak D:=da 3 gK
def uU:bv :=
 (aw (bE (ef (bc (ag 0) (i9 "int")) (dZ (bc (ag 0) (i9 "bool")))))
 ax)
def fU:ac->ak D:=da 1 uU
def ym:bv :=
 (aw (bE (ef (bc (ag 0) (i9 "int")) (dZ (bc (ag 0) (i9 "bool")))))
 ax)
def m_is_whole:ac->ak D:=da 1 ym
noncomputable def fk:bv :=
 (aw (aV 2 (ao (af (ag 0) au) (m1 Hf)))
 (aw (aV 3 (ao (af (ag 1) au) (m1 Hf)))
 (aw (pH (pb 3) (aa (ag 3) (dC (.int 0)) jf)
 (aw (aV 4 (aa (ag 2) (ag 3) cO))
 (aw (aV 2 (ag 3))
 (aw (aV 3 (ag 4))
 ax))))
 (aw (bE (ag 2))
 ax))))
def m_common_divisor:ac->ak D:=da 5 fk
def Eh{α β:Type}{a:α}{f:α->ak β}:(ak.ok a).bind f=f a:=rfl
def gB{s t:bv}{ρ ρ':Ev}(h:s ρ=.ok (.nx ρ')):aw s t ρ=t ρ':=by unfold aw;rw[h];rfl
def tZ{s t:bv}{ρ:Ev}{d:D}(h:s ρ=.ok (.rt d)):aw s t ρ=.ok (.rt d):=by unfold aw;rw[h];rfl
def kn{s:bv}{ρ ρ':Ev}(h:s ρ=.ok (.nx ρ')):aw s ax ρ=.ok (.nx ρ'):=by unfold aw;rw[h];rfl
def pG{i:Nat}{f:am}{ρ:Ev}{d:D}(h:f ρ=.ok d):aV i f ρ=.ok (.nx (ρ.set i (.sh d))):=by unfold aV;rw[h];rfl
def ub{f:am}{ρ:Ev}{d:D}(h:f (lC ρ)=.ok d):bE f ρ=.ok (.rt d):=by unfold bE;rw[h];rfl
def NC{c:am}{s t:bv}{ρ:Ev}(h:c (lC ρ)=.ok (.bl true)):fw c s t ρ=s ρ:=by unfold fw;rw[h];rfl
def ND{c:am}{s t:bv}{ρ:Ev}(h:c (lC ρ)=.ok (.bl false)):fw c s t ρ=t ρ:=by unfold fw;rw[h];rfl
def xE{i j:Int}:jf (.int i) (.int j)=.ok (.bl (!(i==j))):=by unfold jf;rw[if_pos ⟨rfl,rfl⟩,cH]
def Kj{i j:Int}:dm (.int i) (.int j)=.ok (.bl (i==j)):=by unfold dm;rw[if_pos ⟨rfl,rfl⟩,cH]
def IY{n:Nat}{s:bv}{ds:ac}{d:D}(h:s (ds.map Sl.sh++OV (n-ds.length) .no)=.ok (.rt d)):da n s ds=.ok d:=by unfold da;rw[h];rfl
def mR{f:am}{fa:Ev->ak (ac)}{ρ:Ev}{x:D}{xs:ac}(h:f ρ=.ok x)(h':fa ρ=.ok xs):af f fa ρ=.ok (x::xs):=by unfold af;rw[h,Eh,h'];rfl
def bD{f g:am}{op:D->D->ak D}{ρ:Ev}{x y:D}(h:f ρ=.ok x)(h':g ρ=.ok y):aa f g op ρ=op x y:=by unfold aa;rw[h,Eh,h'];rfl
def wC{fa:Ev->ak (ac)}{m:ac->ak D}{ρ:Ev}{xs:ac}(h:fa ρ=.ok xs):ao fa m ρ=m xs:=by unfold ao;rw[h];rfl
def jL{a b:Int}(h:b≠0):cO (.int a) (.int b)=.ok (.int (a.fmod b)):=by
 show(if decide (b≠0)=true then ak.ok (D.int (a.fmod b)) else .stuck)=_;rw[if_pos (decide_eq_true h)]
def uM{a b:Int}(h:kh a b=true):qJ (.int a) (.int b)=.ok (.int (a.fdiv b)):=by
 show(if kh a b=true then ak.ok (D.int (a.fdiv b)) else .stuck)=_;rw[if_pos h]
def nq{a b:Int}(h:ke a b=true):dO (.int a) (.int b)=.ok (.int (a*b)):=by
 show(if ke a b=true then ak.ok (D.int (a*b)) else .stuck)=_;rw[if_pos h]
def vU(a b:Int):Pw b (a.fmod b)=Pw a b:=by
 rw[Int.fmod_def,Int.gcd_sub_mul_left_right,Int.gcd_comm]
def zm{a b:Int}(h:b≠0):(a.fmod b).natAbs<b.natAbs:=by
 rcases Int.lt_or_gt_of_ne h with hb|hb
 .have h1:=SK (-a) (show 0 < -b by omega)
  have h2:=RD (-a) (show 0 < -b by omega);rw[Int.neg_fmod_neg]at h1 h2;omega
 .have h1:=SK a hb
  have h2:=RD a hb;omega
theorem mG:∀(n:Nat) (a b:Int),b.natAbs<n->∃g:Int,g.natAbs=Pw a b /\
  fQ (aa (ag 1) (dC (.int 0)) jf) (aw (xo 0 1 (af (ag 1) (af (aa (ag 0) (ag 1) cO) au))) ax) n [.sh (.int a),.sh (.int b)]=.ok (.nx [.sh (.int g),.sh (.int 0)])
 |0,a,b,h=>absurd h (Nat.not_lt_zero _)
 |n+1,a,b,h=>by
  unfold fQ;have c:(aa (ag 1) (dC (.int 0)) jf) (lC [.sh (.int a),.sh (.int b)])=.ok (.bl (!(b==0))):=xE;rw[c]
  by_cases hb:b=0
  .subst hb
   exact⟨a,by simp,rfl⟩
  .have e:(!(b==0))=true:=by simp[hb]
   obtain⟨g,h1,h2⟩:=mG n b (a.fmod b) (by have:=zm (a:=a) hb;omega);refine⟨g,by rw[h1,vU],?_⟩;rw[←h2];rw[e];have st:(aw (xo 0 1 (af (ag 1) (af (aa (ag 0) (ag 1) cO) au))) ax) [.sh (.int a),.sh (.int b)]=.ok (.nx [.sh (.int b),.sh (.int (a.fmod b))]):=by
    refine kn ?_;unfold xo;have:(af (ag 1) (af (aa (ag 0) (ag 1) cO) au)) [.sh (.int a),.sh (.int b)]=.ok [.int b,.int (a.fmod b)]:=by
     exact mR rfl (mR (jL hb) rfl)
    rw[this];rfl
   show(ak.bind _ _)=_;rw[st];rfl
def qA(a b:Int):cj [.int a,.int b]=.ok (.int (Pw a b)):=by
 obtain⟨g,h1,h2⟩:=mG (b.natAbs+1) a b (QY _);have w:pH (pb 1) (aa (ag 1) (dC (.int 0)) jf) (aw (xo 0 1 (af (ag 1) (af (aa (ag 0) (ag 1) cO) au))) ax) [.sh (.int a),.sh (.int b)]=.ok (.nx [.sh (.int g),.sh (.int 0)]):=h2;have r:gj [.sh (.int a),.sh (.int b)]=.ok (.rt (.int (if g<0 then -g else g))):=by
  unfold gj;rw[gB w];exact tZ (ub rfl)
 show(gj [.sh (.int a),.sh (.int b)]).bind _=_;rw[r];show ak.ok (D.int (if g<0 then -g else g))=_
 congr 2
 rw[←h1];split<;>omega
theorem og:∀(n:Nat) (x y:D) (a b:Int) (r:Sl),0<=a->0<=b->b.natAbs<n->∃r',
  fQ (aa (ag 3) (dC (.int 0)) jf) (aw (aV 4 (aa (ag 2) (ag 3) cO)) (aw (aV 2 (ag 3)) (aw (aV 3 (ag 4)) ax))) n [.sh x,.sh y,.sh (.int a),.sh (.int b),r]=.ok (.nx [.sh x,.sh y,.sh (.int (Pw a b)),.sh (.int 0),r'])
 |0,_,_,a,b,_,_,_,h=>absurd h (Nat.not_lt_zero _)
 |n+1,x,y,a,b,r,ha,hb0,h=>by
  unfold fQ;have c:∀r,(aa (ag 3) (dC (.int 0)) jf) (lC [.sh x,.sh y,.sh (.int a),.sh (.int b),r])=.ok (.bl (!(b==0))):=λr=>xE;rw[c]
  by_cases hb:b=0
  .subst hb
   refine⟨r,?_⟩;have e:((Pw a 0:Nat):Int)=a:=by simp;omega
   rw[e];rfl
  .have e:(!(b==0))=true:=by simp[hb]
   have hp:0<b:=by omega
   obtain⟨r',h2⟩:=og n x y b (a.fmod b) (.sh (.int (a.fmod b))) hb0 (RD a hp) (by have:=zm (a:=a) hb;omega);refine⟨r',?_⟩;rw[vU]at h2;rw[←h2,e];have st:(aw (aV 4 (aa (ag 2) (ag 3) cO)) (aw (aV 2 (ag 3)) (aw (aV 3 (ag 4)) ax))) [.sh x,.sh y,.sh (.int a),.sh (.int b),r]=.ok (.nx [.sh x,.sh y,.sh (.int b),.sh (.int (a.fmod b)),.sh (.int (a.fmod b))]):=by
    have m:(aa (ag 2) (ag 3) cO) [.sh x,.sh y,.sh (.int a),.sh (.int b),r]=.ok (.int (a.fmod b)):=by
     exact jL hb
    rw[gB (pG m)];rfl
   show(ak.bind _ _)=_;rw[st];rfl
def sU(a b:Int):m_common_divisor [.int a,.int b]=.ok (.int (Pw a b)):=by
 have e:∀i:Int,(if i<0 then -i else i)=(i.natAbs:Int):=λi=>by split<;>omega
 obtain⟨r',h⟩:=og ((b.natAbs:Int).natAbs+1) (.int a) (.int b) a.natAbs b.natAbs .no (RX _) (RX _) (QY _);have hg:Pw (a.natAbs:Int) (b.natAbs:Int)=Pw a b:=by simp[Pw]
 rw[hg]at h;have r:fk [.sh (.int a),.sh (.int b),.no,.no,.no]=.ok (.rt (.int (Pw a b))):=by
  unfold fk;rw[gB (ρ':=[.sh (.int a),.sh (.int b),.sh (.int (a.natAbs:Int)),.no,.no]) (by rw[←e a];rfl)];rw[gB (ρ':=[.sh (.int a),.sh (.int b),.sh (.int (a.natAbs:Int)),.sh (.int (b.natAbs:Int)),.no]) (by rw[←e b];rfl)];have w:pH (pb 3) (aa (ag 3) (dC (.int 0)) jf) (aw (aV 4 (aa (ag 2) (ag 3) cO)) (aw (aV 2 (ag 3)) (aw (aV 3 (ag 4)) ax))) [.sh (.int a),.sh (.int b),.sh (.int (a.natAbs:Int)),.sh (.int (b.natAbs:Int)),.no]=.ok (.nx [.sh (.int a),.sh (.int b),.sh (.int (Pw a b)),.sh (.int 0),r']):=h;rw[gB w];exact tZ (ub rfl)
 show(fk [.sh (.int a),.sh (.int b),.no,.no,.no]).bind _=_;rw[r];rfl
def Ku{f g:am}{ρ:Ev}{b c:Bool}(h:f ρ=.ok (.bl b))(h':g ρ=.ok (.bl c)):ef f g ρ=.ok (.bl (b&&c)):=by
 unfold ef;rw[h,Eh];cases b
 .rfl
 .exact h'
def xu:(2:Nat) ^ 64<=KQ:=by rw[Ey];exact QO (by decide) (by decide)
def LU{i:Int}(h:i.natAbs<18446744073709551616):i.natAbs<KQ:=OS h xu
def fT{i j:Int}(h:i.natAbs<18446744073709551616)(h':j.natAbs<18446744073709551616):ke i j=true:=by
 unfold ke;rw[OR];exact⟨decide_eq_true (LU h),decide_eq_true (LU h')⟩
def DY{i j:Int}(h0:j≠0)(h:j.natAbs<B9):kh i j=true:=by
 unfold kh;rw[OR,Tb];exact⟨decide_eq_true h0,.inl (decide_eq_true h)⟩
def DZ{i j:Int}(h0:j≠0)(h:i.natAbs<EA):kh i j=true:=by
 unfold kh;rw[OR,Tb];exact⟨decide_eq_true h0,.inr (decide_eq_true h)⟩
def AE:(2:Nat) ^ 64<=B9:=by rw[zU];exact QO (by decide) (by decide)
def Oq{i:Int}(h:i.natAbs<18446744073709551616):i.natAbs<B9:=OS h AE
def kE{ds:ac}{k:Nat}{d:D}(h:ds[k]?=some d):aO (.lst ds) (.int (k:Int))=.ok d:=by
 unfold aO;simp only[cY h]
noncomputable def i5:bv :=
 (aw (fw (ef (aa (ag 2) (aa (dC (.int 10)) (dC (.int 18)) oK) MA) (aa (ag 3) (dC (.int 0)) wO))
 (aw (eI 4 (aa (ag 3) (aa (ag 1) (ag 5) aO) cO))
 (aw (aV 3 (aa (ag 3) (aa (ag 1) (ag 5) aO) qJ))
 ax))
 (aw (aV 6 (aa (aa (aa (aa (aa (aa (ag 2) (dC (.int 2147483647)) cO) (aa (aa (dC (.int 1009)) (ag 5) dO) (ag 5) dO) aP) (aa (dC (.int 31)) (ag 5) dO) aP) (dC (.int 7)) aP) (dC (.int 48271)) dO) (dC (.int 2147483629)) cO))
 (aw (aV 6 (aa (aa (aa (aa (aa (ag 6) (ag 6) dO) (dC (.int 2147483647)) cO) (ag 5) aP) (dC (.int 39373)) dO) (dC (.int 2147483587)) cO))
 (aw (eI 4 (aa (aa (ag 6) (dC (.int 8)) qJ) (aa (ag 1) (ag 5) aO) cO))
 ax))))
 ax)
def Ej{i:Nat}{f:am}{ρ:Ev}{d:D}{ds:ac}(hi:ρ[i]?=some (.ow (.lst ds)))(h:f ρ=.ok d)(hl:ds.length<line):eI i f ρ=.ok (.nx (ρ.set i (.ow (.lst (ds++[d]))))):=by
 unfold eI yS;rw[hi];show(f ρ).bind _=_;rw[h,Eh,if_pos hl]
def iE{a b:Int}(hb:0<b):0<=a.fmod b/\a.fmod b<b:=⟨RD a hb,SK a hb⟩
def yc{c:D}{sz:List Int}{num left:Int}{F:ac}{k:Nat}{one:Sl}{s:Int}(hk:sz[k]?=some s)(hs:0<s)(h9:s.natAbs<B9)(hk2:k<1000)(hl:F.length<line)(h0:0<=left) :
  ∃v left' one',0<=v/\v<s/\0<=left'/\i5 [.sh c,.sh (.lst (sz.map D.int)),.sh (.int num),.sh (.int left),.ow (.lst F),.sh (.int (k:Int)),one] =
   .ok (.nx [.sh c,.sh (.lst (sz.map D.int)),.sh (.int num),.sh (.int left'),.ow (.lst (F++[.int v])),.sh (.int (k:Int)),one']):=by
 have hix:aO (.lst (sz.map D.int)) (.int (k:Int))=.ok (.int s):=kE (by rw[O5,hk];rfl);have hc:(ef (aa (ag 2) (aa (dC (.int 10)) (dC (.int 18)) oK) MA) (aa (ag 3) (dC (.int 0)) wO)) (lC [.sh c,.sh (.lst (sz.map D.int)),.sh (.int num),.sh (.int left),.ow (.lst F),.sh (.int (k:Int)),one])=.ok (.bl (decide ((10:Int) ^ (18:Int).toNat<=num)&&decide (0<left))):=by
  refine Ku ?_ ?_
  .exact(bD (x:=.int num) (y:=.int ((10:Int) ^ (18:Int).toNat)) rfl rfl).trans rfl
  .exact(bD (x:=.int left) (y:=.int 0) rfl rfl).trans rfl
 have hm:=iE (a:=left) hs;unfold i5;cases hb:(decide ((10:Int) ^ (18:Int).toNat<=num)&&decide (0<left)) with
 |true=>
  rw[hb]at hc;refine⟨left.fmod s,left.fdiv s,one,hm.1,hm.2,Int.fdiv_nonneg h0 (by omega),?_⟩;refine kn ?_;rw[NC hc];rw[gB (Ej (ds:=F) (d:=.int (left.fmod s)) rfl ((bD (x:=.int left) (y:=.int s) rfl ((bD (x:=.lst (sz.map D.int)) (y:=.int (k:Int)) rfl rfl).trans hix)).trans (jL (by omega))) hl)];exact kn (pG (d:=.int (left.fdiv s)) ((bD (x:=.int left) (y:=.int s) rfl ((bD (x:=.lst (sz.map D.int)) (y:=.int (k:Int)) rfl rfl).trans hix)).trans (uM (DY (by omega) h9))))
 |false=>
  rw[hb]at hc;have hkk:(k:Int)*(k:Int)<1000000:=by
   have:k*k<1000*1000:=Nat.mul_lt_mul'' hk2 hk2;omega
  have hkn:(0:Int)<=(k:Int)*(k:Int):=Int.mul_nonneg (by omega) (by omega);have a1:=iE (a:=num) (b:=2147483647) (by decide);have hone1:((num.fmod 2147483647+1009*(k:Int)*(k:Int)+31*(k:Int)+7)*48271).fmod 2147483629=((num.fmod 2147483647+1009*(k:Int)*(k:Int)+31*(k:Int)+7)*48271).fmod 2147483629:=rfl;generalize ho:((num.fmod 2147483647+1009*(k:Int)*(k:Int)+31*(k:Int)+7)*48271).fmod 2147483629=o1;have a2:0<=o1/\o1<2147483629:=by rw[←ho];exact iE (by decide)
  have hoo:o1*o1<4611686018427387904:=by
   have h1:o1*o1<=2147483628*2147483628:=Int.mul_le_mul (by omega) (by omega) a2.1 (by decide);omega
  have hoo0:0<=o1*o1:=Int.mul_nonneg a2.1 a2.1;generalize ho2:(((o1*o1).fmod 2147483647+(k:Int))*39373).fmod 2147483587=o2;have a3:0<=o2/\o2<2147483587:=by rw[←ho2];exact iE (by decide)
  have hm2:=iE (a:=o2.fdiv 8) hs;refine⟨(o2.fdiv 8).fmod s,left,.sh (.int o2),hm2.1,hm2.2,h0,?_⟩;refine kn ?_;rw[ND hc];have ea:(1009:Int)*(k:Int)*(k:Int)=1009*((k:Int)*(k:Int)):=Int.mul_assoc _ _ _;have e1:(aa (aa (aa (aa (aa (aa (ag 2) (dC (.int 2147483647)) cO) (aa (aa (dC (.int 1009)) (ag 5) dO) (ag 5) dO) aP) (aa (dC (.int 31)) (ag 5) dO) aP) (dC (.int 7)) aP) (dC (.int 48271)) dO) (dC (.int 2147483629)) cO)
    [.sh c,.sh (.lst (sz.map D.int)),.sh (.int num),.sh (.int left),.ow (.lst F),.sh (.int (k:Int)),one]=.ok (.int o1):=by
   rw[←ho];refine(bD (x:=.int ((num.fmod 2147483647+1009*(k:Int)*(k:Int)+31*(k:Int)+7)*48271)) (y:=.int 2147483629) ?_ rfl).trans (jL (by decide));refine(bD (x:=.int (num.fmod 2147483647+1009*(k:Int)*(k:Int)+31*(k:Int)+7)) (y:=.int 48271) ?_ rfl).trans (nq (fT (by omega) (by decide)));refine(bD (x:=.int (num.fmod 2147483647+1009*(k:Int)*(k:Int)+31*(k:Int))) (y:=.int 7) ?_ rfl).trans rfl;refine(bD (x:=.int (num.fmod 2147483647+1009*(k:Int)*(k:Int))) (y:=.int (31*(k:Int))) ?_ ?_).trans rfl
   .refine(bD (x:=.int (num.fmod 2147483647)) (y:=.int (1009*(k:Int)*(k:Int))) ?_ ?_).trans rfl
    .exact(bD (x:=.int num) (y:=.int 2147483647) rfl rfl).trans (jL (by decide))
    .refine(bD (x:=.int (1009*(k:Int))) (y:=.int (k:Int)) ?_ rfl).trans (nq (fT (by omega) (by omega)))
     exact(bD (x:=.int 1009) (y:=.int (k:Int)) rfl rfl).trans (nq (fT (by decide) (by omega)))
   .exact(bD (x:=.int 31) (y:=.int (k:Int)) rfl rfl).trans (nq (fT (by decide) (by omega)))
  rw[gB (pG e1)];have a4:=iE (a:=o1*o1) (b:=2147483647) (by decide);have e2:(aa (aa (aa (aa (aa (ag 6) (ag 6) dO) (dC (.int 2147483647)) cO) (ag 5) aP) (dC (.int 39373)) dO) (dC (.int 2147483587)) cO)
    [.sh c,.sh (.lst (sz.map D.int)),.sh (.int num),.sh (.int left),.ow (.lst F),.sh (.int (k:Int)),.sh (.int o1)]=.ok (.int o2):=by
   rw[←ho2];refine(bD (x:=.int (((o1*o1).fmod 2147483647+(k:Int))*39373)) (y:=.int 2147483587) ?_ rfl).trans (jL (by decide));refine(bD (x:=.int ((o1*o1).fmod 2147483647+(k:Int))) (y:=.int 39373) ?_ rfl).trans (nq (fT (by omega) (by decide)));refine(bD (x:=.int ((o1*o1).fmod 2147483647)) (y:=.int (k:Int)) ?_ rfl).trans rfl;refine(bD (x:=.int (o1*o1)) (y:=.int 2147483647) ?_ rfl).trans (jL (by decide));exact(bD (x:=.int o1) (y:=.int o1) rfl rfl).trans (nq (fT (by omega) (by omega)))
  refine(gB (pG e2)).trans ?_;refine kn (Ej (ds:=F) (d:=.int ((o2.fdiv 8).fmod s)) rfl ?_ hl);refine(bD (x:=.int (o2.fdiv 8)) (y:=.int s) ?_ ((bD (x:=.lst (sz.map D.int)) (y:=.int (k:Int)) rfl rfl).trans hix)).trans (jL (by omega));exact(bD (x:=.int o2) (y:=.int 8) rfl rfl).trans (uM (DY (by decide) (Oq (by decide))))
def sI{n k:Nat}(h:k<n):(DL.intsFrom 0 n).drop k=.int (k:Int)::(DL.intsFrom 0 n).drop (k+1):=by
 have hl:(DL.intsFrom 0 n).length=n:=by unfold DL.intsFrom;simp
 rw[Qf (by rw[hl];exact h)]
 congr 1
 unfold DL.intsFrom;simp
def vQ{n:Nat}:(DL.intsFrom 0 n).drop n=[]:=by
 have hl:(DL.intsFrom 0 n).length=n:=by unfold DL.intsFrom;simp
 exact List.drop_eq_nil_of_le (by omega)
def uF{tg:Ev->D->ak Ev}{s:bv}{d:D}{r:ac}{ρ ρ1 ρ2:Ev}(h1:tg ρ d=.ok ρ1)(h2:s ρ1=.ok (.nx ρ2)):gp tg s (d::r) ρ=gp tg s r ρ2:=by
 rw[gp,h1,Eh,h2,Eh]
theorem nZ{c:D}{sz:List Int}{num:Int}(hz:∀s∈sz,0<s/\s.natAbs<B9)(hn:sz.length<=1000):∀(j k:Nat),k+j=sz.length->∀(left:Int) (F:List Int) (x one:Sl),0<=left->F.length=k->(∀(i:Nat) (v s:Int),F[i]?=some v->sz[i]?=some s->0<=v/\v<s) ->
  ∃(left':Int) (F':List Int) (x' one':Sl),F'.length=sz.length/\(∀(i:Nat) (v s:Int),F'[i]?=some v->sz[i]?=some s->0<=v/\v<s) /\
   gp (fv 5) i5 ((DL.intsFrom 0 sz.length).drop k) [.sh c,.sh (.lst (sz.map D.int)),.sh (.int num),.sh (.int left),.ow (.lst (F.map D.int)),x,one] =
    .ok (.nx [.sh c,.sh (.lst (sz.map D.int)),.sh (.int num),.sh (.int left'),.ow (.lst (F'.map D.int)),x',one'])
 |0,k,hk,left,F,x,one,h0,hF,hb=>by
  refine⟨left,F,x,one,by omega,hb,?_⟩;have:k=sz.length:=by omega
  rw[this,vQ];rfl
 |j+1,k,hk,left,F,x,one,h0,hF,hb=>by
  have hlt:k<sz.length:=by omega
  have hs:=hz _ (Rn hlt);obtain⟨v,left',one',v0,v1,l0,e⟩:=yc (c:=c) (num:=num) (F:=F.map D.int) (one:=one) (OQ hlt) hs.1 hs.2 (by omega) (by rw[OD,hF];exact OS hlt (O0 hn (by decide))) h0;have hb':∀(i:Nat) (v' s:Int),(F++[v])[i]?=some v'->sz[i]?=some s->0<=v'/\v' < s:=by
   intro i v' s h1 h2
   by_cases hi:i<F.length
   .rw[O8 hi]at h1
    exact hb i v' s h1 h2
   .rw[Pg (by omega)]at h1
    have hi2:i-F.length=0:=by
     cases hq:i-F.length with|zero=>rfl|succ m=>rw[hq]at h1;simp at h1
    rw[hi2]at h1;have hik:i=k:=by omega
    subst hik;rw[OQ hlt]at h2;cases h1;cases h2;exact⟨v0,v1⟩
  obtain⟨left2,F2,x2,one2,p1,p2,p3⟩:=nZ hz hn j (k+1) (by omega) left' (F++[v]) (.sh (.int (k:Int))) one' l0 (by simp[hF]) hb';refine⟨left2,F2,x2,one2,p1,p2,?_⟩;rw[sI hlt,uF (ρ1:=[.sh c,.sh (.lst (sz.map D.int)),.sh (.int num),.sh (.int left),.ow (.lst (F.map D.int)),.sh (.int (k:Int)),one]) rfl e];rw[←p3,PZ];rfl
def DV(c:Int)(sz:List Int)(hz:∀s∈sz,0<s/\s.natAbs<B9)(hn:sz.length<=1000) :
  ∃vs:List Int,vs.length=sz.length/\(∀(i:Nat) (v s:Int),vs[i]?=some v->sz[i]?=some s->0<=v/\v<s)/\bL [.int c,.lst (sz.map D.int)]=.ok (.lst (vs.map D.int)):=by
 generalize hnum:(if -1-c > c then -1-c else c)=num;have hn0:0<=num:=by rw[←hnum];split<;>omega
 obtain⟨left',F',x',one',p1,p2,p3⟩:=nZ (c:=.int c) (num:=num) hz hn sz.length 0 (by omega) num [] .no .no hn0 rfl (λi v s h=>by simp at h);refine⟨F',p1,p2,?_⟩;have r:j7 [.sh (.int c),.sh (.lst (sz.map D.int)),.no,.no,.no,.no,.no]=.ok (.rt (.lst (F'.map D.int))):=by
  unfold j7;rw[gB (ρ':=[.sh (.int c),.sh (.lst (sz.map D.int)),.sh (.int num),.no,.no,.no,.no]) (by rw[←hnum];rfl)];rw[gB (ρ':=[.sh (.int c),.sh (.lst (sz.map D.int)),.sh (.int num),.sh (.int num),.no,.no,.no]) rfl];rw[gB (ρ':=[.sh (.int c),.sh (.lst (sz.map D.int)),.sh (.int num),.sh (.int num),.ow (.lst []),.no,.no]) rfl];have w:(pI (ao (af (ag 1) au) (m1 bN)) (fv 5) i5) [.sh (.int c),.sh (.lst (sz.map D.int)),.sh (.int num),.sh (.int num),.ow (.lst []),.no,.no] =
    .ok (.nx [.sh (.int c),.sh (.lst (sz.map D.int)),.sh (.int num),.sh (.int left'),.ow (.lst (F'.map D.int)),x',one']):=by
   unfold pI;have hlen:(ao (af (ag 1) au) (m1 bN)) (lC [.sh (.int c),.sh (.lst (sz.map D.int)),.sh (.int num),.sh (.int num),.ow (.lst []),.no,.no])=.ok (.int (sz.length:Int)):=by
    show ak.ok (D.int ((sz.map D.int).length:Int))=_;rw[OD]
   rw[hlen,Eh];show(if _ then _ else _)=_;rw[if_pos (by omega)];rw[←p3];rfl
  exact(gB w).trans (tZ (ub rfl))
 exact IY (n:=7) (ds:=[.int c,.lst (sz.map D.int)]) r
def L4:D->Bool
 |.int _=>true
 |_=>false
def iY(d:D):m_is_whole [d]=.ok (.bl (L4 d)):=by cases d<;>first|rfl|(rename_i k _;cases k<;>rfl)
def vZ{a g:Int}(hg:0<g):a.fdiv g=a / g:=Int.fdiv_eq_ediv_of_nonneg a (by omega)
def uE{a b:Int}(h:b≠0):0<(Pw a b:Int):=by
 have:=Int.gcd_pos_of_ne_zero_right a h;omega
def AX{a b:Int}(hb:0<b)(h1:a.natAbs<EA)(h2:b.natAbs<EA):cZ [.int a,.int b]=.ok (.tup [.int (a / Pw a b),.int (b / Pw a b)]):=by
 have hg:=uE (a:=a) (b:=b) (by omega);have r:gK [.sh (.int a),.sh (.int b),.no]=.ok (.rt (.tup [.int (a / Pw a b),.int (b / Pw a b)])):=by
  unfold gK;rw[gB (ρ':=[.sh (.int a),.sh (.int b),.sh (.int (Pw a b))]) (pG ((wC (xs:=[.int a,.int b]) rfl).trans (qA a b)))];refine tZ (ub ?_);refine(wC (xs:=[.int (a / Pw a b),.int (b / Pw a b)]) (mR ?_ (mR ?_ rfl))).trans rfl
  .rw[←vZ hg]
   exact(bD (x:=.int a) (y:=.int (Pw a b)) rfl rfl).trans (uM (DZ (by omega) h1))
  .rw[←vZ hg]
   exact(bD (x:=.int b) (y:=.int (Pw a b)) rfl rfl).trans (uM (DZ (by omega) h2))
 show(gK [.sh (.int a),.sh (.int b),.no]).bind _=_;rw[r];rfl
def NK(p q:Int):D:=.tup [.int p,.int q]
end Com
open Com
namespace Com
open PySem L2 DL
abbrev EJ:=Int×Int
def fr(x:EJ):D:=NK x.1 x.2
def mT:Nat:=1000000000000000000000000000000000000000000000000000000000000
def Kz:mT<=B9:=by rw[zU];exact O0 (show mT<=2 ^ 200 by decide) (QO (by decide) (by decide))
def Hs:mT<=EA:=by rw[Ez];exact O0 (show mT<=2 ^ 200 by decide) (QO (by decide) (by decide))
structure N7 (x:EJ):Prop where
 q1:1<=x.2
 g1:Pw x.1 x.2=1
structure rl (x:EJ):Prop extends N7 x where
 pN:x.1.natAbs<mT
 qN:x.2.natAbs<mT
def HL(a b:Int):EJ:=(a / Pw a b,b / Pw a b)
def F1{a b:Int}(hb:0<b):N7 (HL a b):=by
 have hg:=uE (a:=a) (b:=b) (by omega);refine⟨?_,Int.gcd_ediv_gcd_ediv_gcd (by omega)⟩;have:=Int.ediv_gcd_ne_zero_if_ne_zero_right a (show b≠0 by omega);have h2:0<=b / (Pw a b:Int):=Int.ediv_nonneg (by omega) (by omega);show 1<=b / (Pw a b:Int);omega
def F4{a b:Int}:(HL a b).1.natAbs<=a.natAbs:=Tn _ _
def F3{a b:Int}:(HL a b).2.natAbs<=b.natAbs:=Tn _ _
def AW{a b:Int}(hb:0<b)(h1:a.natAbs<EA)(h2:b.natAbs<EA):cZ [.int a,.int b]=.ok (fr (HL a b)):=AX hb h1 h2
def LW{a b:Int}(hb:0<b)(h1:a.natAbs<mT)(h2:b.natAbs<mT):rl (HL a b):=⟨F1 hb,RV F4 h1,RV F3 h2⟩
def Kt{α:Type}{xs:List α}{k:Int}(h0:0<=k)(h1:k<xs.length):∃x∈xs,atI xs k=some x:=by
 obtain⟨n,rfl⟩:=P5 h0;have hn:n<xs.length:=by omega
 exact⟨xs[n],Rn hn,cY (OQ hn)⟩
def ix_mem{ds:ac}{k:Int}(h0:0<=k)(h1:k<ds.length):∃d∈ds,aO (.lst ds) (.int k)=.ok d:=by
 obtain⟨d,hd,e⟩:=Kt h0 h1;exact⟨d,hd,by unfold aO;simp only[e]⟩
def bp{α:Type}{a b:α}(h:a=b):a=b:=h
def IU(t:bv)(r:Fl):ak Fl:=match r with
 |.nx ρ'=>t ρ'
 |r=>.ok r
def Fn(i:Nat)(ρ:Ev)(d:D):ak Fl:=.ok (.nx (ρ.set i (.sh d)))
def Lp(d:D):ak Fl:=.ok (.rt d)
def NF(s t:bv)(ρ:Ev)(x:D):ak Fl:=match x with
 |.bl b=>if b=true then s ρ else t ρ
 |_=>.stuck
def LL(i:Nat)(ρ:Ev)(d:D):ak Fl:=match d with
 |.lst ds=>.ok (.nx (ρ.set i (.ow (.lst ds))))
 |_=>.stuck
def LK(s:Option Sl)(k:ac->ak Fl):ak Fl:=match s with
 |some (.ow (.lst ds))=>k ds
 |_=>.stuck
def MD(i:Nat)(ρ:Ev)(ds:ac)(d:D):ak Fl:=if ds.length<line then .ok (.nx (ρ.set i (.ow (.lst (ds++[d]))))) else .stuck
def BE(is:cr)(ρ:Ev)(d:D):ak Fl:=match fS is.length d with
 |some ds=>.ok (.nx (fR ρ is ds))
 |none=>.stuck
def k2(g:am)(op:D->D->ak D)(ρ:Ev)(x:D):ak D:=(g ρ).bind (op x)
def yg(x:D)(xs:ac):ak (ac):=.ok (x::xs)
def Ib(fa:Ev->ak (ac))(ρ:Ev)(x:D):ak (ac):=(fa ρ).bind (yg x)
def Kv(g:am)(ρ:Ev)(x:D):ak D:=match x with
 |.bl true=>g ρ
 |.bl false=>.ok (.bl false)
 |_=>.stuck
def Nw(g:am)(ρ:Ev)(x:D):ak D:=match x with
 |.bl true=>.ok (.bl true)
 |.bl false=>g ρ
 |_=>.stuck
def LO(x:D):ak D:=match x with
 |.bl b=>.ok (.bl (!b))
 |_=>.stuck
def JD(f g:am)(ρ:Ev)(x:D):ak D:=match x with
 |.bl true=>f ρ
 |.bl false=>g ρ
 |_=>.stuck
def KZ(s:Option Sl):ak D:=match s with
 |some (.sh d)=>.ok d
 |_=>.stuck
def Fj(s:Sl):Sl:=match s with
 |.ow d=>.sh d
 |.ox _ ds=>.sh (.tup ds)
 |x=>x
def xp(r:Fl):ak D:=match r with
 |.nx _=>.ok .non
 |.rt d=>.ok d
 |_=>.stuck
def N2(x:D):ak (Option Int):=match x with
 |.int i=>.ok (some i)
 |_=>.stuck
def rz(x:D)(l:Option Int)(h:Option Int):ak D:=lM x l h
def Nl(hi:Ev->ak (Option Int))(ρ:Ev)(x:D)(l:Option Int):ak D:=(hi ρ).bind (rz x l)
def Lo(lo hi:Ev->ak (Option Int))(ρ:Ev)(x:D):ak D:=(lo ρ).bind (Nl hi ρ x)
def Mb(tg:Ev->D->ak Ev)(s:bv)(ρ:Ev)(d:D):ak Fl:=match d with
 |.lst ds=>gp tg s ds ρ
 |_=>.stuck
def Hg(op':D->D->ak D)(h:am)(ρ:Ev)(y z:D):ak D:=match z with
 |.bl true=>(h ρ).bind (op' y)
 |.bl false=>.ok (.bl false)
 |_=>.stuck
def Ko(op op':D->D->ak D)(h:am)(ρ:Ev)(x y:D):ak D:=(op x y).bind (Hg op' h ρ y)
def N4(op op':D->D->ak D)(g h:am)(ρ:Ev)(x:D):ak D:=(g ρ).bind (Ko op op' h ρ x)
section
variable {s t:bv}{f g h:am}{fa:Ev->ak (ac)}{ρ r:Ev}{i j:Nat}{d x y:D}{ds xs:ac}{op op':D->D->ak D}{a b:Int}
def gT{α β:Type}{a:α}{k:α->ak β}:(ak.ok a).bind k=k a:=bp rfl
def uH:aw s t ρ=(s ρ).bind (IU t):=bp rfl
def zu:IU t (.nx ρ)=t ρ:=bp rfl
def Gz:IU t (.rt d)=.ok (.rt d):=bp rfl
def GI:ax ρ=.ok (.nx ρ):=bp rfl
def Dz:aV i f ρ=(f ρ).bind (Fn i ρ):=bp rfl
def Gy:Fn i ρ d=.ok (.nx (ρ.set i (.sh d))):=bp rfl
def JQ:bE f ρ=(f (lC ρ)).bind Lp:=bp rfl
def GB:Lp d=.ok (.rt d):=bp rfl
def Mm:fw f s t ρ=(f (lC ρ)).bind (NF s t ρ):=bp rfl
def J5:NF s t ρ (.bl true)=s ρ:=bp rfl
def J4:NF s t ρ (.bl false)=t ρ:=bp rfl
def JU:t8 i f ρ=(f ρ).bind (LL i ρ):=bp rfl
def GG:LL i ρ (.lst ds)=.ok (.nx (ρ.set i (.ow (.lst ds)))):=bp rfl
def Ke:eI i f ρ=LK ρ[i]? λds=>(f ρ).bind (MD i ρ ds):=bp rfl
def GF{k:ac->ak Fl}:LK (some (.ow (.lst ds))) k=k ds:=bp rfl
def pd(h:decide (ds.length<=999)=true):MD i ρ ds d=.ok (.nx (ρ.set i (.ow (.lst (ds++[d]))))):=if_pos (RV (of_decide_eq_true h) (by decide))
def JI{is:cr}:xj is f ρ=(f ρ).bind (BE is ρ):=bp rfl
def Mu{o:D->ak D}:bc f o ρ=(f ρ).bind o:=bp rfl
def Mt:aa f g op ρ=(f ρ).bind (k2 g op ρ):=bp rfl
def Kc:k2 g op ρ x=(g ρ).bind (op x):=bp rfl
def Ms{m:ac->ak D}:ao fa m ρ=(fa ρ).bind m:=bp rfl
def J0:au ρ=.ok []:=bp rfl
def G0:af f fa ρ=(f ρ).bind (Ib fa ρ):=bp rfl
def DH:Ib fa ρ x=(fa ρ).bind (yg x):=bp rfl
def DD:yg x xs=.ok (x::xs):=bp rfl
def Kf:ef f g ρ=(f ρ).bind (Kv g ρ):=bp rfl
def G2:Kv g ρ (.bl true)=g ρ:=bp rfl
def G1:Kv g ρ (.bl false)=.ok (.bl false):=bp rfl
def Mi:i8 f g ρ=(f ρ).bind (Nw g ρ):=bp rfl
def JY:Nw g ρ (.bl true)=.ok (.bl true):=bp rfl
def JW:Nw g ρ (.bl false)=g ρ:=bp rfl
def JZ:dZ f ρ=(f ρ).bind LO:=bp rfl
def GH{c:Bool}:LO (.bl c)=.ok (.bl (!c)):=bp rfl
def DC:Ia h f g ρ=(h ρ).bind (JD f g ρ):=bp rfl
def GY:JD f g ρ (.bl true)=f ρ:=bp rfl
def GX:JD f g ρ (.bl false)=g ρ:=bp rfl
def JH:ag i ρ=KZ ρ[i]?:=bp rfl
def Gn:KZ (some (.sh d))=.ok d:=bp rfl
def NL:dC d ρ=.ok d:=bp rfl
def Gx:lC []=[]:=bp rfl
def JN{c:Sl}:lC (c::r)=Fj c::lC r:=bp rfl
def Gw:Fj (.ow d)=.sh d:=bp rfl
def Gv:Fj (.sh d)=.sh d:=bp rfl
def Gu:Fj .no=.no:=bp rfl
def JP{n:Nat}:da n s ds=(s (ds.map Sl.sh++OV (n-ds.length) .no)).bind xp:=bp rfl
def GA:xp (.rt d)=.ok d:=bp rfl
def Mh:bQ f ρ=(f ρ).bind N2:=bp rfl
def JV:N2 (.int a)=.ok (some a):=bp rfl
def Mj:dH ρ=.ok none:=bp rfl
def Mf{lo hi:Ev->ak (Option Int)}:eG f lo hi ρ=(f ρ).bind (Lo lo hi ρ):=bp rfl
def JM{lo hi:Ev->ak (Option Int)}:Lo lo hi ρ x=(lo ρ).bind (Nl hi ρ x):=bp rfl
def JL{hi:Ev->ak (Option Int)}{l:Option Int}:Nl hi ρ x l=(hi ρ).bind (rz x l):=bp rfl
def JK{l l':Option Int}:rz (.lst ds) l l'=.ok (.lst (mL ds l l')):=bp rfl
def J6{tg:Ev->D->ak Ev}:Ak f tg s ρ=(f ρ).bind (Mb tg s ρ):=bp rfl
def GZ{tg:Ev->D->ak Ev}:Mb tg s ρ (.lst ds)=gp tg s ds ρ:=bp rfl
def DJ:ja op op' f g h ρ=(f ρ).bind (N4 op op' g h ρ):=bp rfl
def Mn:N4 op op' g h ρ x=(g ρ).bind (Ko op op' h ρ x):=bp rfl
def Kb:Ko op op' h ρ x y=(op x y).bind (Hg op' h ρ y):=bp rfl
def Ka:Hg op' h ρ y (.bl true)=(h ρ).bind (op' y):=bp rfl
def J8:Hg op' h ρ y (.bl false)=.ok (.bl false):=bp rfl
def J3{o:Int->Int->D}:vP (λ_ _=>true) o (.int a) (.int b)=.ok (o a b):=bp rfl
def Kg:aP (.int a) (.int b)=.ok (.int (a+b)):=bp rfl
def zC{es:ac}(h:decide (ds.length+es.length<=1000)=true):aP (.lst ds) (.lst es)=.ok (.lst (ds++es)):=if_pos (O0 (of_decide_eq_true h) (by decide))
def J1:Ea (.int a)=.ok (.int (-a)):=bp rfl
def Ml{m:D->ak D}:m1 m [x]=m x:=bp rfl
def GK:bN (.lst ds)=.ok (.int ds.length):=bp rfl
def GJ:bN (.tup ds)=.ok (.int ds.length):=bp rfl
def JJ(h:decide (ds.length<=1000)=true):iR ds=.ok (.tup ds):=if_pos (O0 (of_decide_eq_true h) (by decide))
def J2(h:decide (ds.length<=1000)=true):cE ds=.ok (.lst ds):=if_pos (O0 (of_decide_eq_true h) (by decide))
def rK{z:OG}:i9 "str" (.str z)=.ok (.bl true):=bp rfl
def oH:i9 "tuple" (.tup ds)=.ok (.bl true):=bp rfl
def dM:rL x .non=.ok (.bl (fX x)):=bp rfl
def uJ(h:ke a b=true):dO (.int a) (.int b)=.ok (.int (a*b)):=if_pos h
def dE(h:(b==0)=false):cO (.int a) (.int b)=.ok (.int (a.fmod b)):=jL (λz=>by rw[z]at h;cases h)
def J7(h:kh a b=true):qJ (.int a) (.int b)=.ok (.int (a.fdiv b)):=if_pos h
def Gq{is:cr}(h:(ds.length==is.length)=true):BE is ρ (.lst ds)=.ok (.nx (fR ρ is ds)):=by
 unfold BE fS;simp only[if_pos (eq_of_beq h)]
def Gp{is:cr}(h:(ds.length==is.length)=true):BE is ρ (.tup ds)=.ok (.nx (fR ρ is ds)):=by
 unfold BE fS;simp only[if_pos (eq_of_beq h)]
def Mg{is:cr}:fR ρ (i::is) (d::ds)=fR (ρ.set i (.sh d)) is ds:=bp rfl
def JO:fR ρ [] ds=ρ:=bp rfl
def zx{x0:D}:aO (.lst (x0::xs)) (.int 0)=.ok x0:=by
 unfold aO;simp only[show atI (x0::xs) 0=some x0 from cY (j:=0) rfl]
def GQ{x0:D}:aO (.tup (x0::xs)) (.int 0)=.ok x0:=by
 unfold aO;simp only[show atI (x0::xs) 0=some x0 from cY (j:=0) rfl]
def zw{x0 x1:D}:aO (.lst (x0::x1::xs)) (.int 1)=.ok x1:=by
 unfold aO;simp only[show atI (x0::x1::xs) 1=some x1 from cY (j:=1) rfl]
def GP{x0 x1:D}:aO (.tup (x0::x1::xs)) (.int 1)=.ok x1:=by
 unfold aO;simp only[show atI (x0::x1::xs) 1=some x1 from cY (j:=1) rfl]
def GW{x0 x1 x2:D}:aO (.lst (x0::x1::x2::xs)) (.int 2)=.ok x2:=by
 unfold aO;simp only[show atI (x0::x1::x2::xs) 2=some x2 from cY (j:=2) rfl]
def GO{x0 x1 x2:D}:aO (.tup (x0::x1::x2::xs)) (.int 2)=.ok x2:=by
 unfold aO;simp only[show atI (x0::x1::x2::xs) 2=some x2 from cY (j:=2) rfl]
def GV{x0 x1 x2 x3:D}:aO (.lst (x0::x1::x2::x3::xs)) (.int 3)=.ok x3:=by
 unfold aO;simp only[show atI (x0::x1::x2::x3::xs) 3=some x3 from cY (j:=3) rfl]
def GN{x0 x1 x2 x3:D}:aO (.tup (x0::x1::x2::x3::xs)) (.int 3)=.ok x3:=by
 unfold aO;simp only[show atI (x0::x1::x2::x3::xs) 3=some x3 from cY (j:=3) rfl]
def GU{x0 x1 x2 x3 x4:D}:aO (.lst (x0::x1::x2::x3::x4::xs)) (.int 4)=.ok x4:=by
 unfold aO;simp only[show atI (x0::x1::x2::x3::x4::xs) 4=some x4 from cY (j:=4) rfl]
def GL{x0 x1 x2 x3 x4:D}:aO (.tup (x0::x1::x2::x3::x4::xs)) (.int 4)=.ok x4:=by
 unfold aO;simp only[show atI (x0::x1::x2::x3::x4::xs) 4=some x4 from cY (j:=4) rfl]
def GS{x0 x1 x2 x3 x4 x5:D}:aO (.lst (x0::x1::x2::x3::x4::x5::xs)) (.int 5)=.ok x5:=by
 unfold aO;simp only[show atI (x0::x1::x2::x3::x4::x5::xs) 5=some x5 from cY (j:=5) rfl]
def GR{x0 x1 x2 x3 x4 x5 x6 x7 x8 x9:D}:aO (.lst (x0::x1::x2::x3::x4::x5::x6::x7::x8::x9::xs)) (.int 9)=.ok x9:=by
 unfold aO;simp only[show atI (x0::x1::x2::x3::x4::x5::x6::x7::x8::x9::xs) 9=some x9 from cY (j:=9) rfl]
def Mr:((1:Nat):Int)=1:=bp rfl
def Mq:((2:Nat):Int)=2:=bp rfl
def Mp:((5:Nat):Int)=5:=bp rfl
def Mo:((6:Nat):Int)=6:=bp rfl
def JT:oK (.int 10) (.int 60)=.ok (.int (mT:Int)):=by
 have e:(10:Int) ^ (60:Int).toNat=(mT:Int):=by decide
 rw[←e];rfl
end
def HR(fa:Ev->ak (ac))(ρ:Ev)(x:D):ak D:=match x with
 |.str z=>(fa ρ).bind (kf z)
 |_=>.stuck
def fD{f:am}{fa:Ev->ak (ac)}{ρ:Ev}:kL f fa ρ=(f ρ).bind (HR fa ρ):=bp rfl
def dY{fa:Ev->ak (ac)}{ρ:Ev}{z:OG}:HR fa ρ (.str z)=(fa ρ).bind (kf z):=bp rfl
def Lq(g:am)(ρ:Ev)(x:D):ak D:=match x with
 |.lst ds=>(g ρ).bind (wu (.lst ds))
 |_=>.stuck
def JR{f g:am}{ρ:Ev}:B8 f g ρ=(f ρ).bind (Lq g ρ):=bp rfl
def GD{g:am}{ρ:Ev}{ds:ac}:Lq g ρ (.lst ds)=(g ρ).bind (wu (.lst ds)):=bp rfl
theorem vY{α:Type}{x:α}:∀{n:Nat},(OV n [x]).flatten=OV n x
 |0=>rfl
 |n+1=>by rw[PF,QP,vY,PF];rfl
def GC{x:D}{k:Int}(h:(decide (0<=k)&&decide (k<=1000))=true):wu (.lst [x]) (.int k)=.ok (.lst (OV k.toNat x)):=by
 simp only[OR,decide_eq_true_eq]at h;unfold wu;have:([x]:ac).length*k.toNat<=line/\-9223372036854775808<=k/\k<9223372036854775808:=⟨by
  have h2:k.toNat<=1000:=by omega
  show 1*k.toNat<=line;have:(1000:Nat)<=line:=by decide
  omega,by omega,by omega⟩
 simp only[if_pos this,vY]
end Com
def cK{a b:Prop}(x:a)(y:b):a/\b:=⟨x,y⟩
def KC:=(cK (cK (cK (cK (cK (cK @gT (cK @uH @zu)) (cK @Gz (cK @GI @Dz))) (cK (cK @Gy (cK @JQ @GB)) (cK @Mm (cK @J5 @J4)))) (cK (cK (cK @JU (cK @GG @Ke)) (cK @GF (cK @JI @Mu))) (cK (cK @Mt (cK @Kc @Ms)) (cK (cK @J0 @G0) (cK @DH @DD))))) (cK (cK (cK (cK @Kf (cK @G2 @G1)) (cK @Mi (cK @JY @JW))) (cK (cK @JZ (cK @GH @DC)) (cK @GY (cK @GX @JH)))) (cK (cK (cK @Gn (cK @NL @Gx)) (cK @JN (cK @Gw @Gv))) (cK (cK @Gu (cK @JP @GA)) (cK (cK @Mh @JV) (cK @Mj @Mf)))))) (cK (cK (cK (cK (cK @JM (cK @JL @JK)) (cK @J6 (cK @GZ @DJ))) (cK (cK @Mn (cK @Kb @Ka)) (cK @J8 (cK @J3 @Kg)))) (cK (cK (cK @J1 (cK @Ml @GK)) (cK @GJ (cK @JT @Kj))) (cK (cK @xE (cK @JJ @J2)) (cK (cK @zC @pd) (cK @dE @Gq))))) (cK (cK (cK (cK @Gp (cK @Mg @JO)) (cK @zx (cK @zw @GW))) (cK (cK @GV (cK @GU @GS)) (cK (cK @GR @GQ) (cK @GP @GO)))) (cK (cK (cK @GN (cK @GL @rK)) (cK @oH (cK @Mr @Mq))) (cK (cK @Mp (cK @Mo @fD)) (cK (cK @dY @JR) (cK @GD @GC)))))))
local macro_rules|`(tactic|open_line with[$xs,*])=>`(tactic|simp only[KC,PC,RO,Pa,QM,PF,Sw,QL,Qp,Q0,Qb,SG,SH,T3,Nat.reduceSub,Nat.reduceAdd,T6,Si,OU,OO,decide_true,decide_false,Nat.reduceLeDiff,Nat.reduceBEq,Int.reduceBEq,beq_self_eq_true,DL.dOne,DL.mYes,Int.reduceLT,Int.reduceLE,Int.reduceSub,Int.reduceAdd,Int.reduceMul,Int.reduceNeg,Int.reduceToNat,Tx,$[$xs:term],*])
namespace Com
open PySem L2 DL
noncomputable def jG:bv :=
 (aw (fw (i8 (dZ (bc (ag 0) (i9 "str"))) (dZ (ja HZ HZ (dC (.int 1)) (ao (af (ag 0) au) (m1 bN)) (dC (.int 8)))))
 (aw (bE (dC (.bl false)))
 ax)
 ax)
 (aw (bE (ao (af (fN 1 [] (tR (ag 0)) (fv 0) mYes (aa (ag 0) (dC (.str "abcdefghijklmnopqrstuvwxyz")) Bt)) au) (m1 rM)))
 ax))
def m_is_name:ac->ak D:=da 1 jG
noncomputable def eW:bv :=
 (aw (fw (i8 (dZ (bc (ag 0) (i9 "tuple"))) (aa (ao (af (ag 0) au) (m1 bN)) (dC (.int 2)) jf))
 (aw (bE (dC (.bl false)))
 ax)
 ax)
 (aw (fw (i8 (dZ (ao (af (aa (ag 0) (dC (.int 0)) aO) au) m_is_whole)) (dZ (ao (af (aa (ag 0) (dC (.int 1)) aO) au) m_is_whole)))
 (aw (bE (dC (.bl false)))
 ax)
 ax)
 (aw (bE (ef (aa (aa (ag 0) (dC (.int 1)) aO) (dC (.int 1)) MA) (aa (ao (af (aa (ag 0) (dC (.int 0)) aO) (af (aa (ag 0) (dC (.int 1)) aO) au)) m_common_divisor) (dC (.int 1)) dm)))
 ax)))
def m_is_ratio:ac->ak D:=da 1 eW
def Oy:OG:="abcdefghijklmnopqrstuvwxyz"
def kF(c:Nat):Bool:=HJ ⟨#[c]⟩ Oy
def dX(z:OG):Bool:=decide (1<=z.length)&&(decide (z.length<=8)&&z.cps.toList.all kF)
def sC:D->Bool
 |.str z=>dX z
 |_=>false
def Me:D->Bool
 |.str z=>decide (z.length<=line)
 |_=>true
theorem sV{b:Ev}{tg:Ev->D->ak Ev}{tt fe:am}{F:D->D}:∀{ds:ac},(∀d∈ds,∃ρ1,tg b d=.ok ρ1/\tt ρ1=.ok (.bl true)/\fe ρ1=.ok (F d))->cC b tg tt fe ds=.ok (ds.map F)
 |[],_=>rfl
 |d::r,h=>by
  obtain⟨ρ1,h1,h2,h3⟩:=h d Pe;rw[iz h1 h2 h3,sV (λe he=>h e (OT _ he))];rfl
theorem i6{α:Type}(F:α->Bool):∀(cs:List α),fF (cs.map λc=>D.bl (F c))=some (cs.map F)
 |[]=>rfl
 |c::r=>by
  show(fF (r.map λc=>D.bl (F c))).map (F c::·)=_;rw[i6 F r];rfl
def xG{z:OG}(hz:z.length<=line):fN 1 [] (tR (ag 0)) (fv 0) mYes (aa (ag 0) (dC (.str "abcdefghijklmnopqrstuvwxyz")) Bt) [.sh (.str z)]=.ok (.lst (z.cps.toList.map λc=>.bl (kF c))):=by
 have hl:(dr z).length<=line:=by rw[gA];exact hz
 unfold fN;show(if(dr z).length<=line then _ else _)=_;rw[if_pos hl];have:cC (dP 1 [] [.sh (.str z)]) (fv 0) mYes (aa (ag 0) (dC (.str "abcdefghijklmnopqrstuvwxyz")) Bt) (dr z)=.ok (z.cps.toList.map λc=>D.bl (kF c)):=by
  unfold dr
  induction z.cps.toList with
  |nil=>rfl
  |cons c r ih=>
   rw[PC,iz (x:=.bl (kF c)) rfl rfl rfl,ih];rfl
 rw[this]
def cw{d:D}(h:Me d=true):m_is_name [d]=.ok (.bl (sC d)):=by
 cases d with
 |str z=>
  have hz:z.length<=line:=of_decide_eq_true h;have hlen:bN (.str z)=.ok (.int z.length):=if_pos hz;show da 1 jG _=.ok (.bl (dX z));unfold dX
  by_cases h1:1<=z.length
  .by_cases h8:z.length<=8
   .have e1:decide ((1:Int)<=(z.length:Int))=true:=decide_eq_true (by omega)
    have e2:decide ((z.length:Int)<=8)=true:=decide_eq_true (by omega);open_line with[jG,hlen,e1,e2,xG hz,rM,i6,decide_eq_true h1,decide_eq_true h8,ON]
    simp[Sk,SW]
   .have e1:decide ((1:Int)<=(z.length:Int))=true:=decide_eq_true (by omega)
    have e2:decide ((z.length:Int)<=8)=false:=decide_eq_false (by omega);open_line with[jG,hlen,e1,e2,decide_eq_true h1,decide_eq_false h8,OL,Pf]
  .have e1:decide ((1:Int)<=(z.length:Int))=false:=decide_eq_false (by omega)
   open_line with[jG,hlen,e1,decide_eq_false h1,OL]
 |ob k _=>cases k<;>rfl
 |_=>rfl
def fu:D->Bool
 |.tup [.int p,.int q]=>decide (1<=q)&&(Pw p q==1)
 |_=>false
def Ki{g:Nat}:((g:Int)==1)=(g==1):=by
 cases h:(g==1) with
 |true=>rw[eq_of_beq h];rfl
 |false=>
  have:g≠1:=λz=>by rw[z]at h;cases h
  exact beq_eq_false_iff_ne.mpr (by omega)
def BG{xs:ac}:(∃x y,xs=[x,y])∨xs.length≠2:=by
 match xs with
 |[]=>exact .inr (by decide)
 |[x]=>exact .inr (by simp)
 |[x,y]=>exact .inl ⟨x,y,rfl⟩
 |x::y::z::r=>exact .inr (by simp)
theorem vo:∀{xs:ac},xs.length≠2->fu (.tup xs)=false
 |[],_=>rfl
 |[x],_=>by cases x<;>rfl
 |[x,y],h=>absurd rfl h
 |x::y::z::r,_=>by cases x<;>cases y<;>rfl
def pL{x y:D}:fu (.tup [x,y])=(L4 x&&(L4 y&&fu (.tup [x,y]))):=by
 cases x<;>cases y<;>rfl
def e8(d:D):m_is_ratio [d]=.ok (.bl (fu d)):=by
 cases d with
 |tup xs=>
  rcases BG (xs:=xs) with⟨x,y,rfl⟩|h
  .rw[pL]
   show da 1 eW _=_;cases hx:L4 x with
   |false=>open_line with[eW,iY,hx,OL]
   |true=>
    cases hy:L4 y with
    |false=>open_line with[eW,iY,hx,hy,OL,ON]
    |true=>
     cases x<;>first|(cases hx;done)|skip
     cases y<;>first|(cases hy;done)|skip
     rename_i p q;show _=ak.ok (D.bl (decide (1<=q)&&(Pw p q==1)))
     by_cases hq:1<=q
     .open_line with[eW,iY,hx,hy,sU,ON,decide_eq_true hq,Ki]
     .open_line with[eW,iY,hx,hy,sU,ON,decide_eq_false hq,OL]
  .have e2:((xs.length:Int)==2)=false:=beq_eq_false_iff_ne.mpr (by omega)
   rw[vo h];show da 1 eW _=_;open_line with[eW,e2]
 |ob k _=>cases k<;>rfl
 |_=>rfl
def Lm{sz:List Int}(h:(sz.all λs=>decide (0<s)&&decide (s<=(mT:Int)))=true):∀s∈sz,0<s/\s.natAbs<B9:=λs hs=>by
 have:=Pk.mp h s hs;simp only[OR,decide_eq_true_eq]at this;refine⟨this.1,RV (show s.natAbs<=mT by omega) ?_⟩;exact OS (show mT<2 ^ 200 by decide) (by rw[zU];exact QO (by decide) (by decide))
def pe{α:Type}{F:α->D}{xs:List α}{lo hi:Option Int}:mL (xs.map F) lo hi=((xs.drop (HT.sIx xs.length 0 lo)).take (HT.sIx xs.length xs.length hi-HT.sIx xs.length 0 lo)).map F:=by
 unfold mL;rw[OD,←List.map_drop,←List.map_take]
end Com
namespace DL
open PySem PySem.Spec PyProof.Rows L2
def dq.there{P:Pr}{w:PJ}{H:Hp}{h:OY}{a:OE}{o:HO}(x:dq P w H h a o):∃u,h.get? a=some u:=by
 cases o with|lst xs=>obtain⟨_,_,_,_,e⟩:=x;exact⟨_,e⟩|tup xs=>obtain⟨_,_,_,ob,e,_⟩:=x;exact⟨_,e⟩|dK kvs|dT kvs=>obtain⟨_,_,_,_,o,_,_,e,_⟩:=x;exact⟨_,e⟩|set S n=>obtain⟨o,_,_,_,e,_⟩:=x;exact⟨_,e⟩|ins C dx fs=>obtain⟨_,_,_,e,_⟩:=x;exact⟨_,e⟩|own y=>obtain⟨_,e⟩:=x;exact⟨_,e⟩|xd fs=>obtain⟨_,⟨_,_,_,e,_⟩,_⟩:=x;exact⟨_,e⟩|rng lo hi=>obtain⟨_,_,_,e⟩:=x;exact⟨_,e⟩|frz ob u=>obtain⟨e,_⟩:=x;exact⟨_,e⟩|tbl ps|met f y=>exact⟨_,show h.get? a=some _ from x⟩|ext φ=>obtain⟨_,⟨_,e⟩,_⟩:=x;exact⟨_,e⟩
noncomputable def kj(P:Pr) (w:PJ):tH:=λouter H s E e s'=>∃(ea C:OE) (a0:OB) (B:OY) (H':Hp),e=.ref ea/\s'.os=s.os/\AllBare s'.gens/\Un (iS outer) [] H H' s.heap s'.heap/\ip P w H' s'.heap/\H' ea=none /\
 RE B outer ea (.ref C) a0 s'.heap/\(∀b,b∉iS outer->(H' b≠none∨∃o,s.heap.get? b=some o)->∃o,B.get? b=some o)/\∃ox,MJ s'.heap ea ox/\E (.ref C) ox H'
def Gk{l:List P7}:∀env∈l,∀a,env.frame=some a->a∈iS l:=λenv he a hf=>SI.mpr ⟨env,he,hf⟩
section
variable {P:Pr}{w:PJ}{K:OH}{mg:OG->Option OB}{base:OY}{N:ci}{qual:OG}{scope:RG}{f:OE}{cd:OB}{A:Px}{outer:List P7}{s0:OI}{H0:Hp}{E:XK}
 {π:List (OE×Obj)}{σ:L2.St}{H:Hp}{s:OI}
def ir{B h h':OY}(k:B.StaysIn h)(k':B.StaysIn h'){b:OE}{o:Obj}(hb:∃u,B.get? b=some u)(e:h.get? b=some o):h'.get? b=some o:=by
 obtain⟨u,q⟩:=hb;have:=k b u q;rw[e]at this;cases this;exact k' b o q
def Md{X:Cx}(hX:X=gh (kj P w) P w K mg base N qual scope f cd A outer s0 H0 E)(I:Inv X π σ H s){s1:OI}{H1:Hp}{ea C:OE}{a0:OB}{B h':OY}(os:s1.os=s.os)(bare:AllBare s1.gens)
  (un:Un (iS X.stack) [] H H1 s.heap s1.heap)(hok:ip P w H1 s1.heap)(hne:H1 ea=none)(hst:B.StaysIn s1.heap)(hfr:s1.heap.FunFrames B X.stack)
  (hB:∀b,b∉iS X.stack->(H1 b≠none∨∃o,s.heap.get? b=some o)->∃o,B.get? b=some o)(fl:RE B outer ea (.ref C) a0 h')(up:s1.heap.UpToSlots h')(hE:∃ox,MJ h' ea ox/\E (.ref C) ox H1) :
  kj P w outer H0 s0 E (.ref ea) { s1 with heap:=h' }:=by
 subst hX;have hL:(envOfC qual scope s0.heap.objs.size f cd).frame=some (envOfC qual scope s0.heap.objs.size f cd).locals:=rfl;have hstk:∀b,b∈iS (envOfC qual scope s0.heap.objs.size f cd::outer)->b=(envOfC qual scope s0.heap.objs.size f cd).locals∨b∈iS outer:=λb hb=>by
  unfold iS at hb;rw[Qt,hL]at hb;exact O4.mp hb
 have hsub:∀b,b∈iS outer->b∈iS (envOfC qual scope s0.heap.objs.size f cd::outer):=λb hb=>by
  unfold iS;rw[Qt,hL];exact OT _ hb
 have old:∀b o,s0.heap.get? b=some o->b≠(envOfC qual scope s0.heap.objs.size f cd).locals:=λb o e=>Po (OS (O1 e) I.ok.above);have nofr:∀b o,s0.heap.get? b=some o->b∉iS outer->b∉iS (envOfC qual scope s0.heap.objs.size f cd::outer):=λb o e hb hm=>(hstk b hm).elim (old b o e) hb;have thr:∀b o,s0.heap.get? b=some o->∃o',s.heap.get? b=some o':=λb o e=>I.base.there b o e (by intro z;exact nomatch z);have fst:∀b,b∈iS outer->∀o,s1.heap.get? b=some o->∃sl,h'.get? b=some { o with slots:=sl }:=λb hb o e=>by
  obtain⟨_,o',ho',hd⟩:=hfr.mem (hsub b hb);rw[e]at ho';cases ho';exact up b o e hd
 have free1:∀b∈iS (envOfC qual scope s0.heap.objs.size f cd::outer),H1 b=none:=λb hb=>by
  obtain⟨_,o,ho,_⟩:=I.stack.mem hb;exact un.free b o ho (I.stkFree b hb) (by simp)
 have B0:∀b o,s0.heap.get? b=some o->b∉iS outer->∃u,B.get? b=some u:=λb o e hb=>hB b (nofr b o e hb) (.inr (thr b o e));refine⟨ea,C,a0,B,H1,rfl,os.trans I.os,bare,⟨λb o e n hb hx=>?_,λb o e n hb hx=>?_,λb o e n hx=>?_,λb o e hx=>?_,λb xs e=>un.tups b xs (I.base.tups b xs e),λb o u e=>un.frzs b o u (I.base.frzs b o u e),λb ps e=>?_⟩,λa o e=>?_,hne,fl,λb hb h=>?_,hE⟩
 .have e1:=I.base.keep b o e n hb (by intro z;exact nomatch z)
  have n1:=I.base.free b o e n (by intro z;exact nomatch z);have e2:=un.keep b o e1 n1 (nofr b o e hb) (by simp);exact ir hst fl.1 (B0 b o e hb) e2
 .obtain⟨sl,e1⟩:=I.base.slot b o e n hb (by intro z;exact nomatch z)
  have n1:=I.base.free b o e n (by intro z;exact nomatch z);obtain⟨sl2,e2⟩:=un.any e1 n1 (by simp);obtain⟨sl3,e3⟩:=fst b hb _ e2;exact⟨sl3,e3⟩
 .obtain⟨o',e1⟩:=thr b o e
  exact un.free b o' e1 (I.base.free b o e n (by intro z;exact nomatch z)) (by simp)
 .obtain⟨o',e1⟩:=thr b o e
  obtain⟨o2,e2⟩:=un.there b o' e1 (by simp)
  by_cases hb:b∈iS outer
  .obtain⟨sl,e3⟩:=fst b hb _ e2
   exact⟨_,e3⟩
  .exact⟨_,ir hst fl.1 (B0 b o e hb) e2⟩
 .obtain⟨m1,e1⟩:=I.base.tbls b ps e
  obtain⟨m2,e2⟩:=un.tbls b _ e1;exact⟨m1++m2,by rw[e2,SQ]⟩
 .refine(hok a o e).stay (λb u hb q=>?_) (λ_ q=>q) λ_ _ q=>q
  have hn:H1 b≠none:=by
   rcases hb with rfl|hb
   .rw[e];simp
   .rw[hb];simp
  exact ir hst fl.1 (hB b (λhm=>hn (free1 b hm)) (.inl hn)) q
 .by_cases hm:b∈iS (envOfC qual scope s0.heap.objs.size f cd::outer)
  .rcases hstk b hm with z|z
   .rcases h with h|⟨o,h⟩
    .exact absurd (free1 b hm) h
    .exact absurd z (old b o h)
   .exact absurd z hb
  .exact hB b hm (h.elim .inl λ⟨o,h⟩=>.inr (thr b o h))
end
def xy{X:Cx}{E:XK}:iO CX0 X E:=λ_ _ _ _ _ _ _ h=>h.elim
def xV{P:Pr}{w:PJ}{K:OH}{mg:OG->Option OB}{base:OY}{x qual:OG}{st:Qe}{f:OE}{fd:Pz}{N ps:ci}{k:Nat}{s:bv}(F:zT K x qual st f fd)(S:fH N ps (defScope st))
  (hbody:∀(cdv:OB) (A:Px) (outer:List P7) (s0:OI) (H Ha:Hp) (E:XK),dA k (A.deeper (envOfC qual (defScope st) s0.heap.objs.size f cdv)) ->
   yt (gh (kj P w) P w K mg base N qual (defScope st) f cdv A outer s0 H E) E H Ha (defBody st) s):gq P w K mg base (kj P w) (k+1) f fd ps (spD K ps.length (da N.length s)):=by
 have hpl:ps.length<=N.length:=by have:=congrArg RK S.pre;rw[Qw]at this;omega
 obtain⟨oc,od,kV,doc,pm,an,cdv,ct,osl,rfl,lk,hcd⟩:=F.ex;refine HW lk hcd S (λvs H Q E h=>h.1) λA outer s0 H vs Q E hr h=>?_;obtain⟨hn,Ha,ds,hs,hv,q⟩:=h;refine⟨_,(hbody cdv A outer s0 H Ha E hr).o,Ha,ds.map Sl.sh++OV (N.length-ds.length) .no,?_,?_⟩
 .refine⟨br.refl hs,nM hv,λi d e=>?_,λi j d d' hij e=>?_,?_,OX.none rY pA⟩
  .by_cases hi:i<ds.length
   .rw[O8 (by simpa using hi),O5]at e
    cases q:ds[i]? with|none|some d'=>rw[q]at e;cases e
   .rw[Pg (by simpa using hi),Pt]at e
    split at e<;>cases e
  .by_cases hi:i<ds.length
   .rw[O8 (by simpa using hi),O5]at e
    cases q:ds[i]? with|none|some d'=>rw[q]at e;cases e
   .rw[Pg (by simpa using hi),Pt]at e
    split at e<;>cases e
  .unfold L2.start
   have:=hv.length;simp only[Pm,OD,Qi];omega
 .unfold da at q
  cases e1:s (ds.map Sl.sh++OV (N.length-ds.length) .no) with
  |stuck|exn x=>rw[e1]at q;exact q
  |ok r=>
   rw[e1]at q;cases r with|nx ρ'=>exact λσ' H' Ha' _ h'=>q .non H' Ha' h'.g (aR.mpr rfl)|rt d=>exact λv H' Ha' g rp=>q v H' Ha' g rp|bk ρ'|ct ρ'=>exact q.elim
section
variable {P:Pr}{w:PJ}{st:List P7}{H H':Hp}{h g g' B:OY}
def Un.fly(un:Un (iS st) [] H H' h g)(k:B.StaysIn g)(hfr:g.FunFrames B st)(hB:∀b,b∉iS st->(H' b≠none∨∃o,h.get? b=some o)->∃o,B.get? b=some o)(k':B.StaysIn g')(up:g.UpToSlots g'):Un (iS st) [] H H' h g':=by
 have fst:∀b,b∈iS st->∀o,g.get? b=some o->∃sl,g'.get? b=some { o with slots:=sl }:=λb hb o e=>by
  obtain⟨_,o',ho',hd⟩:=hfr.mem hb;rw[e]at ho';cases ho';exact up b o e hd
 refine⟨λb o e n hb hx=>?_,λb o e n hb hx=>?_,un.free,λb o e hx=>?_,un.tups,un.frzs,un.tbls⟩
 .exact ir k k' (hB b hb (.inr ⟨o,e⟩)) (un.keep b o e n hb hx)
 .obtain⟨sl,e1⟩:=un.slot b o e n hb hx
  obtain⟨sl2,e2⟩:=fst b hb _ e1;exact⟨sl2,e2⟩
 .obtain⟨o',e1⟩:=un.there b o e hx
  by_cases hb:b∈iS st
  .obtain⟨sl,e2⟩:=fst b hb _ e1
   exact⟨_,e2⟩
  .exact⟨_,ir k k' (hB b hb (.inr ⟨o,e⟩)) e1⟩
def ip.fly(ok:ip P w H' g)(hf:∀b∈iS st,H' b=none)(k:B.StaysIn g)(hB:∀b,b∉iS st->(H' b≠none∨∃o,h.get? b=some o)->∃o,B.get? b=some o)(k':B.StaysIn g'):ip P w H' g':=λa o e=>by
 refine(ok a o e).stay (λb u hb q=>?_) (λ_ q=>q) λ_ _ q=>q;have hn:H' b≠none:=by
  rcases hb with rfl|hb
  .rw[e];simp
  .rw[hb];simp
 exact ir k k' (hB b (λhm=>hn (hf b hm)) (.inl hn)) q
def ip.ext(ok:ip P w H g){a:OE}{φ:OY->Prop}(hn:H a=none)(p:φ g)(ht:∃o,g.get? a=some o)(hm:∀h1 h2:OY,φ h1->(∀o,h1.get? a=some o->h2.get? a=some o)->φ h2):ip P w (upd H a (.ext φ)) g:=λb u e=>by
 by_cases hb:b=a
 .subst hb;rw[ay]at e;cases e;exact⟨p,ht,hm⟩
 .rw[av hb]at e
  exact(ok b u e).stay (λc v _ q=>q) (λc q=>by rw[av (bo q hn)];exact q) λc xs q=>by rw[av (bo q hn)];exact q
def Un.ext{fs:List OE}(un:Un fs [] H H' h g){a:OE}{o:HO}(hn:H' a=none)(ha:h.get? a=none):Un fs [] H (upd H' a o) h g :=
 ⟨un.keep,un.slot,λb ob e n hx=>by rw[av (λz=>by subst z;rw[ha]at e;cases e)];exact un.free b ob e n hx,un.there,λb xs q=>by rw[av (bo (un.tups b xs q) hn)];exact un.tups b xs q,
  λb ob u q=>by rw[av (bo (un.frzs b ob u q) hn)];exact un.frzs b ob u q,λb ps q=>by
   obtain⟨m,e⟩:=un.tbls b ps q;exact⟨m,by rw[av (bo e hn)];exact e⟩⟩
def A9{a C:OE}{dc:Option OE}:∀h1 h2:OY,wR a C dc h1->(∀o,h1.get? a=some o->h2.get? a=some o)->wR a C dc h2:=λh1 h2 ⟨o,vs,e,c,d⟩ k=>⟨o,vs,k o e,c,d⟩
end
def hand(X:Cx)(e:OE):Cx:={ X with A:=X.A.mark (some (.ref e)),calm:=false,xe:=λ_ _=>False }
section
variable {X:Cx}{π:List (OE×Obj)}{σ:L2.St}{H:Hp}{s:OI}{e:OE}
def Gi(ok:X.Ok):(hand X e).Ok :=
 ⟨ok.mod,ok.kind,ok.glob,ok.blt,ok.above,ok.inj,ok.has,ok.cab,λz=>Bool.noConfusion z,ok.frames,ok.stk,ok.exf,ok.bs,ok.bsz,ok.noex,ok.exfs,ok.funs,ok.frf⟩
def Inv.hand(I:Inv X π σ H s):Inv (DL.hand X e) π σ H s:=⟨Gi I.ok,I.os,I.bare,I.base,I.loc,I.cell,I.free,I.freeC,I.pin,I.hok,I.len⟩
def iQ(ok:X.Ok)(I:Inv (DL.hand X e) π σ H s):Inv X π σ H s:=⟨ok,I.os,I.bare,I.base,I.loc,I.cell,I.free,I.freeC,I.pin,I.hok,I.len⟩
def Et{i:Nat}{x:OG}{m:OG->Option OB}{v:Option OB}{h':OY}{t':Nat}(I:Inv X π σ H s)(hN:X.N.Nodup)(hi:X.N[i]?=some x)
  (hm:∀(j:Nat) (y:OG) (v:V),X.N[j]?=some y->σ[j]?=some (some v)->zO X.env.scope y->∃u,bX v u/\MK X.env s.heap m y u)(hn:h'.Ns X.env.locals (λy=>if y=x then v else m y))(hs:RP X.env.locals s.heap h') :
  Inv X π (σ.set i none) H { s with heap:=h',toks:=t' }:=by
 have cne:=I.cne;obtain⟨m0,⟨oL,_,_,hoL,_⟩,_⟩:=id I.loc;have tracked:ip X.prog X.w H h':=λb ob e=>by
  refine(I.hok b ob e).stay (λc w' hc q=>(hs.2 c ?_).trans q) (λ_ q=>q) λ_ _ q=>q;rintro rfl;have hfree:=I.free;rcases hc with rfl|hc
  .rw[hfree]at e;cases e
  .rw[hfree]at hc;cases hc
 refine⟨I.ok,I.os,I.bare,⟨λb o e n hb hx=>?_,λb o e n hb hx=>?_,I.base.free,λb o e hx=>?_,I.base.tups,I.base.frzs,I.base.tbls⟩,⟨_,hn,λj y v' e1 e2 e3=>?_⟩,λy c e=>?_,I.free,I.freeC,λp hp=>?_,tracked,by simpa using I.len⟩
 .exact(hs.2 b (Po (OS (O1 e) I.ok.above))).trans (I.base.keep b o e n hb hx)
 .obtain⟨sl,e1⟩:=I.base.slot b o e n hb hx
  exact⟨sl,(hs.2 b (Po (OS (O1 e) I.ok.above))).trans e1⟩
 .obtain⟨o',e1⟩:=I.base.there b o e hx
  exact⟨o',(hs.2 b (Po (OS (O1 e) I.ok.above))).trans e1⟩
 .by_cases hj:j=i
  .subst hj
   have hiσ:j<σ.length:=by rw[I.len];exact(OZ.mp hi).1
   rw[PH hiσ]at e2;cases e2
  .rw[OW (Py hj)]at e2
   obtain⟨u',r',q⟩:=hm j y v' e1 e2 e3;refine⟨u',r',?_⟩;rcases q with⟨k,e⟩|⟨k,c,e,z⟩
   .refine .inl ⟨k,?_⟩
    have:y≠x:=λe=>hj (qe hN e1 (e▸hi));simp[this,e]
   .exact .inr ⟨k,c,e,z.sameBut hs (cne y c e)⟩
 .obtain⟨w',z⟩:=I.cell y c e
  exact⟨w',z.sameBut hs (cne y c e)⟩
 .obtain⟨e,n,ne,nf,d⟩:=I.pin p hp
  exact⟨(hs.2 p.1 ne).trans e,n,ne,nf,d⟩
def Kr{H1:Hp}{s1 s':OI}{Ex:XK}{ev:OB}{c n:OG}{np hpos:Pos}{ba:Qe}{suite:List Qe}{rest:List ExceptHandler}{cv:OB}{ni:Nat}{D:ic}(hstk:X.stack=X.env::X.outer/\X.env.frame=some X.env.locals)(I:Inv X π σ H1 s1)
  (h:kj X.prog X.w X.stack H1 s1 Ex ev s')(hg:Gl X c)(hm:X.mg c=some cv)(hx:∀C ox H',Ex (.ref C) ox H'->SR X.K (.ref C) cv=some true)
  (hN:X.N.Nodup)(hi:X.N[ni]?=some n)(hlo:X.env.scope.names.lookup n=some .local)
  (hs:∀ea C dc ox H' s2,Ex (.ref C) ox H'->(ox=none∨ox=dc)->H' ea=none->Inv (DL.hand X ea) π (σ.set ni (some (.ref ea))) (upd H' ea (.ext (wR ea C dc))) s2 ->
   O7 (O2 X.prog X.w) (X.A.mark (some (.ref ea))) (execs (ba::suite) X.env) (SP (DL.hand X ea) π { nx:=λσ' H=>D.nx (σ'.set ni none) H,rt:=D.rt,bk:=λσ' H=>D.bk (σ'.set ni none) H,ct:=λσ' H=>D.ct (σ'.set ni none) H }) (λ_ _=>False) s2)
  (hdb:(c==("__debug__" : OG))=false:=by decide) :
  O7 (O2 X.prog X.w) X.A (noteFrame ev X.env) (λ_ si=>O7 (O2 X.prog X.w) X.A (setFlight ev none) (λ_ sj=>
   O7 (O2 X.prog X.w) X.A (handleBy ev X.env (.ExceptHandler (some (.Name c np)) (some n) (ba::suite) hpos::rest)) (SP X π D) X.xe sj) X.xe si) X.xe s':=by
 obtain⟨ea,C,a0,B,H',rfl,os,bare,un,hok,hne,fl,hB,ox,⟨dc,hdc,hox⟩,hE⟩:=h;have hA:X.A.frames=some (X.env::X.outer):=by rw[←hstk.1];exact I.ok.frames
 have fl0:=fl;rw[hstk.1]at fl;have hf1:∀b∈iS X.stack,H' b=none:=λb hb=>by
  obtain⟨_,o,ho,_⟩:=I.stack.mem hb;exact un.free b o ho (I.stkFree b hb) (by simp)
 have hnew:s1.heap.get? ea=none:=by
  cases q:s1.heap.get? ea with
  |none=>rfl
  |some o=>
   by_cases hb:ea∈iS X.stack
   .obtain⟨_,o',ho',hd⟩:=fl0.2.2.1.mem hb
    obtain⟨oe,vs,he,_,hd',_⟩:=fl0.first
    rw[ho']at he;cases he;exact absurd hd' (hd vs)
   .obtain⟨u,hu⟩:=hB ea hb (.inr ⟨o,q⟩)
    rw[fl.2.1]at hu;cases hu
 have inv:∀g,B.StaysIn g->s'.heap.UpToSlots g->Inv X π σ H' { s' with heap:=g }:=λg k up=>
  I.call' (ch:=[]) os (Un.fly un fl0.1 fl0.2.2.1 hB k up) (ip.fly hok hf1 fl0.1 hB k) bare (λ_ z=>nomatch z)
 have invx:∀g,B.StaysIn g->s'.heap.UpToSlots g->wR ea C dc g->Inv X π σ (upd H' ea (.ext (wR ea C dc))) { s' with heap:=g }:=λg k up p=>
  I.call' (ch:=[]) os (Un.ext (Un.fly un fl0.1 fl0.2.2.1 hB k up) hne hnew) (ip.ext (ip.fly hok hf1 fl0.1 hB k) hne p (let ⟨o,_,e,_⟩:=p;⟨o,e⟩) A9) bare (λ_ z=>nomatch z)
 refine v7 hA hstk.2 fl hdc λh4 held4 up4 dc4=>?_;refine wa held4 dc4 λh5 fl5 up5 dc5=>?_;have I5:Inv (DL.hand X ea) π σ H' { s' with heap:=h5 }:=Inv.hand (inv h5 fl5.1 (up4.trans up5));refine wpAny_handleBy_cons (codeAny_handlers_test ?_) (by intro q;cases q);refine iT I5 hg hm ?_ hdb;obtain⟨ob,hob,hoc⟩:=fl5.there;have LT:R6 (O2 X.prog X.w) h5 (typeOf (.ref ea)) (.ref C):=hoc▸(R6.ld hob).andThen .now;refine(W.exm_one I5.kIn LT (hx C ox H' hE)).here ?_;refine codeAny_handlers_suite_as ?_;refine wc fl5 dc5 λh6 fl6 up6 dc6=>?_;obtain⟨oe,vs,he,hc,hd,_⟩:=fl6.first
 have I6:Inv (DL.hand X ea) π σ (upd H' ea (.ext (wR ea C dc))) { s' with heap:=h6 }:=Inv.hand (invx h6 fl6.1 ((up4.trans up5).trans up6) ⟨oe,vs,he,hc,hd,(by obtain⟨o6,e6,d6,_⟩:=dc6;rw[he]at e6;cases e6;exact d6)⟩);refine iB (X:=DL.hand X ea) (v:=.ref ea) I6 hN hi (.inl hlo) rfl (λs7 I7=>?_) (.inr hlo);refine PN (hs ea C dc ox H' s7 hE hox hne I7) (λf s8 h8=>?_) λ_ _ z=>z.elim;have hcls:(X.env.scope.kind==.class||(X.env.scope.kind==.module&&X.env.locals != X.env.globals))=false:=by rw[I.ok.kind];rfl
 have fin:∀{σ':L2.St}{H2:Hp}{Q:Unit->OI->Prop},Inv (DL.hand X ea) π σ' H2 s8->(∀s9,Inv X π (σ'.set ni none) H2 s9->Q () s9) ->
   O7 (O2 X.prog X.w) X.A (do bindName X.env n .none;unbindBehindTheSuite X.env n hpos) Q X.xe s8:=λ{σ' H2 Q} J q=>by
  have J':=iQ I.ok J;obtain⟨m,hn,hl⟩:=id J'.loc;exact wpAny_nameGoes_keeps hlo hn hcls λh' v hn' hs'=>q _ (Et J' hN hi hl hn' hs')
 cases f with|next=>obtain⟨σ',H2,J,q⟩:=h8;exact fin J λs9 J9=>⟨_,H2,J9,q⟩|brk=>obtain⟨σ',H2,J,q⟩:=h8;exact fin J λs9 J9=>⟨_,H2,J9,q⟩|cont=>obtain⟨σ',H2,J,q⟩:=h8;exact fin J λs9 J9=>⟨_,H2,J9,q⟩|ret u=>obtain⟨v,σ',H2,J,r,q⟩:=h8;exact fin J λs9 J9=>⟨v,_,H2,J9,r,q⟩
end
def PA.nox{X:Cx}{es:List Pl}{t:TA}(h:PA X.nox es t):PA X es t:=λpos π s σ H Q I hw=>
 PN (h pos π s σ H Q (I.wish _) hw) (λ_ _ ⟨v,H',I',r,q⟩=>⟨v,H',I'.unwish,r,q⟩) λ_ _ z=>PQ z
section
variable {X:Cx}{π:List (OE×Obj)}{σ:L2.St}{H:Hp}{s:OI}{CX:tH}{k:Nat}{f:OE}{fd:Pz}{ps:ci}{sp:Sp}{Ex:XK}{x:OG}{p pos:Pos}{e:Pl}{es:List Pl}{t:TA}
def uQ{Q:VK}{XE:OB->OI->Prop}(F:gq X.prog X.w X.K X.mg X.base CX k f fd ps sp)(hr:dA k X.A)(hg:Gl X x)(hm:X.mg x=some (.ref f))(hk:Rc X.K (.ref f)=true)(hb:gk X.K fd ps [])(ha:PA X.nox (e::es) t)
  (I:Inv X π σ H s)(h:t σ H λvs H1=>sp vs H1 Q Ex)(hx:∀H1 s1 e s',Inv X π σ H1 s1->CX X.stack H1 s1 Ex e s'->XE e s')
  (hdb:(x==("__debug__" : OG))=false:=by decide)(he:OJ (e::es) X.env=(false,eval e X.env)::OJ es X.env:=by exact aJ rfl)(hpl:(PK pos (OJ es X.env)).any (·.1)=false:=by exact bA rfl) :
  O7 (O2 X.prog X.w) X.A (eval (.Call (.Name x p) (e::es) [] pos) X.env) (EP X π σ Q) XE s:=by
 refine wpAny_Call_Name_kw (iT I hg hm ?_ hdb);have ha':PA (X.wish XE) (e::es) t:=PA.nox (X:=X.wish XE) ha;refine W.callWith_K (h₀:=X.base) I.ok.mod.kin hk (dB (ha' pos π s σ H _ (I.wish XE) h) λus s1 z9=>?_) he hpl;obtain⟨vs,H1,I1,r,q⟩:=z9;refine⟨I1.unwish.kIn,?_⟩;have I1:=I1.unwish;have hl:us.length=ps.length:=by rw[←r.length];exact F.len _ _ _ _ q
 have hb1:=hb s1 us I1.kIn (by simpa using hl);rw[QN]at hb1;refine wpAny_call (codeAny_mono (F.run X.A X.stack s1 H1 ⟨us,[]⟩ us vs Q Ex hr I1.env0 hb1 r q) λr s' hq=>?_);cases r with
 |error e=>exact hx H1 s1 e s' I1 hq
 |ok fl=>
  cases fl with|ret u=>exact I1.after hq|next|brk|cont=>exact PQ hq
end
def lL(K:OH)(He η Ha:Hp)(r:ak Fl)(D:ic):Prop:=match r with
 |.exn _=>True
 |r=>du K E0 He η Ha r D
def K6(K:OH)(He η Ha:Hp)(σ:L2.St)(ρ:Ev)(r:ak Fl):XK:=λC ox H'=>∃x Ha',r=.exn x/\aG Ha Ha'/\gu K He η Ha' σ H' ρ/\wQ K Ha' x C ox
structure TB (X:Cx) (st:Qe) (g:bv):Prop where
 o:∀(π:List (OE×Obj)) (s:OI) (σ:L2.St) (H He η Ha:Hp) (ρ:Ev) (D:ic) (XE:OB->OI->Prop),Inv X π σ H s->gu X.K He η Ha σ H ρ->lL X.K He η Ha (g ρ) D ->
  (∀H1 s1 e s',Inv X π σ H1 s1->kj X.prog X.w X.stack H1 s1 (K6 X.K He η Ha σ ρ (g ρ)) e s'->XE e s')->O7 (O2 X.prog X.w) X.A (exec st X.env) (SP X π D) XE s
def ko(i:Nat)(fa:Ev->ak (ac))(m:ac->ak D):bv:=λρ=>match fa ρ with
 |.ok ds=>(m ds).bind λd=>.ok (.nx (ρ.set i (.sh d)))
 |_=>.stuck
section
variable {X:Cx}{E:XK}{e:Pl}{es:List Pl}{fa:Ev->ak (ac)}{pos:Pos}
def IE{i:Nat}{y:OG}{pos':Pos}{k n:Nat}{fn:OE}{fd:Pz}{ps:ci}{m:ac->ak D}{x:OG}{p cpos:Pos}(hN:X.N.Nodup)(hi:X.N[i]?=some y)(hy:zS X.env.scope y)
  (F:gq X.prog X.w X.K X.mg X.base (kj X.prog X.w) k fn fd ps (spD X.K n m))(hr:dA k X.A)(hg:Gl X x)(hm:X.mg x=some (.ref fn))
  (hk:Rc X.K (.ref fn)=true)(hb:gk X.K fd ps [])(ha:DA X.nox E0 (e::es) fa)(hn:(e::es).length=n:=by rfl)(hl:∀ρ ds,fa ρ=.ok ds->ds.length=(e::es).length)
  (hdb:(x==("__debug__" : OG))=false:=by decide)(he:OJ (e::es) X.env=(false,eval e X.env)::OJ es X.env:=by exact aJ rfl)(hpl:(PK cpos (OJ es X.env)).any (·.1)=false:=by exact bA rfl)
  (hs:P9 (.Call (.Name x p) (e::es) [] cpos) (some (.Name y pos')) pos.line X.env=pure false:=by rfl)
  (hf:X.fn y=true∨X.env.scope.names.lookup y=some .local := by first|exact .inl rfl|exact .inr rfl|assumption):TB X (.Assign [.Name y pos'] (.Call (.Name x p) (e::es) [] cpos) pos) (ko i fa m):=by
 refine⟨λπ s σ H He η Ha ρ D XE I h q hx=>?_⟩;refine wpAny_Assign_Name (dB (uQ (Q:=λv H1=>D.nx (σ.set i (some v)) H1) F hr hg hm hk hb ha.o I ?_ hx hdb he hpl) λv s1 ⟨y,H1,I1,r1,q1⟩=>?_) hs
 .refine⟨Ha,ρ,h.g.sub,h.rd,?_⟩
  unfold ko at q ⊢;cases e1:fa ρ with
  |stuck=>rw[e1]at q;exact q|exn x=>rw[e1]at q;exact q.elim
  |ok ds=>
   rw[e1]at q;intro vs H1 H01 g1 r1;refine⟨?_,H01,ds,g1.sub,r1,?_⟩
   .have:=r1.length
    have:=hl ρ ds e1;omega
   .show post _ _ _ _ (m ds) _
    cases e2:m ds with
    |stuck=>simp only[e2]at q;exact q
    |exn x=>exact λC ox H' Ha' g ex=>⟨x,Ha',by simp only[e2];rfl,g1.z.trans g.z,h.grow (g1.trans g),ex⟩
    |ok d=>
     simp only[e2]at q;exact λv H' Ha' g rp=>q _ H' Ha' (g1.z.trans g.z) ((h.grow (g1.trans g)).put rp)
 .exact iB I1 hN hi hy r1 (λs2 I2=>⟨_,H1,I2,q1⟩) hf
def gu.drop{K:OH}{He η Ha H:Hp}{σ:L2.St}{ρ:Ev}(h:gu K He η Ha σ H ρ){i:Nat}:gu K He η Ha (σ.set i none) H (ρ.set i .no):=by
 have key:∀(j:Nat) (s:Sl),(ρ.set i .no)[j]?=some s->s≠.no->j≠i/\ρ[j]?=some s:=λj s e hs=>by
  by_cases hj:i=j
  .subst hj
   rw[Rx]at e;cases q:ρ[i]? with|none=>rw[q]at e;cases e|some s'=>rw[q]at e;cases e;exact absurd rfl hs
  .rw[OW hj]at e
   exact⟨λz=>hj z.symm,e⟩
 refine⟨h.g,λj d' e=>?_,λj d' e=>?_,λj k d1 d2 hn e1 e2=>?_,by simp[h.ln],h.ex.upd (λj s e=>?_) (aG.refl _) (λa vs _ e=>e) λp us _ h0 hp _=>⟨hp,h0⟩⟩
 rotate_left 3
 .by_cases hs:s=.no
  .exact .inr (.inr (.inl hs))
  .obtain⟨hj,e'⟩:=key j s e hs
   exact .inl ⟨e',by rw[OW (Py hj)]⟩
 .obtain⟨hj,e'⟩:=key j _ e (by simp)
  obtain⟨v',h1,h2⟩:=h.rd j d' e';exact⟨v',by rw[OW (Py hj)];exact h1,h2⟩
 .obtain⟨hj,e'⟩:=key j _ e (by simp)
  obtain⟨a,h1,h2⟩:=h.ow j d' e';exact⟨a,by rw[OW (Py hj)];exact h1,h2⟩
 .obtain⟨hj,e1'⟩:=key j _ e1 (by simp)
  obtain⟨hk,e2'⟩:=key k _ e2 (by simp);rw[OW (Py hj),OW (Py hk)];exact h.ap j k d1 d2 hn e1' e2'
def AI(ni:Nat)(r:Fl):ak Fl:=match r with
 |.nx ρ=>.ok (.nx (ρ.set ni .no))
 |.rt d=>.ok (.rt d)
 |.bk ρ=>.ok (.bk (ρ.set ni .no))
 |.ct ρ=>.ok (.ct (ρ.set ni .no))
def oG(x:Ij):D:=match x.flds with
 |[]=>.exc x.cls
 |f::fs=>if((f::fs).map (·.1)).Nodup then .ob (.exf x.cls ((f::fs).map (·.1))) ((f::fs).map (·.2)) else .exc x.cls
theorem sE{β:Type}:∀{l:List (OG×β)}{f:OG}{d:β},(l.map (·.1)).Nodup->(f,d)∈l->l.lookup f=some d
 |(g,e)::l,f,d,nd,h=>by
  rw[PC,QK]at nd;rcases O4.mp h with h|h
  .cases h;rw[Qo,beq_self_eq_true]
  .have:f≠g:=λz=>nd.1 (z▸PM.mpr ⟨(f,d),h,rfl⟩)
   rw[Qo,beq_eq_false_iff_ne.mpr this];exact sE nd.2 h
theorem vX{K:OH}{H:Hp}{fs:List (OG×V)}:∀(l:List (OG×D)),(∀n d,(n,d)∈l->∃v,fs.lookup n=some v/\Rep K H d v)->∃vs,Reps K H (l.map (·.2)) vs/\l.length=vs.length/\∀(i:Nat) (f:OG) (v:V),(l.map (·.1))[i]?=some f->vs[i]?=some v->fs.lookup f=some v
 |[],_=>⟨[],Reps.nil_iff.mpr rfl,rfl,λi f v e=>by simp at e⟩
 |(n,d)::l,h=>by
  obtain⟨v,h1,h2⟩:=h n d Pe;obtain⟨vs,h3,h4,h5⟩:=vX l λn d hm=>h n d (OT _ hm);refine⟨v::vs,aD.mpr ⟨v,vs,rfl,h2,h3⟩,by simp[h4],λi f w e1 e2=>?_⟩;cases i with|zero=>simp at e1 e2;rw[←e1,←e2];exact h1|succ i=>exact h5 i f w (by simpa using e1) (by simpa using e2)
def Dx{K:OH}{H:Hp}{x:Ij}{C ea:OE}{ox dc:Option OE}(xc:XC K x.cls C)(ex:wQ K H x (.ref C) ox)(hox:ox=none∨ox=dc)(hne:H ea=none):Rep K (upd H ea (.ext (wR ea C dc))) (oG x) (.ref ea):=by
 have plain:Rep K (upd H ea (.ext (wR ea C dc))) (.exc x.cls) (.ref ea):=gX.mpr ⟨ea,C,dc,rfl,xc,.inl ay⟩;have sm:aG H (upd H ea (.ext (wR ea C dc))):=λb o q=>by rw[av (bo q hne)];exact q
 obtain⟨cls,flds⟩:=x;unfold oG;cases flds with
 |nil=>exact plain
 |cons f fs=>
  show Rep _ _ (if((f::fs).map (·.1)).Nodup then D.ob (.exf cls ((f::fs).map (·.1))) ((f::fs).map (·.2)) else .exc cls) _
  by_cases nd:((f::fs).map (·.1)).Nodup
  .rw[if_pos nd]
   obtain⟨_,hm⟩:=ex;cases ox with
   |none=>cases hm
   |some a=>
    obtain⟨gs,h1,h2⟩:=hm;have hdc:dc=some a:=by
     rcases hox with z|z
     .cases z
     .exact z.symm
    obtain⟨vs,k1,k2,k3⟩:=vX (K:=K) (H:=H) (fs:=gs) (f::fs) λn d hmm=>h2 n d (sE nd hmm);exact cz.mpr ⟨ea,vs,rfl,⟨C,a,gs,xc,hdc▸.inl ay,sm _ _ h1,by rw[OD];exact k2,k3⟩,k1.mono sm⟩
  .rw[if_neg nd];exact plain
def xm(g:bv)(hit:OG->Bool)(ni:Nat)(sh:bv):bv:=λρ=>match g ρ with
 |.exn x=>if hit x.cls=true then(sh (ρ.set ni (.sh (oG x)))).bind (AI ni) else .stuck
 |r=>r
def DR{He η:Hp}{st ba:Qe}{suite:List Qe}{g sh:bv}{hit:OG->Bool}{ni:Nat}{c n:OG}{np hpos:Pos}{cv:OB}(hstk:X.stack=X.env::X.outer/\X.env.frame=some X.env.locals)(hb:TB X st g)
  (hg:Gl X c)(hm:X.mg c=some cv)(hhit:∀x C,hit x=true->XC X.K x C->SR X.K (.ref C) cv=some true)(hN:X.N.Nodup)(hi:X.N[ni]?=some n)(hlo:X.env.scope.names.lookup n=some .local)
  (hh:∀ea,yt (DL.hand X ea) E He η (ba::suite) sh)(hdb:(c==("__debug__" : OG))=false:=by decide) :
  DS X E He η (.Try [st] [.ExceptHandler (some (.Name c np)) (some n) (ba::suite) hpos] [] [] pos) (xm g hit ni sh):=by
 refine⟨?_⟩;intro π s σ H D I ⟨Ha,ρ,h,q⟩;have hq:lL X.K He η Ha (g ρ) D:=by
  unfold xm at q;cases e1:g ρ with
  |exn x=>trivial|stuck=>rw[e1]at q;exact q
  |ok r=>rw[e1]at q;cases r<;>exact q
 refine wpAny_Try_except (wpAny_execs_cons (dB (hb.o π s σ H He η Ha ρ D _ I h hq λH1 s1 e s' I1 hc=>?_) λf s1 hf=>?_))
 .have hit1:∀x,g ρ=.exn x->hit x.cls=true:=λx e1=>by
   unfold xm at q;rw[e1]at q
   by_cases z:hit x.cls=true
   .exact z
   .simp only[if_neg z]at q;exact q.elim
  refine Kr hstk I1 hc hg hm (λC ox H' ⟨x,Ha',e1,_,_,⟨⟨c',ec,xc⟩,_⟩⟩=>?_) hN hi hlo (λea C dc ox H' s2 ⟨x,Ha',e1,sm,srx,⟨⟨c',ec,xc⟩,hm2⟩⟩ hox hne I2=>?_) hdb
  .cases ec;exact hhit _ _ (hit1 x e1) xc
  .cases ec
   refine(hh ea).o π s2 _ _ _ I2 ⟨upd Ha' ea (.ext (wR ea C dc)),ρ.set ni (.sh (oG x)),(srx.grow (aS srx.g.sub hne)).put (Dx xc ⟨⟨C,rfl,xc⟩,hm2⟩ hox (srx.g.sub.free hne)),?_⟩;have sm2:aG Ha (upd Ha' ea (.ext (wR ea C dc))):=sm.trans (aS srx.g.sub hne).z;unfold xm at q;rw[e1]at q;simp only[if_pos (hit1 x e1)]at q;cases e2:sh (ρ.set ni (.sh (oG x))) with
   |stuck|exn z=>rw[e2]at q;exact q
   |ok r=>
    rw[e2]at q;cases r with|nx ρ'=>exact λσ' H2 H02 s2 h2=>q _ H2 H02 (sm2.trans s2) (gu.drop h2)|rt d=>exact q|bk ρ'=>exact λσ' H2 H02 s2 h2=>q _ H2 H02 (sm2.trans s2) (gu.drop h2)|ct ρ'=>exact λσ' H2 H02 s2 h2=>q _ H2 H02 (sm2.trans s2) (gu.drop h2)
 .cases f with
  |next=>exact wpAny_execs_nil (wpAny_execs_nil hf)
  |brk=>exact hf
  |cont=>exact hf
  |ret u=>exact hf
end
structure MG (k:Nat) (A:Px):Prop where
 dp:A.depth+3*k+5<recursionLimit
 un:A.units+16*k+200<Sm
def dA.h{k:Nat}{A:Px}(r:dA k A):MG k A:=⟨r.dp,r.un⟩
def qI(tab:OG->Option Bool)(x:D):ak D:=match x with
 |.exc c=>(match tab c with
  |some b=>.ok (.bl b)
  |none=>.stuck)
 |.ob (.exf c _) _=>(match tab c with
  |some b=>.ok (.bl b)
  |none=>.stuck)
 |_=>.stuck
def oq(K:OH)(tab:OG->Option Bool)(cv:OB):Prop:=∀c C b,tab c=some b->XC K c C->Ul K (.ref C) cv=some b
section
variable {X:Cx}{E:XK}{e a:Pl}{es:List Pl}{f:am}{pos:Pos}{tab:OG->Option Bool}
def Gf{cV:V}{cv:OB}(hrel:∀u,bX cV u->u=cv)(ht:oq X.K tab cv):jH X (.builtin "isinstance") (λvs H Q=>∃c v b,vs=[v,cV]/\Rep X.K H (.exc c) v/\tab c=some b/\Q (.bl b) H):=by
 intro π s σ H xs us Q I r h;obtain⟨c,v,b,rfl,h1,h2,q⟩:=h;cases r with
 |cons r1 r2=>
  cases r2 with
  |cons r3 r4=>
   cases r4;rename_i u1 u2;obtain rfl:=hrel _ r3;obtain⟨ad,C,dc,rfl,hc,hr⟩:=gX.mp h1;cases (show u1=Pq ad from r1);obtain⟨p,_,_⟩:=hr.ok I.hok;exact Qn (qj hc.ek hc.ek.isCls) I.kIn p (ht c C b h2 hc) (λz=>nomatch z) λtk=>⟨.bl b,H,I.tok _,rfl,q⟩
def Df{cV:V}{σ:L2.St}{H:Hp}{Q:VK}(h:tD X.K E (bc f (qI tab)) σ H Q):tD X.K E f σ H λv H1=>∃c v' b,[v,cV]=[v',cV]/\Rep X.K H1 (.exc c) v'/\tab c=some b/\Q (.bl b) H1:=by
 obtain⟨Ha,ρ,hs,hr,q⟩:=h;refine⟨Ha,ρ,hs,hr,?_⟩;unfold bc at q;cases e1:f ρ with
 |stuck|exn x=>rw[e1]at q;exact q
 |ok d=>
  rw[e1]at q;intro v H1 H01 g1 r1;have q:post X.K E H Ha (qI tab d) Q:=q;cases d with
  |exc c=>
   unfold qI at q;cases e2:tab c with|none=>simp only[e2]at q;exact q.elim|some b=>simp only[e2]at q;exact⟨c,v,b,rfl,r1.mono g1.sub,e2,q _ H1 H01 g1 (rb _)⟩
  |ob k ds=>
   cases k with
   |exf c ks=>
    replace r1:=r1.exf_exc;unfold qI at q;cases e2:tab c with|none=>simp only[e2]at q;exact q.elim|some b=>simp only[e2]at q;exact⟨c,v,b,rfl,r1.mono g1.sub,e2,q _ H1 H01 g1 (rb _)⟩
   |_=>exact q.elim
  |_=>exact q.elim
def D7{x:OG}{p1 p2:Pos}{cV:V}{cv:OB}(hrel:∀u,bX cV u->u=cv)(ht:oq X.K tab cv)(hc:PE X (.Name x p2) (tC cV))(hgi:Gl X "isinstance")(hmi:X.mg "isinstance"=none)(ha:DE X E a f)
  (he:OJ [a,.Name x p2] X.env=(false,eval a X.env)::OJ [.Name x p2] X.env:=by exact aJ rfl)(he2:OJ [.Name x p2] X.env=(false,eval (.Name x p2) X.env)::OJ [] X.env:=by exact aJ rfl)(hpl:(PK pos (OJ [.Name x p2] X.env)).any (·.1)=false:=by exact bA rfl) :
  DE X E (.Call (.Name "isinstance" p1) [a,.Name x p2] [] pos) (bc f (qI tab)):=by
 refine⟨?_⟩;exact bb (pS (Gf hrel ht) hgi hmi PyProof.Rows.Boot.«isinstance» (cF ha.o (cF hc dR he2) he) (by decide) (by decide) he hpl) λσ H Q h=>Df h
def Bc{x:OG}{p1 p2:Pos}{C:OE}(hg:Gl X x)(hm:X.mg x=some (.ref C))(ht:oq X.K tab (.ref C))(hgi:Gl X "isinstance")(hmi:X.mg "isinstance"=none)(ha:DE X E a f)(hdb:(x==("__debug__" : OG))=false:=by decide)
  (he:OJ [a,.Name x p2] X.env=(false,eval a X.env)::OJ [.Name x p2] X.env:=by exact aJ rfl):DE X E (.Call (.Name "isinstance" p1) [a,.Name x p2] [] pos) (bc f (qI tab)) :=
 D7 (cV:=.ref C) (λu h=>h) ht (yM hg hm rfl hdb) hgi hmi ha he
def Bd{x:OG}{p1 p2:Pos}{T:String}(hg:Gl X x)(hm:X.mg x=none)(hv:bootBuiltins x=some (.type T))(ht:oq X.K tab (.type T))(hgi:Gl X "isinstance")(hmi:X.mg "isinstance"=none)(ha:DE X E a f)(hn:x≠"__name__":=by decide)(hdb:(x==("__debug__" : OG))=false:=by decide)
  (he:OJ [a,.Name x p2] X.env=(false,eval a X.env)::OJ [.Name x p2] X.env:=by exact aJ rfl):DE X E (.Call (.Name "isinstance" p1) [a,.Name x p2] [] pos) (bc f (qI tab)) :=
 D7 (cV:=.ty T) (λu h=>h) ht (yP hg hm hv rfl hn hdb) hgi hmi ha he
end
end DL
namespace DL
open PySem PySem.Spec PyProof.Rows L2 PySem.W
structure mW (K:Frag) (x:OG) (C:OE):Prop where
 ns:nsIn K O6 x=some (some (.ref C))
 ty:typeIn K (.ref C)=some (.type "type")
 ob:mroIn K C (.type "object")=some true
 be:subIn K (.ref C) (.type "BaseException")=some true
def mW.isCls{K:Frag}{x:OG}{C:OE}(Z:mW K x C):(clsIn K C).isSome=true:=by
 obtain⟨cd,a,b⟩:=TN.mp Z.ob;rw[a];rfl
def mW.kitCls{K:Frag}{x:OG}{C:OE}(Z:mW K x C){t:OB}:W.kitCls K t (.ref C)=subIn K t (.ref C):=by
 show(if((clsIn K C).isSome&&typeIn K (.ref C)==some (.type "type"))=true then subIn K t (.ref C) else none)=_;rw[Z.isCls,Z.ty];rfl
def mW.exm{K:Frag}{x:OG}{C:OE}(Z:mW K x C){t:OB}{b:Bool}(h:subIn K t (.ref C)=some b):exmOne K t (.ref C)=some b:=by
 unfold exmOne;rw[Z.be,if_pos (by decide),Z.kitCls,h]
def mW.kit{K:Frag}{x:OG}{C R:OE}(Z:mW K x C){b:Bool}(hR:subIn K (.ref R) (.ref R)=some true)(h:subIn K (.ref R) (.ref C)=some b):kitOne K (.ref R) (.ref C)=some b:=by
 unfold kitOne
 by_cases e:(Pq R==Pq C)=true
 .rw[if_pos e]
  cases (Pq.inj (beq_iff_eq.mp e));rw[←hR,h]
 .rw[if_neg e,Z.kitCls,h]
def xM{K:Frag}{C:OE}{T:String}{b:Bool}(hm:kitMeta T=true)(h:subIn K (.ref C) (.type T)=some b):kitOne K (.ref C) (.type T)=some b:=by
 unfold kitOne;rw[if_neg (by intro z;cases beq_iff_eq.mp z)];show(if kitMeta T=true then subIn K (.ref C) (.type T) else none)=_;rw[if_pos hm,h]
def nW:∀T∈ia,kitMeta T=true:=by decide +kernel
def xN:kitMeta "ValueError"=true:=by decide +kernel
def XC.inj{K:Frag}{x:OG}{C C':OE}(a:XC K x C)(b:XC K x C'):C=C':=by
 have:=a.ns.symm.trans b.ns;simpa using this
def l8:List (OG×Bool)->OG->Option Bool
 |[],_=>none
 |(x,b)::r,c=>if x=c then some b else l8 r c
theorem ji{K:Frag}{p:OG->OE->Bool->Prop}:∀{l:List (OG×Bool)},(∀q∈l,∃C,XC K q.1 C/\p q.1 C q.2)->∀c C b,l8 l c=some b->XC K c C->p c C b
 |[],_,c,C,b,h,_=>by cases h
 |(x,v)::r,H,c,C,b,h,xc=>by
  unfold l8 at h
  by_cases e:x=c
  .subst e
   rw[if_pos rfl]at h;cases h;obtain⟨C',xc',q⟩:=H _ Pe;obtain rfl:=XC.inj xc xc';exact q
  .rw[if_neg e]at h
   exact ji (λq hq=>H q (OT _ hq)) c C b h xc
def jB(l:List (OG×Bool))(c:OG):Bool:=l8 l c==some true
def Dj{K:Frag}{l:List (OG×Bool)}{cv:OB}(H:∀q∈l,∃C,XC K q.1 C/\exmOne K (.ref C) cv=some q.2):∀x C,jB l x=true->XC K x C->exmOne K (.ref C) cv=some true:=λx C h xc=>
 ji (p:=λ_ C b=>exmOne K (.ref C) cv=some b) H x C true (by unfold jB at h;exact beq_iff_eq.mp h) xc
end DL
namespace Com
open PySem L2 DL
section
variable {α β:Type}
def iH{x:Ij}{f:α->ak β}:(ak.exn x:ak α).bind f=.exn x:=bp rfl
end
def BI(hit:OG->Bool)(ni:Nat)(sh:bv)(ρ:Ev)(r:ak Fl):ak Fl:=match r with
 |.exn x=>if hit x.cls=true then(sh (ρ.set ni (.sh (oG x)))).bind (AI ni) else .stuck
 |r=>r
def xY{g:bv}{hit:OG->Bool}{ni:Nat}{sh:bv}{ρ:Ev}:xm g hit ni sh ρ=BI hit ni sh ρ (g ρ):=bp rfl
def Gr{hit:OG->Bool}{ni:Nat}{sh:bv}{ρ:Ev}{r:Fl}:BI hit ni sh ρ (.ok r)=.ok r:=bp rfl
def DB{ni:Nat}{ρ:Ev}:AI ni (.nx ρ)=.ok (.nx (ρ.set ni .no)):=bp rfl
def HB(i:Nat)(m:ac->ak D)(ρ:Ev)(r:ak (ac)):ak Fl:=match r with
 |.ok ds=>(m ds).bind (Fn i ρ)
 |_=>.stuck
def iZ{i:Nat}{fa:Ev->ak (ac)}{m:ac->ak D}{ρ:Ev}:ko i fa m ρ=HB i m ρ (fa ρ):=bp rfl
def gS{i:Nat}{m:ac->ak D}{ρ:Ev}{ds:ac}:HB i m ρ (.ok ds)=(m ds).bind (Fn i ρ):=bp rfl
end Com
namespace DL
open PySem PySem.Spec PyProof.Rows L2
section
variable {X:Cx}{π:List (OE×Obj)}{σ:L2.St}{H:Hp}{s:OI}{h':OY}
def z6{t':Nat}{fp:List OE}{T:OE}{xs:al}(I:Inv X π σ H s)(k:∀b o,b∉fp->s.heap.get? b=some o->h'.get? b=some o)(hf:∀b∈fp,nK X π H b)(hT:s.heap.objs.size<=T)
  (new:dq X.prog X.w (upd H T (.tup xs)) h' T (.tup xs)):Inv X π σ (upd H T (.tup xs)) { s with heap:=h',toks:=t' }:=by
 have hn:H T=none:=I.hok.fresh hT;have nit:∀b u,H b=some u->b∉fp:=λb u e z=>by rw[(hf b z).1]at e;cases e
 refine I.step (g':=s.gens) (d':=s.drawn) (ch:=fp) (λb hb=>?_) (λb o _ _ hc e _=>k b o hc e) (λb o _ _ hc e _=>⟨o.slots,k b o hc e⟩) (λb o _ e n=>?_)
  (λb o hc e=>⟨o,k b o hc e⟩) (λb xs e=>by rw[av (bo e hn)];exact e) (λb o u e=>by rw[av (bo e hn)];exact e) (λb ps e=>⟨#[],by rw[av (bo e hn),e];simp⟩) (λm hm=>?_) (λb u e=>?_) I.bare
 .obtain⟨_,f1,_,f3,f4,f5⟩:=hf b hb
  exact⟨f3,f1,f4,f5⟩
 .rw[av (Po (OS (O1 e) hT))];exact n
 .obtain⟨o,es,ep,ho,r⟩:=hm
  exact⟨o,es,ep,k _ o (λz=>(hf _ z).2.1 rfl) ho,r⟩
 .by_cases hb:b=T
  .subst hb;rw[ay]at e;cases e;exact new
  .rw[av hb]at e
   refine(I.hok b u e).stay (λc v hc q=>k c v ?_ q) (λc q=>by rw[av (bo q hn)];exact q) λc xs q=>by rw[av (bo q hn)];exact q
   rcases hc with z|z
   .rw[z];exact nit b u e
   .exact nit c _ z
def E5{t':Nat}{fp:List OE}(I:Inv X π σ H s)(k:∀b o,b∉fp->s.heap.get? b=some o->h'.get? b=some o)(hf:∀b∈fp,nK X π H b):Inv X π σ H { s with heap:=h',toks:=t' }:=by
 have nit:∀b u,H b=some u->b∉fp:=λb u e z=>by rw[(hf b z).1]at e;cases e
 refine I.step (g':=s.gens) (d':=s.drawn) (ch:=fp) (λb hb=>?_) (λb o _ _ hc e _=>k b o hc e) (λb o _ _ hc e _=>⟨o.slots,k b o hc e⟩) (λb o _ e n=>n)
  (λb o hc e=>⟨o,k b o hc e⟩) (λb xs e=>e) (λb o u e=>e) (λb ps e=>⟨#[],by rw[e];simp⟩) (λm hm=>?_) (λb u e=>?_) I.bare
 .obtain⟨_,f1,_,f3,f4,f5⟩:=hf b hb
  exact⟨f3,f1,f4,f5⟩
 .obtain⟨o,es,ep,ho,r⟩:=hm
  exact⟨o,es,ep,k _ o (λz=>(hf _ z).2.1 rfl) ho,r⟩
 .refine(I.hok b u e).stay (λc v hc q=>k c v ?_ q) (λ_ q=>q) λ_ _ q=>q
  rcases hc with z|z
  .rw[z];exact nit b u e
  .exact nit c _ z
end
def N8(K:OH)(a:OE):It :=
 ⟨λi H=>∃xs x,gL K H a xs/\xs[i]?=some x,λi H x H'=>∃p y,H p=none/\x=.ref p/\(∀xs,gL K H a xs->xs[i]?=some y)/\H'=upd H p (.tup [.int i,y]),λi H=>∃xs,gL K H a xs/\xs.length<=i⟩
def z9{P:Pr}{w:PJ}{K:OH}{elts:List Pl}{k:Nat}{pos:Pos}(a it e:OE)(hne:e≠it)(hae:a≠e)(hai:a≠it) :
  Bo P w K (.Tuple elts k pos) (N8 K a) [e,it] e (λi h=>(∃old,IsEnum h e it i old)/\h.IsListIter it a i) where
 mem:=by simp
 obj:=λi h st b hb=>by
  obtain⟨⟨old,he⟩,o,h1,h2,h3⟩:=st;rcases O4.mp hb with rfl|hb
  .exact⟨_,he,λv z=>by cases z⟩
  .rcases O4.mp hb with rfl|hb
   .exact⟨o,h1,λv z=>by rw[h3]at z;cases z⟩
   .cases hb
 keep:=λi h h' st k=>by
  obtain⟨⟨old,he⟩,hi⟩:=st;exact⟨⟨old,k e (by simp) _ he⟩,hi.at λo y=>k it (by simp) o y⟩
 item:=by
  intro X hP hw hK hc i π s σ H E I hf st hg;subst hP hw hK;obtain⟨xs,x,hq,hx⟩:=hg;obtain⟨its,rv,p,hz⟩:=I.list hq;obtain⟨u,hu,ru⟩:=rv.get hx;have W:=WalksT.enumerate (prog:=X.prog) (w:=X.w) (I.ok.hd hc) e it a hne hae hai its.toArray;have hil:i<its.toArray.size:=by simpa using (OZ.mp hu).1
  refine W.item i s _ _ hil ⟨st.1,st.2,p.isList⟩ λT vals h' tk hPt hT hTup hMid hk=>?_;refine⟨_,rfl,W.go elts k pos i T _ _ _ hMid λh'' st'' hk''=>?_⟩;obtain⟨t,y,hy,rfl⟩:=hPt;have hyu:y=u:=by
   have:its[i]?=some y:=by simpa using hy
   rw[hu]at this;cases this;rfl
  subst hyu;obtain⟨o,ho,hr⟩:=hTup;have ho':=hk'' T o (W.apart i T _ hMid) ho;refine⟨.ref T,upd H T (.tup [.int i,x]),z6 (s:=s) (h':=h'') (t':=tk) I (λb o hb e=>hk'' b o hb (hk b o hb e)) hf hT ⟨by show 2<=sizeLine;decide,[.int i t,y],.cons ⟨t,rfl⟩ (.cons ru .nil),o,ho',hr⟩,rfl,⟨T,x,I.hok.fresh hT,rfl,λys hy=>by rw[I.list_inj hy hq];exact hx,rfl⟩,⟨st''.1,st''.2.1⟩,λb hb=>?_⟩;have hb0:=(hf b hb).1;obtain⟨ob,hob,_⟩:∃o,s.heap.get? b=some o/\∀v,o.data≠.cell v:=by
   obtain⟨⟨old,he⟩,o,h1,h2,h3⟩:=st;rcases O4.mp hb with rfl|hb
   .exact⟨_,he,λv z=>by cases z⟩
   .rcases O4.mp hb with rfl|hb
    .exact⟨o,h1,λv z=>by rw[h3]at z;cases z⟩
    .cases hb
  rw[av (Po (OS (O1 hob) hT))];exact hb0
 done:=by
  intro X hP hw hK hc i π s σ H E I hf st hg;subst hP hw hK;obtain⟨xs,hq,hx⟩:=hg;obtain⟨its,rv,p,hz⟩:=I.list hq;have hl:=rv.length;obtain⟨⟨old,he⟩,hi⟩:=st;exact wpAny_pyNext_enum_end (I.ok.hd hc) he hi p.isList (by simp;omega) λh' hx=>⟨rfl,E5 (t':=s.toks) I (λb o hb e=>hx b o (λz=>hb (by simp[z])) e) hf⟩
 self:=λ_ _ _ _ _ st h=>by
  obtain⟨⟨old,he⟩,_⟩:=st;exact wpAny_pyIter_enum he h
section
variable {X:Cx}{E:XK}{elts:List Pl}{k:Nat}{tp:Pos}{e a b:Pl}{f g:am}
def L7(K:OH)(ta:TA):TI:=λσ H R=>ta σ H λvs H1=>∃a,vs=[.ref a]/\(∃xs,gL K H1 a xs)/\R (N8 K a) H1
def FC{ta:TA}{p pos:Pos}(hg:Gl X "enumerate")(hm:X.mg "enumerate"=none)(ha:PA X [a] ta)(hs:OJ [a] X.env=[(false,eval a X.env)]:=by rfl):PI X (.Tuple elts k tp) (.Call (.Name "enumerate" p) [a] [] pos) (L7 X.K ta):=by
 intro π s σ H R I h;refine Call_ (qh I hg hm PyProof.Rows.Boot.«enumerate» (RN (dB (ha pos π s σ H _ I h) λus s1 z9=>?_) hs rfl));obtain⟨vs,H1,I1,r1,q1⟩:=z9;obtain⟨l,e,⟨xs,hq⟩,q⟩:=q1;subst e;cases r1 with
 |cons r rr=>
  cases rr;cases r;obtain⟨its,rv,p,hz⟩:=I1.list hq;have hlt:l<s1.heap.objs.size:=by obtain⟨o,n,e,_⟩:=p;exact O1 e
  refine call_enumerate_list p.isList λh' he hi hsz hk=>?_;refine wpAny_pyIter_enum he ?_;refine⟨s1.heap.objs.size+1,[s1.heap.objs.size+1,s1.heap.objs.size],_,_,H1,rfl,I1.kept (t':=s1.toks) hk,z9 l s1.heap.objs.size (s1.heap.objs.size+1) (Nat.succ_ne_self _) (Po (Nat.lt_succ_of_lt hlt)) (Po hlt),⟨⟨_,he⟩,hi⟩,λb hb=>?_,q⟩;have hb':s1.heap.objs.size<=b:=by
   rcases O4.mp hb with rfl|hb
   .omega
   .rcases O4.mp hb with rfl|hb
    .exact O3 _
    .cases hb
  exact I1.fpOk hb' (I1.hok.fresh hb')
def numbered(n:Nat):ac->ac
 |[]=>[]
 |d::ds=>.tup [.int n,d]::numbered (n+1) ds
theorem jK:∀(ds:ac) (n:Nat),(numbered n ds).length=ds.length
 |[],_=>rfl
 |d::ds,n=>by simp[numbered,jK ds]
theorem mj:∀(ds:ac) (n i:Nat),(numbered n ds)[i]?=(ds[i]?).map λd=>D.tup [.int (n+i:Nat),d]
 |[],_,_=>by simp[numbered]
 |d::ds,n,0=>by simp[numbered]
 |d::ds,n,i+1=>by simp only[numbered,Qb];rw[mj ds (n+1) i,show n+1+i=n+(i+1) by omega]
def BY(f:am):Ev->ak (ac):=λρ=>(f ρ).bind λd=>match d with
 |.lst ds=>.ok (numbered 0 ds)
 |_=>.stuck
def E7{K:OH}{H Ha:Hp}{p:OE}{vs:al}{ds:ac}(hs:aG Ha H)(hp:H p=none)(r:Reps K Ha ds vs):∃H₀2,br H Ha (upd H p (.tup vs)) H₀2/\Rep K H₀2 (.tup ds) (.ref p) :=
 ⟨upd Ha p (.tup vs),aS hs hp,aM.mpr ⟨p,vs,rfl,lA.of ay,r.mono (aS (o:=.tup vs) hs hp).z⟩⟩
def G7{p pos:Pos}(hg:Gl X "enumerate")(hm:X.mg "enumerate"=none)(h:DE X E a f)(hn:KH a=true:=by exact rfl):DI X E (.Tuple elts k tp) (.Call (.Name "enumerate" p) [a] [] pos) (BY f):=by
 refine⟨o3 (FC hg hm (cF h.o dR (jk hn)) (jk hn)) λσ H R z9=>?_⟩;obtain⟨Ha,ρ,hs,hr,q⟩:=z9;refine⟨Ha,ρ,hs,hr,?_⟩;unfold BY at q;cases e1:f ρ with
 |stuck|exn x=>rw[e1]at q;exact q
 |ok d=>
  rw[e1]at q;intro v H1 H01 g1 r1;cases d with
  |lst ds=>
   obtain⟨l,vs,rfl,hv,hrv⟩:=aF.mp r1;refine⟨l,rfl,⟨vs,aG.sqL g1.sub hv⟩,q _ H1 H01 g1 ⟨λi H' Ha' s1 s2 hi=>?_,λi H' Ha' x H2 d s1 s2 hd hy=>?_,λi H' Ha' s1 s2 hi=>?_⟩⟩
   .rw[jK]at hi
    exact⟨vs,vs[i]'(by rw[←hrv.length];exact hi),aG.sqL (s1.trans s2) hv,by simp⟩
   .obtain⟨p,y,hp,rfl,hy,rfl⟩:=hy
    rw[mj]at hd;cases ei:ds[i]? with
    |none=>rw[ei]at hd;cases hd
    |some d'=>
     rw[ei]at hd;cases hd;obtain⟨u,k1,k2⟩:=hrv.get ei;have:=hy vs (aG.sqL (s1.trans s2) hv);rw[k1]at this;cases this;exact E7 s2 hp (Reps.cons (az.mpr (by simp)) (Reps.cons (k2.mono s1) Reps.nil))
   .rw[jK]at hi
    exact⟨vs,aG.sqL (s1.trans s2) hv,by rw[←hrv.length];exact hi⟩
  |_=>exact q.elim
end
def nB(f:OG):ci->ac->Option D
 |k::ks,d::ds=>if f=k then some d else nB f ks ds
 |_,_=>none
theorem uG{K:OH}{H:Hp}{f:OG}:∀{ks:ci}{ds:ac}{vs:al}{d:D},ks.length=vs.length->Reps K H ds vs->nB f ks ds=some d->∃v,(ks.zip vs).lookup f=some v/\Rep K H d v/\f∈ks
 |[],ds,vs,d,_,_,h=>by unfold nB at h;cases h
 |k::ks,[],vs,d,_,_,h=>by unfold nB at h;cases h
 |k::ks,x::ds,vs,d,hl,r,h=>by
  obtain⟨v,r',rfl,r1,r2⟩:=aD.mp r;unfold nB at h
  by_cases c:f=k
  .rw[if_pos c]at h
   cases h;exact⟨v,by rw[Q5,Qo,beq_iff_eq.mpr c],r1,by rw[c];exact Pe⟩
  .rw[if_neg c]at h
   obtain⟨u,h1,h2,h3⟩:=uG (by simpa using hl) r2 h;exact⟨u,by rw[Q5,Qo,beq_eq_false_iff_ne.mpr c];exact h1,h2,OT _ h3⟩
def il(f:OG)(x:D):ak D:=match x with
 |.ob (.ins c ks) ds=>match nB f ks ds with
  |some d=>.ok d
  |none=>.stuck
 |_=>.stuck
section
variable {X:Cx}{E:XK}{e a b o:Pl}{es:List Pl}{fe fo:am}{fa:Ev->ak (ac)}{pos:Pos}
def gf{f:OG}(he:DE X E e fe)(hb:Qd e f X.env (eval e X.env)=eval e X.env:=by rfl):DE X E (.Attribute e f pos) (bc fe (il f)):=by
 refine⟨bb (CC he.o hb) λσ H Q z9=>?_⟩;obtain⟨Ha,ρ,hs,hr,q⟩:=z9;refine⟨Ha,ρ,hs,hr,?_⟩;unfold bc at q;cases e1:fe ρ with
 |stuck|exn x=>rw[e1]at q;exact q
 |ok d=>
  rw[e1]at q;intro v H1 H01 g1 r1;replace q:post X.K E H Ha (il f d) Q:=q;unfold il at q;cases d with
  |ob k ds=>
   cases k with
   |ins c ks=>
    replace q:post X.K E H Ha (match nB f ks ds with|some d=>ak.ok d|none=>.stuck) Q:=q;cases e2:nB f ks ds with
    |none=>rw[e2]at q;exact q.elim
    |some d=>
     rw[e2]at q;obtain⟨p,vs,rfl,⟨C,dx,h0,h1,h2,h3⟩,h4⟩:=cz.mp r1;obtain⟨u,k1,k2,k3⟩:=uG h3 h4 e2;exact⟨p,C,dx,_,u,rfl,g1.sub _ _ h2,h1.cls,h1.no f k3,k1,q u H1 H01 g1 k2⟩
   |_=>exact q.elim
  |_=>exact q.elim
def putAll:ci->al->List (OG×V)->List (OG×V)
 |f::fs,v::vs,l=>putAll fs vs (fz f v l)
 |_,_,l=>l
theorem ma{f:OG}{v:V}:∀{l:List (OG×V)},f∉l.map (·.1)->fz f v l=l++[(f,v)]
 |[],_=>rfl
 |(k,x)::l,h=>by
  simp only[PC,O4,not_or]at h;unfold fz;rw[if_neg (λz=>h.1 z.symm),ma h.2];rfl
theorem pM:∀{fs:ci}{vs:al}{l:List (OG×V)},fs.Nodup->(∀f∈fs,f∉l.map (·.1))->fs.length=vs.length->putAll fs vs l=l++fs.zip vs
 |[],[],l,_,_,_=>by simp[putAll]
 |[],v::vs,l,_,_,h=>by simp at h
 |f::fs,[],l,_,_,h=>by simp at h
 |f::fs,v::vs,l,nd,hn,h=>by
  rw[QK]at nd;unfold putAll;rw[ma (hn f Pe),pM nd.2 (λg hg=>?_) (by simpa using h),Q5,QQ]
  .rfl
  .simp only[PZ,PC,RO,Qv,PD,not_or]
   exact⟨hn g (OT _ hg),λz=>nd.1 (z▸hg)⟩
def u7{H:Hp}{a:OE}{o:HO}(h:H a=some o):upd H a o=H:=by
 funext b
 by_cases hb:b=a
 .subst hb;rw[ay,h]
 .rw[av hb]
def rS{H:Hp}{a:OE}{o u:HO}:upd (upd H a o) a u=upd H a u:=by
 funext b
 by_cases hb:b=a
 .subst hb;rw[ay,ay]
 .rw[av hb,av hb,av hb]
theorem vw{f:OG}{v:V}:∀{l:List (OG×V)},(fz f v l).length<=l.length+1
 |[]=>by simp[fz]
 |(k,x)::l=>by
  unfold fz;split
  .simp
  .have:=vw (f:=f) (v:=v) (l:=l)
   simp;omega
end
structure MH (K:OH) (x:OG) (ks:ci) (C:OE):Prop where
 ns:Qg K O6 x=some (some (.ref C))
 recC:Ky K ks C
def noL_nil{K:OH}{C:OE}:∀f∈([]:ci),eH K C f:=λ_ h=>nomatch h
def noL_cons{K:OH}{C:OE}{f:OG}{ks:ci}(h:Qj K (.ref C) f=some none)(r:∀f∈ks,eH K C f):∀g∈f::ks,eH K C g:=λg hg=>by
 rcases O4.mp hg with rfl|hg
 .exact h
 .exact r g hg
def Fp{K:OH}{x:OG}{ks:ci}{C:OE}(ns:Qg K O6 x=some (some (.ref C)))(pg:Sy K C RI=true)(hd:Q2 K C=true)(po:S6 K C=true)(sa:Qj K (.ref C) "__setattr__"=some (some (.builtin "object.__setattr__")))
  (gc:Qj K (.ref C) "__class__"=some (some (.builtin "object.__class__")))(gn:R0 K (.builtin "object.__class__") "__get__"=some (some (.builtin "getset_descriptor.__get__")))(tk:Tz K (.builtin "object.__class__")=some true)(mo:TV K C (.type "object")=some true)
  (t1:Qx K (.ref C) (.type "NoneType")=some false)(t2:Qx K (.ref C) (.type "bool")=some false)(t3:Qx K (.ref C) (.type "int")=some false)(t4:Qx K (.ref C) (.type "str")=some false)(t5:Qx K (.ref C) (.type "tuple")=some false)
  (t6:Qx K (.ref C) (.type "list")=some false)(t7:Qx K (.ref C) (.type "dict")=some false)(no:∀f∈ks,eH K C f):MH K x ks C :=
 ⟨ns,⟨⟨pg,hd,po,sa⟩,no,gc,gn,tk,mo,λT hT=>by
  refine xM (nW T hT) ?_;simp only[ia,O4,QZ,or_false]at hT;rcases hT with rfl|rfl|rfl|rfl|rfl|rfl|rfl
  .exact t1
  .exact t2
  .exact t3
  .exact t4
  .exact t5
  .exact t6
  .exact t7⟩⟩
end DL
namespace Com
open PySem L2 DL
def N0(d:D):ak (ac):=match d with
 |.lst ds=>.ok (numbered 0 ds)
 |_=>.stuck
def Hz(d:D):ak (ac):=match d with
 |.lst ds=>.ok ds
 |_=>.stuck
def lK(n:Nat)(fr:cr)(tg:Ev->D->ak Ev)(tt fe:am)(ρ:Ev)(ds:ac):ak D:=if ds.length<=line then match cC (dP n fr ρ) tg tt fe ds with
  |.ok es=>.ok (.lst es)
  |_=>.stuck
 else .stuck
def Ds(tg:Ev->D->ak Ev)(s:bv)(ρ:Ev)(d:D):ak Fl:=match d with
 |.int j=>if -4611686018427387904<=j/\j<4611686018427387904 then gp tg s (intsFrom 0 j.toNat) ρ else .stuck
 |_=>.stuck
section
variable {s t:bv}{f g h:am}{src:Ev->ak (ac)}{fa:Ev->ak (ac)}{ρ r:Ev}{i j n:Nat}{d x y:D}{ds es xs:ac}{a b:Int}{tg:Ev->D->ak Ev}{tt fe:am}{fr:cr}
def Gs:Ae f ρ=(f ρ).bind Hz:=bp rfl
def Dy:Hz (.lst ds)=.ok ds:=bp rfl
def zB:fN n fr src tg tt fe ρ=(src ρ).bind (lK n fr tg tt fe ρ):=bp rfl
def zA:pI f tg s ρ=(f (lC ρ)).bind (Ds tg s ρ):=bp rfl
def vV{k:Nat}(h:k<=1000000):Ds tg s ρ (.int (k:Int))=gp tg s (intsFrom 0 k) ρ:=by
 unfold Ds;dsimp only;rw[if_pos ⟨by omega,by omega⟩,QR]
def e9{x y:OG}(h:decide (x.length+y.length<=1000)=true):aP (.str x) (.str y)=.ok (.str (x++y)):=if_pos (O0 (of_decide_eq_true h) (by decide))
def qK{F:D->D}(hl:ds.length<=1000000)(h:∀d∈ds,∃ρ1,tg (dP n fr ρ) d=.ok ρ1/\tt ρ1=.ok (.bl true)/\fe ρ1=.ok (F d)):lK n fr tg tt fe ρ ds=.ok (.lst (ds.map F)):=by
 unfold lK;rw[if_pos (show ds.length<=line from hl),sV h]
theorem oh{B:Ev}{F:D->D}{p:D->Bool}:∀{ds:ac},(∀d∈ds,∃ρ1,tg B d=.ok ρ1/\tt ρ1=.ok (.bl (p d))/\(p d=true->fe ρ1=.ok (F d)))->cC B tg tt fe ds=.ok ((ds.filter p).map F)
 |[],_=>rfl
 |d::ds,h=>by
  obtain⟨ρ1,h1,h2,h3⟩:=h d Pe;have ih:=oh (ds:=ds) λd hd=>h d (OT _ hd);unfold cC;rw[h1,Eh,h2,Eh];cases hp:p d with
  |true=>
   show(fe ρ1).bind _=_;rw[h3 hp,Eh,ih,Eh,Sf hp];rfl
  |false=>
   show cC B tg tt fe ds=_;rw[ih,Sg (by rw[hp];decide)]
def oa{F:D->D}{p:D->Bool}(hl:ds.length<=1000000)(h:∀d∈ds,∃ρ1,tg (dP n fr ρ) d=.ok ρ1/\tt ρ1=.ok (.bl (p d))/\(p d=true->fe ρ1=.ok (F d))):lK n fr tg tt fe ρ ds=.ok (.lst ((ds.filter p).map F)):=by
 unfold lK;rw[if_pos (show ds.length<=line from hl),oh h]
end
end Com
def MO:=(cK (cK @Gs @Dy) (cK @zB (cK @zA @e9)))
local macro_rules|`(tactic|open_line with[$xs,*])=>`(tactic|simp only[KC,MO,PC,RO,Pa,QM,PF,Sw,QL,Qp,Q0,Qb,SG,SH,T3,Nat.reduceSub,Nat.reduceAdd,T6,Si,OU,OO,decide_true,decide_false,Nat.reduceLeDiff,Nat.reduceBEq,Int.reduceBEq,beq_self_eq_true,DL.dOne,DL.mYes,Int.reduceLT,Int.reduceLE,Int.reduceSub,Int.reduceAdd,Int.reduceMul,Int.reduceNeg,Int.reduceToNat,Tx,$[$xs:term],*])
local macro_rules|`(tactic|open_line with[$xs,*] seeing $h)=>`(tactic|simp only[KC,MO,PC,RO,Pa,QM,PF,Sw,QL,Qp,Q0,Qb,SG,SH,T3,Nat.reduceSub,Nat.reduceAdd,T6,Si,OU,OO,decide_true,decide_false,Nat.reduceLeDiff,Nat.reduceBEq,Int.reduceBEq,beq_self_eq_true,DL.dOne,DL.mYes,Int.reduceLT,Int.reduceLE,Int.reduceSub,Int.reduceAdd,Int.reduceMul,Int.reduceNeg,Int.reduceToNat,Tx,$[$xs:term],*] at $(⟨h⟩):ident)
namespace Com
open PySem L2 DL
noncomputable def mP:bv :=
 (aw (aV 2 (dC (.str "abcdefghijklmnopqrstuvwxyz")))
 (aw (aV 3 (ao (af (ag 0) (af (aa (aa (ao (af (dC (.int 8)) (af (dC (.int 8)) (af (dC (.int 12)) (af (dC (.int 26)) (af (dC (.int 2)) au))))) cE) (B8 (ao (af (dC (.int 26)) au) cE) (dC (.int 8))) aP) (B8 (ao (af (dC (.int 8)) au) cE) (dC (.int 8))) aP) au)) bL))
 (aw (aV 4 (aa (ao (af (dC (.int 1)) (af (dC (.int 3)) (af (dC (.int 5)) (af (dC (.int 7)) (af (dC (.int 9)) (af (dC (.int 11)) (af (dC (.int 15)) (af (dC (.int 17)) (af (dC (.int 19)) (af (dC (.int 21)) (af (dC (.int 23)) (af (dC (.int 25)) au)))))))))))) cE) (aa (ag 3) (dC (.int 2)) aO) aO))
 (aw (aV 5 (kL (dC (.str "")) (af (fN 1 [2] (Ae (eG (ag 3) (bQ (dC (.int 5))) (bQ (dC (.int 13))))) (fv 0) mYes (aa (ag 1) (ag 0) aO)) au)))
 (aw (t8 6 (ao au cE))
 (aw (pI (ag 1) (fv 7)
 (aw (aV 8 (aa (dC (.int 1)) (aa (ag 3) (dC (.int 0)) aO) aP))
 (aw (fw (aa (aa (ag 3) (dC (.int 4)) aO) (dC (.int 1)) dm)
 (aw (aV 8 (aa (dC (.int 1)) (aa (ag 3) (aa (dC (.int 13)) (ag 7) aP) aO) aP))
 ax)
 ax)
 (aw (aV 9 (aa (aa (ag 3) (dC (.int 1)) aO) (ag 8) cO))
 (aw (aV 10 (aa (ag 2) (aa (aa (aa (ag 3) (dC (.int 3)) aO) (aa (ag 7) (ag 4) dO) aP) (dC (.int 26)) cO) aO))
 (aw (eI 6 (aa (aa (eG (ag 5) dH (bQ (ag 9))) (ag 10) aP) (eG (ag 5) (bQ (aa (ag 9) (dC (.int 1)) aP)) (bQ (ag 8))) aP))
 ax))))))
 (aw (bE (ag 6))
 ax)))))))
def dS:ac->ak D:=da 11 mP
noncomputable def fG:bv :=
 (aw (xj [2,3,4] (ag 0))
 (aw (fw (aa (ag 2) (dC (.int 3)) mY)
 (aw (bE (ao (af (aa (ag 1) (aa (ag 3) (dC (.int 10)) cO) aP) (af (dC (.int 1)) au)) iR))
 ax)
 ax)
 (aw (fw (aa (ag 2) (dC (.int 7)) mY)
 (aw (bE (ao (af (aa (ag 1) (aa (ag 3) (dC (.int 24)) cO) aP) (af (aa (dC (.int 1)) (aa (ag 4) (dC (.int 6)) cO) aP) au)) cZ))
 ax)
 ax)
 (aw (bE (ao (af (aa (ag 1) (ag 3) aP) (af (aa (dC (.int 1)) (ag 4) aP) au)) cZ))
 ax))))
def bZ:ac->ak D:=da 5 fG
noncomputable def lX:bv :=
 (aw (aV 3 (ao (af (dC (.int 8)) (af (ag 2) (af (ag 2) au))) cE))
 (aw (aV 4 (ao (af (ag 1) (af (aa (aa (ao (af (ao (af (ag 0) au) (m1 bN)) (af (aa (ao (af (ag 0) au) (m1 bN)) (dC (.int 1)) wt) (af (dC (.int 2)) (af (dC (.int 5)) au)))) cE) (ag 3) aP) (ag 3) aP) au)) bL))
 (aw (aV 5 (dC (.non)))
 (aw (fw (aa (aa (ag 4) (dC (.int 3)) aO) (dC (.int 0)) wO)
 (aw (aV 5 (ao (af (eG (ag 4) (bQ (dC (.int 7))) (bQ (dC (.int 10)))) (af (dC (.int 1)) au)) bZ))
 ax)
 ax)
 (aw (aV 6 (aa (ag 0) (aa (ag 4) (dC (.int 0)) aO) aO))
 (aw (aV 7 (aa (ag 0) (aa (aa (aa (aa (ag 4) (dC (.int 0)) aO) (dC (.int 1)) aP) (aa (ag 4) (dC (.int 1)) aO) aP) (ao (af (ag 0) au) (m1 bN)) cO) aO))
 (aw (aV 8 (aa (ao (af (dC (.str "one")) (af (dC (.str "both")) au)) cE) (aa (ag 4) (dC (.int 2)) aO) aO))
 (aw (bE (ao (af (ag 6) (af (ag 7) (af (ag 8) (af (ao (af (eG (ag 4) (bQ (dC (.int 4))) (bQ (dC (.int 7)))) (af (dC (.int 0)) au)) bZ) (af (ag 5) au))))) iR))
 ax))))))))
def eP:ac->ak D:=da 9 lX
def xJ{a b:Int}(ha:0<=a)(hb:0<b):0<=(HL a b).1:=Int.ediv_nonneg ha (by omega)
def F0{a b:Int}(ha:0<a)(hb:0<b):0<(HL a b).1:=by
 have hg:0<(Pw a b:Int):=uE (by omega);have hd:(Pw a b:Int)∣a:=Int.gcd_dvd_left ..;exact Int.ediv_pos_of_pos_of_dvd ha (by omega) hd
def A8{a:Int}(h0:0<=a)(h1:a<(mT:Int)):rl (a,1):=⟨⟨by show(1:Int)<=1;decide,by show Pw a 1=1;exact SV ..⟩,by show a.natAbs<mT;omega,by show(1:Int).natAbs<mT;decide⟩
def LV{a:Int}(h0:0<=a)(h1:a<(mT:Int)):a.natAbs<EA:=OS (show a.natAbs<mT by omega) Hs
def nY{w a b l:Int}(ha:0<=a/\a<(mT:Int)-1)(hb:0<=b/\b<(mT:Int)-1)(hl:0<=l/\l<=1):∃x:EJ,bZ [.lst [.int w,.int a,.int b],.int l]=.ok (fr x)/\rl x/\l<=x.1:=by
 have hN:(100:Int)<(mT:Int):=by decide
 have key:∀p q:Int,0<=p->p+l<(mT:Int)->1<=q->q<(mT:Int)->∃x:EJ,cZ [.int (l+p),.int q]=.ok (fr x)/\rl x/\l<=x.1:=λp q p0 p1 q0 q1=>by
  refine⟨HL (l+p) q,AW (by omega) (LV (by omega) (by omega)) (LV (by omega) (by omega)),LW (by omega) (by omega) (by omega),?_⟩
  by_cases h:l+p=0
  .have:l=0:=by omega
   rw[this];exact xJ (by omega) (by omega)
  .have:=F0 (a:=l+p) (b:=q) (by omega) (by omega)
   omega
 by_cases h3:w<3
 .have x:=iE (a:=a) (b:=10) (by decide)
  refine⟨(l+a.fmod 10,1),?_,A8 (by omega) (by omega),by show l<=l+a.fmod 10;omega⟩;open_line with[bZ,fG,decide_eq_true h3]
  rfl
 .by_cases h7:w<7
  .have x:=iE (a:=a) (b:=24) (by decide)
   have y:=iE (a:=b) (b:=6) (by decide);obtain⟨z,hz,r⟩:=key (a.fmod 24) (1+b.fmod 6) x.1 (by omega) (by omega) (by omega);refine⟨z,?_,r⟩;open_line with[bZ,fG,decide_eq_false h3,decide_eq_true h7,hz]
  .obtain⟨z,hz,r⟩:=key a (1+b) ha.1 (by omega) (by omega) (by omega)
   refine⟨z,?_,r⟩;open_line with[bZ,fG,decide_eq_false h3,decide_eq_false h7,hz]
def zk{i:Nat}{body:bv}(P:Nat->Ev->Prop){n:Nat}(h:∀k,k<n->∀ρ,P k ρ->∃ρ2,body (ρ.set i (.sh (.int (k:Int))))=.ok (.nx ρ2)/\P (k+1) ρ2){ρ:Ev}(h0:P 0 ρ):∃ρ',gp (fv i) body (intsFrom 0 n) ρ=.ok (.nx ρ')/\P n ρ':=by
 have key:∀(m k:Nat) (ρ:Ev),k+m=n->P k ρ->∃ρ',gp (fv i) body ((intsFrom 0 n).drop k) ρ=.ok (.nx ρ')/\P n ρ':=by
  intro m
  induction m with
  |zero=>
   intro k ρ hk hp;have:k=n:=by omega
   subst this;rw[vQ];exact⟨ρ,rfl,hp⟩
  |succ m ih=>
   intro k ρ hk hp;obtain⟨ρ2,h1,h2⟩:=h k (by omega) ρ hp;rw[sI (by omega),uF (tg:=fv i) rfl h1];exact ih (k+1) ρ2 (by omega) h2
 exact key n 0 ρ (by omega) h0
def zl{tg:Ev->D->ak Ev}{body:bv}{ds:ac}(P:Nat->Ev->Prop)(h:∀k d,ds[k]?=some d->∀ρ,P k ρ->∃ρ1 ρ2,tg ρ d=.ok ρ1/\body ρ1=.ok (.nx ρ2)/\P (k+1) ρ2){ρ:Ev}(h0:P 0 ρ):∃ρ',gp tg body ds ρ=.ok (.nx ρ')/\P ds.length ρ':=by
 have key:∀(m k:Nat) (ρ:Ev),k+m=ds.length->P k ρ->∃ρ',gp tg body (ds.drop k) ρ=.ok (.nx ρ')/\P ds.length ρ':=by
  intro m
  induction m with
  |zero=>
   intro k ρ hk hp;have:k=ds.length:=by omega
   subst this;rw[S2];exact⟨ρ,rfl,hp⟩
  |succ m ih=>
   intro k ρ hk hp;have hlt:k<ds.length:=by omega
   obtain⟨ρ1,ρ2,h1,h2,h3⟩:=h k ds[k] (OQ hlt) ρ hp;rw[Qf hlt,uF h1 h2];exact ih (k+1) ρ2 (by omega) h3
 exact key ds.length 0 ρ (by omega) h0
structure Drawn (sz vs:List Int):Prop where
 len:vs.length=sz.length
 bnd:∀(i:Nat) (v s:Int),vs[i]?=some v->sz[i]?=some s->0<=v/\v<s
def Drawn.at{sz vs:List Int}(W:Drawn sz vs)(i:Nat){s:Int}(h:sz[i]?=some s):∃v,vs[i]?=some v/\(0<=v/\v<s)/\aO (.lst (vs.map D.int)) (.int (i:Int))=.ok (.int v):=by
 have hi:i<vs.length:=by rw[W.len];exact(OZ.mp h).1
 refine⟨vs[i],OQ hi,W.bnd i _ _ (OQ hi) h,kE ?_⟩;rw[O5,OQ hi];rfl
def Drawn.ix{sz vs:List Int}(W:Drawn sz vs)(k:Int)(i:Nat){s:Int}(hk:k=(i:Int))(h:sz[i]?=some s):∃v,vs[i]?=some v/\(0<=v/\v<s)/\aO (.lst (vs.map D.int)) (.int k)=.ok (.int v):=by
 subst hk;exact W.at i h
def mE(c:Int)(sz:List Int)(h:(sz.all λs=>decide (0<s)&&decide (s<=(mT:Int)))=true)(hn:sz.length<=1000):∃vs,bL [.int c,.lst (sz.map D.int)]=.ok (.lst (vs.map D.int))/\Drawn sz vs:=by
 obtain⟨vs,h1,h2,h3⟩:=DV c sz (Lm h) hn;exact⟨vs,h3,h1,h2⟩
def Hm:("abcdefghijklmnopqrstuvwxyz" : OG).cps.toList=(Qc 26).map (97 + ·):=by decide +kernel
def El:∀n,n<26->kF (97+n)=true:=by decide +kernel
def Ek{v:Int}(h0:0<=v)(h1:v<26):aO (.str "abcdefghijklmnopqrstuvwxyz") (.int v)=.ok (.str ⟨#[97+v.toNat]⟩):=by
 obtain⟨n,rfl⟩:=P5 h0;have hn:n<26:=by omega
 have e:atI ("abcdefghijklmnopqrstuvwxyz" : OG).cps.toList ((n:Nat):Int)=some (97+n):=cY (by rw[Hm];simp[hn]);show(if("abcdefghijklmnopqrstuvwxyz" : OG).length<=line then(match atI ("abcdefghijklmnopqrstuvwxyz" : OG).cps.toList ((n:Nat):Int) with|some c=>ak.ok (D.str ⟨#[c]⟩)|none=>.stuck) else .stuck)=_;rw[if_pos (by decide),e];rfl
theorem ze:∀cs:cr,Sd "" (cs.map λc=>(⟨#[c]⟩:OG))=⟨cs.toArray⟩
 |[]=>rfl
 |[c]=>rfl
 |c::d::cs=>by
  show(⟨#[c]⟩:OG)++""++Sd "" ((d::cs).map λc=>(⟨#[c]⟩:OG))=_;rw[ze (d::cs)];apply Str.ext';show(#[c]++("" : OG).cps)++(d::cs).toArray=_;have:("" : OG).cps=#[]:=rfl;rw[this];simp
theorem yz:∀cs:cr,gz (cs.map λc=>D.str ⟨#[c]⟩)=some (cs.map λc=>(⟨#[c]⟩:OG))
 |[]=>rfl
 |c::cs=>by
  show(gz (cs.map λc=>D.str ⟨#[c]⟩)).map _=_;rw[yz cs];rfl
def xO{cs:cr}(h:cs.length<=1000):kf "" [.lst (cs.map λc=>D.str ⟨#[c]⟩)]=.ok (.str ⟨cs.toArray⟩):=by
 have Me:gI "" (cs.map λc=>(⟨#[c]⟩:OG))=true:=by
  unfold gI;have e:((cs.map λc=>(⟨#[c]⟩:OG)).map (·.length)).sum=cs.length:=by
   clear h
   induction cs with
   |nil=>rfl
   |cons c cs ih=>
    simp only[PC,Tu,Pa,ih];show 1+cs.length=_;omega
  rw[e,OR];exact⟨by decide,decide_eq_true (by rw[OD];omega)⟩
 show(match gz (cs.map λc=>D.str ⟨#[c]⟩) with|some ys=>if gI "" ys=true then ak.ok (D.str (Q6 "" ys)) else .stuck|none=>.stuck)=_;rw[yz];show(if gI "" _=true then ak.ok (D.str (Q6 "" _)) else .stuck)=_;rw[if_pos Me];show ak.ok (D.str (Builtin.Str.glued "" _))=_;rw[Ue,ze]
def B3{cs:cr}{a b:Nat}(hab:a<=b)(hb:b<=cs.length):Qh ⟨cs.toArray⟩ (some (a:Int)) (some (b:Int))=⟨((cs.drop a).take (b-a)).toArray⟩ :=
 StrLaws.sliceText_nat ⟨cs.toArray⟩ hab (by show b<=cs.toArray.size;simpa using hb)
def B1{cs:cr}{b:Nat}(hb:b<=cs.length):Qh ⟨cs.toArray⟩ none (some (b:Int))=⟨(cs.take b).toArray⟩:=by
 have:=Up (x:=⟨cs.toArray⟩) (j:=(b:Int)) ⟨by omega,by simpa using hb⟩;refine Eq.trans this ?_;simp
def o5(vs:List Int)(k:Nat):Nat:=if vs[4]?=some 1 then 1+((vs[13+k]?).getD 0).toNat else 1+((vs[0]?).getD 0).toNat
def gO(vs:List Int)(k:Nat):Nat:=((vs[1]?).getD 0).toNat % o5 vs k
def yY(vs:List Int)(by_:Int)(k:Nat):Nat:=(((vs[3]?).getD 0).toNat+k*by_.toNat) % 26
def xF(vs:List Int)(by_:Int)(B:cr)(k:Nat):cr:=B.take (gO vs k)++(97+yY vs by_ k)::(B.drop (gO vs k+1)).take (o5 vs k-(gO vs k+1))
def qc:List Int:=[8,8,12,26,2,26,26,26,26,26,26,26,26,8,8,8,8,8,8,8,8]
def LQ:List Int:=[1,3,5,7,9,11,15,17,19,21,23,25]
def AS:∀b∈LQ,∀k,k<8->∀j,j<8->∀d,d<26->(d+k*b.toNat) % 26=(d+j*b.toNat) % 26->k=j:=by
 have key:∀b∈LQ,∀k,k<8->∀j,j<8->(k*b.toNat) % 26=(j*b.toNat) % 26->k=j:=by decide +kernel
 intro b hb k hk j hj d hd h;refine key b hb k hk j hj ?_;omega
structure zR (zs:ci):Prop where
 nd:zs.Nodup
 nm:∀z∈zs,dX z=true
def uw{vs:List Int}{by_:Int}{B:cr}{k:Nat}(hB:B.length=8)(hs:o5 vs k<=8)(h1:1<=o5 vs k):(xF vs by_ B k).length=o5 vs k:=by
 have:gO vs k<o5 vs k:=RU _ (by omega);unfold xF;simp only[Pm,Qw,Pa,Rm];omega
def CP{vs:List Int}{by_:Int}{B:cr}{k:Nat}(hB:B.length=8)(hs:o5 vs k<=8)(h1:1<=o5 vs k):(xF vs by_ B k)[gO vs k]?=some (97+yY vs by_ k):=by
 have:gO vs k<o5 vs k:=RU _ (by omega);unfold xF;rw[Pg (by simp;omega)];have e:gO vs k-(B.take (gO vs k)).length=0:=by simp;omega
 rw[e];rfl
def wF{x y:OG}(h:x.length+y.length<=1000):aP (.str x) (.str y)=.ok (.str (x++y)):=if_pos (O0 h (by decide))
def sT(a b:cr):(⟨a.toArray⟩:OG)++⟨b.toArray⟩=⟨(a++b).toArray⟩:=by
 apply Str.ext';show a.toArray++b.toArray=_;simp
def lV(a:cr):(⟨a.toArray⟩:OG).length=a.length:=by show a.toArray.size=_;simp
def yB{z:OG}{l h:Option Int}(hz:z.length<=1000):rz (.str z) l h=.ok (.str (Qh z l h)):=by
 show(if z.length<=line then _ else _)=_;rw[if_pos (O0 hz (by decide))]
set_option maxHeartbeats 1000000 in
def CQ(c:Int)(n:Nat)(hn:n<=8):∃zs:ci,dS [.int c,.int (n:Int)]=.ok (.lst (zs.map D.str))/\zs.length=n/\zR zs:=by
 obtain⟨vs,hd,W⟩:=mE c qc (by decide) (by decide);obtain⟨d0,g0,b0,i0⟩:=W.ix 0 0 rfl rfl;obtain⟨d1,g1,b1,i1⟩:=W.ix 1 1 rfl rfl;obtain⟨d2,g2,b2,i2⟩:=W.ix 2 2 rfl rfl;obtain⟨d3,g3,b3,i3⟩:=W.ix 3 3 rfl rfl;obtain⟨d4,g4,b4,i4⟩:=W.ix 4 4 rfl rfl;obtain⟨byD,hby1,hby2⟩:=ix_mem (ds:=LQ.map D.int) (k:=d2) b2.1 (by simpa[LQ] using b2.2);obtain⟨by_,hbm,rfl⟩:=PM.mp hby1;have hby0:0<=by_/\by_<=25:=by
  have:∀b∈LQ,0<=b/\b<=25:=by decide
  exact this by_ hbm
 have hlen:vs.length=21:=W.len;have hL:(vs.map D.int).length=21:=by rw[OD,hlen]
 have hcut:mL (vs.map D.int) (some 5) (some 13)=((vs.drop 5).take 8).map D.int:=by
  rw[pe,hlen];rfl
 have hdig:∀v∈(vs.drop 5).take 8,0<=v/\v<26:=λv hv=>by
  obtain⟨j,hj2⟩:=List.mem_iff_getElem?.mp hv;have hj:j<8:=by
   have:=(OZ.mp hj2).1;simp at this;omega
  rw[QU hj,Rv]at hj2;have hs:qc[5+j]?=some 26:=by
   have:∀j,j<8->qc[5+j]?=some 26:=by decide
   exact this j hj
  exact W.bnd _ _ _ hj2 hs
 generalize hBd:((vs.drop 5).take 8).map (λv=>97+v.toNat)=B;have hB:B.length=8:=by rw[←hBd];simp;omega
 have hBin:∀x∈B,kF x=true:=λx hx=>by
  rw[←hBd]at hx;obtain⟨v,hv,rfl⟩:=PM.mp hx;have:=hdig v hv;exact El _ (by omega)
 have hcomp:lK 1 [2] (fv 0) mYes (aa (ag 1) (ag 0) aO) [.sh (.int c),.sh (.int (n:Int)),.sh (.str "abcdefghijklmnopqrstuvwxyz"),.sh (.lst (vs.map D.int)),.sh (.int by_),.no,.no,.no,.no,.no,.no] (((vs.drop 5).take 8).map D.int)=.ok (.lst (B.map λc=>D.str ⟨#[c]⟩)):=by
  rw[qK (F:=λd=>match d with|.int v=>.str ⟨#[97+v.toNat]⟩|d=>d) (by simp;omega)]
  .rw[←hBd,RC,RC];rfl
  .intro d hd'
   obtain⟨v,hv,rfl⟩:=PM.mp hd';have hv2:=hdig v hv;exact⟨[.sh (.int v),.sh (.str "abcdefghijklmnopqrstuvwxyz")],rfl,rfl,Ek hv2.1 hv2.2⟩
 have hsz:∀k,k<n->1<=o5 vs k/\o5 vs k<=8:=λk hk=>by
  unfold o5;have h13:∀j,j<8->qc[13+j]?=some 8:=by decide
  obtain⟨e,ge,be,_⟩:=W.at (13+k) (h13 k (by omega));rw[ge,g0];simp only[Rl];split<;>omega
 obtain⟨ρ',hloop,a1,a2,a3,a4,hρ⟩:=zk (i:=7) (n:=n) (ρ:=[.sh (.int c),.sh (.int (n:Int)),.sh (.str "abcdefghijklmnopqrstuvwxyz"),.sh (.lst (vs.map D.int)),.sh (.int by_),.sh (.str ⟨B.toArray⟩),.ow (.lst []),.no,.no,.no,.no])
  (body:=(aw (aV 8 (aa (dC (.int 1)) (aa (ag 3) (dC (.int 0)) aO) aP))
   (aw (fw (aa (aa (ag 3) (dC (.int 4)) aO) (dC (.int 1)) dm)
   (aw (aV 8 (aa (dC (.int 1)) (aa (ag 3) (aa (dC (.int 13)) (ag 7) aP) aO) aP))
   ax)
   ax)
   (aw (aV 9 (aa (aa (ag 3) (dC (.int 1)) aO) (ag 8) cO))
   (aw (aV 10 (aa (ag 2) (aa (aa (aa (ag 3) (dC (.int 3)) aO) (aa (ag 7) (ag 4) dO) aP) (dC (.int 26)) cO) aO))
   (aw (eI 6 (aa (aa (eG (ag 5) dH (bQ (ag 9))) (ag 10) aP) (eG (ag 5) (bQ (aa (ag 9) (dC (.int 1)) aP)) (bQ (ag 8))) aP))
   ax))))))
  (λk ρ=>∃a1 a2 a3 a4,ρ=[.sh (.int c),.sh (.int (n:Int)),.sh (.str "abcdefghijklmnopqrstuvwxyz"),.sh (.lst (vs.map D.int)),.sh (.int by_),.sh (.str ⟨B.toArray⟩),.ow (.lst ((Qc k).map λj=>D.str ⟨(xF vs by_ B j).toArray⟩)),a1,a2,a3,a4])
  (by
   rintro k hk ρ ⟨a1,a2,a3,a4,rfl⟩;have h13:∀j,j<8->qc[13+j]?=some 8:=by decide
   obtain⟨e,ge,be,ie⟩:=W.at (13+k) (h13 k (by omega));have ie':aO (.lst (vs.map D.int)) (.int (13+(k:Int)))=.ok (.int e):=by
    have:(13+(k:Int))=((13+k:Nat):Int):=by omega
    rw[this];exact ie
   have hs:=hsz k hk;have hat:gO vs k<o5 vs k:=RU _ (by omega);have hmul:ke (k:Int) by_=true:=fT (by omega) (by omega);have hsg:yY vs by_ k<26:=RU _ (by decide);have hsgI:(d3+(k:Int)*by_).fmod 26=(yY vs by_ k:Int):=by
    unfold yY;rw[g3,Rl,RY _ (by decide)];obtain⟨x,rfl⟩:=P5 b3.1;obtain⟨y,rfl⟩:=P5 hby0.1;simp only[QR];omega
   have hsig:=Ek (v:=(yY vs by_ k:Int)) (by omega) (by omega);rw[QR]at hsig;have hz0:((o5 vs k:Int)==0)=false:=beq_eq_false_iff_ne.mpr (by omega);have hatI:d1.fmod (o5 vs k:Int)=(gO vs k:Int):=by
    unfold gO;rw[g1,Rl,RY _ (by omega)];obtain⟨x,rfl⟩:=P5 b1.1;simp only[QR];omega
   have s1:rz (.str ⟨B.toArray⟩) none (some (gO vs k:Int))=.ok (.str ⟨(B.take (gO vs k)).toArray⟩):=by
    rw[yB (by rw[lV];omega),B1 (by omega)]
   have s2:rz (.str ⟨B.toArray⟩) (some ((gO vs k:Int)+1)) (some (o5 vs k:Int))=.ok (.str ⟨((B.drop (gO vs k+1)).take (o5 vs k-(gO vs k+1))).toArray⟩):=by
    have:((gO vs k:Int)+1)=((gO vs k+1:Nat):Int):=by omega
    rw[yB (by rw[lV];omega),this,B3 (by omega) (by omega)]
   have t1:aP (.str ⟨(B.take (gO vs k)).toArray⟩) (.str ⟨#[97+yY vs by_ k]⟩)=.ok (.str ⟨(B.take (gO vs k)++[97+yY vs by_ k]).toArray⟩):=by
    have e1:(⟨#[97+yY vs by_ k]⟩:OG)=⟨([97+yY vs by_ k]:cr).toArray⟩:=rfl;rw[e1,wF (by rw[lV,lV];simp;omega),sT]
   have t2:aP (.str ⟨(B.take (gO vs k)++[97+yY vs by_ k]).toArray⟩) (.str ⟨((B.drop (gO vs k+1)).take (o5 vs k-(gO vs k+1))).toArray⟩)=.ok (.str ⟨(xF vs by_ B k).toArray⟩):=by
    rw[wF (by rw[lV,lV];simp;omega),sT];unfold xF;rw[QQ];rfl
   have happ:((Qc k).map λj=>D.str ⟨(xF vs by_ B j).toArray⟩)++[D.str ⟨(xF vs by_ B k).toArray⟩]=(Qc (k+1)).map λj=>D.str ⟨(xF vs by_ B j).toArray⟩:=by
    rw[List.range_succ,PZ];rfl
   have hlt:decide (((Qc k).map λj=>D.str ⟨(xF vs by_ B j).toArray⟩).length<=999)=true:=decide_eq_true (by simp;omega);cases h4:(d4==1) with
   |true=>
    have hz:1+e=(o5 vs k:Int):=by unfold o5;rw[g4,eq_of_beq h4,if_pos rfl,ge];simp only[Rl];omega
    open_line with[i0,i1,i3,i4,h4,ie',hz,hz0,hatI,uJ hmul,hsgI,hsig,s1,s2,t1,t2,pd hlt,happ]
    exact⟨_,rfl,_,_,_,_,rfl⟩
   |false=>
    have hz:1+d0=(o5 vs k:Int):=by unfold o5;rw[g4,if_neg (by intro z;cases z;simp at h4),g0];simp only[Rl];omega
    open_line with[i0,i1,i3,i4,h4,hz,hz0,hatI,uJ hmul,hsgI,hsig,s1,s2,t1,t2,pd hlt,happ]
    exact⟨_,rfl,_,_,_,_,rfl⟩)
  ⟨.no,.no,.no,.no,rfl⟩
 subst hρ;have hby3:aO (.lst [.int 1,.int 3,.int 5,.int 7,.int 9,.int 11,.int 15,.int 17,.int 19,.int 21,.int 23,.int 25]) (.int d2)=.ok (.int by_):=hby2;have hd':bL [.int c,.lst [D.int 8,D.int 8,D.int 12,D.int 26,D.int 2,D.int 26,D.int 26,D.int 26,D.int 26,D.int 26,D.int 26,D.int 26,D.int 26,D.int 8,D.int 8,D.int 8,D.int 8,D.int 8,D.int 8,D.int 8,D.int 8]]=.ok (.lst (vs.map D.int)):=hd;refine⟨(Qc n).map λj=>⟨(xF vs by_ B j).toArray⟩,?_,by simp,?_⟩
 .rw[dS,mP]
  open_line with[Pm,Qi]
  rw[hd'];open_line with[i2,hby3,hcut]
  rw[hcomp];open_line with[xO (show B.length<=1000 by omega),vV (show n<=1000000 by omega)]
  rw[hloop];open_line with[RC]
  rfl
 .refine⟨?_,λz hz=>?_⟩
  .rw[List.nodup_iff_pairwise_ne,List.pairwise_map]
   refine List.Pairwise.imp_of_mem ?_ List.pairwise_lt_range;intro k j hk hj hlt heq;rw[Su]at hk hj;have hs:=hsz k hk;have hs':=hsz j hj;have e:xF vs by_ B k=xF vs by_ B j:=by
    have:=congrArg (λs:OG=>s.cps.toList) heq;simpa using this
   have el:o5 vs k=o5 vs j:=by rw[←uw (by_:=by_) hB hs.2 hs.1,e,uw hB hs'.2 hs'.1]
   have ea:gO vs k=gO vs j:=by unfold gO;rw[el]
   have h1:=CP (by_:=by_) hB hs.2 hs.1;have h2:=CP (by_:=by_) hB hs'.2 hs'.1;rw[e,ea,h2]at h1;have h3:yY vs by_ k=yY vs by_ j:=by have:=PY h1;omega
   unfold yY at h3;have hd3:((vs[3]?).getD 0).toNat<26:=by rw[g3,Rl];omega
   have:=AS by_ hbm k (by omega) j (by omega) _ hd3 h3;omega
  .obtain⟨k,hk,rfl⟩:=PM.mp hz
   rw[Su]at hk;have hs:=hsz k hk;unfold dX;rw[lV,uw hB hs.2 hs.1];simp only[OR,decide_eq_true_eq];refine⟨hs.1,hs.2,Pk.mpr λx hx=>?_⟩;simp only[xF,Qv,O4]at hx;rcases hx with hx|rfl|hx
   .exact hBin x (Ur hx)
   .exact El _ (RU _ (by decide))
   .exact hBin x (List.mem_of_mem_drop (Ur hx))
structure MF where
 a:OG
 b:OG
 w:OG
 l:EJ
 o:Option EJ
def mZ:Option EJ->D
 |none=>.non
 |some x=>fr x
def wX(t:MF):D:=.tup [.str t.a,.str t.b,.str t.w,fr t.l,mZ t.o]
structure zP (zs:ci) (t:MF):Prop where
 a:t.a∈zs
 b:t.b∈zs
 ne:t.a≠t.b
 w:t.w="one"∨t.w="both"
 l:rl t.l
 l0:0<=t.l.1
 o:∀x,t.o=some x->rl x/\0<x.1
def K7{α:Type}{vs:List α}{i:Nat}{a b c:α}(h0:vs[i]?=some a)(h1:vs[i+1]?=some b)(h2:vs[i+2]?=some c):(vs.drop i).take 3=[a,b,c]:=by
 apply List.ext_getElem?;intro j;rcases j with _|_|_|j
 .rw[QU (by decide),Rv];simpa using h0
 .rw[QU (by decide),Rv];simpa using h1
 .rw[QU (by decide),Rv];simpa using h2
 .rw[List.getElem?_eq_none (by simp;omega)];simp
def Ec{vs:List Int}{a b:Nat}{x y:Int}(hx:x=(a:Int))(hy:y=(b:Int))(h:b<=vs.length)(hab:a<=b):mL (vs.map D.int) (some x) (some y)=((vs.drop a).take (b-a)).map D.int:=by
 subst hx hy;rw[pe,HT.sIx_nat,HT.sIx_nat,Nat.min_eq_left h,Nat.min_eq_left (O0 hab h)]
def MB{vs:List Int}{i:Nat}{x y:Int}{a b c:Int}(hx:x=(i:Int))(hy:y=((i+3:Nat):Int))(h0:vs[i]?=some a)(h1:vs[i+1]?=some b)(h2:vs[i+2]?=some c):mL (vs.map D.int) (some x) (some y)=[.int a,.int b,.int c]:=by
 have hl:i+3<=vs.length:=by have:=(OZ.mp h2).1;omega
 rw[Ec hx hy hl (by omega),show i+3-i=3 by omega,K7 h0 h1 h2];rfl
def tP{zs:ci}{k:Int}(h0:0<=k)(h1:k<zs.length):∃z,zs[k.toNat]?=some z/\aO (.lst (zs.map D.str)) (.int k)=.ok (.str z):=by
 obtain⟨n,rfl⟩:=P5 h0;have hn:n<zs.length:=by omega
 refine⟨zs[n],by simp[hn],kE ?_⟩;rw[O5,OQ hn];rfl
def EZ{k:Int}(h0:0<=k)(h1:k<2):∃z:OG,(z="one"∨z="both")/\aO (.lst [.str "one",.str "both"]) (.int k)=.ok (.str z):=by
 have:k=0∨k=1:=by omega
 rcases this with rfl|rfl
 .exact⟨_,.inl rfl,zx⟩
 .exact⟨_,.inr rfl,zw⟩
def tq{n d e:Int}(h2:2<=n)(d0:0<=d)(d1:d<n)(e0:0<=e)(e1:e<n-1):(0<=(d+1+e).fmod n/\(d+1+e).fmod n<n)/\(d+1+e).fmod n≠d:=by
 refine⟨iE (by omega),?_⟩;rw[RY _ (by omega)]
 by_cases h:d+1+e<n
 .rw[Int.emod_eq_of_lt (by omega) h];omega
 .have:(d+1+e) % n=d+1+e-n:=by
   rw[←Int.sub_emod_right (d+1+e) n,Int.emod_eq_of_lt (by omega) (by omega)]
  rw[this];omega
def vH{α:Type}{zs:List α}(nd:zs.Nodup){i j:Nat}{x y:α}(hi:zs[i]?=some x)(hj:zs[j]?=some y)(hij:i≠j):x≠y:=by
 intro e;subst e;obtain⟨h1,e1⟩:=OZ.mp hi;obtain⟨h2,e2⟩:=OZ.mp hj;exact hij ((List.getElem_inj nd).mp (e1.trans e2.symm))
def ID{zs:ci}{c bd:Int}(h2:2<=zs.length)(h8:zs.length<=8)(nd:zs.Nodup)(hb:0<bd/\bd<=(mT:Int)-1):∃t,eP [.lst (zs.map D.str),.int c,.int bd]=.ok (wX t)/\zP zs t:=by
 have hN:(100:Int)<(mT:Int):=by decide
 obtain⟨vs,hd,W⟩:=mE c [(zs.length:Int),(zs.length:Int)-1,2,5,8,bd,bd,8,bd,bd] (by
  simp only[QH,T9,OR,decide_eq_true_eq,QV];refine⟨?_,?_,?_,?_,?_,?_,?_,?_,?_,?_⟩<;>constructor<;>omega) (by simp)
 obtain⟨d0,g0,b0,i0⟩:=W.ix 0 0 rfl rfl;obtain⟨d1,g1,b1,i1⟩:=W.ix 1 1 rfl rfl;obtain⟨d2,g2,b2,i2⟩:=W.ix 2 2 rfl rfl;obtain⟨d3,g3,b3,i3⟩:=W.ix 3 3 rfl rfl;obtain⟨d4,g4,b4,_⟩:=W.at 4 rfl;obtain⟨d5,g5,b5,_⟩:=W.at 5 rfl;obtain⟨d6,g6,b6,_⟩:=W.at 6 rfl;obtain⟨d7,g7,b7,_⟩:=W.at 7 rfl;obtain⟨d8,g8,b8,_⟩:=W.at 8 rfl;obtain⟨d9,g9,b9,_⟩:=W.at 9 rfl;have c4:=MB (x:=4) (y:=7) (i:=4) rfl rfl g4 g5 g6;have c7:=MB (x:=7) (y:=10) (i:=7) rfl rfl g7 g8 g9;obtain⟨hr,hne⟩:=tq (n:=(zs.length:Int)) (d:=d0) (e:=d1) (by omega) b0.1 b0.2 b1.1 b1.2;obtain⟨z1,k1,j1⟩:=tP (zs:=zs) b0.1 b0.2;obtain⟨z2,k2,j2⟩:=tP (zs:=zs) hr.1 hr.2;obtain⟨wd,hw,jw⟩:=EZ b2.1 b2.2;obtain⟨x,hx,fx,lx⟩:=nY (w:=d4) (a:=d5) (b:=d6) (l:=0) ⟨b5.1,by omega⟩ ⟨b6.1,by omega⟩ (by decide);obtain⟨y,hy,fy,ly⟩:=nY (w:=d7) (a:=d8) (b:=d9) (l:=1) ⟨b8.1,by omega⟩ ⟨b9.1,by omega⟩ (by decide);have hn0:((zs.length:Int)==0)=false:=beq_eq_false_iff_ne.mpr (by omega);have hz12:z1≠z2:=vH nd k1 k2 (by omega);have hd':bL [.int c,.lst [.int (zs.length:Int),.int ((zs.length:Int)-1),.int 2,.int 5,.int 8,.int bd,.int bd,.int 8,.int bd,.int bd]]=.ok (.lst (vs.map D.int)):=hd
 by_cases h3:0<d3
 .refine⟨⟨z1,z2,wd,x,some y⟩,?_,Pp k1,Pp k2,hz12,hw,fx,lx,λv hv=>?_⟩
  .open_line with[eP,lX,OD,hd',i3,decide_eq_true h3,c7,hy,i0,j1,i1,hn0,j2,i2,jw,c4,hx]
   rfl
  .cases hv;exact⟨fy,by omega⟩
 .refine⟨⟨z1,z2,wd,x,none⟩,?_,Pp k1,Pp k2,hz12,hw,fx,lx,λv hv=>nomatch hv⟩
  open_line with[eP,lX,OD,hd',i3,decide_eq_false h3,i0,j1,i1,hn0,j2,i2,jw,c4,hx]
  rfl
def kN:bv :=
 (aw (bE (ef (ao (af (ag 0) au) m_is_ratio) (aa (aa (ag 0) (dC (.int 0)) aO) (dC (.int 0)) MA)))
 ax)
def m_is_length:ac->ak D:=da 1 kN
def jZ:bv :=
 (aw (bE (i8 (aa (ag 0) (dC (.non)) rL) (ef (ao (af (ag 0) au) m_is_ratio) (aa (aa (ag 0) (dC (.int 0)) aO) (dC (.int 0)) wO))))
 ax)
def m_is_worth:ac->ak D:=da 1 jZ
noncomputable def gW:bv :=
 (aw (fw (i8 (dZ (bc (ag 0) (i9 "tuple"))) (aa (ao (af (ag 0) au) (m1 bN)) (dC (.int 5)) jf))
 (aw (bE (dC (.bl false)))
 ax)
 ax)
 (aw (fw (i8 (dZ (ao (af (aa (ag 0) (dC (.int 0)) aO) au) m_is_name)) (i8 (dZ (ao (af (aa (ag 0) (dC (.int 1)) aO) au) m_is_name)) (aa (aa (ag 0) (dC (.int 0)) aO) (aa (ag 0) (dC (.int 1)) aO) dm)))
 (aw (bE (dC (.bl false)))
 ax)
 ax)
 (aw (fw (i8 (dZ (bc (aa (ag 0) (dC (.int 2)) aO) (i9 "str"))) (aa (aa (ag 0) (dC (.int 2)) aO) (dC (.tup [(.str "one"),(.str "both")])) dk))
 (aw (bE (dC (.bl false)))
 ax)
 ax)
 (aw (bE (ef (ao (af (aa (ag 0) (dC (.int 3)) aO) au) m_is_length) (ao (af (aa (ag 0) (dC (.int 4)) aO) au) m_is_worth)))
 ax))))
def m_is_tie:ac->ak D:=da 1 gW
structure KN where
 ps:ci
 ts:List MF
 fi:OG
 la:OG
def ig(w:KN):D:=.tup [.lst (w.ps.map D.str),.lst (w.ts.map wX),.str w.fi,.str w.la]
structure oo (w:KN):Prop where
 n2:2<=w.ps.length
 n7:w.ps.length<=7
 nm:zR w.ps
 t14:w.ts.length<=14
 ts:∀t∈w.ts,zP w.ps t
 fi:w.fi∈w.ps
 la:w.la∈w.ps
 ne:w.fi≠w.la
def zN{zs:ci}{z:OG}:(zs.map D.str).any (λd=>cH d (.str z))=decide (z∈zs):=by
 induction zs with
 |nil=>rfl
 |cons y zs ih=>
  rw[PC,Tw,ih];show((y==z)||decide (z∈zs))=_
  by_cases h:y=z
  .subst h;simp
  .have:(y==z)=false:=beq_eq_false_iff_ne.mpr h
   rw[this,Sx];have:z∈y::zs↔z∈zs:=by simp[Py h]
   exact decide_eq_decide.mpr this.symm
def r8{n:Nat}{zs:ci}:(zs.map D.str).all (bh n)=true:=Pk.mpr λd hd=>by
 obtain⟨z,_,rfl⟩:=PM.mp hd;cases n<;>rfl
def zh{zs:ci}{z:OG}:Bt (.str z) (.lst (zs.map D.str))=.ok (.bl (decide (z∈zs))):=by
 have e:Dg (.str z) (.lst (zs.map D.str))=some (decide (z∈zs)):=(if_pos ⟨rfl,r8⟩).trans (congrArg some zN);unfold Bt;rw[e]
def fJ{zs:ci}{z:OG}:dk (.str z) (.lst (zs.map D.str))=.ok (.bl (!(decide (z∈zs)))):=by
 have e:Dg (.str z) (.lst (zs.map D.str))=some (decide (z∈zs)):=(if_pos ⟨rfl,r8⟩).trans (congrArg some zN);unfold dk;rw[e]
def ix_last{xs:ac}{x:D}:aO (.lst (xs++[x])) (.int (-1))=.ok x:=by
 have e:atI (xs++[x]) (-1)=some x:=by
  unfold atI Ge;rw[if_neg (by decide)];have h:(-((xs++[x]).length:Int))<=-1:=by simp;omega
  rw[if_pos h];have e:(-1+((xs++[x]).length:Int)).toNat=xs.length:=by simp;omega
  rw[e];simp
 show(match atI (xs++[x]) (-1) with|some d=>ak.ok d|none=>.stuck)=_;rw[e]
noncomputable def iN:bv :=
 (aw (fw (aa (ag 1) (ao (af (ag 0) au) (m1 bN)) mY)
 (aw (bE (aa (ag 0) (ag 1) aO))
 ax)
 ax)
 (aw (bE (aa (aa (dC (.int 7919)) (ag 1) dO) (aa (dC (.int 31)) (ao (af (ag 0) au) (m1 bN)) dO) aP))
 ax))
def ck:ac->ak D:=da 2 iN
noncomputable def qZ:bv :=
 (aw (aV 2 (ao (af (ag 0) (af (ag 1) au)) ck))
 (aw (aV 3 (ao (af (ag 2) (af (ao (af (dC (.int 6)) (af (dC (.int 15)) (af (dC (.int 7)) (af (dC (.int 6)) au)))) cE) au)) bL))
 (aw (aV 4 (ao (af (aa (ag 2) (dC (.int 3780)) qJ) (af (aa (dC (.int 2)) (aa (ag 3) (dC (.int 0)) aO) aP) au)) dS))
 (aw (t8 5 (ao au cE))
 (aw (pI (aa (ag 3) (dC (.int 1)) aO) (fv 6)
 (aw (aV 7 (aa (ao (af (aa (aa (dC (.int 10)) (dC (.int 60)) oK) (dC (.int 1)) wt) (af (aa (dC (.int 10)) (dC (.int 9)) oK) au)) cE) (ao (af (aa (aa (ag 6) (dC (.int 5)) cO) (dC (.int 0)) wO) au) (m1 nE)) aO))
 (aw (eI 5 (ao (af (ag 4) (af (ao (af (ag 0) (af (aa (aa (ag 1) (dC (.int 1)) aP) (ag 6) aP) au)) ck) (af (ag 7) au))) eP))
 ax)))
 (aw (aV 8 (aa (aa (ag 3) (dC (.int 2)) aO) (ao (af (ag 4) au) (m1 bN)) cO))
 (aw (aV 9 (aa (aa (aa (ag 8) (dC (.int 1)) aP) (aa (aa (ag 3) (dC (.int 3)) aO) (aa (ao (af (ag 4) au) (m1 bN)) (dC (.int 1)) wt) cO) aP) (ao (af (ag 4) au) (m1 bN)) cO))
 (aw (bE (ao (af (ag 4) (af (ag 5) (af (aa (ag 4) (ag 8) aO) (af (aa (ag 4) (ag 9) aO) au)))) iR))
 ax))))))))
def gC:ac->ak D:=da 10 qZ
def zK{ns:List Int}(hn:ns.length<=1000){k:Int}(h0:0<=k)(h1:k<=1000):∃c:Int,ck [.lst (ns.map D.int),.int k]=.ok (.int c):=by
 obtain⟨n,rfl⟩:=P5 h0
 by_cases h:n<ns.length
 .refine⟨ns[n],?_⟩
  have hix:aO (.lst (ns.map D.int)) (.int (n:Int))=.ok (.int ns[n]):=kE (by rw[O5,OQ h];rfl);open_line with[ck,iN,OD,decide_eq_true (show(n:Int)<(ns.length:Int) by omega),hix]
 .refine⟨7919*(n:Int)+31*(ns.length:Int),?_⟩
  open_line with[ck,iN,OD,decide_eq_false (show ¬(n:Int)<(ns.length:Int) by omega),uJ (fT (i:=7919) (j:=(n:Int)) (by decide) (by omega)),uJ (fT (i:=31) (j:=(ns.length:Int)) (by decide) (by omega))]
def Eg{k:Int}:∃bd:Int,(0<bd/\bd<=(mT:Int)-1)/\∀(ρ:Ev),ρ[6]?=some (.sh (.int k))->(aa (ao (af (aa (aa (dC (.int 10)) (dC (.int 60)) oK) (dC (.int 1)) wt) (af (aa (dC (.int 10)) (dC (.int 9)) oK) au)) cE) (ao (af (aa (aa (ag 6) (dC (.int 5)) cO) (dC (.int 0)) wO) au) (m1 nE)) aO) ρ=.ok (.int bd):=by
 have p9:oK (.int 10) (.int 9)=.ok (.int 1000000000):=rfl
 by_cases h:0<k.fmod 5
 .refine⟨1000000000,⟨by decide,by decide⟩,λρ hρ=>?_⟩
  have e:nE (.bl true)=.ok (.int 1):=rfl;open_line with[hρ,p9,decide_eq_true (show k.fmod 5 > 0 from h),decide_eq_true h,e]
 .refine⟨(mT:Int)-1,⟨by decide,by decide⟩,λρ hρ=>?_⟩
  have e:nE (.bl false)=.ok (.int 0):=rfl;open_line with[hρ,p9,decide_eq_false (show ¬k.fmod 5 > 0 from h),decide_eq_false h,e]
def zZ{ns:List Int}(hn:ns.length<=1000){at_:Int}(h0:0<=at_)(h1:at_<=900):∃w,gC [.lst (ns.map D.int),.int at_]=.ok (ig w)/\oo w:=by
 obtain⟨c,hc⟩:=zK hn (k:=at_) h0 (by omega);obtain⟨vs,hd,W⟩:=mE c [6,15,7,6] (by decide) (by decide);have hd':bL [.int c,.lst [.int 6,.int 15,.int 7,.int 6]]=.ok (.lst (vs.map D.int)):=hd;obtain⟨d0,g0,b0,i0⟩:=W.ix 0 0 rfl rfl;obtain⟨d1,g1,b1,i1⟩:=W.ix 1 1 rfl rfl;obtain⟨d2,g2,b2,i2⟩:=W.ix 2 2 rfl rfl;obtain⟨d3,g3,b3,i3⟩:=W.ix 3 3 rfl rfl;obtain⟨m,rfl⟩:=P5 b0.1;obtain⟨zs,hz,hzl,nm⟩:=CQ (c.fdiv 3780) (2+m) (by omega);have hz':dS [.int (c.fdiv 3780),.int (2+(m:Int))]=.ok (.lst (zs.map D.str)):=hz;have hdiv:qJ (.int c) (.int 3780)=.ok (.int (c.fdiv 3780)):=J7 (DY (by decide) (OS (show(3780:Int).natAbs<mT by decide) Kz));obtain⟨tn,rfl⟩:=P5 b1.1;obtain⟨ρ',hl,ts,hts,hall,x,y,rfl⟩:=zk (i:=6) (n:=tn)
  (ρ:=[.sh (.lst (ns.map D.int)),.sh (.int at_),.sh (.int c),.sh (.lst (vs.map D.int)),.sh (.lst (zs.map D.str)),.ow (.lst []),.no,.no,.no,.no])
  (body:=(aw (aV 7 (aa (ao (af (aa (aa (dC (.int 10)) (dC (.int 60)) oK) (dC (.int 1)) wt) (af (aa (dC (.int 10)) (dC (.int 9)) oK) au)) cE) (ao (af (aa (aa (ag 6) (dC (.int 5)) cO) (dC (.int 0)) wO) au) (m1 nE)) aO))
   (aw (eI 5 (ao (af (ag 4) (af (ao (af (ag 0) (af (aa (aa (ag 1) (dC (.int 1)) aP) (ag 6) aP) au)) ck) (af (ag 7) au))) eP))
   ax)))
  (λk ρ=>∃ts:List MF,ts.length=k/\(∀t∈ts,zP zs t)/\∃x y,ρ=[.sh (.lst (ns.map D.int)),.sh (.int at_),.sh (.int c),.sh (.lst (vs.map D.int)),.sh (.lst (zs.map D.str)),.ow (.lst (ts.map wX)),x,y,.no,.no]) (by
   rintro k hk ρ ⟨ts,rfl,hall,x,y,rfl⟩;obtain⟨bd,hb,hbd⟩:=Eg (k:=((ts.length:Nat):Int));obtain⟨c',hc'⟩:=zK hn (k:=at_+1+(ts.length:Int)) (by omega) (by omega);obtain⟨t,ht,hT⟩:=ID (zs:=zs) (c:=c') (bd:=bd) (by omega) (by omega) nm.nd hb;refine⟨[.sh (.lst (ns.map D.int)),.sh (.int at_),.sh (.int c),.sh (.lst (vs.map D.int)),.sh (.lst (zs.map D.str)),.ow (.lst ((ts++[t]).map wX)),.sh (.int (ts.length:Int)),.sh (.int bd),.no,.no],?_,ts++[t],by simp,λu hu=>?_,_,_,rfl⟩
   .rw[uH,Dz,hbd _ rfl]
    open_line with[hc',ht,pd (ds:=ts.map wX) (decide_eq_true (by rw[OD];omega)),PZ]
   .rw[Qv]at hu
    rcases hu with hu|hu
    .exact hall u hu
    .have:u=t:=by simpa using hu
     subst this;exact hT) ⟨[],rfl,λt ht=>(nomatch ht),_,_,rfl⟩
 have hn0:((zs.length:Int)==0)=false:=beq_eq_false_iff_ne.mpr (by omega);have hn1:((zs.length:Int)-1==0)=false:=beq_eq_false_iff_ne.mpr (by omega);have f1:=iE (a:=d2) (b:=(zs.length:Int)) (by omega);have f2:=iE (a:=d3) (b:=(zs.length:Int)-1) (by omega);obtain⟨hr,hne⟩:=tq (n:=(zs.length:Int)) (d:=d2.fmod (zs.length:Int)) (e:=d3.fmod ((zs.length:Int)-1)) (by omega) f1.1 f1.2 f2.1 f2.2;obtain⟨z1,k1,j1⟩:=tP (zs:=zs) f1.1 f1.2;obtain⟨z2,k2,j2⟩:=tP (zs:=zs) hr.1 hr.2;refine⟨⟨zs,ts,z1,z2⟩,?_,⟨by show 2<=zs.length;omega,by show zs.length<=7;omega,nm,by show ts.length<=14;omega,hall,Pp k1,Pp k2,vH nm.nd k1 k2 (by omega)⟩⟩;open_line with[gC,qZ,hc,hd',hdiv,i0,hz',i1,zA,vV (k:=tn) (show tn<=1000000 by omega),hl,i2,i3,OD,hn0,hn1,j1,j2]
 rfl
end Com
namespace DL
open PySem PySem.Spec PyProof.Rows L2
def PT.nox{X:Cx}{e:Pl}{t:TT}(h:PT X.nox e t):PT X e t:=λπ s σ H Q I hw=>
 PN (h π s σ H Q (I.wish _) hw) (λ_ _ ⟨H',I',q⟩=>⟨H',I'.unwish,q⟩) λ_ _ z=>PQ z
section
variable {prog:Pr}{w:PJ}{A:Px}{E:OB->OI->Prop}{h:OY}{g:Array GenState}{d:Drawn}{t:Nat}{os:OsState}
variable {nm q:OG}{C N:OE}{bs bm bmB:List OB}{hdct:Bool}{sn:ci}{sub:List OB}{ab:Bool}{col:Option Bool}{dd:Option OE}{k0 k1 k2 k3 k5:Option OB}{B newId initId:String}{mN:OG->Option OB}{rest:List OB}{fI:OE}{oI:Obj}
def EN{Q:Fin->OI->Prop}(F:ExcBaseFacts B newId initId bmB)(T:OwnTail h bmB bm)(hC:h.get? C=some (excClassObj nm q C N bs bm hdct sn sub ab col dd k0 k1 k2 k3 k5 newId))(hn:h.Ns N mN)(hi:mN "__init__"=some (.ref fI))(hfI:h.get? fI=some oI)(hfc:oI.cls=.type "function")(hrest:rest.length<=sizeLine)
  (hq:∀h' e,Th h h' e (.ref C) rest->O7 (O2 prog w) A (call (.ref fI) (.ref e::rest)) (λr s'=>r=.none/\Q (.done (.ret (.ref e))) s') E ⟨h',g,d,t,os⟩):O7 (O2 prog w) A (Builtin.«type.__call__» ⟨.ref C::rest,[]⟩) Q E ⟨h,g,d,t,os⟩:=by
 repeat (first|with_reducible refine Qr hC ?_|with_reducible refine wpAny_madeBy_exc hC ?_|wp_step)
 refine codeAny_call_builtin_code (SN _ F.quiet) (wpAny_check_new_subT F T hC (codeAny_exc_new_subT F T hC ?_ hrest));generalize hT0:({ cls:=.type "tuple",data:=.seq rest.toArray }:Obj)=o0;generalize hX0:({ cls:=.ref C,data:=.fields #[.ref h.objs.size,.none,.none,.none,.bool false,.none] }:Obj)=o1;have kp:∀b o,h.get? b=some o->((h.push o0).push o1).get? b=some o:=λb o hb=>OK o1 (OK o0 hb);have hget:((h.push o0).push o1).get? (h.objs.size+1)=some o1:=by subst hX0 hT0;heap_get
 have hc1:o1.cls=.ref C:=by subst hX0;rfl
 have hcC:(Pq C::bm).contains (.ref C)=true:=by simp
 show O7 _ _ _ _ _ _;unfold isInstance
 repeat (first|(with_reducible refine Qr hget ?_;try rw[hc1])|(with_reducible refine wpAny_isSubtype_exc (kp _ _ hC) ?_;rw[hcC])|wp_step)
 show O7 _ _ (RH (.ref C) _) _ _ _;refine wpAny_typeLookup_tail (kp _ _ hC) (hn.keeps kp) (T.keeps kp) F.mroIs F.init.lookup ?_;rw[hi];refine QT (OM (show O7 _ _ (bindSpecial _ _) _ _ _ from ?_));unfold bindSpecial;refine OM (wpAny_typeOf (T:="function") ⟨_,kp _ _ hfI,hfc⟩ ?_);rw[if_pos (by decide)];refine Pc (OM (PN (hq _ (h.objs.size+1) ⟨kp,RL (Nat.le_succ _),h.objs.size,by rw[hX0];exact hget,RL (O3 _),?_⟩) (λr s' hr=>?_) λ_ _ x=>x))
 .subst hT0;exact OK _ (Heap.get?_push_at rfl rfl)
 .obtain⟨rfl,hQ⟩:=hr
  wp_walk
  exact hQ
def ES{Q:OB->OI->Prop}(F:ExcBaseFacts B newId initId bmB)(T:OwnTail h bmB bm)(hC:h.get? C=some (excClassObj nm q C N bs bm hdct sn sub ab col dd k0 k1 k2 k3 k5 newId))(hn:h.Ns N mN)(hi:mN "__init__"=some (.ref fI))(hfI:h.get? fI=some oI)(hfc:oI.cls=.type "function")(hrest:rest.length<=sizeLine)
  (hq:∀h' e,Th h h' e (.ref C) rest->O7 (O2 prog w) (A.under (.builtin "type.__call__" ⟨.ref C::rest,[]⟩)) (call (.ref fI) (.ref e::rest)) (λr s'=>r=.none/\Q (.ref e) s') E ⟨h',g,d,t,os⟩):O7 (O2 prog w) A (call (.ref C) rest) Q E ⟨h,g,d,t,os⟩:=by
 have f1:=tc_lookup;have f2:=tc_bind (.ref C);have hT:(⟨h,g,d,t,os⟩:OI).TypeIs (.ref C) "type":=⟨_,hC,rfl⟩
 refine wpAny_call (codeAny_of_tree (show O7 _ _ (callAny (.ref C) _) _ _ _ from ?_))
 repeat (any_goals (first|assumption|with_reducible refine Qr hC ?_|wp_step))
 exact⟨rfl,codeAny_call_builtin_at (SN _ (by decide +kernel)) entry_typeCall (wpAny_check_type_call_sub hC (EN F T hC hn hi hfI hfc hrest λh' e hm=>hq h' e hm))⟩
end
section
variable {M:Model}{A:Px}{E:OB->OI->Prop}{env:P7}
variable {nm q:OG}{C N:OE}{bs bm:List OB}{hdct:Bool}{sn:ci}{sub:List OB}{ab:Bool}{col:Option Bool}{dd:Option OE}{k0 k1 k2 k3 k5:Option OB}{newId:String}
def Bw{s:OI}{x:Sem OB}{Q:Flow->OI->Prop}(hbase:bm.contains (.type "BaseException")=true)(hh:A.handled=none)
  (h:O7 M A x (λv sg=>∃e dc t,v=.ref e/\sg.heap.get? C=some (excClassObj nm q C N bs bm hdct sn sub ab col dd k0 k1 k2 k3 k5 newId)/\sg.heap.get? e=some ⟨.ref C,dc,.fields #[.ref t,.none,.none,.none,.bool false,.none],#[]⟩/\E (.ref e) sg) E s):O7 M A (raiseStmt env (some x) none) Q E s:=by
 have hcB:(Pq C::bm).contains (.type "BaseException")=true:=by rw[List.contains_cons,hbase,Bool.or_true]
 unfold raiseStmt;refine OM (PN h (λv sg ⟨e,dc,t,hv,hC,he,hE⟩=>?_) λ_ _ x=>x);subst hv;obtain⟨hp,g,d,tk,os⟩:=sg
 repeat (first|with_reducible refine Qr he ?_|with_reducible refine Qr hC ?_|(with_reducible refine wpAny_isSubtype_exc hC ?_;rw[hcB])|wp_step)
 exact wpAny_raiseNew_none hh hE
end
def kl:List OB->Bool
 |.ref _::r=>kl r
 |l=>l==[.type "ValueError",.type "Exception",.type "BaseException",.type "object"]
theorem sr(self:OB):∀{l:List OB},kl l=true->refuseLoop self "__setattr__" l=pure ()
 |[],e=>by cases e
 |x::r,e=>by
  cases x with|ref c=>rw[refuseLoop_ref];exact sr self (l:=r) (by unfold kl at e;exact e)| _=>unfold kl at e;rw[beq_iff_eq.mp e];exact PySem.F.store_ValueError.passes self
theorem BD:∀{l:List OB},kl l=true->l.contains (.type "object")=true
 |[],e=>by cases e
 |x::r,e=>by
  cases x with|ref c=>rw[List.contains_cons,BD (l:=r) (by unfold kl at e;exact e),Bool.or_true]| _=>unfold kl at e;rw[beq_iff_eq.mp e];decide
structure Ho (K:OH) (C:OE) (ks:ci):Prop where
 sa:Qj K (.ref C) "__setattr__"=some (some (.builtin "object.__setattr__"))
 hd:Q2 K C=true
 mr:(W.clsIn K C).any (λcd=>kl cd.mro)=true
 no:∀f∈ks,eH K C f
section
variable {prog:Pr}{w:PJ}{A:Px}{K:OH}{C x:OE}{s:OI}{R:SD->OI->Prop}
def ER{ox:Obj}{od:Option Obj}{name:OG}{tk:Tok}{v:OB}{ks:ci}(X:K.In s.heap)(I:Um s.heap x ox C od)(c:Ho K C ks)(hf:name∈ks)
  (h:∀b,O7 (O2 prog w) A.in1 (Builtin.ObjectAttr.storeInOwnDict (.ref x) (.ref C) (.str name tk) name v b) (λfin s'=>match fin with|.done f=>R (.ok f) s'|.again c'=>c'.quiet=true/\Q9 (O2 prog w) A c' R s') (λe s'=>R (.error e) s') s) :
  Q9 (O2 prog w) A (.call (.builtin "object.__setattr__") ⟨[.ref x,.str name tk,v],[]⟩) R s:=by
 have SF:=PySem.F.store_object;obtain⟨cd,hc,ho⟩:=W.any_some c.mr;have ne:cd.mro.isEmpty=false:=by cases q:cd.mro with|nil=>rw[q]at ho;cases ho|cons _ _=>rfl
 have sub:R6 (O2 prog w) s.heap (isInstance (.ref x) (.type "object")) true:=I.type.andThen (W.looks_mroIn X (by unfold TV;rw[hc,Option.bind_some,if_neg (by rw[ne];decide),BD ho]));refine codeAny_call_builtin SF.slot.plain SF.entry (@W.check_slot (O2 prog w) _ _ s "object.__setattr__" "object" "__setattr__" (.ref x) [.str name tk,v] [] _ SF.kind SF.split sub (SF.args (.ref x) (.str name tk) v) ?_);have hm:R6 (O2 prog w) s.heap (mroOf (.ref C)) cd.mro:=(Tp X hc).andThen .now;rw[W.osa_eq,refuse_eq];refine OM (OM (I.type.here (OM (hm.here ?_))));rw[sr _ ho];refine Pc ?_;have L3:R6 (O2 prog w) s.heap (Builtin.ObjectAttr.storeTaker? none) none:=.now;have L2:R6 (O2 prog w) s.heap (RH (.ref C) name) none:=W.looks_findIn X (c.no name hf);refine OM (I.type.here (OM (L2.here (OM (L3.here ?_)))));exact h _
def EO{E:OB->OI->Prop}{Q:Unit->OI->Prop}{name:OG}{v:OB}{ks:ci}{fs:Array OB}(X:K.In s.heap)(hx:s.heap.get? x=some ⟨.ref C,none,.fields fs,#[]⟩)(c:Ho K C ks)(hf:name∈ks)
  (h:∀h',h'.get? x=some ⟨.ref C,some s.heap.objs.size,.fields fs,#[]⟩->h'.Ns1 s.heap.objs.size (λy=>if y=name then some v else none)->(∀b o,b≠x->s.heap.get? b=some o->h'.get? b=some o)->Q () { s with heap:=h',toks:=s.toks+2 }) :
  O7 (O2 prog w) A (setAttr (.ref x) name v) Q E s:=by
 have J:Um s.heap x ⟨.ref C,none,.fields fs,#[]⟩ C none:=⟨hx,rfl,rfl,trivial⟩
 refine W.set_plain X J c.sa (ER (s:={ s with toks:=s.toks+1 }) X J c hf λb=>?_);obtain⟨cd,hc,hd'⟩:=W.any_some c.hd;refine OM (Pc (OM (OM (wpAny_loadPart hx (OM (R6.here (s:={ s with toks:=s.toks+1 }) (Tp X hc) ?_))))));rw[hd'];have hx₁:(s.heap.push Qu).get? x=some ⟨.ref C,none,.fields fs,#[]⟩:=OK _ hx;have hxs:x≠s.heap.objs.size:=Po (O1 hx);have hgd:((s.heap.push Qu).update x λo=>{ o with dict:=some s.heap.objs.size }).get? s.heap.objs.size=some Qu:=(Uv _ _ _ _ hxs.symm).trans (Heap.get?_push_at rfl rfl);have hnd:((s.heap.push Qu).update x λo=>{ o with dict:=some s.heap.objs.size }).Ns s.heap.objs.size (λ_=>none):=⟨_,#[],_,hgd,rfl,λe he=>absurd he (by simp),λ_=>rfl⟩
 have hx2:((s.heap.push Qu).update x λo=>{ o with dict:=some s.heap.objs.size }).get? x=some ⟨.ref C,some s.heap.objs.size,.fields fs,#[]⟩:=QI _ hx₁ rfl;refine OM (wpAny_alloc' (OM (wpAny_update' hx₁ (Pc ?_))));refine OM (Pc (OM (wpAny_nsSet1 (Heap.Ns1.of_empty hnd) λh' hn' hs=>?_)));obtain⟨oD,esD,epD,hoD,hdD,hcD⟩:=hn'.count (Rk.cons name v Rk.nil);refine OM (wpAny_lookBehind hoD (by rw[hdD];exact pastItsLine_dict (O0 hcD (by rw[Pa,QM,sizeLine_eq];omega))) (Pc (h h' ?_ hn' λb o hb e=>?_)))
 .exact(hs.2 x hxs).trans hx2
 .exact(hs.2 b (Po (O1 e))).trans ((Uv _ _ _ _ hb).trans (OK _ e))
end
def rm(a C:OE)(dc:Option OE)(h:OY):Prop:=∃t,h.get? a=some ⟨.ref C,dc,.fields #[.ref t,.none,.none,.none,.bool false,.none],#[]⟩
def Bm(a:OE)(fs:List (OG×V))(h:OY):Prop:=∃mA,h.Ns1 a mA/\(∀f,yo (fs.lookup f) (mA f))/\Rk mA (fs.map (·.1))
def qu{a C:OE}{dc:Option OE}:∀h1 h2:OY,rm a C dc h1->(∀o,h1.get? a=some o->h2.get? a=some o)->rm a C dc h2:=λ_ _ ⟨t,e⟩ k=>⟨t,k _ e⟩
def Bz{a:OE}{fs:List (OG×V)}:∀h1 h2:OY,Bm a fs h1->(∀o,h1.get? a=some o->h2.get? a=some o)->Bm a fs h2:=λ_ _ ⟨m,n,r⟩ k=>⟨m,n.at k,r⟩
def zY{a:OE}{fs:List (OG×V)}{h:OY}(x:Bm a fs h):∃o,h.get? a=some o:=let ⟨_,⟨o,_,_,e,_⟩,_⟩:=x;⟨o,e⟩
def EU{a:OE}{fs:List (OG×V)}{h:OY}{mA:OG->Option OB}{f:OG}{y:V}{u:OB}(ry:bX y u)(r:∀f,yo (fs.lookup f) (mA f))(wi:Rk mA (fs.map (·.1)))(n:h.Ns1 a (λz=>if z=f then some u else mA z)):Bm a (fz f y fs) h:=by
 refine⟨_,n,λg=>?_,λg hg=>?_⟩
 .rw[kC]
  by_cases q:g=f
  .rw[if_pos q];simp only[if_pos q];exact ry
  .rw[if_neg q];simp only[if_neg q];exact r g
 .by_cases q:g=f
  .rw[q];exact(jx f y fs).1
  .exact(jx f y fs).2 g (wi g λz=>hg (by simp only[if_neg q];exact z))
section
variable {X:Cx}{o value:Pl}{f:OG}{pos pos':Pos}{ta tv:TE}
def Om(K:OH)(ta tv:TE)(f:OG):TS:=λD σ H=>tv σ H λy H1=>ta σ H1 λx H2=>∃a C ks,x=.ref a/\H2 a=some (.ext (rm a C none))/\Ho K C ks/\f∈ks/\∀dx,H2 dx=none->D.nx σ (upd (upd H2 a (.ext (rm a C (some dx)))) dx (.ext (Bm dx [(f,y)])))
def LF(ha:PE X o ta)(hv:PE X value tv)(hs:P9 value (some (.Attribute o f pos')) pos.line X.env=pure false):PS X (.Assign [.Attribute o f pos'] value pos) (Om X.K ta tv f):=by
 intro π s σ H D I h;refine plainObj_wpAny_Assign_Attribute (dB (hv π s σ H _ I h) λu s1 ⟨y,H1,I1,ry,q⟩=>dB (ha π s1 σ H1 _ I1 q) λov s2 z9=>?_) hs;obtain⟨x,H2,I2,rx,a,C,ks,ex,ea,c,hf,q2⟩:=z9;subst ex;obtain rfl:ov=Pq a:=rx;obtain⟨⟨t,hx⟩,_,_⟩:=(show dq X.prog X.w H2 s2.heap a (.ext _) from I2.hok a _ ea)
 have fr:H2 s2.heap.objs.size=none:=I2.hok.fresh (O3 _);have hne:s2.heap.objs.size≠a:=λz=>Rp _ (z▸O1 hx);refine EO I2.kIn hx c hf λh' e' n' k'=>⟨σ,_,?_,q2 s2.heap.objs.size fr⟩
 have p:Bm s2.heap.objs.size [(f,y)] h':=EU (fs:=[]) (mA:=λ_=>none) ry (λ_=>Rg) (λ_ z=>absurd rfl z) n';have mu:KO (H2 a):=by rw[ea];exact Rg
 have fr':(upd H2 a (.ext (rm a C (some s2.heap.objs.size)))) s2.heap.objs.size=none:=by rw[av hne];exact fr
 exact I2.un (Un.ext (Un.write mu (.inl rfl) (λb q hb z=>k' b q hb z) ⟨_,e'⟩) fr' (RL (O3 _))) (ip.ext (I2.hok.write (o':=.ext (rm a C (some s2.heap.objs.size))) mu (.inl rfl) (λb q hb z=>k' b q hb z) ⟨_,e'⟩ ⟨⟨t,e'⟩,⟨_,e'⟩,qu⟩) fr' p (zY p) Bz)
end
def K9(is:cr):TA:=λσ H Q=>∃vs,is.map (λi=>σ[i]?)=vs.map (λv=>some (some v))/\Q vs H
structure PV (X:Cx) (es:List Pl) (is:cr):Prop where
 o:PA X es (K9 is)
section
variable {X:Cx}
def Jf:PV X [] []:=⟨λpos π s σ H Q I ⟨vs,e,h⟩=>by
 cases vs with
 |nil=>exact dR pos π s σ H Q I h
 |cons v vs=>simp at e⟩
def yH{es:List Pl}{is:cr}{i:Nat}{y:OG}{p:Pos}(hN:X.N[i]?=some y)(hv:zO X.env.scope y)(h:PV X es is)(hd:(y==("__debug__" : OG))=false:=by decide)(hcd:(y==("__classdict__" : OG))=false:=by decide):PV X (.Name y p::es) (i::is) :=
 ⟨λpos π s σ H Q I ⟨vs,e,q⟩=>by
  cases vs with
  |nil=>simp at e
  |cons v vs=>
   simp only[PC,List.cons.injEq]at e;exact cF (jJ hN hv hd hcd) h.o (aJ rfl) pos π s σ H Q I ⟨v,e.1,vs,e.2,q⟩⟩
structure En (K:OH) (CE:OE):Prop where
 rd:W.readsIn K CE (.type "type")=true
 fc:W.findCls K (.ref CE) (.type "type") "__init__"=some (.val (.builtin "ValueError.__init__"))
 sp:R0 K (.ref CE) "__getattribute__"=some (some (.builtin "type.__getattribute__"))
structure Ig (K:OH) (C fn:OE):Prop where
 ex:∃CE nm q N bs hdct sn sub ab col dd k0 k1 k2 k3 k5,K.lookup C=some (excClassObj nm q C N bs [.ref CE,.type "ValueError",.type "Exception",.type "BaseException",.type "object"] hdct sn sub ab col dd k0 k1 k2 k3 k5 "ValueError.__new__")/\W.nsOkIn K N=true/\Qg K N "__init__"=some (some (.ref fn)) /\
  TY K CE [.type "ValueError",.type "Exception",.type "BaseException",.type "object"] "ValueError.__new__"=true
def FR{K:OH}{h:OY}{N:OE}{mg:OG->Option OB}{n:OG}{v:OB}(X:K.In h)(G:h.Ns N mg)(e:Qg K N n=some (some v)):mg n=some v:=by
 obtain⟨o,es,ep,ho,hd,_,hf⟩:=G;unfold Qg at e;split at e
 .rename_i c d es' n' sl q
  have:=X _ _ q;rw[ho]at this;cases this;cases hd;split at e
  .rename_i en he
   rw[←hf];unfold nsFind findBy;rw[←Array.find?_toList,he];simpa using e
  .split at e<;>cases e
 .cases e
structure NP (h:OY) (C fn:OE):Prop where
 ex:∃bm N nm q bs hdct sn sub ab col dd k0 k1 k2 k3 k5 mN,h.get? C=some (excClassObj nm q C N bs bm hdct sn sub ab col dd k0 k1 k2 k3 k5 "ValueError.__new__")/\h.Ns N mN/\mN "__init__"=some (.ref fn)/\OwnTail h [.type "ValueError",.type "Exception",.type "BaseException",.type "object"] bm
def BM{K:OH}{CE:OE}{h:OY}(X:K.In h)(q:TY K CE [.type "ValueError",.type "Exception",.type "BaseException",.type "object"] "ValueError.__new__"=true):OwnTail h [.type "ValueError",.type "Exception",.type "BaseException",.type "object"] [.ref CE,.type "ValueError",.type "Exception",.type "BaseException",.type "object"]:=by
 unfold TY at q;split at q
 .rename_i dd cd sl ho
  split at q
  .simp only[OR,beq_iff_eq,Rb]at q
   obtain⟨⟨⟨⟨_,_⟩,_⟩,hok⟩,hni⟩:=q;exact .own (X _ _ ho) (.of_isNs (TX X hok)) (W.nsMap_none_of_in X hok hni) .base
  .cases q
 .cases q
def yu{K:OH}{C fn:OE}{h:OY}(X:K.In h)(q:Ig K C fn):NP h C fn:=by
 obtain⟨CE,nm,qn,N,bs,hdct,sn,sub,ab,col,dd,k0,k1,k2,k3,k5,ho,hok,hi,he⟩:=q.ex;exact⟨_,N,nm,qn,bs,hdct,sn,sub,ab,col,dd,k0,k1,k2,k3,k5,_,X _ _ ho,.of_isNs (TX X hok),FR X (.of_isNs (TX X hok)) hi,BM X he⟩
def Ol(K:OH)(t:TA):TE:=λσ H Q=>t σ H λvs H1=>∃a C rest fn,vs=.ref a::rest/\rest.length<=line/\H1 a=some (.ext (rm a C none))/\Ig K C fn/\Q .non (upd H1 a (.ext (rm a C none)))
def LH{ce:OG}{CE:OE}{np apos cpos:Pos}{e:Pl}{es:List Pl}{t:TA}{pl:Sem Bool}(b:En X.K CE)(hg:Gl X ce)(hm:X.mg ce=some (.ref CE))(ha:PA X (e::es) t)(hdb:(ce==("__debug__" : OG))=false:=by decide)
  (he:OJ (e::es) X.env=(false,eval e X.env)::OJ es X.env:=by exact aJ rfl)(hpl:(PK cpos (OJ es X.env)).any (·.1)=false:=by exact bA rfl)
  (ht:eval (.Call (.Attribute (.Name ce np) "__init__" apos) (e::es) [] cpos) X.env=(do
   let ov ←eval (.Name ce np) X.env
   standAt apos.atName
   let (f,first) ←TR [ov] (getMethod ov "__init__" pl)
   callWith cpos f first (PK cpos (OJ (e::es) X.env)) (Ry cpos (QF [] X.env))):=by rfl) :
  PE X (.Call (.Attribute (.Name ce np) "__init__" apos) (e::es) [] cpos) (Ol X.K t):=by
 intro π s σ H Q I h;refine W.methodCall_KW (pl:=pl) (iT I hg hm (W.method_cls I.kIn b.sp (W.cls_value I.kIn b.rd b.fc rfl ?_)) hdb) ht;have I0:=I.tok (s.toks+1);have hA:=ha cpos π _ σ H _ I0 h;rw[he]at hA ⊢;refine Ub (by show(false||(PK cpos (OJ es X.env)).any (·.1))=false;rw[hpl];rfl) (Sv (dB hA λus s1 ⟨vs,H1,I1,r,a,C,rest,fn,ev,hl,ea,hx,q⟩=>?_));subst ev;obtain⟨_,us',rfl,ra,r'⟩:∃u us',us=u::us'/\bX (.ref a) u/\bJ rest us':=by cases r with|cons r1 r2=>exact⟨_,_,rfl,r1,r2⟩
 obtain rfl:_=Pq a:=ra;obtain⟨bm,N,nm,qn,bs,hdct,sn,sub,ab,col,dd,k0,k1,k2,k3,k5,mN,hC,hn,hi,T⟩:=(yu I1.kIn hx).ex;obtain⟨⟨t0,hae⟩,_,_⟩:=(show dq X.prog X.w H1 s1.heap a (.ext _) from I1.hok a _ ea)
 have F:=RT;have hz:us'.length<=sizeLine:=by rw[←r'.length];exact fV hl
 obtain⟨hp,g,d,tk,os⟩:=s1;refine wpAny_call (codeAny_call_builtin F.init.plain F.initEntry (wpAny_check_init_subT F T hC hae rfl ?_))
 wp_walk
 have mu:KO (H1 a):=by rw[ea];exact Rg
 have hne:a≠hp.objs.size:=Po (O1 hae);refine⟨.non,upd H1 a (.ext (rm a C none)),I1.write (o:=.ext (rm a C none)) (x:=a) (e:=a) mu (.inl rfl) (λb u hb e=>(QE _ _ (Py hb)).trans (OK _ e)) ⟨_,QI _ (OK _ hae) rfl⟩ ⟨⟨hp.objs.size,?_⟩,⟨_,QI _ (OK _ hae) rfl⟩,qu⟩,rfl,q⟩;rw[QI _ (OK _ hae) rfl];rfl
end
section
variable {X:Cx}
noncomputable def Od(K:OH) (fs:ci) (is:cr):TS:=λD σ H=>∃a C dx l ks vs,σ[0]?=some (some (V.ref a))/\H a=some (.ext (rm a C (some dx)))/\H dx=some (.ext (Bm dx l))/\dx≠a/\Ho K C ks/\(∀f∈fs,f∈ks)/\l.length+fs.length<1000/\fs.length=vs.length /\
 is.map (λi=>σ[i]?)=vs.map (λv=>some (some v))/\D.nx σ (upd H dx (.ext (Bm dx (putAll fs vs l))))
structure XR (X:Cx) (sts:List Qe) (fs:ci) (is:cr):Prop where
 o:rP X sts (Od X.K fs is)
def Im:XR X [] [] []:=⟨gN kU λD σ H ⟨a,C,dx,l,ks,vs,h1,h2,h3,h4,h5,h6,h7,h8,h9,q⟩=>by
 cases vs with
 |nil=>unfold putAll at q;rw[u7 h3]at q;exact q
 |cons v vs=>simp at h8⟩
noncomputable def Oe(K:OH) (ks:ci) (is:cr):TS:=λD σ H=>∃a C fn vs,σ[0]?=some (some (V.ref a))/\H a=some (.ext (rm a C none))/\Ho K C ks/\Ig K C fn/\ks.length=vs.length/\ks.length<=60 /\
 is.map (λi=>σ[i]?)=vs.map (λv=>some (some v))/\∀dx,H dx=none->D.nx σ (upd (upd H a (.ext (rm a C (some dx)))) dx (.ext (Bm dx (putAll ks vs []))))
structure XB (X:Cx) (sts:List Qe) (ks:ci) (is:cr):Prop where
 o:rP X sts (Oe X.K ks is)
def KW{sts:List Qe}{fs:ci}{is:cr}{f:OG}{i:Nat}{x y ce:OG}{CE:OE}{p1 p2 p3 pos np apos cpos spos sp0:Pos}{es:List Pl}{pl:Sem Bool}(b:En X.K CE)(hg:Gl X ce)(hm:X.mg ce=some (.ref CE))(hpv:PV X es (i::is))(hN:X.N[i]?=some y)(hN0:X.N[0]?=some x)(hv:zO X.env.scope y)(hv0:zO X.env.scope x)(h:XR X sts fs is)
  (hd:(y==("__debug__" : OG))=false:=by decide)(hcd:(y==("__classdict__" : OG))=false:=by decide)(hd0:(x==("__debug__" : OG))=false:=by decide)(hcd0:(x==("__classdict__" : OG))=false:=by decide)(hdb:(ce==("__debug__" : OG))=false:=by decide)
  (hs:P9 (.Name y p3) (some (.Attribute (.Name x p1) f p2)) pos.line X.env=pure false:=by rfl)(hs0:P9 (.Call (.Attribute (.Name ce np) "__init__" apos) (.Name x sp0::es) [] cpos) none spos.line X.env=pure false:=by rfl)(hpl:(PK cpos (OJ es X.env)).any (·.1)=false:=by exact bA rfl)
  (ht:eval (.Call (.Attribute (.Name ce np) "__init__" apos) (.Name x sp0::es) [] cpos) X.env=(do
   let ov ←eval (.Name ce np) X.env
   standAt apos.atName
   let (f,first) ←TR [ov] (getMethod ov "__init__" pl)
   callWith cpos f first (PK cpos (OJ (.Name x sp0::es) X.env)) (Ry cpos (QF [] X.env))):=by rfl) :
  XB X (.Expr (.Call (.Attribute (.Name ce np) "__init__" apos) (.Name x sp0::es) [] cpos) spos::.Assign [.Attribute (.Name x p1) f p2] (.Name y p3) pos::sts) (f::fs) (i::is):=by
 refine⟨gN (fA (ue (LH b hg hm (yH (p:=sp0) hN0 hv0 hpv hd0 hcd0).o hdb (aJ rfl) hpl ht) hs0) (fA (LF (jJ hN0 hv0 hd0 hcd0) (jJ hN hv hd hcd) hs) h.o)) λD σ H ⟨a,C,fn,vs,h1,h2,h3,h4,h5,h6,h7,q⟩=>?_⟩;refine⟨.ref a::vs,(show σ[0]?::(i::is).map (λi=>σ[i]?)=some (some (V.ref a))::vs.map (λv=>some (some v)) by rw[h1,h7]),a,C,vs,fn,rfl,?_,h2,h4,?_⟩
 .have:vs.length<=60:=by omega
  exact O0 this (by decide)
 .cases vs with
  |nil=>simp at h5
  |cons v vs=>
   simp only[PC,List.cons.injEq]at h7;simp only[Pa]at h5 h6;rw[u7 h2];refine⟨v,h7.1,.ref a,h1,a,C,f::fs,rfl,h2,h3,Pe,λdx hdx=>?_⟩;have hne:dx≠a:=λz=>by subst z;rw[h2]at hdx;cases hdx
   refine⟨a,C,dx,[(f,v)],f::fs,vs,h1,?_,ay,hne,h3,λg hg=>OT _ hg,?_,by omega,h7.2,?_⟩
   .rw[av hne.symm,ay]
   .simp only[Pa,QM];omega
   .rw[rS]
    have:=q dx hdx;unfold putAll at this;exact this
end
noncomputable def Fg(K:OH) (ks:ci):Sp:=λvs H Q _=>∃a C fn args,vs=.ref a::args/\args.length=ks.length/\H a=some (.ext (rm a C none))/\Ho K C ks/\Ig K C fn/\∀dx,H dx=none->Q .non (upd (upd H a (.ext (rm a C (some dx)))) dx (.ext (Bm dx (putAll ks args []))))
def Mc{P:Pr}{w:PJ}{K:OH}{mg:OG->Option OB}{base:OY}{x qual:OG}{st:Qe}{f:OE}{fd:Pz}{ps:ci}{ks:ci}(F:zT K x qual st f fd)(S:fH ps ps (defScope st))(hps:ps.length=ks.length+1)(hf:ks.length<=60)
  (hbody:∀(cdv:OB) (A:Px) (outer:List P7) (s0:OI) (H:Hp) (E:XK),XB (gh CX0 P w K mg base ps qual (defScope st) f cdv A outer s0 H E).nox (defBody st) ks ((Qc ks.length).map (· + 1))):gq P w K mg base CX0 1 f fd ps (Fg K ks):=by
 refine F.ok S (λvs H Q E h=>?_) λcdv A outer s0 H vs Q E hr h=>?_
 .obtain⟨a,C,fn,args,rfl,hl,_⟩:=h
  simp[hl,hps]
 .obtain⟨a,C,fn,args,rfl,hl,hH,hC,hn,q⟩:=h
  refine⟨_,(hbody cdv A outer s0 H E).o,a,C,fn,args,?_,hH,hC,hn,hl.symm,hf,?_,q⟩
  .unfold L2.start;simp
  .unfold L2.start
   apply List.ext_getElem?;intro i;simp only[O5,RC]
   by_cases hi:i<ks.length
   .have hia:i<args.length:=by omega
    simp[hi,hia,O8,Qb]
   .have hia:¬i<args.length:=by omega
    simp[hi,hia]
section
variable {prog:Pr}{w:PJ}{A:Px}{E:OB->OI->Prop}{s:OI}{env:P7}
variable {nm q:OG}{C N:OE}{bs bm bmB:List OB}{hdct:Bool}{sn:ci}{sub:List OB}{ab:Bool}{col:Option Bool}{dd:Option OE}{k0 k1 k2 k3 k5:Option OB}{B newId initId:String}{mN:OG->Option OB}{fI:OE}{oI:Obj}
def Bx(F:ExcBaseFacts B newId initId bmB){x:OG}{np cpos pos:Pos}{args:List Pl}{Q:Flow->OI->Prop}(hbase:bm.contains (.type "BaseException")=true)(hh:A.handled=none)(hplain:(PK cpos (OJ args env)).any (·.1)=false)(hi:mN "__init__"=some (.ref fI))
  (h:O7 (O2 prog w) A (eval (.Name x np) env) (λf sg=>f=.ref C/\O7 (O2 prog w) A (evalArgs (.ref C) true (PK cpos (OJ args env)) []) (λa si=>a.kw=[]/\a.pos.length<=sizeLine/\si.heap.get? C=some (excClassObj nm q C N bs bm hdct sn sub ab col dd k0 k1 k2 k3 k5 newId)/\si.heap.Ns N mN/\OwnTail si.heap bmB bm/\si.heap.get? fI=some oI/\oI.cls=.type "function" /\
    ∀h' e,Th si.heap h' e (.ref C) a.pos->O7 (O2 prog w) (A.under (.builtin "type.__call__" ⟨.ref C::a.pos,[]⟩)) (call (.ref fI) (.ref e::a.pos)) (λr s'=>r=.none/\s'.heap.get? C=some (excClassObj nm q C N bs bm hdct sn sub ab col dd k0 k1 k2 k3 k5 newId)/\(∃dc t,s'.heap.get? e=some ⟨.ref C,dc,.fields #[.ref t,.none,.none,.none,.bool false,.none],#[]⟩)/\E (.ref e) s') E { si with heap:=h' }) E sg) E s) :
  O7 (O2 prog w) A (exec (.Raise (some (.Call (.Name x np) args [] cpos)) none pos) env) Q E s:=by
 rw[arm_exec_Raise];refine OM (wpAny_standAt (Bw (C:=C) (nm:=nm) (q:=q) (N:=N) (bs:=bs) (bm:=bm) (hdct:=hdct) (sn:=sn) (sub:=sub) (ab:=ab) (col:=col) (dd:=dd) (k0:=k0) (k1:=k1) (k2:=k2) (k3:=k3) (k5:=k5) (newId:=newId) hbase hh (OM (PN (wpAny_Call_ofName (PN h (λf sg h₁=>?_) λ_ _ x=>x)) (λv sj hU=>OM (wpAny_standAt (Pc hU))) λ_ _ x=>x))));obtain⟨rfl,h₁⟩:=h₁;unfold callWith;refine OM (QT (PN h₁ (λ⟨apos,akw⟩ si ⟨hkw,hlen,hC,hn,T,hf,hfc,hG⟩=>OM (wpAny_standAt ?_)) λ_ _ x=>x));obtain rfl:akw=[]:=hkw;obtain⟨hp,g,d,tk,os⟩:=si;simp only[hplain];refine OM (wpAny_keeperOf_exc hC (OM (ES F T hC hn hi hf hfc hlen λh' e hm=>PN (hG h' e hm) (λr s' hr=>?_) λ_ _ z=>z)));obtain⟨rfl,hC',⟨dc,t,he⟩,hE⟩:=hr;exact⟨rfl,OM (QT (wpAny_point (Pc ⟨e,dc,t,rfl,hC',he,hE⟩)))⟩
end
structure wG (K:OH) (x:OG) (C:OE):Prop where
 i:mW K x C
 cls:Qj K (.ref C) "__class__"=some (some (.builtin "object.__class__"))
 ga:Qj K (.ref C) "__getattribute__"=some (some (.builtin "BaseException.__getattribute__"))
 gt:Qj K (.ref C) "__getattr__"=some none
 t1:Qx K (.ref C) (.type "NoneType")=some false
 t2:Qx K (.ref C) (.type "bool")=some false
 t3:Qx K (.ref C) (.type "int")=some false
 t4:Qx K (.ref C) (.type "str")=some false
 t5:Qx K (.ref C) (.type "tuple")=some false
 t6:Qx K (.ref C) (.type "list")=some false
 t7:Qx K (.ref C) (.type "dict")=some false
 ve:Qx K (.ref C) (.type "ValueError")=some true
 self:Qx K (.ref C) (.ref C)=some true
def wG.xc{K:OH}{x:OG}{C:OE}(Z:wG K x C):XC K x C :=
 ⟨Z.i.ns,⟨Z.cls,Z.ga,Z.gt,Z.i.ob,Z.i.be⟩,λT hT=>by
  refine xM (nW T hT) ?_;simp only[ia,O4,QZ,or_false]at hT;rcases hT with rfl|rfl|rfl|rfl|rfl|rfl|rfl
  all_goals first|exact Z.t1|exact Z.t2|exact Z.t3|exact Z.t4|exact Z.t5|exact Z.t6|exact Z.t7⟩
def Il{K:OH}{C fn:OE}{ks:ci}(z:Ig K C fn)(sa:Qj K (.ref C) "__setattr__"=some (some (.builtin "object.__setattr__")))(hd:Q2 K C=true)(no:∀f∈ks,eH K C f):Ho K C ks:=by
 obtain⟨CE,nm,qn,N,bs,hdct,sn,sub,ab,col,dd,k0,k1,k2,k3,k5,ho,_⟩:=z.ex;refine⟨sa,hd,?_,no⟩;unfold W.clsIn;rw[ho];rfl
section
variable {P:Pr}{w:PJ}{K:OH}{mg:OG->Option OB}{base:OY}{N:ci}{qual:OG}{scope:RG}{f:OE}{cd:OB}{A:Px}{outer:List P7}{s0:OI}{H0:Hp}{E:XK}{He η:Hp}
def Dh{H:Hp}{h:OY}{e dx:OE}{o1 o2:HO}(ok:ip P w (upd (upd H e o1) dx o2) h)(he:H e=none)(hd:H dx=none)(n1:∀b,o1≠.own b)(n2:∀b,o2≠.own b)(m1:∀b,o1≠.tup b)(m2:∀b,o2≠.tup b):ip P w H h:=λa o q=>by
 have a1:a≠e:=λz=>by subst z;rw[he]at q;cases q
 have a2:a≠dx:=λz=>by subst z;rw[hd]at q;cases q
 refine(ok a o (by rw[av a2,av a1];exact q)).stay (λb u _ z=>z) (λb z=>?_) λb xs z=>?_
 .by_cases b2:b=dx
  .subst b2;rw[ay]at z;exact absurd (PY z) (n2 _)
  .rw[av b2]at z
   by_cases b1:b=e
   .subst b1;rw[ay]at z;exact absurd (PY z) (n1 _)
   .rw[av b1]at z;exact z
 .by_cases b2:b=dx
  .subst b2;rw[ay]at z;exact absurd (PY z) (m2 _)
  .rw[av b2]at z
   by_cases b1:b=e
   .subst b1;rw[ay]at z;exact absurd (PY z) (m1 _)
   .rw[av b1]at z;exact z
def Bn{fs:List OE}{H H2:Hp}{h h2:OY}(u:Un fs [] H H2 h h2):Un fs [] H H h h2:=⟨u.keep,u.slot,λ_ _ _ n _=>n,u.there,λ_ _ q=>q,λ_ _ _ q=>q,λ_ ps q=>⟨#[],by rw[q];simp⟩⟩
end
def HK(e:S5):Bool:=match e.key with
 |.str _ _=>true
 |_=>false
def Ip{K:OH}{C CE fn N:OE}{nm q:OG}{bs sub:List OB}{hdct ab:Bool}{sn:ci}{col:Option Bool}{dd dn:Option OE}{k0 k1 k2 k3 k5:Option OB}{cn:OB}{es:Array S5}{ep:Nat}{st:Array (Option OB)}
  (xl:K.lookup C=some (excClassObj nm q C N bs [.ref CE,.type "ValueError",.type "Exception",.type "BaseException",.type "object"] hdct sn sub ab col dd k0 k1 k2 k3 k5 "ValueError.__new__"))(xn:K.lookup N=some ⟨cn,dn,.dict es ep,st⟩)(xk:es.toList.all HK=true)(xv:Qg K N "__init__"=some (some (.ref fn)))
  (xb:TY K CE [.type "ValueError",.type "Exception",.type "BaseException",.type "object"] "ValueError.__new__"=true):Ig K C fn:=by
 refine⟨CE,nm,q,N,bs,hdct,sn,sub,ab,col,dd,k0,k1,k2,k3,k5,xl,?_,xv,xb⟩;unfold W.nsOkIn;rw[xn];rw[Array.all_toList]at xk;exact xk
theorem vW{α β:Type}{f g:α->Option β}:∀{l:List α},(∀x∈l,f x=g x)->l.filterMap f=l.filterMap g
 |[],_=>rfl
 |a::l,h=>by
  rw[Qt,Qt,h a Pe,vW λx hx=>h x (OT _ hx)]
def Ct(its:List OB):slicePick its.toArray none none (some (-1))=its.reverse.toArray:=by
 have h1:(sliceBounds none none (some (-1)) its.toArray.size)=((its.length:Int)-1,-1,-1):=by
  unfold sliceBounds;simp
 unfold slicePick;rw[h1]
 congr 1
 unfold sliceRange;simp only[show ¬((-1:Int) > 0) by decide,if_false];have hc:((if(its.length:Int)-1 > -1 then((its.length:Int)-1 - -1 - -1-1) / (- -1) else 0)).toNat=its.length:=by
  rw[show(- -1:Int)=1 from rfl,Int.ediv_one];split<;>omega
 rw[hc];rw[SJ];have hall:∀k∈Qc its.length,((λx=>its.toArray[x]?)∘λ(k:Nat)=>((its.length:Int)-1 + -1*(k:Int)).toNat) k=its.reverse[k]?:=λk hk=>by
  have hk:=Su.mp hk;show its.toArray[((its.length:Int)-1 + -1*(k:Int)).toNat]?=_;rw[List.getElem?_reverse hk,show((its.length:Int)-1 + -1*(k:Int)).toNat=its.length-1-k by omega];simp
 rw[vW hall];have hr:(Qc its.length).filterMap (λk=>its.reverse[k]?)=its.reverse:=by
  have hh:=Uu (as:=its);generalize its.reverse=r at hh ⊢;rw[←hh];clear hh hall hc h1
  induction r with
  |nil=>rfl
  |cons a r ih=>
   rw[Pa,Sj,Qt];simp only[Q0,SJ]
   congr 1
 exact hr
def Kn(x:D):ak D:=match x with
 |.lst ds=>.ok (.lst ds.reverse)
 |_=>.stuck
theorem Reps.rev{K:OH}{H:Hp}:∀{ds:ac}{vs:al},Reps K H ds vs->Reps K H ds.reverse vs.reverse
 |[],vs,h=>by rw[Reps.nil_iff.mp h];exact Reps.nil
 |d::ds,vs,h=>by
  obtain⟨v,r,rfl,h1,h2⟩:=aD.mp h;rw[RB,RB];exact(Reps.rev h2).app (Reps.cons h1 Reps.nil)
theorem bJ.rev:∀{vs:al}{us:List OB},bJ vs us->bJ vs.reverse us.reverse
 |_,_,.nil=>.nil
 |_,_,.cons h t=>by rw[RB,RB];exact(bJ.rev t).append (.cons h .nil)
section
variable {X:Cx}{E:XK}{e a st:Pl}{f:am}{te:TE}{pos p2:Pos}
def M8(K:OH)(te:TE):TE:=λσ H Q=>te σ H λx H1=>∃a xs,x=.ref a/\gL K H1 a xs/\∀p,H1 p=none->Q (.ref p) (upd H1 p (.lst xs.reverse))
def Jl(he:PE X e te)(hst:∀(π:List (OE×Obj)) (s:OI) (σ:L2.St) (H:Hp) (Q:VK),Inv X π σ H s->Q (.int (-1)) H->O7 (O2 X.prog X.w) X.A (eval st X.env) (EP X π σ Q) X.xe s):PE X (.Subscript e (.Slice none none (some st) p2) pos) (M8 X.K te):=by
 intro π s σ H Q I h;refine Subscript_ (dB (he π s σ H _ I h) λv s1 ⟨x,H1,I1,r1,a,xs,ex,hx,q⟩=>?_);subst ex;cases r1;refine wpAny_Slice (wpAny_evalPart_none (wpAny_evalPart_none ?_));show O7 _ _ (eval st X.env) _ _ _;refine dB (hst π s1 σ H1 (λv H2=>v=.int (-1)/\H2=H1) I1 ⟨rfl,rfl⟩) λvs s3 ⟨u,H3,I3,pu,eu,eh⟩=>?_;subst eu eh;obtain⟨t,rfl⟩:=pu;have I4:Inv X π σ H3 { s3 with heap:=s3.heap.push { cls:=.type "slice",data:=.fields #[.none,.none,.int (-1) t] } }:=I3.kept (t':=s3.toks) λb ob q=>OK _ q;obtain⟨its,r,ht,hz⟩:=I4.list hx;have hg:O7 (O2 X.prog X.w) X.A (getItem (.ref a) (.ref s3.heap.objs.size)) (EP X π σ Q) X.xe { s3 with heap:=s3.heap.push { cls:=.type "slice",data:=.fields #[.none,.none,.int (-1) t] } }:=by
  refine wpAny_getItem_list_slice ht.isList (Heap.IsSliceOf.new ..) .none .none (.int (-1) t) (by simp) ?_ (by rw[Pd,←r.length];exact hz);rw[Ct];refine⟨.ref _,_,I4.laid (t':=s3.toks) (o:=.lst xs.reverse) (λb ob q=>OK _ q) (O3 _) ?_,rfl,q _ (I4.hok.fresh (O3 _))⟩;exact⟨by rw[Uu];exact hz,_,0,bJ.rev r,Pu _ rfl⟩
 exact tail_any (ops:=[.ref a,.ref s3.heap.objs.size]) ht.isList.typeIs slot_list_getitem.lookup hg (by with_unfolding_all rfl)
def Km{p3 p4:Pos}{k:Nat}(ha:DE X E a f):DE X E (.Subscript a (.Slice none none (some (.UnaryOp .USub (.Constant (.int 1) k p3) p4)) p2) pos) (bc f Kn):=by
 refine⟨bb (Jl ha.o λπ s σ H Q I q=>HE (pos:=p4) BF (pR (i:=1) (j:=k) (pos:=p3)) π s σ H Q I ⟨1,rfl,q⟩) λσ H Q z9=>?_⟩;obtain⟨Ha,ρ,hs,hr,q⟩:=z9;refine⟨Ha,ρ,hs,hr,?_⟩;unfold bc at q;cases e1:f ρ with
 |stuck|exn x=>rw[e1]at q;exact q
 |ok d=>
  rw[e1]at q;intro v H1 H01 g1 r1;cases d with
  |lst ds=>
   obtain⟨p,vs,rfl,h1,h2⟩:=aF.mp r1;exact⟨p,vs,rfl,aG.sqL g1.sub h1,λn hn=>q _ _ _ (g1.trans (aS g1.sub hn)) (aF.mpr ⟨n,_,rfl,gL.of ay,(Reps.rev h2).mono (aS g1.sub hn).z⟩)⟩
  |_=>exact q.elim
end
def cQ(x:OG)(ks:ci)(fa:Ev->ak (ac)):bv:=λρ=>(fa (lC ρ)).bind λds=>if ds.length=ks.length then .exn ⟨x,ks.zip ds⟩ else .stuck
theorem uZ{K:OH}{H:Hp}:∀{ks:ci}{ds:ac}{vs:al}{n:OG}{d:D},Reps K H ds vs->(ks.zip ds).lookup n=some d->∃v,(ks.zip vs).lookup n=some v/\Rep K H d v
 |[],ds,vs,n,d,r,h=>by rw[List.zip_nil_left]at h;cases h
 |k::ks,[],vs,n,d,r,h=>by rw[List.zip_nil_right]at h;cases h
 |k::ks,e::ds,vs,n,d,r,h=>by
  obtain⟨v,vs',rfl,r1,r2⟩:=aD.mp r;rw[Q5,Qo]at h;rw[Q5];cases q:n==k with
  |true=>rw[q]at h;cases h;exact⟨v,by rw[Qo,q],r1⟩
  |false=>
   rw[q]at h;obtain⟨u,h1,h2⟩:=uZ r2 h;exact⟨u,by rw[Qo,q];exact h1,h2⟩
def ip.xd{P:Pr}{w:PJ}{H:Hp}{g:OY}(ok:ip P w H g){a:OE}{fs:List (OG×V)}(hn:H a=none)(p:Bm a fs g):ip P w (upd H a (.xd fs)) g:=λb u e=>by
 by_cases hb:b=a
 .subst hb;rw[ay]at e;cases e;obtain⟨m,n,r,_⟩:=p;exact⟨m,n,r⟩
 .rw[av hb]at e
  exact(ok b u e).stay (λc v _ q=>q) (λc q=>by rw[av (bo q hn)];exact q) λc xs q=>by rw[av (bo q hn)];exact q
section
variable {P:Pr}{w:PJ}{K:OH}{mg:OG->Option OB}{base:OY}{N:ci}{qual:OG}{scope:RG}{f:OE}{cd:OB}{A:Px}{outer:List P7}{s0:OI}{H0:Hp}{E:XK}{He η:Hp}
def jD{x:OG}{C fn:OE}{np cpos pos:Pos}{e:Pl}{es:List Pl}{fa:Ev->ak (ac)}{k:Nat}{fd:Pz}{ps ks:ci}(xc:XC K x C)(z:Ig K C fn)(st:Ho K C ks)(hfn:W.isFn K (.ref fn)=true)(F:gq P w K mg base CX0 k fn fd ps (Fg K ks))(hb:gk K fd ps [])(hks:ks.length<=60)(hnd:ks.Nodup)(hr:dA (k+1) (gh (kj P w) P w K mg base N qual scope f cd A outer s0 H0 E).A)(hm:mg x=some (.ref C))(hh:A.handled=none)
  (hg:Gl (gh (kj P w) P w K mg base N qual scope f cd A outer s0 H0 E) x)(ha:DA (gh (kj P w) P w K mg base N qual scope f cd A outer s0 H0 E) E (e::es) fa)
  (hdb:(x==("__debug__" : OG))=false:=by decide)(he:OJ (e::es) (gh (kj P w) P w K mg base N qual scope f cd A outer s0 H0 E).env=(false,eval e (gh (kj P w) P w K mg base N qual scope f cd A outer s0 H0 E).env)::OJ es (gh (kj P w) P w K mg base N qual scope f cd A outer s0 H0 E).env:=by exact aJ rfl)
  (hpl:(PK cpos (OJ es (gh (kj P w) P w K mg base N qual scope f cd A outer s0 H0 E).env)).any (·.1)=false:=by exact bA rfl) :
  DS (gh (kj P w) P w K mg base N qual scope f cd A outer s0 H0 E) E He η (.Raise (some (.Call (.Name x np) (e::es) [] cpos)) none pos) (cQ x ks fa):=by
 refine⟨?_⟩;intro π s σ H D I ⟨Ha,ρ,hr',q⟩;obtain⟨bm,Nn,nm,qn,bs,hdct,sn,sub,ab,col,dd,k0,k1,k2,k3,k5,mN,hC,hN,hi,T⟩:=(yu I.ok.mod.kin z).ex;obtain⟨oI,hoI,hoc⟩:∃oI,base.get? fn=some oI/\oI.cls=.type "function":=by
  have:=beq_iff_eq.mp hfn;obtain⟨o,ho,hc⟩:=Option.map_eq_some_iff.mp this;exact⟨o,I.ok.mod.kin _ _ ho,hc⟩
 refine Bx (C:=C) (nm:=nm) (q:=qn) (N:=Nn) (bs:=bs) (bm:=bm) (hdct:=hdct) (sn:=sn) (sub:=sub) (ab:=ab) (col:=col) (dd:=dd) (k0:=k0) (k1:=k1) (k2:=k2) (k3:=k3) (k5:=k5)
  RT (mN:=mN) (oI:=oI) (T.hasType RT.hasBase) hh (by rw[he];show(false||(PK cpos (OJ es (gh (kj P w) P w K mg base N qual scope f cd A outer s0 H0 E).env)).any (·.1))=false;rw[hpl];rfl) hi (iT I hg hm ⟨rfl,?_⟩ hdb)
 have hq:sv K E H (frz He Ha H) (fa (lC ρ)) (λvs H1=>vs.length=ks.length/\∀dx,H1 dx=none->E (.ref C) (some dx) (upd H1 dx (.xd (ks.zip vs)))):=by
  unfold cQ at q;cases e1:fa (lC ρ) with
  |stuck=>rw[e1]at q;exact q|exn z=>rw[e1]at q;exact λC ox H' Ha' g ex=>q C ox H' Ha' (hr'.frz_grow.trans g) ex
  |ok ds=>
   rw[e1]at q;intro vs H1 H01 g rp;have q:du K E He η Ha (if ds.length=ks.length then ak.exn ⟨x,ks.zip ds⟩ else .stuck) D:=q
   by_cases hl:ds.length=ks.length
   .rw[if_pos hl]at q
    refine⟨by rw[←rp.length];exact hl,λdx hdx=>?_⟩;have ga:=aS (o:=.xd (ks.zip vs)) g.sub hdx;refine q (.ref C) (some dx) _ _ (hr'.frz_grow.trans (g.trans ga)) ⟨⟨C,rfl,xc⟩,ks.zip vs,ay,λn d hn=>?_⟩;obtain⟨v,k1,k2⟩:=uZ rp hn;exact⟨v,k1,k2.mono ga.z⟩
   .rw[if_neg hl]at q;exact q.elim
 have h1:=ha.o cpos π s σ H _ I ⟨frz He Ha H,lC ρ,hr'.frz_le,hr'.looks,hq⟩;rw[he]at h1 ⊢;refine Sv (PN h1 (λus s2 h2=>?_) λ_ _ y=>y);obtain⟨vs,H1,I1,rv,hl,hE⟩:=h2;have hz:us.length<=sizeLine:=by rw[←rv.length,hl,sizeLine_eq];omega
 refine⟨rfl,hz,I1.bk _ _ hC,hN.keeps I1.bk,T.keeps I1.bk,I1.bk _ _ hoI,hoc,λh' ee hx=>?_⟩;have hn:H1 ee=none:=by
  cases q:H1 ee with|none=>rfl|some o=>obtain⟨u,hu⟩:=dq.there (I1.hok ee o q);rw[hx.new]at hu;cases hu
 obtain⟨t,ht,_,_⟩:=hx.there;have hxn:rm ee C none h':=⟨t,ht⟩
 have un1:Un (iS (gh (kj P w) P w K mg base N qual scope f cd A outer s0 H0 E).stack) [] H1 (upd H1 ee (.ext (rm ee C none))) s2.heap h':=Un.ext (Un.kept hx.keeps) hn hx.new;have I2:Inv (gh (kj P w) P w K mg base N qual scope f cd A outer s0 H0 E) π σ (upd H1 ee (.ext (rm ee C none))) { s2 with heap:=h' } :=
  I1.call' (ch:=[]) rfl un1 (ip.ext (I1.hok.kept hx.keeps) hn hxn ⟨_,ht⟩ qu) I1.bare (λ_ z=>nomatch z)
 have rv2:bJ (V.ref ee::vs) (Pq ee::us):=.cons rfl rv;have hsp:Fg K ks (V.ref ee::vs) (upd H1 ee (.ext (rm ee C none))) (λv H2=>v=.non/\∃dx,H1 dx=none/\dx≠ee/\H2=upd (upd (upd H1 ee (.ext (rm ee C none))) ee (.ext (rm ee C (some dx)))) dx (.ext (Bm dx (putAll ks vs [])))) E :=
  ⟨ee,C,fn,vs,rfl,hl,ay,st,z,λdx hdx=>by
   have c:dx≠ee:=λc=>by rw[c,ay]at hdx;cases hdx
   rw[av c]at hdx;exact⟨rfl,dx,hdx,c,rfl⟩⟩
 have hl2:(Pq ee::us).length=ps.length:=by rw[←rv2.length];exact F.len _ _ _ _ hsp
 have hbb:=hb { s2 with heap:=h' } (Pq ee::us) I2.kIn (by simpa using hl2);rw[QN]at hbb;refine wpAny_call (codeAny_mono (F.run _ _ { s2 with heap:=h' } _ ⟨Pq ee::us,[]⟩ (Pq ee::us) _ _ E (hr.make C us []) (I2.env0.make C us []) hbb rv2 hsp) λr s3 hq3=>?_);cases r with
 |error e=>exact PQ hq3
 |ok fl=>
  cases fl with
  |next|brk|cont=>exact PQ hq3
  |ret u=>
   obtain⟨v,H2,os3,bare3,un3,hok3,rel3,rfl,dx,hdx,hdne,rfl⟩:=hq3;obtain rfl:u=Qk:=rel3;rw[rS]at hok3 un3;have un4:=Bn (un1.trans un3);have hok4:ip P w H1 s3.heap:=Dh hok3 hn hdx (λ_ z=>by cases z) (λ_ z=>by cases z) (λ_ z=>by cases z) (λ_ z=>by cases z);obtain⟨⟨t3,ht3⟩,_,_⟩:=(show dq P w _ s3.heap ee (.ext (rm ee C (some dx))) from hok3 ee _ (by rw[av hdne.symm,ay]))
   have I3:=I1.call' (ch:=[]) os3 un4 hok4 bare3 (λ_ z=>nomatch z);refine⟨rfl,I3.bk _ _ hC,⟨_,t3,ht3⟩,?_⟩;have hin:=Gk (l:=envOfC qual scope s0.heap.objs.size f cd::outer);have hfr:s3.heap.FunFrames (TC s3.heap (ee::iS (envOfC qual scope s0.heap.objs.size f cd::outer))) (envOfC qual scope s0.heap.objs.size f cd::outer):=W.funFrames_hide I3.stack λenv he a hf=>OT _ (hin env he a hf);have hst:(TC s3.heap (ee::iS (envOfC qual scope s0.heap.objs.size f cd::outer))).StaysIn s3.heap:=λb o q=>W.of_hideAll _ q;have hen:(TC s3.heap (ee::iS (envOfC qual scope s0.heap.objs.size f cd::outer))).get? ee=none:=W.hideAll_none _ (.head _);obtain⟨pX,_,_⟩:=(show dq P w _ s3.heap dx (.ext (Bm dx (putAll ks vs []))) from hok3 dx _ ay)
   rw[pM hnd (λ_ _ z=>by simp at z) hl.symm,QL]at pX;have hok5:=ip.xd hok4 hdx pX;have dfresh:s2.heap.get? dx=none:=by
    cases qd:s2.heap.get? dx with
    |none=>rfl
    |some o=>
     have:=un3.free dx o (hx.keeps dx o qd) (by rw[av hdne];exact hdx) (by simp);rw[ay]at this;cases this
   have un5:=Un.ext (o:=.xd (ks.zip vs)) un4 hdx dfresh;refine xX (a0:=.ref t3) I3.ok.frames hfr rfl ht3 hst hen rfl rfl rfl (λ_=>rfl) λh4 fl4 up4 dc4=>?_;refine Md rfl I1 (s1:=s3) (H1:=upd H1 dx (.xd (ks.zip vs))) os3 bare3 un5 hok5 (by rw[av hdne.symm];exact hn) hst hfr (λb hb hy=>?_) fl4 up4 ⟨some dx,⟨some dx,dc4,.inr rfl⟩,hE dx hdx⟩;have hbe:b≠ee:=λc=>by
    subst c;rcases hy with hy|⟨o,hy⟩
    .exact hy (by rw[av hdne.symm];exact hn)
    .rw[hx.new]at hy;cases hy
   have hth:∃o,s3.heap.get? b=some o:=by
    rcases hy with hy|⟨o,hy⟩
    .cases q:(upd H1 dx (.xd (ks.zip vs))) b with
     |none=>exact absurd q hy
     |some o=>exact dq.there (hok5 b o q)
    .exact un4.there b o hy (by simp)
   obtain⟨o,q⟩:=hth;exact⟨o,W.hideAll_get _ q (List.not_mem_cons_of_ne_of_not_mem hbe hb)⟩
end
end DL
namespace DL
open PySem PySem.Spec PySem.Calls PySem.W PyProof.Rows Builtin Builtin.ObjectAttr Builtin.Getset_descriptor
section
variable {prog:Pr}{w:PJ}{A:Px}{E:OB->OI->Prop}{h:OY}{g:Array GenState}{d:Drawn}{t:Nat}{os:OsState}{a C:OE}{o:Obj}{od:Option Obj}{K:Frag}{name:OG}{v:OB}
def By{tk:Tok}{Q:Fin->OI->Prop}(X:K.In h)(J:InstAt h a o C od)(hf:findObj K C od name=some (.value v))(hq:Q (.done (.ret v)) ⟨h,g,d,t,os⟩) :
  O7 (O2 prog w) A (Builtin.«object.__getattribute__» ⟨[.ref a,.str name tk],[]⟩) Q E ⟨h,g,d,t,os⟩:=by
 have L0:=J.type (M:=O2 prog w);have L1:=looks_find (M:=O2 prog w) X J hf;unfold Builtin.«object.__getattribute__»
 repeat (any_goals (first|assumption|(with_reducible refine L0.at ?_)|(with_reducible refine L1.at ?_)|wp_step))
def ET{tk:Tok}{R:SD->OI->Prop}(X:K.In h)(Z:mV K C)(J:InstAt h a o C od)(hx:h.get? a=some o)(hc:o.cls=.ref C)(hf:findObj K C od name=some (.value v))(hq:R (.ok (.ret v)) ⟨h,g,d,t,os⟩) :
  Q9 (O2 prog w) A (.call (.builtin "BaseException.__getattribute__") ⟨[.ref a,.str name tk],[]⟩) R ⟨h,g,d,t,os⟩ :=
 codeAny_call_builtin R8.ga.plain F.entry_bexc_ga (u4 X Z hx hc (By X J hf hq))
def KS{tk:Tok}{b ex:Bool}{Q:OB->OI->Prop}(X:K.In h)(Z:mV K C)(J:InstAt h a o C od)(hx:h.get? a=some o)(hc:o.cls=.ref C)(hf:findObj K C od name=some (.value v))(hh:handedIn v=true)(hq:Q v ⟨h,g,d,t,os⟩) :
  O7 (O2 prog w) A (getAttrBy (.ref a) (.str name tk) b ex) Q E ⟨h,g,d,t,os⟩:=by
 have f3:=R8.ga.bind (.ref a);have hx2:(Q8 "BaseException.__getattribute__"==Q8 "object.__getattribute__")=false:=by decide +kernel
 have hx1:(onTheHeap (Pq C)&&Q8 "BaseException.__getattribute__"==Q8 "object.__getattribute__")=false:=by rw[hx2];rfl
 have L1:Looks (O2 prog w) h (RH (.ref C) "__getattribute__") (some (.builtin "BaseException.__getattribute__")):=looks_findIn X Z.ga;have L2:Looks (O2 prog w) h (RH (.ref C) "__getattr__") none:=looks_findIn X Z.gt;have hho:=handedOut_of hh
 repeat (any_goals (first|assumption|(with_reducible refine Qr hx ?_;rw[hc])|(with_reducible refine L1.at ?_)|(with_reducible refine L2.at ?_)|wp_step))
 rw[if_neg (by cases ex<;>decide)]
 repeat (any_goals (first|assumption|wp_step))
 refine ET X Z J hx hc hf ?_
 repeat (any_goals (first|assumption|wp_step))
def Iq{ex:Bool}{Q:OB->OI->Prop}(X:K.In h)(Z:mV K C)(J:InstAt h a o C od)(hx:h.get? a=some o)(hc:o.cls=.ref C)(hf:findObj K C od name=some (.value v))(hh:handedIn v=true)(hq:Q v ⟨h,g,d,t+1,os⟩) :
  O7 (O2 prog w) A (TU (.ref a) name ex) Q E ⟨h,g,d,t,os⟩:=by
 unfold TU
 repeat (any_goals (first|assumption|with_reducible apply KS X Z J hx hc hf hh|wp_step))
end
end DL
namespace DL
open PySem PySem.Spec PyProof.Rows L2
def Ii(K:OH)(tab:OG->Option Bool)(f:OG):Prop:=∀c C b,tab c=some b->XC K c C->Q2 K C=true/\eH K C f
def mK(tab:OG->Option Bool)(f:OG)(x:D):ak D:=match x with
 |.ob (.exf c ks) ds=>(match tab c,nB f ks ds with
  |some _,some d=>.ok d
  |_,_=>.stuck)
 |_=>.stuck
theorem Bu:∀{ks:ci}{vs:al}{f:OG}{u:V},(ks.zip vs).lookup f=some u->∃i:Nat,ks[i]?=some f/\vs[i]?=some u
 |[],vs,f,u,h=>by rw[List.zip_nil_left]at h;cases h
 |k::ks,[],f,u,h=>by rw[List.zip_nil_right]at h;cases h
 |k::ks,v::vs,f,u,h=>by
  rw[Q5,Qo]at h;cases q:f==k with
  |true=>rw[q]at h;cases h;exact⟨0,by rw[beq_iff_eq.mp q];rfl,rfl⟩
  |false=>
   rw[q]at h;obtain⟨i,h1,h2⟩:=Bu h;exact⟨i+1,h1,h2⟩
section
variable {X:Cx}{E:XK}{e:Pl}{fe:am}{pos:Pos}{f:OG}{ta:TE}{tab:OG->Option Bool}
def Lh(K:OH)(ta:TE)(f:OG):TE:=λσ H Q=>ta σ H λx H1=>∃a C dx fs v,x=.ref a/\Rd H1 a (.ext (wR a C (some dx)))/\H1 dx=some (.xd fs)/\mV K C/\Q2 K C=true/\eH K C f/\fs.lookup f=some v/\Q v H1
def FF(he:PE X e ta)(hb:Qd e f X.env (eval e X.env)=eval e X.env):PE X (.Attribute e f pos) (Lh X.K ta f):=by
 intro π s σ H Q I h;refine zM hb (dB (he π s σ H _ I h) λu s1 z9=>?_);obtain⟨x,H1,I1,rx,a,C,dx,fs,v,ex,ea,ed,Z,hd,n,l,q⟩:=z9;subst ex;obtain rfl:u=Pq a:=rx;obtain⟨⟨o,vs,ho,hcl,hda,hdi⟩,_,_⟩:=ea.ok I1.hok;obtain⟨mA,hn,r⟩:=(show dq X.prog X.w H1 s1.heap dx (.xd fs) from I1.hok dx _ ed)
 obtain⟨u',hu,ru⟩:=mS (v:=v) (o:=mA f) (by rw[←l];exact r f);obtain⟨od,hod,hl⟩:=sF hn;have J:Um s1.heap a o C (some od):=⟨ho,hcl,by unfold W.notCls;rw[hda],by rw[hdi];exact hod⟩
 have I2:=I1.tok (s1.toks+1);have K1:=I1.kIn;obtain⟨hh,g,d,t,os⟩:=s1;exact Iq K1 Z J ho hcl (W.findObj_own hd n rfl (by show Uj f od=_;rw[hl,hu])) (sJ ru) ⟨v,H1,I2,ru,q⟩
def zH(ht:Ii X.K tab f)(he:DE X E e fe)(hb:Qd e f X.env (eval e X.env)=eval e X.env:=by rfl):DE X E (.Attribute e f pos) (bc fe (mK tab f)):=by
 refine⟨bb (FF he.o hb) λσ H Q z9=>?_⟩;obtain⟨Ha,ρ,hs,hr,q⟩:=z9;refine⟨Ha,ρ,hs,hr,?_⟩;unfold bc at q;cases e1:fe ρ with
 |stuck|exn x=>rw[e1]at q;exact q
 |ok d=>
  rw[e1]at q;intro v H1 H01 g1 r1;replace q:post X.K E H Ha (mK tab f d) Q:=q;unfold mK at q;cases d with
  |ob k ds=>
   cases k with
   |exf c ks=>
    replace q:post X.K E H Ha (match tab c,nB f ks ds with|some _,some d=>ak.ok d|_,_=>.stuck) Q:=q;cases e2:tab c with
    |none=>rw[e2]at q;exact q.elim
    |some b=>
     cases e3:nB f ks ds with
     |none=>rw[e2,e3]at q;exact q.elim
     |some d=>
      rw[e2,e3]at q;obtain⟨p,vs,rfl,⟨C,dx,fs,h1,h2,h3,h4,h5⟩,h6⟩:=cz.mp r1;obtain⟨u,k1,k2,k3⟩:=uG h4 h6 e3;obtain⟨i,i1,i2⟩:=Bu k1;obtain⟨m1,m2⟩:=ht c C b e2 h1;exact⟨p,C,dx,fs,u,rfl,aG.rd g1.sub h2,g1.sub _ _ h3,h1.ek,m1,m2,h5 i f u i1 i2,q u H1 H01 g1 k2⟩
   |_=>exact q.elim
  |_=>exact q.elim
end
def Nz{α:Type}{us:List α}(h:us.length=1):∃a,us=[a]:=List.length_eq_one_iff.mp h
def Ny{α:Type}{us:List α}(h:us.length=2):∃a b,us=[a,b]:=by
 cases us with|nil=>cases h|cons a us=>obtain⟨b,rfl⟩:=Nz (Nat.succ.inj h);exact⟨a,b,rfl⟩
def Ot{α:Type}{us:List α}(h:us.length=3):∃a b c,us=[a,b,c]:=by
 cases us with|nil=>cases h|cons a us=>obtain⟨b,c,rfl⟩:=Ny (Nat.succ.inj h);exact⟨a,b,c,rfl⟩
end DL
namespace Com
open PySem L2 DL
def HX{c f:OG}{d:D}:oG ⟨c,[(f,d)]⟩=.ob (.exf c [f]) [d]:=by
 show(if([f]:ci).Nodup then D.ob (.exf c [f]) [d] else .exc c)=_;rw[if_pos (by simp)]
def zt{hit:OG->Bool}{ni:Nat}{sh:bv}{ρ:Ev}{x:Ij}(h:hit x.cls=true):BI hit ni sh ρ (.exn x)=(sh (ρ.set ni (.sh (oG x)))).bind (AI ni):=if_pos h
def zy{tab:OG->Option Bool}{c:OG}{ks:ci}{ds:ac}{b:Bool}(h:tab c=some b):qI tab (.ob (.exf c ks) ds)=.ok (.bl b):=by unfold qI;simp only[h]
def yE(x:OG)(ks:ci)(ds:ac):ak Fl:=if ds.length=ks.length then .exn ⟨x,ks.zip ds⟩ else .stuck
def iy{x:OG}{ks:ci}{fa:Ev->ak (ac)}{ρ:Ev}:cQ x ks fa ρ=(fa (lC ρ)).bind (yE x ks):=bp rfl
def gE{x f:OG}{d:D}:yE x [f] [d]=.exn ⟨x,[(f,d)]⟩:=if_pos rfl
def wj{tab:OG->Option Bool}{c f:OG}{d:D}{b:Bool}(h:tab c=some b):mK tab f (.ob (.exf c [f]) [d])=.ok d:=by
 unfold mK;simp only[h];rw[show nB f [f] [d]=some d by unfold nB;rw[if_pos rfl]]
end Com
namespace DL
open PySem PySem.Spec PyProof.Rows L2
section
variable {X:Cx}{E:XK}{e o:Pl}{fe fo:am}{pos:Pos}
def jV(x:D):ak D:=match x with
 |.int i=>if i.natAbs.log2<1920 then .ok (.str (toString i)) else .stuck
 |_=>.stuck
def nG:ki X E (λxs H Q=>∃i,xs=[.int i]/\i.natAbs.log2<1920/\Q (.str (toString i)) H) (m1 jV):=qV λx v H Ha Q hs r q=>by
 unfold jV at q;cases x with
 |int i=>
  by_cases c:i.natAbs.log2<1920
  .simp only[if_pos c]at q
   exact⟨i,by rw[az.mp r],c,bM hs q (Rep.str_iff.mpr rfl)⟩
  .simp only[if_neg c]at q;exact q.elim
 |_=>exact q.elim
def eL(x:D):ak D:=match x with
 |.str z=>if z.length<=640 then(match QX z with
  |some n=>.ok (.int n)
  |none=>.stuck) else .stuck
 |.int i=>.ok (.int i)
 |.bl b=>.ok (.int (if b then 1 else 0))
 |_=>.stuck
def gF:jH X (.type "int") (λxs H Q=>((∃i,xs=[.int i]/\Q (.int i) H)∨∃k,xs=[.bl k]/\Q (.int (if k then 1 else 0)) H)∨∃z n,xs=[.str z]/\QX z=some n/\z.length<=640/\Q (.int n) H):=by
 intro π s σ H xs us Q I r h;rcases h with h|⟨z,n,rfl,h1,h2,q⟩
 .exact sX π s σ H xs us Q I r h
 .obtain⟨u,rfl,t,rfl⟩:=r.one
  exact W.KIN.call_text h1 h2 ⟨.int n,H,I.tok _,⟨_,rfl⟩,q⟩
def jY:ki X E (λxs H Q=>((∃i,xs=[.int i]/\Q (.int i) H)∨∃k,xs=[.bl k]/\Q (.int (if k then 1 else 0)) H)∨∃z n,xs=[.str z]/\QX z=some n/\z.length<=640/\Q (.int n) H) (m1 eL):=qV λx v H Ha Q hs r q=>by
 unfold eL at q;cases x with
 |int i=>exact .inl (.inl ⟨i,by rw[az.mp r],bM hs q (ri _)⟩)|bl k=>exact .inl (.inr ⟨k,by rw[aE.mp r],bM hs q (ri _)⟩)
 |str z=>
  by_cases c:z.length<=640
  .simp only[if_pos c]at q
   cases hn:QX z with|none=>simp only[hn]at q;exact q.elim|some n=>simp only[hn]at q;exact .inr ⟨z,n,by rw[Rep.str_iff.mp r],hn,c,bM hs q (ri _)⟩
  .simp only[if_neg c]at q;exact q.elim
 |_=>exact q.elim
def kK(m:OG->OG->ak D)(fo fe:am):am:=λρ=>(fo ρ).bind λx=>match x with
 |.str z=>(fe ρ).bind λy=>match y with
  |.str w=>m z w
  |_=>.stuck
 |_=>.stuck
def D3{name:OG}{id:String}{r:V->al->Hp->VK->Prop}{m:OG->OG->ak D}{apos cpos:Pos}(slot:Slot "str" name id)(hty:typeOf (.builtin id)=pure (.type "method_descriptor"))(hm:KP X id r)
  (hr:∀z w H Ha Q,aG Ha H->post X.K E H Ha (m z w) Q->r (.str z) [.str w] H Q)(ho:DE X E o fo)(he:DE X E e fe)
  (hbase:Qd o name X.env (eval o X.env)=eval o X.env:=by rfl)
  (hfew:((PK cpos (OJ [e] X.env)).all (λx=>!x.1)&&(Ry cpos (QF [] X.env)).all (λx=>x.1.isSome)
  &&decide ([e].length+([]:List QW).length+(if([]:List QW).isEmpty then 0 else 1)<30))=true:=by exact iG rfl)
  (hline:(apos.endLine==cpos.line)=true:=by rfl) (hs:OJ [e] X.env=(false,eval e X.env)::OJ [] X.env:=by exact aJ rfl) (hplain:(PK cpos (OJ [] X.env)).any (·.1)=false:=by exact bA rfl) :
  DE X E (.Call (.Attribute o name apos) [e] [] cpos) (kK m fo fe):=by
 refine⟨bb (yO T2 slot hty hm ho.o (cF he.o dR hs) hbase hfew hline hs hplain) λσ H Q z9=>?_⟩;obtain⟨Ha,ρ,hs,hrd,q⟩:=z9;refine⟨Ha,ρ,hs,hrd,?_⟩;unfold kK at q;cases e1:fo ρ with
 |stuck|exn x=>rw[e1]at q;exact q
 |ok x=>
  rw[e1]at q;intro v H1 H01 g1 r1;cases x with
  |str z=>
   replace q:post X.K E H Ha ((fe ρ).bind λy=>match y with|.str w=>m z w|_=>.stuck) Q:=q;replace q:=q.grow g1;have ev:=Rep.str_iff.mp r1;subst ev;refine⟨(rfl:("str" : String)="str"),H01,ρ,g1.sub,hrd.mono g1.z,?_⟩;cases e2:fe ρ with
   |stuck|exn x=>rw[e2]at q;exact q
   |ok y=>
    rw[e2]at q;intro u H2 H02 g2 r2;cases y with
    |str w=>
     replace q:=post.grow (r:=m z w) q g2;have eu:=Rep.str_iff.mp r2;subst eu;exact hr z w H2 H02 Q g2.sub q
    |_=>exact q.elim
  |_=>exact q.elim
def kY(z w:OG):ak D:=.ok (.bl (Rz z w))
def Fq:V->al->Hp->VK->Prop:=λx vs H Q=>∃z w,x=.str z/\vs=[.str w]/\Q (.bl (Rz z w)) H
def AU:KP X "str.startswith" Fq:=by
 intro π s σ H x vs v us Q I rx rv h;obtain⟨z,w,rfl,rfl,q⟩:=h;obtain⟨u,rfl,t',rfl⟩:=rv.one;obtain⟨t,rfl⟩:=rx;exact SC.startswith ⟨.bl (Rz z w),H,I,rfl,q⟩
def Bb{apos cpos:Pos}(ho:DE X E o fo)(he:DE X E e fe)(hbase:Qd o "startswith" X.env (eval o X.env)=eval o X.env:=by rfl)(hline:(apos.endLine==cpos.line)=true:=by rfl)
  (hs:OJ [e] X.env=(false,eval e X.env)::OJ [] X.env:=by exact aJ rfl)
  (hfew:((PK cpos (OJ [e] X.env)).all (λx=>!x.1)&&(Ry cpos (QF [] X.env)).all (λx=>x.1.isSome)
  &&decide ([e].length+([]:List QW).length+(if([]:List QW).isEmpty then 0 else 1)<30))=true:=by exact iG rfl) (hplain:(PK cpos (OJ [] X.env)).any (·.1)=false:=by exact bA rfl):DE X E (.Call (.Attribute o "startswith" apos) [e] [] cpos) (kK kY fo fe) :=
 D3 PySem.F.slot_str_startswith PySem.F.type_str_startswith AU (λz w H Ha Q hs q=>⟨z,w,rfl,rfl,bM hs q (rb _)⟩) ho he hbase hfew hline hs hplain
end
end DL
namespace DL
open PySem PySem.Spec PyProof.Rows L2 PySem.Builtin PySem.Builtin.Str
section
variable {prog:Pr}{w:PJ}{A:Px}{E:OB->OI->Prop}{s:OI}{x y:OG}{t u:Tok}{Q:OB->OI->Prop}
def Ag(hy:(y.length==0)=false)(hx:x.length+2<=sizeLine)
  (h:∀(l:List (OG×Tok)) (k:Nat),l.map (·.1)=P6 x y->Q (.ref s.heap.objs.size) { s with heap:=s.heap.push { cls:=.type "list",data:=.seq (strValues l).toArray },toks:=k }) :
  O7 (O2 prog w) A (call (.builtin "str.split") [.str x t,.str y u]) Q E s:=by
 have hn:(partsBetween x (occurrences x y 0 x.length (x.length+1)) y.length).length<=sizeLine:=by
  have:=Ud x y 0 x.length (x.length+1);rw[length_partsBetween];omega
 cases h1:(decide (x.length<y.length)||decide (strKind x<strKind y)) with
 |true=>exact call_meets S4 (typeIs_str _ _ _) SX (SM _ _) (meets_str_split_cannot_occur x y t u h1) (h [(x,t)] s.toks (if_pos h1).symm)
 |false=>
  cases hf:(occurrences x y 0 x.length (x.length+1)).isEmpty with
  |true=>exact call_meets S4 (typeIs_str _ _ _) SX (SM _ _) (meets_str_split_not_found x y t u h1 hy hf) (h [(x,t)] s.toks ((if_neg (ne_true_of_eq_false h1)).trans (if_pos hf)).symm)
  |false=>
   refine call_meets S4 (typeIs_str _ _ _) SX (SM _ _) (meets_str_split_sep x y t u h1 hy hf (by omega) hn) ?_;have:=h (PySem.numbered s.toks _) (s.toks+(partsBetween x (occurrences x y 0 x.length (x.length+1)) y.length).length) ((numbered_texts s.toks _).trans ((if_neg (ne_true_of_eq_false h1)).trans (if_neg (ne_true_of_eq_false hf))).symm);rw[←strsFrom_eq]at this;exact this
def split_len:(P6 x y).length<=x.length+2:=by
 unfold P6;split
 .simp
 .split
  .simp
  .have:=Ud x y 0 x.length (x.length+1)
   rw[length_partsBetween];omega
def CH(hy:(y.length==0)=false)(hx:x.length<=sizeLine)
  (h:∀(a b c:Tok) (k:Nat),Q (.ref s.heap.objs.size) { s with heap:=s.heap.push { cls:=.type "tuple",data:=.seq [.str (PB x y).1 a,.str (PB x y).2.1 b,.str (PB x y).2.2 c].toArray },toks:=k }) :
  O7 (O2 prog w) A (call (.builtin "str.partition") [.str x t,.str y u]) Q E s:=by
 refine call_meets F.slot_str_partition (typeIs_str _ _ _) F.entry_str_partition (F.args_str_partition_2 _ _) (meets_str_partition x y t u hy hx) ?_;unfold PB at h;cases q:occurrences x y 0 x.length 1 with|nil|cons i r=>rw[q]at h;exact h _ _ _ _
end
section
variable {X:Cx}{E:XK}{e o:Pl}{fe fo:am}{pos:Pos}
def bS(z w:OG):ak D:=if(w.length==0)=false/\z.length<=1000000 then .ok (.lst ((P6 z w).map D.str)) else .stuck
def Jc:V->al->Hp->VK->Prop:=λx vs H Q=>∃z w,x=.str z/\vs=[.str w]/\(w.length==0)=false/\z.length<=1000000/\∀p,H p=none->Q (.ref p) (upd H p (.lst ((P6 z w).map V.str)))
theorem rQ:∀(l:List (OG×Tok)),bJ ((l.map (·.1)).map V.str) (strValues l)
 |[]=>.nil
 |(z,t)::l=>.cons ⟨t,rfl⟩ (rQ l)
theorem nc{K:OH}{H:Hp}:∀(zs:ci),Reps K H (zs.map D.str) (zs.map V.str)
 |[]=>Reps.nil_iff.mpr rfl
 |z::zs=>aD.mpr ⟨_,_,rfl,Rep.str_iff.mpr rfl,nc zs⟩
def CT:KP X "str.split" Jc:=by
 intro π s σ H x vs v us Q I rx rv h;obtain⟨z,w,rfl,rfl,hy,hz,q⟩:=h;obtain⟨u,rfl,t',rfl⟩:=rv.one;obtain⟨t,rfl⟩:=rx;refine Ag hy (by rw[sizeLine_eq];omega) λl k hl=>?_;have hn:H s.heap.objs.size=none:=I.hok.fresh (O3 _);refine⟨.ref s.heap.objs.size,_,?_,rfl,q _ hn⟩;rw[←hl];refine I.laid (λb o e=>OK _ e) (O3 _) ⟨?_,strValues l,0,rQ l,Pu s.heap rfl⟩;rw[OD,hl,sizeLine_eq];have:=split_len (x:=z) (y:=w);omega
def sD(z w:OG):ak D:=if(w.length==0)=false/\z.length<=1000000 then .ok (.tup [.str (PB z w).1,.str (PB z w).2.1,.str (PB z w).2.2]) else .stuck
def Lr:V->al->Hp->VK->Prop:=λx vs H Q=>∃z w,x=.str z/\vs=[.str w]/\(w.length==0)=false/\z.length<=1000000/\∀p,H p=none->Q (.ref p) (upd H p (.tup [.str (PB z w).1,.str (PB z w).2.1,.str (PB z w).2.2]))
def FV:KP X "str.partition" Lr:=by
 intro π s σ H x vs v us Q I rx rv h;obtain⟨z,w,rfl,rfl,hy,hz,q⟩:=h;obtain⟨u,rfl,t',rfl⟩:=rv.one;obtain⟨t,rfl⟩:=rx;refine CH hy (by rw[sizeLine_eq];omega) λa b c k=>?_;have hn:H s.heap.objs.size=none:=I.hok.fresh (O3 _);refine⟨.ref s.heap.objs.size,_,?_,rfl,q _ hn⟩;refine I.laid (λb o e=>OK _ e) (O3 _) ⟨by simp only[Pa,QM];rw[sizeLine_eq];decide,_,.cons ⟨a,rfl⟩ (.cons ⟨b,rfl⟩ (.cons ⟨c,rfl⟩ .nil)),?_⟩;exact⟨_,Pu s.heap rfl,rfl,0,rfl⟩
def jF{apos cpos:Pos}(ho:DE X E o fo)(he:DE X E e fe)(hbase:Qd o "split" X.env (eval o X.env)=eval o X.env:=by rfl)(hline:(apos.endLine==cpos.line)=true:=by rfl)
  (hs:OJ [e] X.env=(false,eval e X.env)::OJ [] X.env:=by exact aJ rfl)
  (hfew:((PK cpos (OJ [e] X.env)).all (λx=>!x.1)&&(Ry cpos (QF [] X.env)).all (λx=>x.1.isSome)
  &&decide ([e].length+([]:List QW).length+(if([]:List QW).isEmpty then 0 else 1)<30))=true:=by exact iG rfl) (hplain:(PK cpos (OJ [] X.env)).any (·.1)=false:=by exact bA rfl):DE X E (.Call (.Attribute o "split" apos) [e] [] cpos) (kK bS fo fe) :=
 D3 PySem.F.slot_str_split PySem.F.type_str_split CT (λz w H Ha Q hs q=>by
  unfold bS at q
  by_cases c:(w.length==0)=false/\z.length<=1000000
  .rw[if_pos c]at q
   refine⟨z,w,rfl,rfl,c.1,c.2,λp hp=>?_⟩;exact q _ _ _ (aS hs hp) (aF.mpr ⟨p,_,rfl,.inl (.inl ay),nc _⟩)
  .rw[if_neg c]at q;exact q.elim) ho he hbase hfew hline hs hplain
def G8{apos cpos:Pos}(ho:DE X E o fo)(he:DE X E e fe)(hbase:Qd o "partition" X.env (eval o X.env)=eval o X.env:=by rfl)(hline:(apos.endLine==cpos.line)=true:=by rfl)
  (hs:OJ [e] X.env=(false,eval e X.env)::OJ [] X.env:=by exact aJ rfl)
  (hfew:((PK cpos (OJ [e] X.env)).all (λx=>!x.1)&&(Ry cpos (QF [] X.env)).all (λx=>x.1.isSome)
  &&decide ([e].length+([]:List QW).length+(if([]:List QW).isEmpty then 0 else 1)<30))=true:=by exact iG rfl) (hplain:(PK cpos (OJ [] X.env)).any (·.1)=false:=by exact bA rfl):DE X E (.Call (.Attribute o "partition" apos) [e] [] cpos) (kK sD fo fe) :=
 D3 PySem.F.slot_str_partition PySem.F.type_str_partition FV (λz w H Ha Q hs q=>by
  unfold sD at q
  by_cases c:(w.length==0)=false/\z.length<=1000000
  .rw[if_pos c]at q
   refine⟨z,w,rfl,rfl,c.1,c.2,λp hp=>?_⟩;exact q _ _ _ (aS hs hp) (aM.mpr ⟨p,_,rfl,.inl (.inl ay),nc [(PB z w).1,(PB z w).2.1,(PB z w).2.2]⟩)
  .rw[if_neg c]at q;exact q.elim) ho he hbase hfew hline hs hplain
end
end DL
namespace DL
open PySem PySem.Spec PyProof.Rows L2
def gM(z:OG)(n:Int):OG:=⟨(OV n.toNat z.cps).foldl (·++·) #[]⟩
theorem sO{α:Type}:∀(k:Nat) (a b:Array α),((OV k a).foldl (·++·) b).size=b.size+k*a.size
 |0,a,b=>by simp
 |k+1,a,b=>by rw[PF,List.foldl_cons,sO k a (b++a),Array.size_append,Nat.succ_mul];omega
def jm{z:OG}{n:Int}:(gM z n).length=n.toNat*z.length:=by
 show((OV n.toNat z.cps).foldl (·++·) #[]).size=_;rw[sO];show 0+_=_;rw[Si];rfl
section
variable {X:Cx}{E:XK}{a b:Pl}{f g:am}{pos:Pos}
def FH:ib X (binaryOp .Mult) (λx y H Q=>∃z n,x=.str z/\y=.int n/\2<=n/\n<=100000/\1<=z.length/\n.toNat*z.length<=1000000/\Q (.str (gM z n)) H):=by
 intro π s σ H x y v u Q I rx ry h;obtain⟨z,n,rfl,rfl,h2,h3,h4,h5,q⟩:=h;obtain⟨t,rfl⟩:=rx;obtain⟨t',rfl⟩:=ry;have e0:(n==1||z.length==0)=false:=by
  have a1:(n==1)=false:=by rw[beq_eq_false_iff_ne];omega
  have a2:(z.length==0)=false:=by rw[beq_eq_false_iff_ne];omega
  rw[a1,a2];rfl
 have e5:z.length<=1000000:=by
  have:1*z.length<=n.toNat*z.length:=Nat.mul_le_mul_right _ (by omega);omega
 refine P.mul_str ?_ (λ_ _=>?_) (λ_ _=>?_) ?_
 .rw[decide_eq_false (by omega),decide_eq_false (by omega)];rfl
 .have:(100000:Int)*10<=(2 ^ 63-1) / n:=by
   refine Int.le_ediv_of_mul_le (by omega) ?_;have:(1000000:Int)*n<=1000000*100000:=Int.mul_le_mul_of_nonneg_left h3 (by decide);omega
  omega
 .rw[Nat.mul_comm];exact short24 (by omega)
 .rw[if_neg (by omega),if_neg (by rw[e0];decide)]
  exact⟨by show(gM z n).length<=_;rw[jm,sizeLine_eq];omega,⟨.str (gM z n),H,I.tok _,⟨_,rfl⟩,q⟩⟩
def gU(x y:D):ak D:=match x,y with
 |.str z,.int n=>if 2<=n/\n<=100000/\1<=z.length/\n.toNat*z.length<=1000000 then .ok (.str (gM z n)) else .stuck
 |_,_=>.stuck
def mI(ha:DE X E a f)(hb:DE X E b g):DE X E (.BinOp a .Mult b pos) (aa f g gU):=qG FH (by
 intro x y v u H Ha Q hs r1 r2 q;unfold gU at q;cases x with
 |str z=>
  cases y with
  |int n=>
   by_cases h:2<=n/\n<=100000/\1<=z.length/\n.toNat*z.length<=1000000
   .simp only[if_pos h]at q
    exact⟨z,n,Rep.str_iff.mp r1,az.mp r2,h.1,h.2.1,h.2.2.1,h.2.2.2,bM hs q (Rep.str_iff.mpr rfl)⟩
   .simp only[if_neg h]at q;exact q.elim
  |_=>exact q.elim
 |_=>exact q.elim) ha hb
end
def jz(s:Option Sl)(a:OE):Bool:=match s with
 |some (.pt b)=>b==a
 |_=>false
section
variable {X:Cx}{E:XK}{He η:Hp}{a:OE}{st:Qe}{e l b:Pl}{rest es:List Pl}{pos:Pos}{f:am}{fm gm:Ev->ac->ak (D×ac)}{fa:Ev->ac->ak (ac×ac)}{s t:Ev->ac->ak MFl}
def o8{s:Option Sl}{a:OE}(h:jz s a=true):s=some (.pt a):=by
 unfold jz at h;split at h
 .rw[eq_of_beq h]
 .cases h
end
open Classical in
noncomputable def vJ(F:OE->ak Fl):ak Fl:=if h:∃r,∀a,F a=r then h.choose else .stuck
def y0{F:OE->ak Fl}{r:ak Fl}(h:∀a,F a=r):vJ F=r:=by
 have hx:∃r,∀a,F a=r:=⟨r,h⟩
 unfold vJ;rw[dif_pos hx];exact(hx.choose_spec 0).symm.trans (h 0)
def FX{F:OE->ak Fl}(h:vJ F≠.stuck)(a:OE):F a=vJ F:=by
 unfold vJ at h ⊢
 by_cases hx:∃r,∀a,F a=r
 .rw[dif_pos hx];exact hx.choose_spec a
 .rw[dif_neg hx]at h;exact absurd rfl h
structure FT (K:OH) (mg:OG->Option OB) (x:OG) (st:Qe) (ps:ci) (a:OE) (d:Pz):Prop where
 F:zT K x x st a d
 b:gk K d ps []
 g:mg x=some (.ref a)
noncomputable def QA(K:OH) (x:OG) (st:Qe) (a:OE):Prop:=Qg K O6 x=some (some (.ref a))/\Rc K (.ref a)=true/\∃oc kV dc pm cd ct od an sl,K.lookup a=some ⟨oc,od,.func (Ru x x (defArgs st) (defBody st) (defScope st) .none kV dc pm an cd ct),sl⟩/\Td K cd x=true
def Ma{K:OH}{h:OY}{mg:OG->Option OB}{x:OG}{st:Qe}{ps:ci}{a:OE}(X:K.In h)(G:h.Ns O6 mg)(q:QA K x st a)
  (hb:∀(kV doc pm:OB) (an:Option OE) (cdv ct:OB) (us:List OB),us.length=ps.length->bindArgs (Ru x x (defArgs st) (defBody st) (defScope st) .none kV doc pm an cdv ct) ⟨us,[]⟩=pure (ps.zip us)) :
  ∃d,FT K mg x st ps a d/\∃kV doc pm an cdv ct,d=Ru x x (defArgs st) (defBody st) (defScope st) .none kV doc pm an cdv ct:=by
 obtain⟨e1,e4,oc,kV,dc,pm,cd,ct,od,an,sl,e2,e3⟩:=q;exact⟨_,⟨qt e2 e3 e4,(qt (st:=st) e2 e3 e4).binds hb,Q4 X G e1⟩,_,_,_,_,_,_,rfl⟩
section
variable {X:Cx}{E:XK}{e:Pl}{es:List Pl}{fa:Ev->ak (ac)}{f g h i j:am}{pos:Pos}{CX:tH}{k n:Nat}{fn:OE}{fd:Pz}{ps:ci}{m:ac->ak D}{x:OG}{p:Pos}{st:Qe}
def KL(ρ:Ev)(ds:ac)(h:af f au ρ=.ok ds):ds.length=1:=nJ (λ_ h=>Em h) h
def KJ(ρ:Ev)(ds:ac)(q:af f (af g au) ρ=.ok ds):ds.length=2:=nJ (KL ρ) q
def ME(ρ:Ev)(ds:ac)(q:af f (af g (af h au)) ρ=.ok ds):ds.length=3:=nJ (KJ ρ) q
end
def m8(fa:Ev->ak (ac))(m:ac->ak D):bv:=λρ=>match fa ρ with
 |.ok ds=>(m ds).bind λ_=>.ok (.nx ρ)
 |_=>.stuck
section
variable {X:Cx}{e:Pl}{es:List Pl}{fa:Ev->ak (ac)}{pos:Pos}{k n:Nat}{fn:OE}{fd:Pz}{ps:ci}{m:ac->ak D}{x:OG}{p:Pos}{st:Qe}
def Fc{cpos:Pos}(F:gq X.prog X.w X.K X.mg X.base (kj X.prog X.w) k fn fd ps (spD X.K n m))(hr:dA k X.A)(hg:Gl X x)(hm:X.mg x=some (.ref fn))
  (hk:Rc X.K (.ref fn)=true)(hb:gk X.K fd ps [])(ha:DA X.nox E0 (e::es) fa)(hn:(e::es).length=n:=by rfl)(hl:∀ρ ds,fa ρ=.ok ds->ds.length=(e::es).length)
  (hdb:(x==("__debug__" : OG))=false:=by decide)(he:OJ (e::es) X.env=(false,eval e X.env)::OJ es X.env:=by exact aJ rfl)(hpl:(PK cpos (OJ es X.env)).any (·.1)=false:=by exact bA rfl)
  (hs:P9 (.Call (.Name x p) (e::es) [] cpos) none pos.line X.env=pure false:=by rfl):TB X (.Expr (.Call (.Name x p) (e::es) [] cpos) pos) (m8 fa m):=by
 refine⟨λπ s σ H He η Ha ρ D XE I h q hx=>?_⟩;refine wpAny_Expr_any (dB (uQ (Q:=λv H1=>D.nx σ H1) F hr hg hm hk hb ha.o I ?_ hx hdb he hpl) λv s1 ⟨y,H1,I1,r1,q1⟩=>⟨σ,H1,I1,q1⟩) I.quiet hs;refine⟨Ha,ρ,h.g.sub,h.rd,?_⟩;unfold m8 at q ⊢;cases e1:fa ρ with
 |stuck=>rw[e1]at q;exact q|exn x=>rw[e1]at q;exact q.elim
 |ok ds=>
  rw[e1]at q;intro vs H1 H01 g1 r1;refine⟨?_,H01,ds,g1.sub,r1,?_⟩
  .have:=r1.length
   have:=hl ρ ds e1;omega
  .show post _ _ _ _ (m ds) _
   cases e2:m ds with
   |stuck=>simp only[e2]at q;exact q
   |exn x=>exact λC ox H' Ha' g ex=>⟨x,Ha',by simp only[e2];rfl,g1.z.trans g.z,h.grow (g1.trans g),ex⟩
   |ok d=>
    simp only[e2]at q;exact λv H' Ha' g rp=>q _ H' Ha' (g1.z.trans g.z) (h.grow (g1.trans g))
end
def kj.imp{P:Pr}{w:PJ}{outer:List P7}{H:Hp}{s s':OI}{E E':XK}{e:OB}(h:∀C ox H',E C ox H'->E' C ox H')(c:kj P w outer H s E e s'):kj P w outer H s E' e s':=by
 obtain⟨a,C,a0,B,H',h1,h2,h3,h4,h5,h6,h7,h8,h9,h10,hE⟩:=c;exact⟨a,C,a0,B,H',h1,h2,h3,h4,h5,h6,h7,h8,h9,h10,h _ _ _ hE⟩
structure Rw where
 x:OG
 st:Qe
 N:ci
 n:Nat
abbrev Rw.ps(r:Rw):ci:=r.N.take r.n
instance {N P:ci}{sc:RG}:Decidable (fH N P sc) :=
 decidable_of_iff (sc.kind=.function/\sc.isCoroutine=false/\sc.isGenerator=false/\N.Nodup/\N.take P.length=P/\(∀x∈P,sc.names.lookup x=some .local ∨ sc.names.lookup x=some .cell)/\∀y∈sc.names,y.2≠.free)
  ⟨λ⟨a,b,c,d,e,f,g⟩=>⟨a,b,c,d,e,f,g⟩,λ⟨a,b,c,d,e,f,g⟩=>⟨a,b,c,d,e,f,g⟩⟩
def MW(rows:List Rw):Prop:=∀r∈rows,fH r.N r.ps (defScope r.st)
instance {rows:List Rw}:Decidable (MW rows):=inferInstanceAs (Decidable (∀r∈rows,_))
def TG(rows:List Rw)(K:OH)(mg:OG->Option OB)(A:Nat->OE)(Q:Nat->Pz):Prop:=∀i r,rows[i]?=some r->FT K mg r.x r.st r.ps (A i) (Q i)
def MQ(r:Rw):Prop:=∀(kV doc pm:OB) (an:Option OE) (cdv ct:OB) (us:List OB),us.length=r.ps.length->bindArgs (Ru r.x r.x (defArgs r.st) (defBody r.st) (defScope r.st) .none kV doc pm an cdv ct) ⟨us,[]⟩=pure (r.ps.zip us)
def QAs(K:OH):List Rw->List OE->Prop
 |[],_=>True
 |r::rs,a::as=>QA K r.x r.st a/\QAs K rs as
 |_::_,[]=>False
def QAs.cons{K:OH}{x:OG}{st:Qe}{N:ci}{n:Nat}{rs:List Rw}{a:OE}{as:List OE}(q:QA K x st a)(t:QAs K rs as):QAs K (⟨x,st,N,n⟩::rs) (a::as):=⟨q,t⟩
theorem Hw{K:OH}{h:OY}{mg:OG->Option OB}(X:K.In h)(G:h.Ns O6 mg):∀{rows:List Rw}{as:List OE},(∀r∈rows,MQ r)->QAs K rows as ->
  ∃Q:Nat->Pz,∀i r,rows[i]?=some r->FT K mg r.x r.st r.ps (as.getD i 0) (Q i)/\∃kV doc pm an cdv ct,Q i=Ru r.x r.x (defArgs r.st) (defBody r.st) (defScope r.st) .none kV doc pm an cdv ct
 |[],as,_,_=>⟨λ_=>default,λi r e=>by simp at e⟩
 |r::rs,[],_,q=>q.elim
 |r::rs,a::as,hb,q=>by
  obtain⟨Q,h⟩:=Hw X G (λr hr=>hb r (OT _ hr)) q.2;obtain⟨d,h1,h2⟩:=Ma X G q.1 (hb r Pe);refine⟨λi=>match i with|0=>d|i+1=>Q i,λi r' e=>?_⟩;cases i with|zero=>rw[Q0]at e;cases e;exact⟨h1,h2⟩|succ i=>rw[Qb]at e;exact h i r' e
structure iP (P:Pr) (w:PJ) (K:OH) (mg:OG->Option OB) (base:OY) (CX:tH) (k:Nat) (fn:OE) (fd:Pz) (ps:ci) (sp:Sp) (x:OG) (st:Qe):Prop where
 F:gq P w K mg base CX k fn fd ps sp
 t:FT K mg x st ps fn fd
section
variable {P:Pr}{w:PJ}{K:OH}{mg:OG->Option OB}{base:OY}{rows:List Rw}{A:Nat->OE}{Q:Nat->Pz}{i k n:Nat}{r:Rw}{s:bv}{sM:OE->Ev->ac->ak MFl}
variable (T:TG rows K mg A Q) (S:MW rows) (h:rows[i]?=some r)
include T S h
theorem oD(b:∀(cdv:OB) (A':Px) (outer:List P7) (s0:OI) (H Ha:Hp) (E:XK),dA k (A'.deeper (envOfC r.x (defScope r.st) s0.heap.objs.size (A i) cdv)) ->
   yt (gh CX0 P w K mg base r.N r.x (defScope r.st) (A i) cdv A' outer s0 H E).nox E H Ha (defBody r.st) s):iP P w K mg base CX0 (k+1) (A i) (Q i) r.ps (spD K r.ps.length (da r.N.length s)) r.x r.st :=
 ⟨A7 (T i r h).F (S r (Pp h)) b,T i r h⟩
theorem oE(b:∀(cdv:OB) (A':Px) (outer:List P7) (s0:OI) (H Ha:Hp) (E:XK),dA k (A'.deeper (envOfC r.x (defScope r.st) s0.heap.objs.size (A i) cdv)) ->
   yt (gh (kj P w) P w K mg base r.N r.x (defScope r.st) (A i) cdv A' outer s0 H E) E H Ha (defBody r.st) s):iP P w K mg base (kj P w) (k+1) (A i) (Q i) r.ps (spD K r.ps.length (da r.N.length s)) r.x r.st :=
 ⟨xV (T i r h).F (S r (Pp h)) b,T i r h⟩
end
section
variable {X:Cx}{E:XK}{e:Pl}{es:List Pl}{fa:Ev->ak (ac)}{pos:Pos}{CX:tH}{k k0 n:Nat}{fn:OE}{fd:Pz}{ps:ci}{m:ac->ak D}{x:OG}{p:Pos}{st:Qe}
def rC(B:iP X.prog X.w X.K X.mg X.base CX k0 fn fd ps (spD X.K n m) x st)(hr:dA k X.A)(ha:DA X E (e::es) fa)(hle:k0<=k:=by decide)(hx:iO CX X E:=by first|exact HH|exact xy|exact passesE)(hl:∀ρ ds,fa ρ=.ok ds->ds.length=(e::es).length:=by first|exact KL|exact KJ|exact ME|exact al4|exact al5)(hn:(e::es).length=n:=by rfl)
  (hg:Gl X x:=by exact rfl)(hdb:(x==("__debug__" : OG))=false:=by decide)(he:OJ (e::es) X.env=(false,eval e X.env)::OJ es X.env:=by exact aJ rfl)(hpl:(PK pos (OJ es X.env)).any (·.1)=false:=by exact bA rfl) :
  DE X E (.Call (.Name x p) (e::es) [] pos) (ao fa m):=Hd (B.F.mono hle) hr hg B.t.g B.t.F.kp B.t.b hx ha hn hl hdb he hpl
def rD{cpos:Pos}(B:iP X.prog X.w X.K X.mg X.base (kj X.prog X.w) k0 fn fd ps (spD X.K n m) x st)(hr:dA k X.A)(ha:DA X.nox E0 (e::es) fa)(hle:k0<=k:=by decide)(hl:∀ρ ds,fa ρ=.ok ds->ds.length=(e::es).length:=by first|exact KL|exact KJ|exact ME|exact al4|exact al5)(hn:(e::es).length=n:=by rfl)
  (hg:Gl X x:=by exact rfl)(hdb:(x==("__debug__" : OG))=false:=by decide)(he:OJ (e::es) X.env=(false,eval e X.env)::OJ es X.env:=by exact aJ rfl)(hpl:(PK cpos (OJ es X.env)).any (·.1)=false:=by exact bA rfl)
  (hs:P9 (.Call (.Name x p) (e::es) [] cpos) none pos.line X.env=pure false:=by rfl):TB X (.Expr (.Call (.Name x p) (e::es) [] cpos) pos) (m8 fa m):=Fc (B.F.mono hle) hr hg B.t.g B.t.F.kp B.t.b ha hn hl hdb he hpl hs
def rT{y:OG}{pos' cpos:Pos}(hN:X.N.Nodup){i:Nat}(hi:X.N[i]?=some y)(hy:zS X.env.scope y)(B:iP X.prog X.w X.K X.mg X.base (kj X.prog X.w) k0 fn fd ps (spD X.K n m) x st)(hr:dA k X.A)(ha:DA X.nox E0 (e::es) fa)(hle:k0<=k:=by decide)(hl:∀ρ ds,fa ρ=.ok ds->ds.length=(e::es).length:=by first|exact KL|exact KJ|exact ME|exact al4|exact al5)(hn:(e::es).length=n:=by rfl)
  (hg:Gl X x:=by exact rfl)(hdb:(x==("__debug__" : OG))=false:=by decide)(he:OJ (e::es) X.env=(false,eval e X.env)::OJ es X.env:=by exact aJ rfl)(hpl:(PK cpos (OJ es X.env)).any (·.1)=false:=by exact bA rfl)
  (hs:P9 (.Call (.Name x p) (e::es) [] cpos) (some (.Name y pos')) pos.line X.env=pure false:=by rfl)
  (hf:X.fn y=true∨X.env.scope.names.lookup y=some .local := by first|exact .inl rfl|exact .inr rfl|assumption):TB X (.Assign [.Name y pos'] (.Call (.Name x p) (e::es) [] cpos) pos) (ko i fa m):=IE hN hi hy (B.F.mono hle) hr hg B.t.g B.t.F.kp B.t.b ha hn hl hdb he hpl hs hf
end
def Ox{r:Rw}(hn:r.ps.length=1:=by rfl)(hb:∀(kV doc pm:OB) (an:Option OE) (cdv ct b:OB),bindArgs (Ru r.x r.x (defArgs r.st) (defBody r.st) (defScope r.st) .none kV doc pm an cdv ct) ⟨[b],[]⟩=pure (r.ps.zip [b]):=by intros;rfl):MQ r:=λ_ _ _ _ _ _ us hl=>by
 obtain⟨b,rfl⟩:=Nz (hl.trans hn);exact hb ..
def Ow{r:Rw}(hn:r.ps.length=2:=by rfl)(hb:∀(kV doc pm:OB) (an:Option OE) (cdv ct b c:OB),bindArgs (Ru r.x r.x (defArgs r.st) (defBody r.st) (defScope r.st) .none kV doc pm an cdv ct) ⟨[b,c],[]⟩=pure (r.ps.zip [b,c]):=by intros;rfl):MQ r:=λ_ _ _ _ _ _ us hl=>by
 obtain⟨b,c,rfl⟩:=Ny (hl.trans hn);exact hb ..
def Ov{r:Rw}(hn:r.ps.length=3:=by rfl)(hb:∀(kV doc pm:OB) (an:Option OE) (cdv ct b c d:OB),bindArgs (Ru r.x r.x (defArgs r.st) (defBody r.st) (defScope r.st) .none kV doc pm an cdv ct) ⟨[b,c,d],[]⟩=pure (r.ps.zip [b,c,d]):=by intros;rfl):MQ r:=λ_ _ _ _ _ _ us hl=>by
 obtain⟨b,c,d,rfl⟩:=Ot (hl.trans hn);exact hb ..
end DL
namespace DL
open PySem L2
section
variable {α β:Type}
def Rf(a b:ak α):Prop:=a=.stuck∨a=b
def dQ{a b:ak α}{f g:α->ak β}(h:Rf a b)(k:∀x,Rf (f x) (g x)):Rf (a.bind f) (b.bind g):=by
 rcases h with rfl|rfl
 .exact .inl rfl
 .cases a with
  |ok x=>exact k x
  |exn x=>exact .inr rfl
  |stuck=>exact .inl rfl
structure lB (f g:Ev->ak α):Prop where
 o:∀ρ,Rf (f ρ) (g ρ)
end
structure N6 (f g:ac->ak D):Prop where
 o:∀ds,Rf (f ds) (g ds)
def rfm_refl{f:ac->ak D}:N6 f f:=⟨λ_=>.inr rfl⟩
def rf_refl{α:Type}{f:Ev->ak α}:lB f f:=⟨λ_=>.inr rfl⟩
section
variable {s s' t t':bv}{c c' f f':am}{fa fa':Ev->ak (ac)}{m m':ac->ak D}
def rf_stuck:lB IV s:=⟨λ_=>.inl rfl⟩
def rf_seq(h1:lB s s')(h2:lB t t'):lB (aw s t) (aw s' t'):=⟨λρ=>dQ (h1.o ρ) λr=>by
 cases r with
 |nx ρ'=>exact h2.o ρ'
 |_=>exact .inr rfl⟩
def rf_if(hc:lB c c')(h1:lB s s')(h2:lB t t'):lB (fw c s t) (fw c' s' t'):=⟨λρ=>dQ (hc.o _) λr=>by
 cases r with
 |bl b=>cases b with
  |true=>exact h1.o ρ
  |false=>exact h2.o ρ
 |_=>exact .inr rfl⟩
theorem oY{tg:Ev->D->ak Ev}(h:lB s s'):∀(ds:ac) (ρ:Ev),Rf (gp tg s ds ρ) (gp tg s' ds ρ)
 |[],ρ=>.inr rfl
 |d::r,ρ=>by
  unfold gp;refine dQ (.inr rfl) λρ1=>dQ (h.o ρ1) λx=>?_;cases x with|nx ρ2|ct ρ2=>exact oY h r ρ2|bk ρ2|rt d=>exact .inr rfl
def rf_for{tg:Ev->D->ak Ev}(hf:lB f f')(h:lB s s'):lB (Ak f tg s) (Ak f' tg s'):=⟨λρ=>dQ (hf.o ρ) λd=>by
 cases d with
 |lst ds=>exact oY h ds ρ
 |_=>exact .inr rfl⟩
def rf_forI{tg:Ev->D->ak Ev}{src:Ev->ak (ac)}(h:lB s s'):lB (HC src tg s) (HC src tg s'):=⟨λρ=>dQ (.inr rfl) λds=>oY h ds ρ⟩
def rf_drop(h:lB f f'):lB (HD f) (HD f'):=⟨λρ=>dQ (h.o _) λ_=>.inr rfl⟩
def rf_ret(h:lB f f'):lB (bE f) (bE f'):=⟨λρ=>dQ (h.o _) λ_=>.inr rfl⟩
def rf_set{i:Nat}(h:lB f f'):lB (aV i f) (aV i f'):=⟨λρ=>dQ (h.o _) λ_=>.inr rfl⟩
def rf_b1{op:D->ak D}(h:lB f f'):lB (bc f op) (bc f' op):=⟨λρ=>dQ (h.o _) λ_=>.inr rfl⟩
def rf_not(h:lB f f'):lB (dZ f) (dZ f'):=rf_b1 h
def rf_b2{op:D->D->ak D}(h:lB f f')(h2:lB c c'):lB (aa f c op) (aa f' c' op):=⟨λρ=>dQ (h.o _) λ_=>dQ (h2.o _) λ_=>.inr rfl⟩
def rf_bA(h:lB fa fa')(hm:N6 m m'):lB (ao fa m) (ao fa' m'):=⟨λρ=>dQ (h.o _) λds=>hm.o ds⟩
def rf_cons(h:lB f f')(h2:lB fa fa'):lB (af f fa) (af f' fa'):=⟨λρ=>dQ (h.o _) λ_=>dQ (h2.o _) λ_=>.inr rfl⟩
end
end DL
local macro_rules|`(tactic|open_line with[rf_go])=>`(tactic|repeat (first|with_reducible exact DL.rf_refl|with_reducible exact DL.rf_stuck|with_reducible assumption|with_reducible exact DL.rfm_refl|with_reducible refine DL.rf_seq ?_ ?_|with_reducible refine DL.rf_if ?_ ?_ ?_|with_reducible refine DL.rf_for ?_ ?_|with_reducible refine DL.rf_forI ?_|with_reducible refine DL.rf_drop ?_|with_reducible refine DL.rf_ret ?_|with_reducible refine DL.rf_set ?_|with_reducible refine DL.rf_not ?_|with_reducible refine DL.rf_bA ?_ ?_|with_reducible refine DL.rf_cons ?_ ?_|with_reducible refine DL.rf_b1 ?_|with_reducible refine DL.rf_b2 ?_ ?_))
namespace Cod
open PySem L2 DL Com
def first(es:List Int)(m:Nat):cr:=(Qc m).map λj=>97+((es[2+j]?).getD 0).toNat
end Cod
namespace DL
open PySem PySem.Spec PyProof.Rows L2
def lH(ρ:Ev):Bool:=ρ.all λs=>match s with
 |.ow _=>false
 |.ox _ _=>false
 |_=>true
section
variable {K:OH}{He η Ha H H2:Hp}{σ:L2.St}{ρ:Ev}{a:OE}{st:ac}{vs:al}
def lH.ow(h:lH ρ=true){i:Nat}{d:D}(e:ρ[i]?=some (.ow d)):False:=by
 have:=Pk.mp h _ (Pp e);cases this
def lH.ox(h:lH ρ=true){i j:Nat}{ds:ac}(e:ρ[i]?=some (.ox j ds)):False:=by
 have:=Pk.mp h _ (Pp e);cases this
end
mutual
/-- .. seen as any list -/
def fgt:D->D
 |.tup ds=>.tup (fgts ds)
 |.lst ds=>.lst (fgts ds)
 |.dic ks ds=>.dic ks (fgts ds)
 |.ob k ds=>match k with
  |.pl=>.lst (fgts ds)
  |k=>.ob k (fgts ds)
 |.non=>.non
 |.bl b=>.bl b
 |.int i=>.int i
 |.str x=>.str x
 |.exc x=>.exc x
def fgts:ac->ac
 |[]=>[]
 |d::ds=>fgt d::fgts ds
end
mutual
theorem Rep.fgt{K:OH}{H:Hp}:∀{d:D}{v:V},Rep K H d v->Rep K H (fgt d) v
 |.non,_,h=>by rw[DL.fgt];exact h
 |.bl _,_,h=>by rw[DL.fgt];exact h
 |.int _,_,h=>by rw[DL.fgt];exact h
 |.str _,_,h=>by rw[DL.fgt];exact h
 |.exc _,_,h=>by rw[DL.fgt];exact h
 |.tup ds,_,h=>by
  obtain⟨a,vs,e1,e2,e3⟩:=aM.mp h;rw[DL.fgt];exact aM.mpr ⟨a,vs,e1,e2,Reps.fgt e3⟩
 |.lst ds,_,h=>by
  obtain⟨a,vs,e1,e2,e3⟩:=aF.mp h;rw[DL.fgt];exact aF.mpr ⟨a,vs,e1,e2,Reps.fgt e3⟩
 |.dic ks ds,_,h=>by
  rw[Rep]at h;obtain⟨a,kvs,vs,e1,e2,e3,e4,e5⟩:=h;rw[DL.fgt,Rep];exact⟨a,kvs,vs,e1,e2,e3,e4,Reps.fgt e5⟩
 |.ob k ds,_,h=>by
  obtain⟨a,vs,e1,e2,e3⟩:=cz.mp h;cases k with
  |pl=>rw[DL.fgt];exact aF.mpr ⟨a,vs,e1,gL.of e2,Reps.fgt e3⟩
  |ins c ks=>rw[DL.fgt]<;>first|exact cz.mpr ⟨a,vs,e1,e2,Reps.fgt e3⟩|(intro z;cases z)
  |dint ks=>rw[DL.fgt]<;>first|exact cz.mpr ⟨a,vs,e1,e2,Reps.fgt e3⟩|(intro z;cases z)
  |exf c ks=>rw[DL.fgt]<;>first|exact cz.mpr ⟨a,vs,e1,e2,Reps.fgt e3⟩|(intro z;cases z)
theorem Reps.fgt{K:OH}{H:Hp}:∀{ds:ac}{vs:al},Reps K H ds vs->Reps K H (fgts ds) vs
 |[],_,h=>by rw[fgts];exact h
 |d::ds,_,h=>by
  obtain⟨v,r,rfl,h1,h2⟩:=aD.mp h;rw[fgts];exact Reps.cons (Rep.fgt h1) (Reps.fgt h2)
end
section
variable {X:Cx}{E:XK}{e:Pl}{f:am}
def KI(f:am):am:=λρ=>(f ρ).bind λd=>.ok (fgt d)
def D8(he:DE X E e f):DE X E e (KI f):=⟨bb he.o λσ H Q ⟨Ha,ρ,hs,hr,q⟩=>⟨Ha,ρ,hs,hr,by
 unfold KI at q;cases e1:f ρ with
 |stuck|exn x=>rw[e1]at q;exact q
 |ok d=>rw[e1]at q;exact λv H' Ha' g r=>q v H' Ha' g r.fgt⟩⟩
end
section
variable {X:Cx}{π:List (OE×Obj)}{σ:L2.St}{H:Hp}{s:OI}{e:OE}
def Hh{H1:Hp}{s1 s':OI}{Ex:XK}{ev:OB}{c:OG}{np hpos:Pos}{ba:Qe}{suite:List Qe}{rest:List ExceptHandler}{cv:OB}{D:ic}(hstk:X.stack=X.env::X.outer/\X.env.frame=some X.env.locals)(I:Inv X π σ H1 s1)
  (h:kj X.prog X.w X.stack H1 s1 Ex ev s')(hg:Gl X c)(hm:X.mg c=some cv)(hx:∀C ox H',Ex (.ref C) ox H'->SR X.K (.ref C) cv=some true)
  (hs:∀ea C dc oc ox H' s2,Ex (.ref C) ox H'->(ox=none∨ox=dc)->H' ea=none->lZ s2.heap ea dc->s2.heap.get? ea=some oc->Inv (DL.hand X ea) π σ (upd H' ea (.ext (λg=>g.get? ea=some oc))) s2 ->
   O7 (O2 X.prog X.w) (X.A.mark (some (.ref ea))) (execs (ba::suite) X.env) (SP (DL.hand X ea) π D) (notedBy (O2 X.prog X.w) (X.A.mark (some (.ref ea))) X.env λx s3=>cameBackBy (O2 X.prog X.w) X.A X.env X.xe x s3) s2)
  (hdb:(c==("__debug__" : OG))=false:=by decide) :
  O7 (O2 X.prog X.w) X.A (noteFrame ev X.env) (λ_ si=>O7 (O2 X.prog X.w) X.A (setFlight ev none) (λ_ sj=>
   O7 (O2 X.prog X.w) X.A (handleBy ev X.env (.ExceptHandler (some (.Name c np)) none (ba::suite) hpos::rest)) (SP X π D) X.xe sj) X.xe si) X.xe s':=by
 obtain⟨ea,C,a0,B,H',rfl,os,bare,un,hok,hne,fl,hB,ox,⟨dc,hdc,hox⟩,hE⟩:=h;have hA:X.A.frames=some (X.env::X.outer):=by rw[←hstk.1];exact I.ok.frames
 have fl0:=fl;rw[hstk.1]at fl;have hf1:∀b∈iS X.stack,H' b=none:=λb hb=>by
  obtain⟨_,o,ho,_⟩:=I.stack.mem hb;exact un.free b o ho (I.stkFree b hb) (by simp)
 have hnew:s1.heap.get? ea=none:=by
  cases q:s1.heap.get? ea with
  |none=>rfl
  |some o=>
   by_cases hb:ea∈iS X.stack
   .obtain⟨_,o',ho',hd⟩:=fl0.2.2.1.mem hb
    obtain⟨oe,vs,he,_,hd',_⟩:=fl0.first
    rw[ho']at he;cases he;exact absurd hd' (hd vs)
   .obtain⟨u,hu⟩:=hB ea hb (.inr ⟨o,q⟩)
    rw[fl.2.1]at hu;cases hu
 have inv:∀g,B.StaysIn g->s'.heap.UpToSlots g->Inv X π σ H' { s' with heap:=g }:=λg k up=>
  I.call' (ch:=[]) os (Un.fly un fl0.1 fl0.2.2.1 hB k up) (ip.fly hok hf1 fl0.1 hB k) bare (λ_ z=>nomatch z)
 have invx:∀g oc,B.StaysIn g->s'.heap.UpToSlots g->g.get? ea=some oc->Inv X π σ (upd H' ea (.ext (λg=>g.get? ea=some oc))) { s' with heap:=g }:=λg oc k up p=>
  I.call' (ch:=[]) os (Un.ext (Un.fly un fl0.1 fl0.2.2.1 hB k up) hne hnew) (ip.ext (ip.fly hok hf1 fl0.1 hB k) hne p ⟨oc,p⟩ (λg1 g2 x y=>y oc x)) bare (λ_ z=>nomatch z)
 refine v7 hA hstk.2 fl hdc λh4 held4 up4 dc4=>?_;refine wa held4 dc4 λh5 fl5 up5 dc5=>?_;have I5:Inv (DL.hand X ea) π σ H' { s' with heap:=h5 }:=Inv.hand (inv h5 fl5.1 (up4.trans up5));refine wpAny_handleBy_cons (codeAny_handlers_test ?_) (by intro q;cases q);refine iT I5 hg hm ?_ hdb;obtain⟨ob,hob,hoc⟩:=fl5.there;have LT:R6 (O2 X.prog X.w) h5 (typeOf (.ref ea)) (.ref C):=hoc▸(R6.ld hob).andThen .now;refine(W.exm_one I5.kIn LT (hx C ox H' hE)).here ?_;refine codeAny_handlers_suite ?_;refine wc fl5 dc5 λh6 fl6 up6 dc6=>?_;obtain⟨oe,vs,he,hc,hd,_⟩:=fl6.first
 have I6:Inv (DL.hand X ea) π σ (upd H' ea (.ext (λg=>g.get? ea=some oe))) { s' with heap:=h6 }:=Inv.hand (invx h6 oe fl6.1 ((up4.trans up5).trans up6) he);refine PN (hs ea C dc oe ox H' _ hE hox hne dc6 he I6) (λf s8 h8=>?_) λ_ _ z=>z;cases f with|next|brk|cont=>obtain⟨σ',H2,J,q⟩:=h8;exact⟨σ',H2,iQ I.ok J,q⟩|ret u=>obtain⟨v,σ',H2,J,r,q⟩:=h8;exact⟨v,σ',H2,iQ I.ok J,r,q⟩
end
end DL
namespace DL
open PySem PySem.Spec PyProof.Rows L2 PySem.W
noncomputable abbrev XQ(K:Frag) (q:OG) (C CE f:OE) (s:Qe) (ks:ci):Prop :=
 ∃(oc kV doc pm cd ct:OB) (od an:Option OE) (sl:Array (Option OB)) (nm qn:OG) (n:OE) (bs su:List OB) (hq ab:Bool) (sn:ci) (col:Option Bool) (dd dn:Option OE) (k0 k1 k2 k3 k5:Option OB) (cn:OB) (es:Array S5) (ep:Nat) (st:Array (Option OB)),
  K.lookup C=some (excClassObj nm qn C n bs [.ref CE,.type "ValueError",.type "Exception",.type "BaseException",.type "object"] hq sn su ab col dd k0 k1 k2 k3 k5 "ValueError.__new__")/\K.lookup n=some ⟨cn,dn,.dict es ep,st⟩/\es.toList.all HK=true/\nsIn K n "__init__"=some (some (.ref f)) /\
  isFn K (.ref f)=true/\K.lookup f=some ⟨oc,od,.func (fnOf "__init__" q (defArgs s) (defBody s) (defScope s) .none kV doc pm an cd ct),sl⟩/\codeIn K cd q=true/\keepIn K (.ref f)=true /\
  findIn K (.ref C) "__setattr__"=some (some (.builtin "object.__setattr__"))/\hasDictIn K C=true/\∀g∈ks,eH K C g
structure N5 (K:Frag) (q:OG) (C f:OE) (fd:Pz) (s:Qe) (ps ks:ci):Prop where
 Fi:zT K "__init__" q s f fd
 bi:gk K fd ps []
 xi:Ig K C f
 xs:Ho K C ks
 xf:isFn K (.ref f)=true
def Oa{K:Frag}{q:OG}{C CE f:OE}{s:Qe}{ps ks:ci}(hb:∀{fd},zT K "__init__" q s f fd->gk K fd ps [])(x:XQ K q C CE f s ks)
  (be:excIn K CE [.type "ValueError",.type "Exception",.type "BaseException",.type "object"] "ValueError.__new__"=true):∃fd,N5 K q C f fd s ps ks:=by
 obtain⟨_,_,_,_,_,_,_,_,_,_,_,_,_,_,_,_,_,_,_,_,_,_,_,_,_,_,_,_,_,a,b,c,d,e,g,h,i,j,k,l⟩:=x;have F:=qt g h i;have I:=Ip a b c d be;exact⟨_,F,hb F,I,Il I j k l,e⟩
def Sb(K:Frag)(r:OE):List OE->List Bool->Prop
 |[],_=>True
 |_,[]=>False
 |c::cs,b::bs=>subIn K (.ref r) (.ref c)=some b/\Sb K r cs bs
def sb_c{K:Frag}{r c:OE}{b:Bool}{cs:List OE}{bs:List Bool}(h:subIn K (.ref r) (.ref c)=some b)(h':Sb K r cs bs):Sb K r (c::cs) (b::bs):=⟨h,h'⟩
theorem B5{K:Frag}{r c:OE}:∀{cs:List OE}{bs:List Bool},Sb K r cs bs->∀n:Nat,cs[n]?=some c->subIn K (.ref r) (.ref c)=some (bs.getD n false)
 |[],_,_,_,e=>by cases e
 |_::_,[],h,_,_=>h.elim
 |_::_,_::_,h,0,e=>by cases e;exact h.1
 |_::_,_::_,h,n+1,e=>B5 h.2 n e
structure NO (K:Frag) (x:OG) (r:OE) (cs:List OE) (bs:List Bool):Prop where
 xc:XC K x r
 self:subIn K (.ref r) (.ref r)=some true
 ve:subIn K (.ref r) (.type "ValueError")=some true
 sb:Sb K r cs bs
def EF(K:Frag)(cs:List OE)(l:List (OG×OE×List Bool)):Prop:=∀q∈l,NO K q.1 q.2.1 cs q.2.2
def Io{K:Frag}{cs:List OE}:EF K cs []:=λ_ h=>nomatch h
def M1{K:Frag}{cs:List OE}{l:List (OG×OE×List Bool)}{x:OG}{r:OE}{bs:List Bool}(z:NO K x r cs bs)(h:EF K cs l):EF K cs ((x,r,bs)::l):=λq hq=>by
 rcases O4.mp hq with rfl|hq
 .exact z
 .exact h q hq
def N9{K:Frag}{cs:List OE}{l:List (OG×OE×List Bool)}{x:OG}{r:OE}{bs:List Bool}(z:wG K x r)(p:Sb K r cs bs)(h:EF K cs l):EF K cs ((x,r,bs)::l):=M1 ⟨z.xc,z.self,z.ve,p⟩ h
def ua{K:Frag}{cs:List OE}{l:List (OG×OE×List Bool)}(h:EF K cs l)(g:List Bool->Bool){p:OE->Bool->Prop}(hp:∀{x r bs},NO K x r cs bs->p r (g bs)):∀q∈l.map λq=>(q.1,g q.2.2),∃C,XC K q.1 C/\p C q.2:=λq hq=>by
 obtain⟨y,hy,rfl⟩:=PM.mp hq;exact⟨_,(h y hy).xc,hp (h y hy)⟩
def Di{K:Frag}{cs:List OE}{l:List (OG×OE×List Bool)}{x:OG}{C:OE}{l':List (OG×Bool)}(h:EF K cs l)(z:mW K x C)(n:Nat)(hc:cs[n]?=some C)(hl:l'=l.map λq=>(q.1,q.2.2.getD n false)):∀x D,jB l' x=true->XC K x D->exmOne K (.ref D) (.ref C)=some true :=
 Dj (hl▸ua h (·.getD n false) (p:=λr b=>exmOne K (.ref r) (.ref C)=some b) λy=>z.exm (B5 y.sb n hc))
def IG{K:Frag}{cs:List OE}{l:List (OG×OE×List Bool)}{x:OG}{C:OE}{t:OG->Option Bool}(h:EF K cs l)(z:mW K x C)(n:Nat)(hc:cs[n]?=some C)(hl:t=l8 (l.map λq=>(q.1,q.2.2.getD n false))):oq K t (.ref C) :=
 hl▸ji (p:=λ_ r b=>kitOne K (.ref r) (.ref C)=some b) (ua h (·.getD n false) (p:=λr b=>kitOne K (.ref r) (.ref C)=some b) λy=>z.kit y.self (B5 y.sb n hc))
def IF{K:Frag}{cs:List OE}{l:List (OG×OE×List Bool)}{t:OG->Option Bool}(h:EF K cs l)(hl:t=l8 (l.map λq=>(q.1,true))):oq K t (.type "ValueError") :=
 hl▸ji (p:=λ_ r b=>kitOne K (.ref r) (.type "ValueError")=some b) (ua h (λ_=>true) (p:=λr b=>kitOne K (.ref r) (.type "ValueError")=some b) λy=>xM xN y.ve)
end DL
namespace DL
open PySem PySem.Spec PyProof.Rows L2
structure S3 where
 p:ac
 t:ac
 e:ac
def S3.at(s:S3):Nat->ac
 |0=>s.p
 |1=>s.t
 |_=>s.e
def S3.add(s:S3)(k:Nat)(d:D):S3:=match k with
 |0=>⟨s.p++[d],s.t,s.e⟩
 |1=>⟨s.p,s.t++[d],s.e⟩
 |_=>⟨s.p,s.t,s.e++[d]⟩
def Bp{s:S3}{k j:Nat}{d:D}(hk:k<3)(hj:j<3):(s.add k d).at j=if j=k then s.at k++[d] else s.at j:=by
 rcases(show k=0∨k=1∨k=2 by omega) with rfl|rfl|rfl<;>rcases(show j=0∨j=1∨j=2 by omega) with rfl|rfl|rfl<;>rfl
inductive Hk where
 |ins (c:OG) (ks:ci)|tup
def rk(K:OH)(H:Hp):Hk->OE->al->Prop
 |.ins c ks,a,vs=>yp K H (.ins c ks) a vs
 |.tup,a,vs=>lA K H a vs
def eJ:Hk->S3->D
 |.ins c ks,s=>.ob (.ins c ks) [.lst s.p,.lst s.t,.lst s.e]
 |.tup,s=>.tup [.lst s.p,.lst s.t,.lst s.e]
theorem rk.mono{K:OH}{H H':Hp}(e:aG H H'):∀{h:Hk}{a:OE}{vs:al},rk K H h a vs->rk K H' h a vs
 |.ins c ks,a,vs,h=>yp.mono (k:=.ins c ks) e h
 |.tup,a,vs,h=>aG.sqT e h
def Dk(He:Hp)(q:Nat->OE)(vs:Nat->al):Hp:=λc=>if c=q 0 then some (.lst (vs 0)) else if c=q 1 then some (.lst (vs 1)) else if c=q 2 then some (.lst (vs 2)) else He c
def EE(q:Nat->OE)(H:Hp):Hp:=λc=>if c=q 0∨c=q 1∨c=q 2 then none else H c
structure yq (q:Nat->OE):Prop where
 a:q 0≠q 1
 b:q 0≠q 2
 c:q 1≠q 2
def k3{k:Nat}(h:k<3):k=0∨k=1∨k=2:=by omega
section
variable {He:Hp}{q:Nat->OE}{vs:Nat->al}
def nA(j:yq q){k:Nat}(h:k<3):Dk He q vs (q k)=some (.lst (vs k)):=by
 unfold Dk;rcases k3 h with rfl|rfl|rfl
 .rw[if_pos rfl]
 .rw[if_neg (Py j.a),if_pos rfl]
 .rw[if_neg (Py j.b),if_neg (Py j.c),if_pos rfl]
def jR{c:OE}(h:∀k,k<3->c≠q k):Dk He q vs c=He c:=by
 unfold Dk;rw[if_neg (h 0 (by decide)),if_neg (h 1 (by decide)),if_neg (h 2 (by decide))]
def uK{H:Hp}{c:OE}(h:∀k,k<3->c≠q k):EE q H c=H c:=by
 unfold EE;exact if_neg (λz=>by rcases z with z|z|z;exact h 0 (by decide) z;exact h 1 (by decide) z;exact h 2 (by decide) z)
def Kh{H:Hp}{k:Nat}(h:k<3):EE q H (q k)=none:=by
 unfold EE;exact if_pos (by rcases k3 h with rfl|rfl|rfl<;>simp)
def HV(q:Nat->OE)(c:OE):(∃k,k<3/\c=q k)∨∀k,k<3->c≠q k:=by
 by_cases h0:c=q 0
 .exact .inl ⟨0,by decide,h0⟩
 by_cases h1:c=q 1
 .exact .inl ⟨1,by decide,h1⟩
 by_cases h2:c=q 2
 .exact .inl ⟨2,by decide,h2⟩
 refine .inr λk hk=>?_;rcases k3 hk with rfl|rfl|rfl<;>assumption
def vT(j:yq q){c:OE}(h:Dk He q vs c=none):He c=none/\∀k,k<3->c≠q k:=by
 rcases HV q c with⟨k,hk,rfl⟩|h'
 .rw[nA j hk]at h;cases h
 .rw[jR h']at h;exact⟨h,h'⟩
def Dm(hn:∀k,k<3->He (q k)=none):aG He (Dk He q vs):=λc o e=>by
 rcases HV q c with⟨k,hk,rfl⟩|h'
 .rw[hn k hk]at e;cases e
 .rw[jR h'];exact e
end
structure JX (K:OH) (He η Ha:Hp) (σ:L2.St) (H:Hp) (ρ:Ev) (h:Hk) (a:OE) (q:Nat->OE) (st:S3) (vs:Nat->al):Prop where
 j:yq q
 hn:∀k,k<3->He (q k)=none/\η (q k)=none
 kr:rk K Ha h a [.ref (q 0),.ref (q 1),.ref (q 2)]
 r:∀k,k<3->Reps K Ha (st.at k) (vs k)
 s:gu K (Dk He q vs) η Ha σ H ρ
section
variable {K:OH}{He η Ha H H' Ha':Hp}{σ σ':L2.St}{ρ ρ':Ev}{h:Hk}{a:OE}{q:Nat->OE}{st st':S3}{vs us:Nat->al}
def JX.hl(x:JX K He η Ha σ H ρ h a q st vs){k:Nat}(hk:k<3):H (q k)=some (.lst (vs k)):=x.s.g.s _ _ (nA x.j hk)
def JX.n0(x:JX K He η Ha σ H ρ h a q st vs){k:Nat}(hk:k<3):Ha (q k)=none:=by
 cases e:Ha (q k) with
 |none=>rfl
 |some o=>
  have:=x.s.g.nw (q k) (by rw[e];simp) (x.hn k hk).2;rw[nA x.j hk]at this;cases this
def JX.back(x:JX K He η Ha σ H ρ h a q st vs)(z:aG Ha Ha')(s':gu K (Dk He q vs) η Ha' σ' H' ρ'):JX K He η Ha' σ' H' ρ' h a q st vs :=
 ⟨x.j,x.hn,x.kr.mono z,λk hk=>(x.r k hk).mono z,s'⟩
def JX.same(x:JX K He η Ha σ H ρ h a q st vs)(s:aG H H'):JX K He η Ha σ H' ρ h a q st vs:=x.back (aG.refl _) (x.s.same s)
def JX.frz_sub(x:JX K He η Ha σ H ρ h a q st vs):aG Ha (frz He Ha H):=λb o e=>by
 unfold frz;cases q:He b with|none=>exact x.s.g.sub _ _ e|some _=>exact e
def JX.frz_le(x:JX K He η Ha σ H ρ h a q st vs):aG (frz He Ha H) H:=λb o e=>by
 unfold frz at e;cases q:He b with|none=>rw[q]at e;exact e|some _=>rw[q]at e;exact x.s.g.sub _ _ e
def JX.he(x:JX K He η Ha σ H ρ h a q st vs):aG He H:=(Dm λk hk=>(x.hn k hk).1).trans x.s.g.s
def JX.g0(x:JX K He η Ha σ H ρ h a q st vs):br He η H Ha:=⟨x.he,x.s.g.z,x.s.g.sub,λb h1 h2=>(vT x.j (x.s.g.nw b h1 h2)).1⟩
theorem JX.frz_grow(x:JX K He η Ha σ H ρ h a q st vs):br He η H (frz He Ha H) :=
 ⟨x.he,x.s.g.z.trans x.frz_sub,x.frz_le,λb h1 h2=>by
  cases q:He b with
  |none=>rfl
  |some o=>
   unfold frz at h1;rw[q]at h1;have:=x.g0.nw b h1 h2;rw[q]at this;cases this⟩
def JX.rep(x:JX K He η Ha σ H ρ h a q st vs):Rep K (frz He Ha H) (eJ h st) (.ref a):=by
 have e:∀k,k<3->Rep K (frz He Ha H) (.lst (st.at k)) (.ref (q k)):=λk hk=>aF.mpr ⟨q k,vs k,rfl,gL.of (by unfold frz;rw[(x.hn k hk).1];exact x.hl hk),(x.r k hk).mono x.frz_sub⟩;have rs:Reps K (frz He Ha H) [.lst st.p,.lst st.t,.lst st.e] [.ref (q 0),.ref (q 1),.ref (q 2)]:=Reps.cons (e 0 (by decide)) (Reps.cons (e 1 (by decide)) (Reps.cons (e 2 (by decide)) Reps.nil));have kr:=x.kr.mono x.frz_sub;cases h with|ins c ks=>exact cz.mpr ⟨a,_,rfl,kr,rs⟩|tup=>exact aM.mpr ⟨a,_,rfl,kr,rs⟩
def y6(h:Hk)(i:Nat)(ρ:Ev)(st:S3):Ev:=(lC ρ).set i (.sh (eJ h st))
def JX.looks(x:JX K He η Ha σ H ρ h a q st vs){i:Nat}(hp:jz ρ[i]? a=true)(n:lH ρ=true):gw K (frz He Ha H) σ (y6 h i ρ st):=λj d e=>by
 unfold y6 at e
 by_cases c:i=j
 .subst c
  rw[Rx]at e;cases q:(lC ρ)[i]? with|none=>rw[q]at e;cases e|some s=>rw[q]at e;cases e;exact⟨_,x.s.ex.2 i a (o8 hp),x.rep⟩
 .rw[OW c]at e
  unfold lC at e;rw[O5]at e;cases q:ρ[j]? with
  |none=>rw[q]at e;cases e
  |some s=>
   rw[q]at e;cases s with
   |no|pt a=>cases e
   |sh d'=>
    cases e;obtain⟨v,h1,h2⟩:=x.s.rd j d q;exact⟨v,h1,h2.mono x.frz_sub⟩
   |ow d'=>exact(lH.ow n q).elim|ox _ _=>exact(lH.ox n q).elim
def JX.change(x:JX K He η Ha σ H ρ h a q st vs)(n:lH ρ=true)(s:∀b o,(∀k,k<3->b≠q k)->H b=some o->H' b=some o)(z:aG Ha Ha')(sub:aG Ha' H')(nw:∀b,Ha' b≠none->Ha b=none->He b=none)(n':∀k,k<3->Ha' (q k)=none)(hl:∀k,k<3->H' (q k)=some (.lst (us k)))(r:∀k,k<3->Reps K Ha' (st'.at k) (us k)):JX K He η Ha' σ H' ρ h a q st' us:=by
 refine⟨x.j,x.hn,x.kr.mono z,r,⟨⟨λb o e=>?_,x.s.g.z.trans z,sub,λb h1 h2=>?_⟩,x.s.rd.mono z,λi d e=>(lH.ow n e).elim,λi j d d' _ e=>(lH.ow n e).elim,x.s.ln,⟨λi j ds e=>(lH.ox n e).elim,x.s.ex.2⟩⟩⟩
 .rcases HV q b with⟨k,hk,rfl⟩|hb
  .rw[nA x.j hk]at e;cases e;exact hl k hk
  .rw[jR hb]at e
   exact s _ _ hb (x.he _ _ e)
 .rcases HV q b with⟨k,hk,rfl⟩|hb
  .exact absurd (n' k hk) h1
  .rw[jR hb]
   cases q2:Ha b with|some u=>exact x.g0.nw b (by rw[q2];simp) h2|none=>exact nw b h1 q2
def JX.changeG(x:JX K He η Ha σ H ρ h a q st vs)(n:lH ρ=true)(g:br (EE q H) Ha H' Ha')(n':∀k,k<3->Ha' (q k)=none)(hl:∀k,k<3->H' (q k)=some (.lst (us k)))(r:∀k,k<3->Reps K Ha' (st'.at k) (us k)):JX K He η Ha' σ H' ρ h a q st' us:=by
 refine x.change n (λb o hb e=>g.s _ _ (by rw[uK hb];exact e)) g.z g.sub (λb h1 h2=>?_) n' hl r;rcases HV q b with⟨k,hk,rfl⟩|hb
 .exact absurd (n' k hk) h1
 .have:=g.nw b h1 h2
  rw[uK hb]at this;exact x.he.free this
end
inductive fP where
 |nx (ρ:Ev) (st:S3)|rt (d:D) (st:S3)|fr (d:D)
structure MM (K:OH) (He η Ha H:Hp) (q:Nat->OE) (st:S3):Prop where
 g:br He η H Ha
 n:∀k,k<3->Ha (q k)=none
 l:∀k,k<3->∃us,H (q k)=some (.lst us)/\Reps K Ha (st.at k) us
noncomputable def jo(K:OH) (E:XK) (He η:Hp) (h:Hk) (a:OE) (q:Nat->OE) (Ha:Hp) (r:ak fP) (G:ic):Prop:=match r with
 |.ok (.nx ρ st)=>∀σ H Ha' vs,aG Ha Ha'->JX K He η Ha' σ H ρ h a q st vs->G.nx σ H
 |.ok (.rt d st)=>∀v H Ha',aG Ha Ha'->MM K He η Ha' H q st->Rep K Ha' d v->G.rt v H
 |.ok (.fr d)=>∀v H Ha',br He η H Ha'->Rep K Ha' d v->G.rt v H
 |.exn x=>∀C ox H Ha',br He η H Ha'->wQ K Ha' x C ox->E C ox H
 |.stuck=>False
def jo.grow{K:OH}{E:XK}{He η Ha Hb:Hp}{h:Hk}{a:OE}{q:Nat->OE}{r:ak fP}{G:ic}(x:jo K E He η h a q Ha r G)(s:aG Ha Hb):jo K E He η h a q Hb r G:=by
 cases r with
 |ok f=>
  cases f with|nx ρ st=>exact λσ H Ha' vs s'=>x σ H Ha' vs (s.trans s')|rt d st=>exact λv H Ha' s'=>x v H Ha' (s.trans s')|fr d=>exact x
 |exn y=>exact x
 |stuck=>exact x
def tJ(K:OH)(E:XK)(He η:Hp)(h:Hk)(a:OE)(q:Nat->OE)(g:Ev->S3->ak fP):TS:=λG σ H=>∃Ha ρ st vs,JX K He η Ha σ H ρ h a q st vs/\jo K E He η h a q Ha (g ρ st) G
structure JS (X:Cx) (E:XK) (He η:Hp) (h:Hk) (a:OE) (q:Nat->OE) (st:Qe) (g:Ev->S3->ak fP):Prop where
 o:PS X st (tJ X.K E He η h a q g)
structure Er (X:Cx) (E:XK) (He η:Hp) (h:Hk) (a:OE) (q:Nat->OE) (st:List Qe) (g:Ev->S3->ak fP):Prop where
 o:rP X st (tJ X.K E He η h a q g)
section
variable {X:Cx}{E:XK}{He η:Hp}{h:Hk}{a:OE}{q:Nat->OE}{st:Qe}{rest b1 b2:List Qe}{c e:Pl}{pos:Pos}{f:am}{s t u:Ev->S3->ak fP}
def bj:Ev->S3->ak fP:=λρ st=>.ok (.nx ρ st)
def sH(t:Ev->S3->ak fP)(r:fP):ak fP:=match r with
 |.nx ρ st=>t ρ st
 |r=>.ok r
def bF(s t:Ev->S3->ak fP):Ev->S3->ak fP:=λρ st=>(s ρ st).bind (sH t)
def bI:Er X E He η h a q [] bj:=⟨gN kU λG σ H ⟨Ha,ρ,st,vs,x,r⟩=>r σ H Ha vs (aG.refl _) x⟩
def aU(h1:JS X E He η h a q st s)(h2:Er X E He η h a q rest t):Er X E He η h a q (st::rest) (bF s t):=by
 refine⟨?_⟩;refine gN (fA h1.o h2.o) ?_;rintro G σ H ⟨Ha,ρ,st,vs,x,r⟩;refine⟨Ha,ρ,st,vs,x,?_⟩;unfold bF at r;generalize s ρ st=z at r;cases z with
 |stuck|exn y=>exact r
 |ok y=>
  cases y with|nx ρ' st'=>exact λσ' H' Ha' vs' s' x'=>⟨Ha',ρ',st',vs',x',jo.grow (r:=t ρ' st') r s'⟩|rt d st'|fr d=>exact r
def xP(st:S3)(r:Fl):ak fP:=match r with
 |.nx ρ=>.ok (.nx ρ st)
 |_=>.stuck
def iW(g:bv):Ev->S3->ak fP:=λρ st=>(g ρ).bind (xP st)
def mv{g:bv}(y:∀He',DS X E He' η st g):JS X E He η h a q st (iW g):=by
 refine⟨?_⟩;rintro π sh σ H D I ⟨Ha,ρ,st,vs,x,r⟩;refine(y (Dk He q vs)).o π sh σ H D I ⟨Ha,ρ,x.s,?_⟩;unfold iW at r;generalize g ρ=z at r;cases z with
 |stuck=>exact r|exn y=>exact λC ox H Ha' g=>r C ox H Ha' ⟨(Dm λk hk=>(x.hn k hk).1).trans g.s,g.z,g.sub,λb n1 n2=>(vT x.j (g.nw b n1 n2)).1⟩
 |ok y=>
  cases y with|nx ρ'=>exact λσ' H' Ha' z x'=>r σ' H' Ha' vs z (x.back z x')|rt d|bk ρ'|ct ρ'=>exact r.elim
end
section
variable {K:OH}{He η Ha H H' Ha':Hp}{σ:L2.St}{ρ:Ev}{h:Hk}{a:OE}{q:Nat->OE}{st:S3}{vs:Nat->al}
def JX.grow(x:JX K He η Ha σ H ρ h a q st vs)(g:br H Ha H' Ha'):JX K He η Ha' σ H' ρ h a q st vs:=x.back g.z (x.s.grow g)
def JX.out(x:JX K He η Ha σ H ρ h a q st vs):MM K He η Ha H q st:=⟨x.g0,λk hk=>x.n0 hk,λk hk=>⟨vs k,x.hl hk,x.r k hk⟩⟩
end
section
variable {X:Cx}{E:XK}{He η:Hp}{h:Hk}{a:OE}{q:Nat->OE}{st:Qe}{rest b1 b2:List Qe}{c e:Pl}{es:List Pl}{pos:Pos}{f:am}{fa:Ev->ak (ac)}{s t u:Ev->S3->ak fP}
def kD(f:am):Ev->S3->ak fP:=λρ st=>(f ρ).bind λd=>.ok (.rt d st)
def iD(he:DE X E e f):JS X E He η h a q (.Return (some e) pos) (kD f):=by
 refine⟨?_⟩;refine cR (nh he.o) ?_;rintro G σ H ⟨Ha,ρ,st,vs,x,r⟩;refine⟨Ha,ρ,x.s.g.sub,x.s.rd,?_⟩;unfold kD at r;generalize f ρ=z at r;cases z with|stuck=>exact r|exn y=>exact λC ox H' Ha' g ex=>r C ox H' Ha' (x.g0.trans g) ex|ok d=>exact λv H' Ha' g rp=>r v H' Ha' g.z (x.grow g).out rp
def mX(h:Hk)(i:Nat)(a:OE)(f:am)(s t:Ev->S3->ak fP):Ev->S3->ak fP:=λρ st=>if jz ρ[i]? a=true/\lH ρ=true then(f (y6 h i ρ st)).bind λd=>match d with
 |.bl true=>s ρ st
 |.bl false=>t ρ st
 |_=>.stuck
 else .stuck
def iV{i:Nat}(hc:DT X E c f)(h1:Er X E He η h a q b1 s)(h2:Er X E He η h a q b2 t):JS X E He η h a q (.If c b1 b2 pos) (mX h i a f s t):=by
 refine⟨?_⟩;refine cR (Cs hc.o h1.o h2.o) ?_;rintro G σ H ⟨Ha,ρ,st,vs,x,r⟩;unfold mX at r
 by_cases hp:jz ρ[i]? a=true/\lH ρ=true
 rotate_left
 .rw[if_neg hp]at r;exact r.elim
 rw[if_pos hp]at r;refine⟨frz He Ha H,y6 h i ρ st,x.frz_le,x.looks hp.1 hp.2,?_⟩;generalize f (y6 h i ρ st)=z at r;cases z with
 |stuck=>exact r|exn y=>exact λC ox H' Ha' g ex=>r C ox H' Ha' (x.frz_grow.trans g) ex
 |ok d=>
  cases d with
  |bl d=>
   intro H' J g;cases d with|true|false=>exact⟨Ha,ρ,st,vs,x.same g.s,r⟩
  |_=>exact r.elim
structure JB (X:Cx) (h:Hk) (a:OE) (q:Nat->OE) (i:Nat) (b:Pl) (k:Nat):Prop where
 o:PE X b λσ H Q=>σ[i]?=some (some (.ref a))/\rk X.K H h a [.ref (q 0),.ref (q 1),.ref (q 2)]/\Q (.ref (q k)) H
 k:k<3
def Nu{q:Nat->OE}{k:Nat}(hk:k<3):[V.ref (q 0),.ref (q 1),.ref (q 2)][k]?=some (.ref (q k)):=by
 rcases k3 hk with rfl|rfl|rfl<;>rfl
def ql{i k:Nat}{y:OG}{n:Int}{jj p0 p1 p2}(hn:n=(k:Int))(hk:k<3)(hN:X.N[i]?=some y)(hv:zO X.env.scope y)(hd:(y==("__debug__" : OG))=false:=by decide)(hcd:(y==("__classdict__" : OG))=false:=by decide)(hix:lp (.Constant (.int n) jj p2):=by exact λ_ _=>rfl) :
  JB X .tup a q i (.Subscript (.Name y p1) (.Constant (.int n) jj p2) p0) k :=
 ⟨bb (yL Dd (jJ hN hv hd hcd) pR hix) λσ H Q ⟨e1,e2,e3⟩=>⟨.ref a,e1,a,_,n,.ref (q k),rfl,rfl,e2,by rw[hn];exact cY (Nu hk),e3⟩,hk⟩
def lO{i k:Nat}{y fl cn:OG}{ks:ci}{p0 p1}(hf:ks[k]?=some fl)(hnd:ks.Nodup)(hl:ks.length=3)(hN:X.N[i]?=some y)(hv:zO X.env.scope y)(hd:(y==("__debug__" : OG))=false:=by decide)(hcd:(y==("__classdict__" : OG))=false:=by decide)
  (hb:Qd (.Name y p1) fl X.env (eval (.Name y p1) X.env)=eval (.Name y p1) X.env:=by rfl) :
  JB X (.ins cn ks) a q i (.Attribute (.Name y p1) fl p0) k:=by
 have hk:k<3:=by rw[←hl];exact(OZ.mp hf).1
 refine⟨bb (CC (jJ hN hv hd hcd) hb) λσ H Q ⟨e1,e2,e3⟩=>⟨.ref a,e1,?_⟩,hk⟩;obtain⟨C,dx,_,k1,k2,_⟩:=e2;refine⟨a,C,dx,_,.ref (q k),rfl,k2,k1.cls,k1.no fl (Pp hf),?_,e3⟩
 match ks,hl with
 |[f0,f1,f2],_=>
  simp only[QK,O4,QZ,or_false,not_or]at hnd;rcases k3 hk with rfl|rfl|rfl
  .cases hf;simp[List.zip,T7,Q3]
  .cases hf
   have:(fl==f0)=false:=beq_false_of_ne (Py hnd.1.1);simp[List.zip,T7,Q3,this]
  .cases hf
   have h1:(fl==f0)=false:=beq_false_of_ne (Py hnd.1.2);have h2:(fl==f1)=false:=beq_false_of_ne (Py hnd.2.1);simp[List.zip,T7,Q3,h1,h2]
def lP(h:Hk)(i:Nat)(a:OE)(k:Nat)(f:am):Ev->S3->ak fP:=λρ st=>if jz ρ[i]? a=true/\lH ρ=true then(f (y6 h i ρ st)).bind λd=>if jS d=true/\(st.at k).length<line then .ok (.nx ρ (st.add k d)) else .stuck
 else .stuck
def Bl{Ha J:Hp}{c:OE}{us:al}(h0:Ha c=none)(hj:J c=some (.lst us)):oM Ha J c=none:=by
 unfold oM;rw[h0,hj]
def nu{i k:Nat}{b:Pl}{p2 p3 p5:Pos}(hb:JB X h a q i b k)(he:DE X E e f)
  (hbase:Qd b "append" X.env (eval b X.env)=eval b X.env:=by rfl)
  (hfew:((PK p3 (OJ [e] X.env)).all (λx=>!x.1)&&(Ry p3 (QF [] X.env)).all (λx=>x.1.isSome)
  &&decide ([e].length+([]:List QW).length+(if([]:List QW).isEmpty then 0 else 1)<30))=true:=by exact iG rfl)
  (hline:(p2.endLine==p3.line)=true:=by rfl) (hs:OJ [e] X.env=(false,eval e X.env)::OJ [] X.env:=by exact aJ rfl) (hplain:(PK p3 (OJ [] X.env)).any (·.1)=false:=by exact bA rfl)
  (hw:P9 (.Call (.Attribute b "append" p2) [e] [] p3) none p5.line X.env=pure false:=by rfl) :
  JS X E He η h a q (.Expr (.Call (.Attribute b "append" p2) [e] [] p3) p5) (lP h i a k f):=by
 refine⟨?_⟩;refine cR (ue (yO TH Ts Tr nr hb.o (cF he.o dR hs) hbase hfew hline hs hplain) hw) ?_;rintro G σ H ⟨Ha,ρ,st,vs,x,r⟩;have hk:=hb.k;unfold lP at r
 by_cases hp:jz ρ[i]? a=true/\lH ρ=true
 rotate_left
 .rw[if_neg hp]at r;exact r.elim
 rw[if_pos hp]at r;refine⟨x.s.ex.2 i a (o8 hp.1),x.kr.mono x.s.g.sub,.inl ⟨rfl,vs k,gL.of (x.hl hk)⟩,frz He Ha H,y6 h i ρ st,x.frz_le,x.looks hp.1 hp.2,?_⟩;generalize f (y6 h i ρ st)=z at r;cases z with
 |stuck=>exact r|exn y=>exact λC ox H' Ha' g ex=>r C ox H' Ha' (x.frz_grow.trans g) ex
 |ok d=>
  intro v H' J g rp;replace r:jo X.K E He η h a q Ha (if jS d=true/\(st.at k).length<line then .ok (.nx ρ (st.add k d)) else .stuck) G:=r
  by_cases hf:jS d=true/\(st.at k).length<line
  rotate_left
  .rw[if_neg hf]at r;exact r.elim
  rw[if_pos hf]at r;have hJ:aG Ha J:=x.frz_sub.trans g.z;have le:=Hl (Ha:=Ha) (J:=J) hJ;have z:aG Ha (oM Ha J):=λb o e=>by unfold oM;rw[e]
  have hH':∀j,j<3->H' (q j)=some (.lst (vs j)):=λj hj=>g.s _ _ (x.hl hj);have hJq:∀j,j<3->J (q j)=some (.lst (vs j)):=λj hj=>g.z _ _ (by unfold frz;rw[(x.hn j hj).1];exact x.hl hj);have n':∀j,j<3->oM Ha J (q j)=none:=λj hj=>Bl (x.n0 hj) (hJq j hj);refine⟨q k,vs k,v,rfl,rfl,hH' k hk,by rw[←(x.r k hk).length];exact OS hf.2 (by decide),?_⟩;have qi:∀j,j<3->j≠k->q j≠q k:=λj hj hn=>by
   rcases k3 hj with rfl|rfl|rfl<;>rcases k3 hk with rfl|rfl|rfl
   all_goals first|exact absurd rfl hn|exact x.j.a|exact x.j.b|exact x.j.c|exact x.j.a.symm|exact x.j.b.symm|exact x.j.c.symm
  refine r σ _ (oM Ha J) (λj=>if j=k then vs k++[v] else vs j) z (x.change hp.2 (λb o hb e=>?_) z (λb o e=>?_) (λb h1 h2=>?_) n' (λj hj=>?_) λj hj=>?_)
  .rw[av (hb k hk)];exact g.s _ _ e
  .rw[av (by intro zz;subst zz;rw[n' k hk]at e;cases e)]
   exact g.sub _ _ (le b o e)
  .cases q1:He b with
   |none=>rfl
   |some o=>
    have hj:J b≠none:=by
     cases q2:oM Ha J b with|none=>exact absurd q2 h1|some o=>rw[le b o q2];simp
    have:=g.nw b hj (by unfold frz;rw[q1];exact h2);rw[x.he b o q1]at this;cases this
  .by_cases hjk:j=k
   .subst hjk;rw[ay,if_pos rfl]
   .rw[av (qi j hj hjk),if_neg hjk];exact hH' j hj
  .rw[Bp hk hj]
   by_cases hjk:j=k
   .rw[if_pos hjk,if_pos hjk]
    exact((x.r k hk).mono z).app (Reps.cons (rp.flat_to (Hj hJ) hf.1) Reps.nil)
   .rw[if_neg hjk,if_neg hjk]
    exact(x.r j hj).mono z
structure JE (X:Cx) (E:XK) (He η:Hp) (h:Hk) (a:OE) (q:Nat->OE) (e:Pl) (f:Ev->S3->ak (D×S3)):Prop where
 o:PE X e λσ H Q=>∃Ha ρ st vs,JX X.K He η Ha σ H ρ h a q st vs/\match f ρ st with
  |.ok (d,st')=>∀v H' Ha' us,aG Ha Ha'->JX X.K He η Ha' σ H' ρ h a q st' us->Rep X.K Ha' d v->Q v H'
  |.exn y=>∀C ox H' Ha',br He η H' Ha'->wQ X.K Ha' y C ox->E C ox H'
  |.stuck=>False
noncomputable def HA(K:OH) (n:Nat) (h:Hk) (m:OE->S3->ac->ak (D×S3)):Sp:=λvs H Q E=>vs.length=n+1/\∃(Ha:Hp) (ds:ac) (a:OE) (q:Nat->OE) (st:S3) (us:Nat->al) (vs0:al),vs=.ref a::vs0/\aG Ha H/\Reps K Ha ds vs0/\yq q/\rk K Ha h a [.ref (q 0),.ref (q 1),.ref (q 2)]/\(∀k,k<3->Ha (q k)=none/\H (q k)=some (.lst (us k))/\Reps K Ha (st.at k) (us k))/\match m a st ds with
 |.ok (d,st')=>∀(v:V) (H' Ha':Hp) (us':Nat->al),br (EE q H) Ha H' Ha'->(∀k,k<3->Ha' (q k)=none/\H' (q k)=some (.lst (us' k))/\Reps K Ha' (st'.at k) (us' k))->Rep K Ha' d v->Q v H'
 |_=>False
def fK(a:OE)(m:OE->S3->ac->ak (D×S3))(st:S3)(ds:ac):ak (D×S3):=match m a st ds with
 |.ok p=>.ok p
 |_=>.stuck
def iX(i:Nat)(a:OE)(fa:Ev->ak (ac))(m:OE->S3->ac->ak (D×S3)):Ev->S3->ak (D×S3):=λρ st=>if jz ρ[i]? a=true/\lH ρ=true then(fa ρ).bind (fK a m st) else .stuck
def Gb{CX:tH}{k n i:Nat}{fn:OE}{fd:Pz}{ps:ci}{m:OE->S3->ac->ak (D×S3)}{x y:OG}{p p1:Pos}(F:gq X.prog X.w X.K X.mg X.base CX k fn fd ps (HA X.K n h m))(hr:dA k X.A)(hg:Gl X x)(hm:X.mg x=some (.ref fn))
  (hk:Rc X.K (.ref fn)=true)(hb:gk X.K fd ps [])(hx:iO CX X E)(hN:X.N[i]?=some y)(hv:zO X.env.scope y)(ha:DA X E es fa)(hl:∀ρ ds,fa ρ=.ok ds->ds.length=n)
  (hd:(y==("__debug__" : OG))=false:=by decide)(hcd:(y==("__classdict__" : OG))=false:=by decide)(hdb:(x==("__debug__" : OG))=false:=by decide)(he:OJ (.Name y p1::es) X.env=(false,eval (.Name y p1) X.env)::OJ es X.env:=by exact aJ rfl)(hpl:(PK pos (OJ es X.env)).any (·.1)=false:=by exact bA rfl) :
  JE X E He η h a q (.Call (.Name x p) (.Name y p1::es) [] pos) (iX i a fa m):=by
 refine⟨?_⟩;refine bb (yN F hr hg hm hk hb .nil hx (cF (jJ hN hv hd hcd) ha.o he) hdb he hpl) ?_;rintro σ H Q ⟨Ha,ρ,st,vs,x,r⟩;unfold iX at r
 by_cases hp:jz ρ[i]? a=true/\lH ρ=true
 rotate_left
 .rw[if_neg hp]at r;exact r.elim
 rw[if_pos hp]at r;refine⟨.ref a,x.s.ex.2 i a (o8 hp.1),Ha,ρ,x.s.g.sub,x.s.rd,?_⟩;cases e1:fa ρ with
 |stuck=>rw[e1]at r;exact r|exn y=>rw[e1]at r;exact λC ox H' Ha' g ex=>r C ox H' Ha' (x.g0.trans g) ex
 |ok ds=>
  rw[e1]at r;intro xs H1 H01 g1 r1;have x1:=x.grow g1;refine⟨?_,H01,ds,a,q,st,vs,xs,by simp,x1.s.g.sub,r1,x1.j,x1.kr,λk hk=>⟨x1.n0 hk,x1.hl hk,x1.r k hk⟩,?_⟩
  .have:=r1.length
   have:=hl ρ ds e1;simp only[QN,Pa]at *;omega
  .replace r:match fK a m st ds with
    |.ok (d,st')=>∀v H' Ha' us,aG Ha Ha'->JX X.K He η Ha' σ H' ρ h a q st' us->Rep X.K Ha' d v->Q v H'
    |.exn y=>∀C ox H' Ha',br He η H' Ha'->wQ X.K Ha' y C ox->E C ox H'
    |.stuck=>False:=r
   unfold fK at r;generalize m a st ds=z at r ⊢;cases z with
   |stuck=>exact r|exn y=>exact r.elim
   |ok pr=>
    obtain⟨d,s2⟩:=pr;exact λv H' Ha' us' g l rp=>r v H' Ha' us' (g1.z.trans g.z) (x1.changeG hp.2 g (λk hk=>(l k hk).1) (λk hk=>(l k hk).2.1) λk hk=>(l k hk).2.2) rp
noncomputable def xQ(h:Hk) (i:Nat) (a:OE) (f:am) (g:Ev->S3->ak (D×S3)):Ev->S3->ak (D×S3):=λρ st=>if jz ρ[i]? a=true/\lH ρ=true then(f (y6 h i ρ st)).bind λd=>match d with
 |.bl true=>g ρ st
 |.bl false=>.ok (.bl false,st)
 |_=>.stuck
 else .stuck
def C8{i:Nat}{g:Ev->S3->ak (D×S3)}(hc:DE X E c f)(he:JE X E He η h a q e g):JE X E He η h a q (.BoolOp .And [c,e] pos) (xQ h i a f g):=by
 refine⟨?_⟩;refine bb (CG hc.o (Cz he.o)) ?_;rintro σ H Q ⟨Ha,ρ,st,vs,x,r⟩;unfold xQ at r
 by_cases hp:jz ρ[i]? a=true/\lH ρ=true
 rotate_left
 .rw[if_neg hp]at r;exact r.elim
 rw[if_pos hp]at r;refine⟨frz He Ha H,y6 h i ρ st,x.frz_le,x.looks hp.1 hp.2,?_⟩;generalize f (y6 h i ρ st)=z at r;cases z with
 |stuck=>exact r|exn y=>exact λC ox H' Ha' g ex=>r C ox H' Ha' (x.frz_grow.trans g) ex
 |ok d=>
  intro v H' J g1 rp;cases d with
  |bl d=>
   rw[aE.mp rp];cases d with|true=>exact⟨true,rfl,Ha,ρ,st,vs,x.same g1.s,r⟩|false=>exact⟨false,rfl,r (.bl false) H' Ha vs (aG.refl _) (x.same g1.s) (aE.mpr rfl)⟩
  |_=>exact r.elim
def qm(g:Ev->S3->ak (D×S3)):Ev->S3->ak fP:=λρ st=>(g ρ st).bind λp=>.ok (.rt p.1 p.2)
def o7{g:Ev->S3->ak (D×S3)}(he:JE X E He η h a q e g):JS X E He η h a q (.Return (some e) pos) (qm g):=by
 refine⟨?_⟩;refine cR (nh he.o) ?_;rintro G σ H ⟨Ha,ρ,st,vs,x,r⟩;refine⟨Ha,ρ,st,vs,x,?_⟩;unfold qm at r;generalize g ρ st=z at r;cases z with
 |stuck|exn y=>exact r
 |ok p=>
  obtain⟨d,st'⟩:=p;exact λv H' Ha' us s x' rp=>r v H' Ha' s x'.out rp
def A0(g:Ev->S3->ak (D×S3))(s:Ev->S3->ak fP):Ev->S3->ak fP:=λρ st=>(g ρ st).bind λp=>match p.1 with
 |.bl true=>.ok (.nx ρ p.2)
 |.bl false=>s ρ p.2
 |_=>.stuck
def Jz{g:Ev->S3->ak (D×S3)}{p:Pos}(he:JE X E He η h a q e g)(h1:Er X E He η h a q b1 s)(hw:∀whole,isTrue e X.env whole=(do let v ←whole;standAt e.pos;TR [v] (truthy v)):=by intro _;rfl):JS X E He η h a q (.If (.UnaryOp .Not e p) b1 [] pos) (A0 g s):=by
 refine⟨?_⟩;refine cR (Cs (Cp (Co he.o hw)) h1.o kU) ?_;rintro G σ H ⟨Ha,ρ,st,vs,x,r⟩;refine⟨Ha,ρ,st,vs,x,?_⟩;unfold A0 at r;generalize g ρ st=z at r;cases z with
 |stuck|exn y=>exact r
 |ok p=>
  obtain⟨d,st'⟩:=p;intro v H' Ha' us s' x' rp;cases d with
  |bl d=>
   rw[aE.mp rp];refine⟨d,rfl,?_⟩;cases d with|true=>exact r σ H' Ha' us s' x'|false=>exact⟨Ha',ρ,st',us,x',jo.grow (r:=s ρ st') r s'⟩
  |_=>exact r.elim
end
def mB(tg:Ev->D->ak Ev)(s:Ev->S3->ak fP):ac->Ev->S3->ak fP
 |[],ρ,st=>.ok (.nx ρ st)
 |d::r,ρ,st=>(tg ρ d).bind λρ1=>(s ρ1 st).bind λx=>match x with
  |.nx ρ2 st2=>mB tg s r ρ2 st2
  |y=>.ok y
def vN(src:Ev->ak (ac))(tg:Ev->D->ak Ev)(s:Ev->S3->ak fP):Ev->S3->ak fP:=λρ st=>(src ρ).bind λds=>mB tg s ds ρ st
section
variable {X:Cx}{E:XK}{He η:Hp}{h:Hk}{a:OE}{q:Nat->OE}{pos:Pos}{s:Ev->S3->ak fP}
noncomputable def Ih(K:OH) (E:XK) (He η:Hp) (h:Hk) (a:OE) (q:Nat->OE) (Hb:Hp) (tg:Ev->D->ak Ev) (s:Ev->S3->ak fP) (ds:ac) (D':ic) (i:Nat) (σ:L2.St) (H:Hp):Prop :=
 ∃Ha ρ st vs,aG Hb Ha/\JX K He η Ha σ H ρ h a q st vs/\jo K E He η h a q Ha (mB tg s (ds.drop i) ρ st) D'
def zc{tgt iter:Pl}{body:List Qe}{tg:Ev->D->ak Ev}{src:Ev->ak (ac)}(hp:PassesOwn (O2 X.prog X.w) X.A X.env X.xe)(hc:X.calm=true)(hi:DI X E tgt iter src)(hg:∀He',DG X E He' η tgt tg)(ht:wH tg)(hb:Er X E He η h a q body s)
  (hs:∀x,foldedSetIterable iter X.env x=pure x:=by intro _;rfl):JS X E He η h a q (.For tgt iter body [] pos) (vN src tg s):=by
 have hgp:PG X tgt λv σ H Q=>∃He',tG X.K He' η tg v σ H Q:=λπ s σ H v u Q I r z=>z.elim λHe' z=>(hg He').o π s σ H v u Q I r z;refine⟨cR (xr hp hc hi.o hgp hb.o hs) ?_⟩;rintro D' σ H ⟨Ha,ρ,st,vs,x,r⟩;refine⟨Ha,ρ,x.s.g.sub,x.s.rd,?_⟩;unfold vN at r;generalize src ρ=z at r;cases z with
 |stuck=>exact r|exn y=>exact λC ox H' Ha' g ex=>r C ox H' Ha' (x.g0.trans g) ex
 |ok ds=>
  intro J H1 H01 g it;refine⟨λi m σ' H'=>m+i=ds.length/\Ih X.K E He η h a q H01 tg s ds D' i σ' H',⟨ds.length,rfl,H01,ρ,st,vs,aG.refl _,x.grow g,jo.grow (r:=mB tg s ds ρ st) r g.z⟩,?_⟩;rintro i m σ' H' ⟨hm,Ha',ρ',st',vs',z,x',r'⟩
  by_cases hlt:i<ds.length
  .refine .inr ⟨it.go i H' Ha' z x'.s.g.sub hlt,λσ2 H2=>Ih X.K E He η h a q H01 tg s ds D' (i+1) σ2 H2,λσ2 H2 hl=>⟨m-1,by omega,by omega,hl⟩,λy H2 hy=>?_⟩
   obtain⟨H₀2,g2,rp⟩:=it.yld i H' Ha' y H2 ds[i] z x'.s.g.sub (OQ hlt) hy;have hdr:ds.drop i=ds[i]::ds.drop (i+1):=Qf hlt;rw[hdr]at r';replace r':=jo.grow (r:=mB tg s (ds[i]::ds.drop (i+1)) ρ' st') r' g2.z;have x2:=x'.grow g2;refine⟨Dk He q vs',H₀2,ρ',ds[i],x2.s,rp,?_⟩;unfold mB at r';rcases ht ρ' ds[i] with e1|⟨ρ1,e1⟩
   .rw[e1]at r';exact r'.elim
   .rw[e1]at r' ⊢
    intro σ3 H3 H₀3 z3 s3;refine⟨H₀3,ρ1,st',vs',x2.back z3 s3,?_⟩;replace r':=jo.grow (r:=(s ρ1 st').bind λx=>match x with
     |.nx ρ2 st2=>mB tg s (ds.drop (i+1)) ρ2 st2
     |y=>.ok y) r' z3
    generalize s ρ1 st'=zz at r' ⊢;cases zz with
    |stuck|exn y=>exact r'
    |ok y=>
     cases y with|nx ρ2 st2=>exact λσ4 H4 H₀4 vs4 z4 x4=>⟨H₀4,ρ2,st2,vs4,(z.trans g2.z).trans (z3.trans z4),x4,jo.grow (r:=mB tg s (ds.drop (i+1)) ρ2 st2) r' z4⟩|rt d st2|fr d=>exact r'
  .have e:i=ds.length:=by omega
   refine .inl ⟨it.stop i H' Ha' z x'.s.g.sub (by omega),?_⟩;subst e;rw[S2]at r';unfold mB at r';exact r' σ' H' Ha' vs' (aG.refl _) x'
end
def pl2(Ha:Hp)(q:Nat->OE)(vs:Nat->al):Hp:=upd (upd Ha (q 0) (.lst (vs 0))) (q 1) (.lst (vs 1))
def MU(st:S3)(d0 d1:D):D:=.tup [.ob .pl st.p,.ob .pl st.t,d0,d1]
def MT(st:S3)(w:Bool):ak fP:=match st.e with
 |d0::d1::_=>.ok (.fr (if w=true then .tup [.non,MU st d0 d1] else MU st d0 d1))
 |_=>.stuck
def Dc(i:Nat)(a:OE)(w:Bool):Ev->S3->ak fP:=λρ st=>if jz ρ[i]? a=true then MT st w else .stuck
section
variable {X:Cx}{E:XK}{He η:Hp}{h:Hk}{a:OE}{q:Nat->OE}{pos:Pos}
def pP{K:OH}{Ha H:Hp}{σ:L2.St}{ρ:Ev}{st:S3}{vs:Nat->al}(x:JX K He η Ha σ H ρ h a q st vs):br H Ha H Ha->br He η H (pl2 Ha q vs)/\aG Ha (pl2 Ha q vs):=λ_=>by
 have z:aG Ha (pl2 Ha q vs):=λb o e=>by
  unfold pl2;rw[av (by intro zz;subst zz;rw[x.n0 (k:=1) (by decide)]at e;cases e),av (by intro zz;subst zz;rw[x.n0 (k:=0) (by decide)]at e;cases e)];exact e
 refine⟨⟨x.he,x.s.g.z.trans z,λb o e=>?_,λb h1 h2=>?_⟩,z⟩
 .unfold pl2 at e
  by_cases c1:b=q 1
  .subst c1;rw[ay]at e;cases e;exact x.hl (by decide)
  .rw[av c1]at e
   by_cases c0:b=q 0
   .subst c0;rw[ay]at e;cases e;exact x.hl (by decide)
   .rw[av c0]at e;exact x.s.g.sub _ _ e
 .unfold pl2 at h1
  by_cases c1:b=q 1
  .subst c1;exact(x.hn 1 (by decide)).1
  .rw[av c1]at h1
   by_cases c0:b=q 0
   .subst c0;exact(x.hn 0 (by decide)).1
   .rw[av c0]at h1;exact x.g0.nw b h1 h2
def Ng(K:OH)(He η:Hp)(h:Hk)(a:OE)(q:Nat->OE)(i:Nat):TE:=λσ H Q=>∃Ha ρ st vs d0 d1 er,JX K He η Ha σ H ρ h a q st vs/\jz ρ[i]? a=true/\st.e=d0::d1::er/\∀v H' Ha',br H (pl2 Ha q vs) H' Ha'->Rep K Ha' (MU st d0 d1) v->Q v H'
def HG{i:Nat}{b0 b1 b2 b3:Pl}{k0 k1:Int}{kk j0 j1}{p1 p2 p3 p4 p0:Pos}(h0:JB X h a q i b0 0)(h1:JB X h a q i b1 1)(h2:JB X h a q i b2 2)(h3:JB X h a q i b3 2)(e0:k0=0)(e1:k1=1)
  (hx0:lp (.Constant (.int k0) j0 p1):=by exact λ_ _=>rfl)(hx1:lp (.Constant (.int k1) j1 p2):=by exact λ_ _=>rfl)
  (s0:OJ [b0,b1,.Subscript b2 (.Constant (.int k0) j0 p1) p3,.Subscript b3 (.Constant (.int k1) j1 p2) p4] X.env=(false,eval b0 X.env)::OJ [b1,.Subscript b2 (.Constant (.int k0) j0 p1) p3,.Subscript b3 (.Constant (.int k1) j1 p2) p4] X.env:=by exact aJ rfl)
  (s1:OJ [b1,.Subscript b2 (.Constant (.int k0) j0 p1) p3,.Subscript b3 (.Constant (.int k1) j1 p2) p4] X.env=(false,eval b1 X.env)::OJ [.Subscript b2 (.Constant (.int k0) j0 p1) p3,.Subscript b3 (.Constant (.int k1) j1 p2) p4] X.env:=by exact aJ rfl)
  (s2:OJ [.Subscript b2 (.Constant (.int k0) j0 p1) p3,.Subscript b3 (.Constant (.int k1) j1 p2) p4] X.env=(false,eval (.Subscript b2 (.Constant (.int k0) j0 p1) p3) X.env)::OJ [.Subscript b3 (.Constant (.int k1) j1 p2) p4] X.env:=by exact aJ rfl)
  (s3:OJ [.Subscript b3 (.Constant (.int k1) j1 p2) p4] X.env=(false,eval (.Subscript b3 (.Constant (.int k1) j1 p2) p4) X.env)::OJ [] X.env:=by exact aJ rfl) :
  PE X (.Tuple [b0,b1,.Subscript b2 (.Constant (.int k0) j0 p1) p3,.Subscript b3 (.Constant (.int k1) j1 p2) p4] kk p0) (Ng X.K He η h a q i):=by
 refine bb (uh (cF h0.o (cF h1.o (cF (yL uA h2.o pR hx0) (cF (yL uA h3.o pR hx1) dR s3) s2) s1) s0)) ?_;rintro σ H Q ⟨Ha,ρ,st,vs,d0,d1,er,x,hp,he,r⟩;have hσ:=x.s.ex.2 i a (o8 hp);have kr:=x.kr.mono x.s.g.sub;have r2:=x.r 2 (by decide);rw[show st.at 2=st.e from rfl,he]at r2;obtain⟨u0,ur,eu,ru0,r2⟩:=aD.mp r2;obtain⟨u1,ur2,rfl,ru1,r2⟩:=aD.mp r2;have hq2:gL X.K H (q 2) (vs 2):=gL.of (x.hl (by decide));refine⟨hσ,kr,hσ,kr,⟨hσ,kr,q 2,vs 2,k0,u0,rfl,rfl,hq2,by rw[e0,eu];exact cY (j:=0) rfl,?_⟩⟩;refine⟨hσ,kr,q 2,vs 2,k1,u1,rfl,rfl,hq2,by rw[e1,eu];exact cY (j:=1) rfl,?_⟩;refine⟨by show 4<=sizeLine;decide,λp hp0=>?_⟩;obtain⟨g,z⟩:=pP x (br.refl x.s.g.sub);have A:=aS (o:=.tup [.ref (q 0),.ref (q 1),u0,u1]) g.sub hp0;refine r (.ref p) _ _ A (aM.mpr ⟨p,_,rfl,lA.of ay,?_⟩);have l0:pl2 Ha q vs (q 0)=some (.lst (vs 0)):=by unfold pl2;rw[av x.j.a,ay]
 have l1:pl2 Ha q vs (q 1)=some (.lst (vs 1)):=by unfold pl2;rw[ay]
 exact Reps.cons (cz.mpr ⟨q 0,vs 0,rfl,A.z _ _ l0,(x.r 0 (by decide)).mono (z.trans A.z)⟩) (Reps.cons (cz.mpr ⟨q 1,vs 1,rfl,A.z _ _ l1,(x.r 1 (by decide)).mono (z.trans A.z)⟩) (Reps.cons (ru0.mono (z.trans A.z)) (Reps.cons (ru1.mono (z.trans A.z)) Reps.nil)))
def LY{i:Nat}{e:Pl}(he:PE X e (Ng X.K He η h a q i)):JS X E He η h a q (.Return (some e) pos) (Dc i a false):=by
 refine⟨cR (nh he) ?_⟩;rintro G σ H ⟨Ha,ρ,st,vs,x,r⟩;unfold Dc at r
 by_cases hp:jz ρ[i]? a=true
 rotate_left
 .rw[if_neg hp]at r;exact r.elim
 rw[if_pos hp]at r;unfold MT at r;split at r
 .next d0 d1 er es=>
  exact⟨Ha,ρ,st,vs,d0,d1,er,x,hp,es,λv H' Ha' g rp=>r v H' Ha' ((pP x (br.refl x.s.g.sub)).1.trans g) rp⟩
 .exact r.elim
def JA{i:Nat}{e:Pl}{jn kk}{p1 p2:Pos}(he:PE X e (Ng X.K He η h a q i))(s0:OJ [.Constant .none jn p1,e] X.env=(false,eval (.Constant .none jn p1) X.env)::OJ [e] X.env:=by exact aJ rfl)(s1:OJ [e] X.env=(false,eval e X.env)::OJ [] X.env:=by exact aJ rfl) :
  JS X E He η h a q (.Return (some (.Tuple [.Constant .none jn p1,e] kk p2)) pos) (Dc i a true):=by
 refine⟨cR (nh (uh (cF (xx (j:=jn) (pos:=p1)) (cF he dR s1) s0))) ?_⟩;rintro G σ H ⟨Ha,ρ,st,vs,x,r⟩;unfold Dc at r
 by_cases hp:jz ρ[i]? a=true
 rotate_left
 .rw[if_neg hp]at r;exact r.elim
 rw[if_pos hp]at r;unfold MT at r;split at r
 .next d0 d1 er es=>
  refine⟨Ha,ρ,st,vs,d0,d1,er,x,hp,es,λv H' Ha' g rp=>⟨by show 2<=sizeLine;decide,λp hp0=>?_⟩⟩;have g1:=(pP x (br.refl x.s.g.sub)).1.trans g;have A:=aS (o:=.tup [.non,v]) g.sub hp0;exact r (.ref p) _ _ (g1.trans A) (aM.mpr ⟨p,_,rfl,lA.of ay,Reps.cons (aR.mpr rfl) (Reps.cons (rp.mono A.z) Reps.nil)⟩)
 .exact r.elim
end
def wL{K:OH}{He η Ha H:Hp}{σ:L2.St}{ρ:Ev}{h:Hk}{a:OE}{q:Nat->OE}{i:Nat}(x:gu K He η Ha σ H ρ)(n:lH ρ=true)(hi:i<ρ.length)(j:yq q)(hq:∀k,k<3->He (q k)=none/\Ha (q k)=none/\H (q k)=some (.lst []))
  (kr:rk K Ha h a [.ref (q 0),.ref (q 1),.ref (q 2)]):JX K He η Ha (σ.set i (some (.ref a))) H (ρ.set i (.pt a)) h a q ⟨[],[],[]⟩ λ_=>[]:=by
 have key:∀(j:Nat) (s:Sl),(ρ.set i (.pt a))[j]?=some s->(j=i/\s=.pt a)∨(j≠i/\ρ[j]?=some s):=λj s e=>by
  by_cases hj:i=j
  .subst hj;rw[PH hi]at e;cases e;exact .inl ⟨rfl,rfl⟩
  .rw[OW hj]at e;exact .inr ⟨λz=>hj z.symm,e⟩
 refine⟨j,λk hk=>⟨(hq k hk).1,x.g.z.free (hq k hk).2.1⟩,kr,λk hk=>?_,⟨⟨λb o e=>?_,x.g.z,x.g.sub,λb h1 h2=>?_⟩,λj d e=>?_,λj d e=>?_,λj k d d' hn e1 e2=>?_,by simp[x.ln],⟨λj k es e=>?_,λj b e=>?_⟩⟩⟩
 .rcases k3 hk with rfl|rfl|rfl<;>exact Reps.nil
 .rcases HV q b with⟨k,hk,rfl⟩|hb
  .rw[nA j hk]at e;cases e;exact(hq k hk).2.2
  .rw[jR hb]at e;exact x.g.s _ _ e
 .rcases HV q b with⟨k,hk,rfl⟩|hb
  .exact absurd (hq k hk).2.1 h1
  .rw[jR hb];exact x.g.nw b h1 h2
 .rcases key j _ e with⟨_,e'⟩|⟨hj,e'⟩
  .cases e'
  .obtain⟨v,h1,h2⟩:=x.rd j d e'
   exact⟨v,by rw[OW (Py hj)];exact h1,h2⟩
 .rcases key j _ e with⟨_,e'⟩|⟨hj,e'⟩
  .cases e'
  .exact(lH.ow n e').elim
 .rcases key j _ e1 with⟨_,e'⟩|⟨hj,e1'⟩
  .cases e'
  .exact(lH.ow n e1').elim
 .rcases key j _ e with⟨_,e'⟩|⟨hj,e'⟩
  .cases e'
  .exact(lH.ox n e').elim
 .rcases key j _ e with⟨rfl,e'⟩|⟨hj,e'⟩
  .cases e'
   rw[PH (by rw[←x.ln];exact hi)]
  .rw[OW (Py hj)];exact x.ex.2 j b e'
def we(r:ak fP):ak Fl:=match r with
 |.ok (.rt d _)=>.ok (.rt d)
 |.ok (.fr d)=>.ok (.rt d)
 |.exn y=>.exn y
 |_=>.stuck
noncomputable def eZ(i:Nat) (g:OE->Ev->S3->ak fP):bv:=λρ=>if lH ρ=true/\i<ρ.length then vJ λa=>we (g a (ρ.set i (.pt a)) ⟨[],[],[]⟩) else .stuck
section
variable {X:Cx}{E:XK}{He η:Hp}{rest:List Qe}{pos:Pos}{g:OE->Ev->S3->ak fP}
def vx{K:OH}{Ha H01:Hp}{h:Hk}{a:OE}{q:Nat->OE}{i:Nat}{ρ:Ev}{G:ic}(r:du K E He η Ha (vJ λa=>we (g a (ρ.set i (.pt a)) ⟨[],[],[]⟩)) G):jo K E He η h a q H01 (g a (ρ.set i (.pt a)) ⟨[],[],[]⟩) G:=by
 by_cases hs:(vJ λa=>we (g a (ρ.set i (.pt a)) ⟨[],[],[]⟩))=.stuck
 .rw[hs]at r;exact r.elim
 rw[←FX hs a]at r;generalize g a (ρ.set i (.pt a)) ⟨[],[],[]⟩=z at r ⊢;cases z with
 |stuck|exn y=>exact r
 |ok y=>
  cases y with|nx ρ st=>exact r.elim|rt d st=>exact λv H Ha' _ o rp=>r v H Ha' o.g rp|fr d=>exact r
def xZ{i:Nat}{y:OG}{kk}{p0 p1 p2 p3 pos':Pos}(hN:X.N.Nodup)(hi:X.N[i]?=some y)(hx:zS X.env.scope y)(hr:∀a q,Er X E He η .tup a q rest (g a))
  (s0:OJ [.List [] p1,.List [] p2,.List [] p3] X.env=(false,eval (.List [] p1) X.env)::OJ [.List [] p2,.List [] p3] X.env:=by exact aJ rfl)(s1:OJ [.List [] p2,.List [] p3] X.env=(false,eval (.List [] p2) X.env)::OJ [.List [] p3] X.env:=by exact aJ rfl)(s2:OJ [.List [] p3] X.env=(false,eval (.List [] p3) X.env)::OJ [] X.env:=by exact aJ rfl)
  (hs:P9 (.Tuple [.List [] p1,.List [] p2,.List [] p3] kk p0) (some (.Name y pos')) pos.line X.env=pure false:=by rfl)
  (hf:X.fn y=true∨X.env.scope.names.lookup y=some .local := by first|exact .inl rfl|exact .inr rfl|assumption) :
  yt X E He η (.Assign [.Name y pos'] (.Tuple [.List [] p1,.List [] p2,.List [] p3] kk p0) pos::rest) (eZ i g):=by
 have hrest:rP X rest λG σ H=>∃a q,tJ X.K E He η .tup a q (g a) G σ H:=λπ s σ H G I z=>z.elim λa z=>z.elim λq z=>(hr a q).o π s σ H G I z;refine⟨gN (fA (ud hN hi hx (uh (cF (kq dR) (cF (kq dR) (cF (kq dR) dR s2) s1) s0)) hs hf) hrest) ?_⟩;rintro G σ H ⟨Ha,ρ,x,r⟩;unfold eZ at r
 by_cases hc:lH ρ=true/\i<ρ.length
 rotate_left
 .rw[if_neg hc]at r;exact r.elim
 rw[if_pos hc]at r;refine⟨by show 0<=sizeLine;decide,λl0 h0=>⟨by show 0<=sizeLine;decide,λl1 h1=>⟨by show 0<=sizeLine;decide,λl2 h2=>⟨by show 3<=sizeLine;decide,λt ht=>?_⟩⟩⟩⟩;have n10:l1≠l0:=by intro z;subst z;rw[ay]at h1;cases h1
 have n20:l2≠l0:=by intro z;subst z;by_cases c:l2=l1;exact n10 c.symm;rw[av c,ay]at h2;cases h2
 have n21:l2≠l1:=by intro z;subst z;rw[ay]at h2;cases h2
 rw[av n10]at h1;rw[av n21,av n20]at h2;have t2:t≠l2:=by intro z;subst z;rw[ay]at ht;cases ht
 rw[av t2]at ht;have t1:t≠l1:=by intro z;subst z;rw[ay]at ht;cases ht
 rw[av t1]at ht;have t0:t≠l0:=by intro z;subst z;rw[ay]at ht;cases ht
 rw[av t0]at ht
 let q:Nat->OE:=λk=>match k with
  |0=>l0
  |1=>l1
  |_=>l2
 let H4:=upd (upd (upd (upd H l0 (.lst [])) l1 (.lst [])) l2 (.lst [])) t (.tup [.ref l0,.ref l1,.ref l2])
 have s4:aG H H4:=λb o e=>by
  have c0:b≠l0:=by intro z;subst z;rw[h0]at e;cases e
  have c1:b≠l1:=by intro z;subst z;rw[h1]at e;cases e
  have c2:b≠l2:=by intro z;subst z;rw[h2]at e;cases e
  have c3:b≠t:=by intro z;subst z;rw[ht]at e;cases e
  show upd _ _ _ b=_;rw[av c3,av c2,av c1,av c0];exact e
 have f0:Ha t=none:=x.g.sub.free ht;have g4:br H Ha H4 (upd Ha t (.tup [.ref l0,.ref l1,.ref l2])):=⟨s4,λb o e=>by rw[av (by intro z;subst z;rw[f0]at e;cases e)];exact e,λb o e=>by
  by_cases c:b=t
  .subst c;rw[ay]at e;cases e;exact ay
  .rw[av c]at e;exact s4 _ _ (x.g.sub _ _ e),λb n1 n2=>by
  by_cases c:b=t
  .subst c;exact ht
  .rw[av c]at n1;exact absurd n2 n1⟩
 have hq:∀k,k<3->H (q k)=none:=λk hk=>by rcases k3 hk with rfl|rfl|rfl<;>assumption
 have hqt:∀k,k<3->q k≠t:=λk hk=>by rcases k3 hk with rfl|rfl|rfl;exact t0.symm;exact t1.symm;exact t2.symm
 refine⟨t,q,_,_,_,_,wL (h:=.tup) (a:=t) (q:=q) (i:=i) (x.grow g4) hc.1 hc.2 ⟨n10.symm,n20.symm,n21.symm⟩ (λk hk=>⟨x.g.s.free (hq k hk),by rw[av (hqt k hk)];exact x.g.sub.free (hq k hk),?_⟩) (lA.of ay),vx r⟩;show upd _ _ _ (q k)=_;rw[av (hqt k hk)];rcases k3 hk with rfl|rfl|rfl
 .show upd _ _ _ l0=_
  rw[av n20.symm,av n10.symm,ay]
 .show upd _ _ _ l1=_
  rw[av n21.symm,ay]
 .exact ay
noncomputable def IQ(K:OH) (ks:ci):Sp:=λvs H Q _=>∃x dx C,vs=[.ref x]/\H x=some (.ins C dx [])/\Hu K C/\(∀f∈ks,eH K C f) /\
 ∀(q:Nat->OE) (H':Hp),yq q->(∀k,k<3->H (q k)=none/\H' (q k)=some (.lst []))->H' x=some (.ins C dx (ks.zip [.ref (q 0),.ref (q 1),.ref (q 2)]))->(∀b,b≠x->(∀k,k<3->b≠q k)->H' b=H b)->Q .non H'
def Dt{P:Pr}{w:PJ}{K:OH}{mg:OG->Option OB}{base:OY}{x qual y f0 f1 f2:OG}{st:Qe}{f:OE}{fd:Pz}{p1 p2 p3 p4 p5 p6 p7 p8 p9 p10 p11 p12:Pos}(F:zT K x qual st f fd)(S:fH [y] [y] (defScope st))
  (hbody:defBody st=[.Assign [.Attribute (.Name y p1) f0 p2] (.List [] p3) p4,.Assign [.Attribute (.Name y p5) f1 p6] (.List [] p7) p8,.Assign [.Attribute (.Name y p9) f2 p10] (.List [] p11) p12])(hk:[f0,f1,f2].Nodup)
  (hv:zO (defScope st) y)(hd:(y==("__debug__" : OG))=false:=by decide)(hcd:(y==("__classdict__" : OG))=false:=by decide)
  (hs:∀(cdv:OB) (A:Px) (outer:List P7) (s0:OI) (H:Hp) (E:XK),(P9 (.List [] p3) (some (.Attribute (.Name y p1) f0 p2)) p4.line (gh CX0 P w K mg base [y] qual (defScope st) f cdv A outer s0 H E).nox.env=pure false/\P9 (.List [] p7) (some (.Attribute (.Name y p5) f1 p6)) p8.line (gh CX0 P w K mg base [y] qual (defScope st) f cdv A outer s0 H E).nox.env=pure false/\P9 (.List [] p11) (some (.Attribute (.Name y p9) f2 p10)) p12.line (gh CX0 P w K mg base [y] qual (defScope st) f cdv A outer s0 H E).nox.env=pure false):=by intro _ _ _ _ _ _;exact⟨rfl,rfl,rfl⟩):gq P w K mg base CX0 1 f fd [y] (IQ K [f0,f1,f2]):=by
 refine F.ok S (λvs H Q E h=>?_) λcdv A outer s0 H vs Q E hr h=>?_
 .obtain⟨x,dx,C,rfl,_⟩:=h
  rfl
 .obtain⟨x,dx,C,rfl,hH,hC,hn,q⟩:=h
  obtain⟨w0,w1,w2⟩:=hs cdv A outer s0 H E;have hvar:∀p,PE (gh CX0 P w K mg base [y] qual (defScope st) f cdv A outer s0 H E).nox (.Name y p) (La 0):=λp=>jJ rfl hv hd hcd;have hb:=fA (xt (hvar p1) (kq dR (pos:=p3)) w0) (fA (xt (hvar p5) (kq dR (pos:=p7)) w1) (fA (xt (hvar p9) (kq dR (pos:=p11)) w2) kU));rw[←hbody]at hb;have n0:=hn f0 (by simp);have n1:=hn f1 (by simp);have n2:=hn f2 (by simp);simp only[QK,O4,QZ,or_false,not_or]at hk;refine⟨_,hb,?_⟩;refine⟨by show 0<=sizeLine;decide,λl0 h0=>⟨.ref x,rfl,x,C,dx,[],rfl,?_,hC,n0,by decide,?_⟩⟩
  .rw[av (by intro z;subst z;rw[hH]at h0;cases h0)];exact hH
  have x0:x≠l0:=by intro z;subst z;rw[hH]at h0;cases h0
  refine⟨by show 0<=sizeLine;decide,λl1 h1=>⟨.ref x,rfl,x,C,dx,fz f0 (.ref l0) [],rfl,?_,hC,n1,by show 1<1000;decide,?_⟩⟩
  .rw[av (by intro z;subst z;rw[ay]at h1;cases h1),ay]
  have x1:x≠l1:=by intro z;subst z;rw[ay]at h1;cases h1
  rw[av x1.symm]at h1;have n10:l1≠l0:=by intro z;subst z;rw[ay]at h1;cases h1
  rw[av n10]at h1;refine⟨by show 0<=sizeLine;decide,λl2 h2=>⟨.ref x,rfl,x,C,dx,fz f1 (.ref l1) (fz f0 (.ref l0) []),rfl,?_,hC,n2,(by have:=vw (f:=f1) (v:=V.ref l1) (l:=fz f0 (.ref l0) []);have h':(fz f0 (V.ref l0) []).length=1:=rfl;omega),?_⟩⟩
  .rw[av (by intro z;subst z;rw[ay]at h2;cases h2),ay]
  have x2:x≠l2:=by intro z;subst z;rw[ay]at h2;cases h2
  rw[av x2.symm]at h2;have n21:l2≠l1:=by intro z;subst z;rw[ay]at h2;cases h2
  rw[av n21,av x2.symm]at h2;have n20:l2≠l0:=by intro z;subst z;rw[ay]at h2;cases h2
  rw[av n20]at h2;refine q (λk=>match k with
   |0=>l0
   |1=>l1
   |_=>l2) _ ⟨n10.symm,n20.symm,n21.symm⟩ (λk hk=>?_) ?_ λb hb hq=>?_
  .rcases k3 hk with rfl|rfl|rfl
   .exact⟨h0,by show upd _ _ _ l0=_;rw[av x0.symm,av n20.symm,av x0.symm,av n10.symm,av x0.symm,ay]⟩
   .exact⟨h1,by show upd _ _ _ l1=_;rw[av x1.symm,av n21.symm,av x1.symm,ay]⟩
   .exact⟨h2,by show upd _ _ _ l2=_;rw[av x2.symm,ay]⟩
  .rw[ay]
   have q1:fz f1 (V.ref l1) [(f0,V.ref l0)]=[(f0,.ref l0),(f1,.ref l1)]:=ma (by simpa using Py hk.1.1);have q2:fz f2 (V.ref l2) [(f0,V.ref l0),(f1,V.ref l1)]=[(f0,.ref l0),(f1,.ref l1),(f2,.ref l2)]:=ma (by simpa using ⟨Py hk.1.2,Py hk.2.1⟩);show some (HO.ins C dx (fz f2 (V.ref l2) (fz f1 (V.ref l1) [(f0,V.ref l0)])))=_;rw[q1,q2];rfl
  .have b0:b≠l0:=hq 0 (by decide)
   have b1:b≠l1:=hq 1 (by decide);have b2:b≠l2:=hq 2 (by decide);rw[av hb,av b2,av hb,av b1,av hb,av b0]
def ya{k i:Nat}{C fn:OE}{fd:Pz}{ps ks:ci}{x y:OG}{p cpos pos':Pos}(hl3:ks.length=3)(hN:X.N.Nodup)(hi:X.N[i]?=some y)(hx:zS X.env.scope y)(M:Mk X.K C fn)(F:gq X.prog X.w X.K X.mg X.base CX0 k fn fd ps (IQ X.K ks))(hr:dA (k+1) X.A)(hg:Gl X x)(hm:X.mg x=some (.ref C))(hns:Qg X.K O6 x=some (some (.ref C)))(hb:gk X.K fd ps [])(hC:Ky X.K ks C)(hp:iO CX0 X E)(hrs:∀a q,Er X E He η (.ins x ks) a q rest (g a))
  (hdb:(x==("__debug__" : OG))=false:=by decide)(hs:P9 (.Call (.Name x p) [] [] cpos) (some (.Name y pos')) pos.line X.env=pure false:=by rfl)
  (hf:X.fn y=true∨X.env.scope.names.lookup y=some .local := by first|exact .inl rfl|exact .inr rfl|assumption) :
  yt X E He η (.Assign [.Name y pos'] (.Call (.Name x p) [] [] cpos) pos::rest) (eZ i g):=by
 have hrest:rP X rest λG σ H=>∃a q,tJ X.K E He η (.ins x ks) a q (g a) G σ H:=λπ s σ H G I z=>z.elim λa z=>z.elim λq z=>(hrs a q).o π s σ H G I z;refine⟨gN (fA (ud hN hi hx (CA M F hr hg hm hb .nil hp hdb) hs hf) hrest) ?_⟩;rintro G σ H ⟨Ha,ρ,z,r⟩;unfold eZ at r
 by_cases hc:lH ρ=true/\i<ρ.length
 rotate_left
 .rw[if_neg hc]at r;exact r.elim
 rw[if_pos hc]at r;intro a dx ha hdx hne;refine⟨a,dx,C,rfl,ay,hC.cls,hC.no,λq H4 jq hq e1 e2=>⟨rfl,?_⟩⟩;have qa:∀k,k<3->q k≠a:=λk hk e=>by have:=(hq k hk).1;rw[e,ay]at this;cases this
 have qd:∀k,k<3->q k≠dx:=λk hk e=>by have:=(hq k hk).1;rw[e,av hne,ay]at this;cases this
 have hqH:∀k,k<3->H (q k)=none:=λk hk=>by have:=(hq k hk).1;rw[av (qa k hk),av (qd k hk)]at this;exact this
 have s4:aG H H4:=λb o e=>by
  have c0:b≠a:=by intro z;subst z;rw[ha]at e;cases e
  have c1:b≠dx:=by intro z;subst z;rw[hdx]at e;cases e
  rw[e2 b c0 (λk hk z=>by subst z;rw[hqH k hk]at e;cases e),av c0,av c1];exact e
 have d4:H4 dx=some (.own a):=by rw[e2 dx hne (λk hk z=>qd k hk z.symm),av hne,ay]
 have f0:Ha a=none:=z.g.sub.free ha;have g0:Ha dx=none:=z.g.sub.free hdx;have g4:br H Ha H4 (upd (upd Ha dx (.own a)) a (.ins C dx (ks.zip [.ref (q 0),.ref (q 1),.ref (q 2)]))):=⟨s4,λb o e=>by rw[av (by intro z;subst z;rw[f0]at e;cases e),av (by intro z;subst z;rw[g0]at e;cases e)];exact e,λb o e=>by
  by_cases c:b=a
  .subst c;rw[ay]at e;cases e;exact e1
  .rw[av c]at e
   by_cases c':b=dx
   .subst c';rw[ay]at e;cases e;exact d4
   .rw[av c']at e;exact s4 _ _ (z.g.sub _ _ e),λb n1 n2=>by
  by_cases c:b=a
  .subst c;exact ha
  .rw[av c]at n1
   by_cases c':b=dx
   .subst c';exact hdx
   .rw[av c']at n1;exact absurd n2 n1⟩
 exact⟨a,q,_,_,_,_,wL (h:=.ins x ks) (a:=a) (q:=q) (i:=i) (z.grow g4) hc.1 hc.2 jq (λk hk=>⟨z.g.s.free (hqH k hk),by rw[av (qa k hk),av (qd k hk)];exact z.g.sub.free (hqH k hk),(hq k hk).2⟩) ⟨C,dx,hns,hC,ay,hl3⟩,vx r⟩
end
def vh(r:fP):ak (D×S3):=match r with
 |.nx _ st=>.ok (.non,st)
 |.rt d st=>.ok (d,st)
 |_=>.stuck
def vi(n:Nat)(s:OE->Ev->S3->ak fP)(a:OE)(st:S3)(ds:ac):ak (D×S3):=(s a (.pt a::ds.map Sl.sh++OV (n-(ds.length+1)) .no) st).bind vh
def Gh{q:Nat->OE}{H:Hp}{us:Nat->al}(j:yq q)(h:∀k,k<3->H (q k)=some (.lst (us k))):Dk (EE q H) q us=H:=by
 funext c;rcases HV q c with⟨k,hk,rfl⟩|hb
 .rw[nA j hk,h k hk]
 .rw[jR hb,uK hb]
def xU{P:Pr}{w:PJ}{K:OH}{mg:OG->Option OB}{base:OY}{x qual:OG}{st:Qe}{f:OE}{fd:Pz}{N ps:ci}{k n:Nat}{h:Hk}{s:OE->Ev->S3->ak fP}(F:zT K x qual st f fd)(S:fH N ps (defScope st))(hn:ps.length=n+1)
  (hbody:∀(cdv:OB) (A:Px) (outer:List P7) (s0:OI) (H He Ha:Hp) (a:OE) (q:Nat->OE) (E:XK),dA k (A.deeper (envOfC qual (defScope st) s0.heap.objs.size f cdv)) ->
   Er (gh CX0 P w K mg base N qual (defScope st) f cdv A outer s0 H E).nox E0 He Ha h a q (defBody st) (s a)):gq P w K mg base CX0 (k+1) f fd ps (HA K n h (vi N.length s)):=by
 have hpl:ps.length<=N.length:=by have:=congrArg RK S.pre;rw[Qw]at this;omega
 refine F.ok S (λvs H Q E h=>h.1.trans hn.symm) λcdv A outer s0 H vs Q E hr hh=>?_;obtain⟨hlen,Ha,ds,a,q,sl,us,vs0,rfl,hs,hv,hj,hk,hc,r⟩:=hh;have lv:=hv.length;have hσ:start N (.ref a::vs0)=some (.ref a)::(vs0.map some++OV (N.length-(vs0.length+1)) none):=by
  unfold L2.start;simp
 have hρ0:∀(i:Nat) (z:Sl),(Sl.pt a::ds.map Sl.sh++OV (N.length-(ds.length+1)) Sl.no)[i]?=some z->z=.no∨(i=0/\z=.pt a)∨∃j d,i=j+1/\ds[j]?=some d/\z=.sh d:=λi z e=>by
  cases i with
  |zero=>simp at e;exact .inr (.inl ⟨rfl,e.symm⟩)
  |succ j=>
   rw[Qp,Qb]at e
   by_cases hj:j<ds.length
   .rw[O8 (by simpa using hj),O5,OQ hj]at e
    cases e;exact .inr (.inr ⟨j,ds[j],rfl,OQ hj,rfl⟩)
   .rw[Pg (by simpa using hj),Pt]at e
    split at e
    .cases e;exact .inl rfl
    .cases e
 have hhe:=Gh hj λk hk=>(hc k hk).2.1;refine⟨_,(hbody cdv A outer s0 H (EE q H) Ha a q E hr).o,Ha,.pt a::ds.map Sl.sh++OV (N.length-(ds.length+1)) .no,sl,us,⟨hj,λk hk=>⟨Kh hk,(hc k hk).1⟩,hk,λk hk=>(hc k hk).2.2,?_⟩,?_⟩
 .rw[hhe]
  refine⟨br.refl hs,λi d e=>?_,λi d e=>?_,λi j d d' hij e=>?_,?_,⟨λi j es e=>?_,λi b e=>?_⟩⟩
  .rcases hρ0 i _ e with h|⟨_,h⟩|⟨j,d',rfl,hd,h⟩
   .cases h
   .cases h
   .cases h
    obtain⟨v,h1,h2⟩:=hv.get hd;refine⟨v,?_,h2⟩;rw[hσ,Qb,O8 (by rw[OD];exact(OZ.mp h1).1),O5,h1];rfl
  .rcases hρ0 i _ e with h|⟨_,h⟩|⟨j,d',rfl,hd,h⟩<;>cases h
  .rcases hρ0 i _ e with h|⟨_,h⟩|⟨j,d',rfl,hd,h⟩<;>cases h
  .rw[hσ]
   simp only[Pa,Pm,OD,Qi];omega
  .rcases hρ0 i _ e with h|⟨_,h⟩|⟨j,d',rfl,hd,h⟩<;>cases h
  .rcases hρ0 i _ e with h|⟨rfl,h⟩|⟨j,d',rfl,hd,h⟩
   .cases h
   .cases h;rw[hσ];rfl
   .cases h
 .unfold vi at r
  generalize s a (.pt a::ds.map Sl.sh++OV (N.length-(ds.length+1)) .no) sl=z at r ⊢;have wk:∀{H' Ha':Hp},br (EE q H) Ha H' Ha'->br (EE q H) Ha H' Ha':=λg=>g;cases z with
  |stuck=>exact r|exn y=>exact r.elim
  |ok y=>
   cases y with
   |nx ρ' st'=>exact λσ' H' Ha' vs' _ x'=>r .non H' Ha' vs' x'.g0 (λk hk=>⟨x'.n0 hk,x'.hl hk,x'.r k hk⟩) (aR.mpr rfl)
   |rt d st'=>
    intro v H' Ha' _ o rp;refine r v H' Ha' (λk=>if h:k<3 then(o.l k h).choose else[]) o.g (λk hk=>?_) rp;rw[dif_pos hk];exact⟨o.n k hk,(o.l k hk).choose_spec⟩
   |fr d=>exact r.elim
section
variable {P:Pr}{w:PJ}{K:OH}{mg:OG->Option OB}{base:OY}{rows:List Rw}{A:Nat->OE}{Q:Nat->Pz}{i k n:Nat}{r:Rw}{h:Hk}{s:OE->Ev->S3->ak fP}
def oJ(T:TG rows K mg A Q)(S:MW rows)(hh:rows[i]?=some r)(hn:r.ps.length=n+1)(b:∀(cdv:OB) (A':Px) (outer:List P7) (s0:OI) (H He Ha:Hp) (a:OE) (q:Nat->OE) (E:XK),dA k (A'.deeper (envOfC r.x (defScope r.st) s0.heap.objs.size (A i) cdv)) ->
   Er (gh CX0 P w K mg base r.N r.x (defScope r.st) (A i) cdv A' outer s0 H E).nox E0 He Ha h a q (defBody r.st) (s a)):iP P w K mg base CX0 (k+1) (A i) (Q i) r.ps (HA K n h (vi r.N.length s)) r.x r.st :=
 ⟨xU (T i r hh).F (S r (Pp hh)) hn b,T i r hh⟩
end
def PE.nox{X:Cx}{e:Pl}{t:TE}(h:PE X.nox e t):PE X e t:=λπ s σ H Q I hw=>
 PN (h π s σ H Q (I.wish _) hw) (λ_ _ ⟨v,H',I',r,q⟩=>⟨v,H',I'.unwish,r,q⟩) λ_ _ z=>PQ z
def K4(K:OH)(He η Ha:Hp)(σ:L2.St)(r:ak Fl):XK:=λC ox H'=>∃x Ha' ρ',r=.exn x/\aG Ha Ha'/\gu K He η Ha' σ H' ρ'/\wQ K Ha' x C ox
structure TL (X:Cx) (sts:List Qe) (g:bv):Prop where
 o:∀(π:List (OE×Obj)) (s:OI) (σ:L2.St) (H He η Ha:Hp) (ρ:Ev) (D:ic) (XE:OB->OI->Prop),Inv X π σ H s->gu X.K He η Ha σ H ρ->lL X.K He η Ha (g ρ) D ->
  (∀σ1 H1 s1 e s',Inv X π σ1 H1 s1->kj X.prog X.w X.stack H1 s1 (K4 X.K He η Ha σ1 (g ρ)) e s'->XE e s')->O7 (O2 X.prog X.w) X.A (execs sts X.env) (SP X π D) XE s
section
variable {X:Cx}{E:XK}{c e e0:Pl}{es:List Pl}{fc f0:am}{f g:bv}{fa:Ev->ak (ac)}{st:Qe}{sts:List Qe}{pos:Pos}
def IC:TL X [] ax:=⟨λπ s σ H He η Ha ρ D XE I h q hx=>wpAny_execs_nil ⟨σ,H,I,q σ H Ha (aG.refl _) h⟩⟩
def yx(h1:TB X st f)(h2:TL X sts g):TL X (st::sts) (aw f g):=⟨λπ s σ H He η Ha ρ D XE I h q hx=>by
 have q:lL X.K He η Ha ((f ρ).bind λx=>match x with|.nx ρ'=>g ρ'|r=>.ok r) D:=q;have hx:∀σ1 H1 s1 e s',Inv X π σ1 H1 s1->kj X.prog X.w X.stack H1 s1 (K4 X.K He η Ha σ1 ((f ρ).bind λx=>match x with|.nx ρ'=>g ρ'|r=>.ok r)) e s'->XE e s':=hx;cases e1:f ρ with
 |stuck=>rw[e1]at q;exact q.elim
 |exn x=>
  rw[e1]at hx;refine wpAny_execs_cons (dB (h1.o π s σ H He η Ha ρ ⟨λ_ _=>False,λ_ _=>False,λ_ _=>False,λ_ _=>False⟩ XE I h (by rw[e1];trivial) λH1 s1 e s' I1 hc=>hx σ H1 s1 e s' I1 (kj.imp (λC ox H' ⟨y,Ha',e2,k⟩=>⟨y,Ha',ρ,by rw[e1]at e2;exact e2,k⟩) hc)) λfl s1 hf=>?_);cases fl with|next|brk|cont=>obtain⟨_,_,_,k⟩:=hf;exact k.elim|ret u=>obtain⟨_,_,_,_,_,k⟩:=hf;exact k.elim
 |ok d=>
  rw[e1]at q hx;cases d with
  |nx ρ1=>
   refine wpAny_execs_cons (dB (h1.o π s σ H He η Ha ρ ⟨λσ' H'=>∃Ha',aG Ha Ha'/\gu X.K He η Ha' σ' H' ρ1,λ_ _=>False,λ_ _=>False,λ_ _=>False⟩ XE I h (by rw[e1];exact λσ' H' Ha' z h'=>⟨Ha',z,h'⟩) λH1 s1 e s' I1 hc=>?_) λfl s1 hf=>?_)
   .refine hx σ H1 s1 e s' I1 (kj.imp (λC ox H' ⟨x,Ha',e2,k⟩=>?_) hc)
    rw[e1]at e2;cases e2
   .cases fl with
    |next=>
     obtain⟨σ',H',I',Ha',z,h'⟩:=hf;refine h2.o π s1 σ' H' He η Ha' ρ1 D XE I' h' ?_ λσ1 H1 s2 e s' I1 hc=>hx σ1 H1 s2 e s' I1 (kj.imp (λC ox H2 ⟨x,H02,ρ2,e2,z2,k⟩=>⟨x,H02,ρ2,e2,z.trans z2,k⟩) hc);have q:lL X.K He η Ha (g ρ1) D:=q;cases e2:g ρ1 with
     |stuck=>rw[e2]at q;exact q|exn x=>trivial
     |ok d2=>
      rw[e2]at q;exact du.grow (r:=.ok d2) q z
    |brk=>obtain⟨_,_,_,k⟩:=hf;exact k.elim
    |cont=>obtain⟨_,_,_,k⟩:=hf;exact k.elim
    |ret u=>obtain⟨_,_,_,_,_,k⟩:=hf;exact k.elim
  |_=>
   refine wpAny_execs_cons (dB (h1.o π s σ H He η Ha ρ ⟨λ_ _=>False,D.rt,D.bk,D.ct⟩ XE I h (by rw[e1];exact q) λH1 s1 e s' I1 hc=>?_) λfl s1 hf=>?_)
   .refine hx σ H1 s1 e s' I1 (kj.imp (λC ox H' ⟨x,Ha',e2,k⟩=>?_) hc)
    rw[e1]at e2;cases e2
   .cases fl with
    |next=>obtain⟨_,_,_,k⟩:=hf;exact k.elim
    |brk=>exact hf
    |cont=>exact hf
    |ret u=>exact hf⟩
def iC(i:Nat)(fc f0:am)(fa:Ev->ak (ac))(m:ac->ak D):bv:=λρ=>match fc ρ with
 |.ok (.bl true)=>match f0 ρ with
  |.ok d=>.ok (.nx (ρ.set i (.sh d)))
  |_=>.stuck
 |.ok (.bl false)=>ko i fa m ρ
 |_=>.stuck
def BL{i:Nat}{y:OG}{pos' ipos:Pos}{k n:Nat}{fn:OE}{fd:Pz}{ps:ci}{m:ac->ak D}{x:OG}{p cpos:Pos}(hN:X.N.Nodup)(hi:X.N[i]?=some y)(hy:zS X.env.scope y)(hc:DT X.nox E0 c fc)(h0:DE X.nox E0 e0 f0)
  (F:gq X.prog X.w X.K X.mg X.base (kj X.prog X.w) k fn fd ps (spD X.K n m))(hr:dA k X.A)(hg:Gl X x)(hm:X.mg x=some (.ref fn))
  (hk:Rc X.K (.ref fn)=true)(hb:gk X.K fd ps [])(ha:DA X.nox E0 (e::es) fa)(hn:(e::es).length=n:=by rfl)(hl:∀ρ ds,fa ρ=.ok ds->ds.length=(e::es).length)
  (hdb:(x==("__debug__" : OG))=false:=by decide)(he:OJ (e::es) X.env=(false,eval e X.env)::OJ es X.env:=by exact aJ rfl)(hpl:(PK cpos (OJ es X.env)).any (·.1)=false:=by exact bA rfl)
  (hs:P9 (.IfExp c e0 (.Call (.Name x p) (e::es) [] cpos) ipos) (some (.Name y pos')) pos.line X.env=pure false:=by rfl)
  (hf:X.fn y=true∨X.env.scope.names.lookup y=some .local := by first|exact .inl rfl|exact .inr rfl|assumption):TB X (.Assign [.Name y pos'] (.IfExp c e0 (.Call (.Name x p) (e::es) [] cpos) ipos) pos) (iC i fc f0 fa m):=by
 refine⟨λπ s σ H He η Ha ρ D XE I h q hx=>?_⟩;have hc':=PT.nox (X:=X.wish XE) hc.o;have h0':=PE.nox (X:=X.wish XE) h0.o;refine wpAny_Assign_Name (dB (Q:=EP X π σ λv H1=>D.nx (σ.set i (some v)) H1) (wpAny_IfExp (dB (hc' π s σ H (λb H1=>fc ρ=.ok (.bl b)/\∃H01,br H Ha H1 H01) (I.wish XE) ⟨Ha,ρ,h.g.sub,h.rd,?_⟩) λd s1 ⟨H1,I1,eb,H01,g1⟩=>?_)) λv s1 ⟨y,H1,I1,r1,q1⟩=>?_) hs
 .unfold iC at q
  cases e1:fc ρ with
  |stuck|exn x=>rw[e1]at q;exact q.elim
  |ok d=>
   rw[e1]at q;cases d with|bl b=>exact λH' Ha' g=>⟨rfl,Ha',g⟩| _=>exact q.elim
 .have I1:=I1.unwish
  have h1:=h.grow g1;cases d with
  |true=>
   refine PN (h0' π s1 σ H1 _ (I1.wish XE) ⟨H01,ρ,h1.g.sub,h1.rd,?_⟩) (λv s2 ⟨y,H2,I2,r2,q2⟩=>⟨y,H2,I2.unwish,r2,q2⟩) λ_ _ z=>z;unfold iC at q;rw[eb]at q;replace q:lL X.K He η Ha (match f0 ρ with
    |.ok d=>.ok (.nx (ρ.set i (.sh d)))
    |_=>.stuck) D:=q
   cases e2:f0 ρ with
   |stuck|exn x=>rw[e2]at q;exact q.elim
   |ok d=>
    rw[e2]at q;exact λv H' Ha' g rp=>q _ H' Ha' (g1.z.trans g.z) ((h1.grow g).put rp)
  |false=>
   have qq:iC i fc f0 fa m ρ=ko i fa m ρ:=by unfold iC;rw[eb]
   rw[qq]at q hx;refine uQ (Q:=λv H1=>D.nx (σ.set i (some v)) H1) (Ex:=K6 X.K He η Ha σ ρ (ko i fa m ρ)) F hr hg hm hk hb ha.o I1 ?_ hx hdb he hpl;refine⟨H01,ρ,h1.g.sub,h1.rd,?_⟩;unfold ko at q ⊢;cases e1:fa ρ with
   |stuck=>rw[e1]at q;exact q|exn x=>rw[e1]at q;exact q.elim
   |ok ds=>
    rw[e1]at q;intro vs H2 H02 g2 r1;refine⟨?_,H02,ds,g2.sub,r1,?_⟩
    .have:=r1.length
     have:=hl ρ ds e1;omega
    .show post _ _ _ _ (m ds) _
     cases e2:m ds with
     |stuck=>simp only[e2]at q;exact q
     |exn x=>exact λC ox H' Ha' g ex=>⟨x,Ha',by simp only[e2];rfl,(g1.trans g2).z.trans g.z,h.grow ((g1.trans g2).trans g),ex⟩
     |ok d=>
      simp only[e2]at q;exact λv H' Ha' g rp=>q _ H' Ha' ((g1.trans g2).z.trans g.z) ((h.grow ((g1.trans g2).trans g)).put rp)
 .exact iB I1 hN hi hy r1 (λs2 I2=>⟨_,H1,I2,q1⟩) hf
def rV(hit:OG->Bool)(r:ak Fl):ak Fl:=match r with
 |.exn x=>if hit x.cls=true then .ok (.rt .non) else .stuck
 |r=>r
def B6(g:bv)(hit:OG->Bool):bv:=λρ=>rV hit (g ρ)
def G5{He η:Hp}{hit:OG->Bool}{c:OG}{np hpos rp cp:Pos}{jn}{cv:OB}(hstk:X.stack=X.env::X.outer/\X.env.frame=some X.env.locals)(hb:TL X sts g)
  (hg:Gl X c)(hm:X.mg c=some cv)(hhit:∀x C,hit x=true->XC X.K x C->SR X.K (.ref C) cv=some true)(hdb:(c==("__debug__" : OG))=false:=by decide) :
  DS X E He η (.Try sts [.ExceptHandler (some (.Name c np)) none [.Return (some (.Constant .none jn cp)) rp] hpos] [] [] pos) (B6 g hit):=by
 refine⟨?_⟩;rintro π s σ H D I ⟨Ha,ρ,h,q⟩;have q:du X.K E He η Ha (rV hit (g ρ)) D:=q;have hq:lL X.K He η Ha (g ρ) D:=by
  cases e1:g ρ with
  |exn x=>trivial|stuck=>rw[e1]at q;exact q
  |ok r=>rw[e1]at q;cases r<;>exact q
 have hit1:∀x,g ρ=.exn x->hit x.cls=true/\du X.K E He η Ha (.ok (.rt .non)) D:=λx e1=>by
  rw[e1]at q;unfold rV at q
  by_cases z:hit x.cls=true
  .simp only[if_pos z]at q;exact⟨z,q⟩
  .simp only[if_neg z]at q;exact q.elim
 refine wpAny_Try_except (dB (hb.o π s σ H He η Ha ρ D _ I h hq λσ1 H1 s1 e s' I1 hc=>?_) λf s1 hf=>?_)
 .refine Hh hstk I1 hc hg hm (λC ox H' ⟨x,Ha',_,e1,_,_,⟨⟨c',ec,xc⟩,_⟩⟩=>?_) (λea C dc oc ox H' s2 ⟨x,Ha',ρ',e1,sm,srx,⟨⟨c',ec,xc⟩,hm2⟩⟩ hox hne hdc hoc I2=>?_) hdb
  .cases ec;exact hhit _ _ (hit1 x e1).1 xc
  .have srx2:=srx.grow (aS (o:=.ext (λg=>g.get? ea=some oc)) srx.g.sub hne)
   have hr:rP (DL.hand X ea) [.Return (some (.Constant .none jn cp)) rp] _:=fA (nh (xx (j:=jn) (pos:=cp))) kU;exact PN (hr π s2 σ1 _ D I2 ((hit1 x e1).2 .non _ _ srx2.g (aR.mpr rfl))) (λ_ _ z=>z) λ_ _ z=>z.elim
 .cases f with
  |next=>exact wpAny_execs_nil hf
  |brk=>exact hf
  |cont=>exact hf
  |ret u=>exact hf
end
section
variable {X:Cx}{E:XK}{He η:Hp}{h:Hk}{a:OE}{q:Nat->OE}{e:Pl}{es:List Pl}{fa:Ev->ak (ac)}{pos:Pos}{CX:tH}{k k0 n:Nat}{fn:OE}{fd:Pz}{ps:ci}{x:OG}{p:Pos}{ft:Qe}
def rJ(i:Nat){y:OG}{p1:Pos}{m:OE->S3->ac->ak (D×S3)}(B:iP X.prog X.w X.K X.mg X.base CX k0 fn fd ps (HA X.K n h m) x ft)(hr:dA k X.A)(ha:DA X E es fa)(hle:k0<=k:=by decide)(hx:iO CX X E:=by first|exact HH|exact xy|exact passesE)(hl:∀ρ ds,fa ρ=.ok ds->ds.length=n:=by first|exact KL|exact KJ|exact ME|exact al4|exact al5)
  (hN:X.N[i]?=some y:=by rfl)(hv:zO X.env.scope y:=by first|exact OP rfl|exact Te (OP rfl)|exact Te (Te rfl))(hg:Gl X x:=by exact rfl)
  (hd:(y==("__debug__" : OG))=false:=by decide)(hcd:(y==("__classdict__" : OG))=false:=by decide)(hdb:(x==("__debug__" : OG))=false:=by decide)(he:OJ (.Name y p1::es) X.env=(false,eval (.Name y p1) X.env)::OJ es X.env:=by exact aJ rfl)(hpl:(PK pos (OJ es X.env)).any (·.1)=false:=by exact bA rfl) :
  JE X E He η h a q (.Call (.Name x p) (.Name y p1::es) [] pos) (iX i a fa m):=Gb (B.F.mono hle) hr hg B.t.g B.t.F.kp B.t.b hx hN hv ha hl hd hcd hdb he hpl
def Oo{y:OG}{pos' ipos cpos:Pos}{m:ac->ak D}{c e0:Pl}{fc f0:am}(hN:X.N.Nodup){i:Nat}(hi:X.N[i]?=some y)(hy:zS X.env.scope y)(hc:DT X.nox E0 c fc)(h0:DE X.nox E0 e0 f0)(B:iP X.prog X.w X.K X.mg X.base (kj X.prog X.w) k0 fn fd ps (spD X.K n m) x ft)(hr:dA k X.A)(ha:DA X.nox E0 (e::es) fa)(hle:k0<=k:=by decide)(hl:∀ρ ds,fa ρ=.ok ds->ds.length=(e::es).length:=by first|exact KL|exact KJ|exact ME|exact al4|exact al5)(hn:(e::es).length=n:=by rfl)
  (hg:Gl X x:=by exact rfl)(hdb:(x==("__debug__" : OG))=false:=by decide)(he:OJ (e::es) X.env=(false,eval e X.env)::OJ es X.env:=by exact aJ rfl)(hpl:(PK cpos (OJ es X.env)).any (·.1)=false:=by exact bA rfl)
  (hs:P9 (.IfExp c e0 (.Call (.Name x p) (e::es) [] cpos) ipos) (some (.Name y pos')) pos.line X.env=pure false:=by rfl)
  (hf:X.fn y=true∨X.env.scope.names.lookup y=some .local := by first|exact .inl rfl|exact .inr rfl|assumption):TB X (.Assign [.Name y pos'] (.IfExp c e0 (.Call (.Name x p) (e::es) [] cpos) ipos) pos) (iC i fc f0 fa m):=BL hN hi hy hc h0 (B.F.mono hle) hr hg B.t.g B.t.F.kp B.t.b ha hn hl hdb he hpl hs hf
end
end DL
namespace K74
open PySem L2 DL
abbrev cj:ac->ak D:=Com.cj
noncomputable def jd:bv :=
 (aw (fw (aa (aa (ag 0) (dC (.int 1)) aO) (dC (.int 1)) dm)
 (aw (bE (ao (af (aa (ag 0) (dC (.int 0)) aO) au) (m1 jV)))
 ax)
 ax)
 (aw (bE (aa (aa (ao (af (aa (ag 0) (dC (.int 0)) aO) au) (m1 jV)) (dC (.str "/")) aP) (ao (af (aa (ag 0) (dC (.int 1)) aO) au) (m1 jV)) aP))
 ax))
def m_shown_ratio:ac->ak D:=da 1 jd
noncomputable def qY:bv :=
 (aw (fw (aa (aa (ag 0) (dC (.int 1)) aO) (dC (.int 1)) dm)
 (aw (bE (ao (af (aa (ag 0) (dC (.int 0)) aO) au) (m1 jV)))
 ax)
 ax)
 (aw (bE (aa (aa (ao (af (aa (ag 0) (dC (.int 0)) aO) au) (m1 jV)) (dC (.str "/")) aP) (ao (af (aa (ag 0) (dC (.int 1)) aO) au) (m1 jV)) aP))
 ax))
def bY:ac->ak D:=da 1 qY
noncomputable def dN:bv :=
 (aw (fw (i8 (aa (ag 0) (dC (.str "")) dm) (i8 (aa (ao (af (ag 0) au) (m1 bN)) (dC (.int 60)) wO) (ef (aa (aa (ag 0) (dC (.int 0)) aO) (dC (.str "0")) dm) (aa (ag 0) (dC (.str "0")) jf))))
 (aw (bE (dC (.bl false)))
 ax)
 ax)
 (aw (bE (aa (fN 1 [] (tR (ag 0)) (fv 0) (aa (ag 0) (dC (.str "0123456789")) dk) (ag 0)) (ao au cE) dm))
 ax))
def bR:ac->ak D:=da 1 dN
noncomputable def bq:bv :=
 (aw (xj [1,2,3] (kK sD (ag 0) (dC (.str "/"))))
 (aw (aV 4 (eG (ag 1) (bQ (ao (af (aa (eG (ag 1) dH (bQ (dC (.int 1)))) (dC (.str "-")) dm) au) (m1 eL))) dH))
 (aw (fw (i8 (dZ (ao (af (ag 4) au) bR)) (aa (ag 1) (dC (.str "-0")) dm))
 (aw (bE (dC (.non)))
 ax)
 ax)
 (aw (aV 5 (ao (af (ag 4) au) (m1 eL)))
 (aw (fw (aa (eG (ag 1) dH (bQ (dC (.int 1)))) (dC (.str "-")) dm)
 (aw (aV 5 (aa (dC (.int 0)) (ag 5) wt))
 ax)
 ax)
 (aw (fw (aa (ag 2) (dC (.str "")) dm)
 (aw (bE (ao (af (ag 5) (af (dC (.int 1)) au)) iR))
 ax)
 ax)
 (aw (fw (i8 (dZ (ao (af (ag 3) au) bR)) (i8 (aa (ao (af (ag 3) au) (m1 eL)) (dC (.int 2)) mY) (aa (ao (af (ag 5) (af (ao (af (ag 3) au) (m1 eL)) au)) cj) (dC (.int 1)) jf)))
 (aw (bE (dC (.non)))
 ax)
 ax)
 (aw (bE (ao (af (ag 5) (af (ao (af (ag 3) au) (m1 eL)) au)) iR))
 ax))))))))
def aH:ac->ak D:=da 6 bq
noncomputable def gJ:bv :=
 (aw (aV 1 (Ia (kK kY (ag 0) (dC (.str "-"))) (eG (ag 0) (bQ (dC (.int 1))) dH) (ag 0)))
 (aw (bE (ef (ja HZ HZ (dC (.int 1)) (ao (af (ag 1) au) (m1 bN)) (dC (.int 60))) (ao (af (fN 1 [] (tR (ag 1)) (fv 0) mYes (aa (ag 0) (dC (.str "0123456789")) Bt)) au) (m1 rM))))
 ax))
def m_has_figures:ac->ak D:=da 2 gJ
abbrev m_is_ratio:ac->ak D:=Com.m_is_ratio
noncomputable def cX:bv :=
 (aw (aV 1 (Ia (bc (ag 0) (i9 "str")) (kK bS (ag 0) (dC (.str "/"))) (ao au cE)))
 (aw (fw (i8 (dZ (ja HZ HZ (dC (.int 1)) (ao (af (ag 1) au) (m1 bN)) (dC (.int 2)))) (dZ (ao (af (fN 1 [] (Ae (ag 1)) (fv 0) mYes (ao (af (ag 0) au) m_has_figures)) au) (m1 rM))))
 (aw (cQ "NoText" ["row"] (af (dC (.int 0)) au))
 ax)
 ax)
 (aw (aV 2 (ao (af (ao (af (aa (ag 1) (dC (.int 0)) aO) au) (m1 eL)) (af (Ia (aa (ao (af (ag 1) au) (m1 bN)) (dC (.int 2)) dm) (ao (af (aa (ag 1) (dC (.int 1)) aO) au) (m1 eL)) (dC (.int 1))) au)) iR))
 (aw (fw (i8 (dZ (ao (af (ag 2) au) m_is_ratio)) (aa (ao (af (ag 2) au) m_shown_ratio) (ag 0) jf))
 (aw (cQ "NoText" ["row"] (af (dC (.int 0)) au))
 ax)
 ax)
 (aw (bE (ag 2))
 ax)))))
def m_read_ratio:ac->ak D:=da 3 cX
end K74
namespace K76
open PySem L2 DL
def jO:List (OG×Bool):=[("NoText",true)]
def jv:List (OG×Bool):=[("NoText",true)]
def BQ:OG->Option Bool:=l8 [("NoText",true)]
def BO:OG->Option Bool:=l8 [("NoText",true)]
def lR:OG->Option Bool:=l8 [("NoText",true)]
abbrev ck:ac->ak D:=Com.ck
abbrev bL:ac->ak D:=Com.bL
abbrev dS:ac->ak D:=Com.dS
abbrev cj:ac->ak D:=Com.cj
abbrev cZ:ac->ak D:=Com.cZ
abbrev bZ:ac->ak D:=Com.bZ
abbrev eP:ac->ak D:=Com.eP
abbrev gC:ac->ak D:=Com.gC
abbrev bY:ac->ak D:=K74.bY
noncomputable def mQ:bv :=
 (aw (t8 1 (fN 1 [] (Ae (aa (ag 0) (dC (.int 0)) aO)) (fv 0) mYes (aa (dC (.str "place ")) (ag 0) aP)))
 (aw (Ak (aa (ag 0) (dC (.int 1)) aO) (rH [2,3,4,5,6])
 (aw (aV 7 (dC (.str "-")))
 (aw (fw (aa (ag 6) (dC (.non)) n6)
 (aw (aV 7 (ao (af (ag 6) au) bY))
 ax)
 ax)
 (aw (eI 1 (kL (dC (.str " ")) (af (ao (af (dC (.str "tie")) (af (ag 2) (af (ag 3) (af (ag 4) (af (ao (af (ag 5) au) bY) (af (ag 7) au)))))) cE) au)))
 ax))))
 (aw (bE (aa (ag 1) (ao (af (aa (dC (.str "first ")) (aa (ag 0) (dC (.int 2)) aO) aP) (af (aa (dC (.str "last ")) (aa (ag 0) (dC (.int 3)) aO) aP) au)) cE) aP))
 ax)))
def ij:ac->ak D:=da 8 mQ
noncomputable def om:bv :=
 (aw (aV 2 (ao (af (dC (.str "")) (af (dC (.str "place")) (af (dC (.str "tie")) (af (dC (.str "first")) (af (dC (.str "last")) (af (dC (.str "one")) (af (dC (.str "both")) (af (dC (.str "two")) au)))))))) cE))
 (aw (aV 2 (aa (ag 2) (ao (af (dC (.str "-")) (af (dC (.str "0")) (af (dC (.str "-1")) (af (dC (.str "1/2")) (af (dC (.str "2/4")) (af (dC (.str "1/1")) (af (dC (.str "0/2")) au))))))) cE) aP))
 (aw (aV 2 (aa (ag 2) (ao (af (dC (.str "01")) (af (dC (.str "Ab")) (af (dC (.str "abcdefghi")) (af (dC (.str "a1")) (af (dC (.str "zzzzzzzz")) au))))) cE) aP))
 (aw (aV 2 (aa (ag 2) (ao (af (aa (dC (.str "1")) (dC (.int 60)) gU) (af (aa (dC (.str "1")) (dC (.int 61)) gU) (af (aa (dC (.str "1/")) (aa (dC (.str "3")) (dC (.int 60)) gU) aP) (af (aa (dC (.str "1/")) (aa (dC (.str "3")) (dC (.int 61)) gU) aP) au)))) cE) aP))
 (aw (aV 2 (aa (ag 2) (ao (af (dC (.str "-0")) (af (dC (.str "+1")) au)) cE) aP))
 (aw (bE (aa (aa (ag 2) (ao (af (aa (aa (ag 0) (dC (.int 0)) aO) (dC (.int 0)) aO) (af (aa (aa (ag 0) (dC (.int 0)) aO) (bc (dC (.int 1)) Ea) aO) (af (aa (ag 0) (dC (.int 2)) aO) (af (aa (ag 0) (dC (.int 3)) aO) (af (dC (.str "\t")) (af (aa (dC (.str "1")) (dC (.int 4400)) gU) au)))))) cE) aP) (ag 1) aO))
 ax))))))
def gP:ac->ak D:=da 3 om
noncomputable def q9:bv :=
 (aw (aV 3 (kL (dC (.str " ")) (af (ao (af (dC (.str "tie")) (af (aa (aa (ag 0) (dC (.int 0)) aO) (dC (.int 0)) aO) (af (aa (aa (ag 0) (dC (.int 0)) aO) (dC (.int 1)) aO) (af (dC (.str "both")) (af (dC (.str "1")) (af (dC (.str "1")) au)))))) cE) au)))
 (aw (aV 4 (ao (af (dC (.str "")) (af (dC (.str " ")) (af (dC (.str "place zzzzzzzz")) (af (aa (dC (.str "place ")) (aa (aa (ag 0) (dC (.int 0)) aO) (dC (.int 0)) aO) aP) au)))) cE))
 (aw (aV 4 (aa (ag 4) (ao (af (ag 3) (af (aa (dC (.str "first ")) (aa (ag 0) (dC (.int 3)) aO) aP) (af (aa (dC (.str "last ")) (aa (ag 0) (dC (.int 2)) aO) aP) au))) cE) aP))
 (aw (aV 4 (aa (ag 4) (ao (af (aa (dC (.str "first ")) (aa (ag 0) (dC (.int 2)) aO) aP) (af (aa (dC (.str "last ")) (aa (ag 0) (dC (.int 3)) aO) aP) (af (aa (ag 1) (dC (.int 0)) aO) (af (aa (ag 1) (bc (dC (.int 1)) Ea) aO) (af (dC (.str "webs")) au))))) cE) aP))
 (aw (aV 4 (aa (ag 4) (ao (af (dC (.str "place")) (af (dC (.str "tie")) (af (dC (.str "first")) (af (dC (.str "last")) au)))) cE) aP))
 (aw (bE (aa (ag 4) (ag 2) aO))
 ax))))))
def jN:ac->ak D:=da 5 q9
noncomputable def cI:bv :=
 (aw (xj [3,4,5,6] (ag 2))
 (aw (aV 4 (aa (ag 4) (ao (af (ag 1) au) (m1 bN)) cO))
 (aw (aV 7 (kK bS (aa (ag 1) (ag 4) aO) (dC (.str " "))))
 (aw (aV 5 (aa (ag 5) (ao (af (ag 7) au) (m1 bN)) cO))
 (aw (fw (aa (ag 3) (dC (.int 0)) dm)
 (aw (bE (aa (eG (ag 1) dH (bQ (ag 4))) (eG (ag 1) (bQ (aa (ag 4) (dC (.int 1)) aP)) dH) aP))
 ax)
 ax)
 (aw (fw (aa (ag 3) (dC (.int 1)) dm)
 (aw (bE (aa (eG (ag 1) dH (bQ (aa (ag 4) (dC (.int 1)) aP))) (eG (ag 1) (bQ (ag 4)) dH) aP))
 ax)
 ax)
 (aw (fw (aa (ag 3) (dC (.int 2)) dm)
 (aw (aV 8 (eG (ag 1) (bQ (ag 4)) (bQ (aa (ag 4) (dC (.int 2)) aP))))
 (aw (bE (aa (aa (eG (ag 1) dH (bQ (ag 4))) (bc (ag 8) Kn) aP) (eG (ag 1) (bQ (aa (ag 4) (dC (.int 2)) aP)) dH) aP))
 ax))
 ax)
 (aw (fw (aa (ag 3) (dC (.int 3)) dm)
 (aw (bE (eG (ag 1) dH (bQ (ag 4))))
 ax)
 ax)
 (aw (fw (aa (ag 3) (dC (.int 4)) dm)
 (aw (aV 7 (aa (aa (eG (ag 7) dH (bQ (ag 5))) (ao (af (ao (af (ag 0) (af (ag 6) au)) gP) au) cE) aP) (eG (ag 7) (bQ (ag 5)) dH) aP))
 ax)
 ax)
 (aw (fw (aa (ag 3) (dC (.int 5)) dm)
 (aw (aV 7 (aa (eG (ag 7) dH (bQ (ag 5))) (eG (ag 7) (bQ (aa (ag 5) (dC (.int 1)) aP)) dH) aP))
 ax)
 ax)
 (aw (fw (i8 (aa (ag 3) (dC (.int 6)) dm) (aa (ag 3) (dC (.int 7)) dm))
 (aw (aV 7 (aa (aa (eG (ag 7) dH (bQ (ag 5))) (ao (af (ao (af (ag 0) (af (ag 6) au)) gP) au) cE) aP) (eG (ag 7) (bQ (aa (ag 5) (dC (.int 1)) aP)) dH) aP))
 ax)
 ax)
 (aw (fw (aa (ag 3) (dC (.int 7)) wO)
 (aw (bE (aa (aa (eG (ag 1) dH (bQ (aa (ag 4) (aa (ag 3) (dC (.int 2)) cO) aP))) (ao (af (ao (af (ag 0) (af (ag 1) (af (aa (ag 6) (dC (.int 16)) cO) au))) jN) au) cE) aP) (eG (ag 1) (bQ (aa (ag 4) (aa (ag 3) (dC (.int 2)) cO) aP)) dH) aP))
 ax)
 ax)
 (aw (bE (aa (aa (eG (ag 1) dH (bQ (ag 4))) (ao (af (kL (dC (.str " ")) (af (ag 7) au)) au) cE) aP) (eG (ag 1) (bQ (aa (ag 4) (dC (.int 1)) aP)) dH) aP))
 ax)))))))))))))
def bH:ac->ak D:=da 9 cI
noncomputable def gi:bv :=
 (aw (fw (i8 (aa (ao (af (ag 0) au) (m1 bN)) (dC (.int 1)) mY) (aa (ao (af (ag 0) au) (m1 bN)) (dC (.int 8)) wO))
 (aw (bE (dC (.bl false)))
 ax)
 ax)
 (aw (bE (aa (fN 1 [] (tR (ag 0)) (fv 0) (aa (ag 0) (dC (.str "abcdefghijklmnopqrstuvwxyz")) dk) (ag 0)) (ao au cE) dm))
 ax))
def dJ:ac->ak D:=da 1 gi
abbrev bR:ac->ak D:=K74.bR
abbrev aH:ac->ak D:=K74.aH
noncomputable def c8:bv :=
 (aw (fw (i8 (aa (ao (af (ag 0) au) (m1 bN)) (dC (.int 6)) jf) (i8 (aa (aa (ag 0) (dC (.int 3)) aO) (ao (af (dC (.str "one")) (af (dC (.str "both")) au)) cE) dk) (aa (aa (ag 0) (dC (.int 1)) aO) (aa (ag 0) (dC (.int 2)) aO) dm)))
 (aw (bE (dC (.non)))
 ax)
 ax)
 (aw (aV 2 (ao (af (aa (ag 0) (dC (.int 4)) aO) au) aH))
 (aw (aV 3 (dC (.non)))
 (aw (fw (aa (aa (ag 0) (dC (.int 5)) aO) (dC (.str "-")) jf)
 (aw (aV 3 (ao (af (aa (ag 0) (dC (.int 5)) aO) au) aH))
 (aw (fw (i8 (aa (ag 3) (dC (.non)) rL) (aa (aa (ag 3) (dC (.int 0)) aO) (dC (.int 0)) HZ))
 (aw (bE (dC (.non)))
 ax)
 ax)
 ax))
 ax)
 (aw (fw (i8 (aa (ag 2) (dC (.non)) rL) (i8 (aa (aa (ag 2) (dC (.int 0)) aO) (dC (.int 0)) mY) (i8 (aa (aa (ag 0) (dC (.int 1)) aO) (ag 1) dk) (aa (aa (ag 0) (dC (.int 2)) aO) (ag 1) dk))))
 (aw (bE (dC (.non)))
 ax)
 ax)
 (aw (bE (ao (af (aa (ag 0) (dC (.int 1)) aO) (af (aa (ag 0) (dC (.int 2)) aO) (af (aa (ag 0) (dC (.int 3)) aO) (af (ag 2) (af (ag 3) au))))) iR))
 ax))))))
def aY:ac->ak D:=da 4 c8
noncomputable def aT:bv :=
 (aw (xj [2,3,4] (ag 0))
 (aw (fw (aa (aa (ag 1) (dC (.int 0)) aO) (dC (.str "place")) dm)
 (aw (fw (i8 (aa (ag 3) (ao au cE) jf) (i8 (aa (ag 4) (ao au cE) jf) (i8 (aa (ao (af (ag 2) au) (m1 bN)) (dC (.int 6)) wO) (aa (ao (af (ag 1) au) (m1 bN)) (dC (.int 2)) jf))))
 (aw (bE (dC (.bl false)))
 ax)
 ax)
 (aw (bE (ef (ao (af (aa (ag 1) (dC (.int 1)) aO) au) dJ) (aa (aa (ag 1) (dC (.int 1)) aO) (ag 2) dk)))
 ax))
 ax)
 (aw (fw (aa (ao (af (ag 2) au) (m1 bN)) (dC (.int 2)) mY)
 (aw (bE (dC (.bl false)))
 ax)
 ax)
 (aw (fw (aa (aa (ag 1) (dC (.int 0)) aO) (dC (.str "tie")) dm)
 (aw (bE (ef (aa (ag 4) (ao au cE) dm) (ef (aa (ao (af (ag 3) au) (m1 bN)) (dC (.int 14)) mY) (aa (ao (af (ag 1) (af (ag 2) au)) aY) (dC (.non)) n6))))
 ax)
 ax)
 (aw (fw (i8 (aa (ao (af (ag 1) au) (m1 bN)) (dC (.int 2)) jf) (aa (aa (ag 1) (dC (.int 1)) aO) (ag 2) dk))
 (aw (bE (dC (.bl false)))
 ax)
 ax)
 (aw (fw (aa (aa (ag 1) (dC (.int 0)) aO) (dC (.str "first")) dm)
 (aw (bE (aa (ag 4) (ao au cE) dm))
 ax)
 ax)
 (aw (bE (ef (aa (aa (ag 1) (dC (.int 0)) aO) (dC (.str "last")) dm) (ef (aa (ao (af (ag 4) au) (m1 bN)) (dC (.int 1)) dm) (aa (aa (ag 1) (dC (.int 1)) aO) (aa (ag 4) (dC (.int 0)) aO) jf))))
 ax)))))))
def aA:ac->ak D:=da 5 aT
noncomputable def lY:bv :=
 (eZ 1 λa=>(bF (iW (aV 2 (kK bS (ag 0) (dC (.str "\n")))))
 (bF (vN (pB (ao (af (ag 2) au) (m1 bN))) (fv 3)
 (bF (iW (aV 4 (kK bS (aa (ag 2) (ag 3) aO) (dC (.str " ")))))
 (bF (mX (.tup) 1 a (dZ (ao (af (ag 1) (af (ag 4) au)) aA))
 (bF (kD (ao (af (ag 3) (af (dC (.non)) au)) iR))
 bj)
 bj)
 (bF (mX (.tup) 1 a (aa (aa (ag 4) (dC (.int 0)) aO) (dC (.str "place")) dm)
 (bF (lP (.tup) 1 a 0 (aa (ag 4) (dC (.int 1)) aO))
 bj)
 (bF (mX (.tup) 1 a (aa (aa (ag 4) (dC (.int 0)) aO) (dC (.str "tie")) dm)
 (bF (lP (.tup) 1 a 1 (ao (af (ag 4) (af (aa (ag 1) (dC (.int 0)) aO) au)) aY))
 bj)
 (bF (lP (.tup) 1 a 2 (aa (ag 4) (dC (.int 1)) aO))
 bj))
 bj))
 bj))))
 (bF (mX (.tup) 1 a (aa (ao (af (aa (ag 1) (dC (.int 2)) aO) au) (m1 bN)) (dC (.int 2)) mY)
 (bF (kD (ao (af (ao (af (ag 2) au) (m1 bN)) (af (dC (.non)) au)) iR))
 bj)
 bj)
 (bF (Dc 1 a true)
 bj)))))
noncomputable def gD:ac->ak D:=da 5 lY
abbrev m_is_name:ac->ak D:=Com.m_is_name
noncomputable def dG:OE->Ev->S3->ak fP:=λa=>
 (bF (mX (.ins "Draft" ["places","ties","ends"]) 0 a (i8 (aa (bc (ag 0) (il "ties")) (ao au cE) jf) (i8 (aa (bc (ag 0) (il "ends")) (ao au cE) jf) (aa (ao (af (bc (ag 0) (il "places")) au) (m1 bN)) (dC (.int 7)) dm)))
 (bF (kD (dC (.bl false)))
 bj)
 bj)
 (bF (mX (.ins "Draft" ["places","ties","ends"]) 0 a (i8 (dZ (ao (af (ag 1) au) m_is_name)) (aa (ag 1) (bc (ag 0) (il "places")) Bt))
 (bF (kD (dC (.bl false)))
 bj)
 bj)
 (bF (lP (.ins "Draft" ["places","ties","ends"]) 0 a 0 (ag 1))
 (bF (kD (dC (.bl true)))
 bj))))
def cg:OE->S3->ac->ak (D×S3):=vi 2 dG
noncomputable def eT:OE->Ev->S3->ak fP:=λa=>
 (bF (mX (.ins "Draft" ["places","ties","ends"]) 0 a (i8 (aa (ag 1) (dC (.non)) rL) (i8 (aa (bc (ag 0) (il "ends")) (ao au cE) jf) (aa (ao (af (bc (ag 0) (il "ties")) au) (m1 bN)) (dC (.int 14)) dm)))
 (bF (kD (dC (.bl false)))
 bj)
 bj)
 (bF (mX (.ins "Draft" ["places","ties","ends"]) 0 a (i8 (aa (aa (ag 1) (dC (.int 0)) aO) (bc (ag 0) (il "places")) dk) (aa (aa (ag 1) (dC (.int 1)) aO) (bc (ag 0) (il "places")) dk))
 (bF (kD (dC (.bl false)))
 bj)
 bj)
 (bF (lP (.ins "Draft" ["places","ties","ends"]) 0 a 1 (ag 1))
 (bF (kD (dC (.bl true)))
 bj))))
def cB:OE->S3->ac->ak (D×S3):=vi 2 eT
abbrev m_has_figures:ac->ak D:=K74.m_has_figures
abbrev m_is_whole:ac->ak D:=Com.m_is_whole
abbrev m_common_divisor:ac->ak D:=Com.m_common_divisor
abbrev m_is_ratio:ac->ak D:=Com.m_is_ratio
abbrev m_shown_ratio:ac->ak D:=K74.m_shown_ratio
abbrev m_read_ratio:ac->ak D:=K74.m_read_ratio
abbrev m_is_length:ac->ak D:=Com.m_is_length
abbrev m_is_worth:ac->ak D:=Com.m_is_worth
abbrev m_is_tie:ac->ak D:=Com.m_is_tie
noncomputable def fM:bv :=
 (aw (B6 (aw (ko 1 (af (aa (ag 0) (dC (.int 4)) aO) au) m_read_ratio)
 (aw (iC 2 (aa (aa (ag 0) (dC (.int 5)) aO) (dC (.str "-")) dm) (dC (.non)) (af (aa (ag 0) (dC (.int 5)) aO) au) m_read_ratio)
 ax)) (jB jv))
 (aw (aV 3 (ao (af (aa (ag 0) (dC (.int 1)) aO) (af (aa (ag 0) (dC (.int 2)) aO) (af (aa (ag 0) (dC (.int 3)) aO) (af (ag 1) (af (ag 2) au))))) iR))
 (aw (bE (Ia (ao (af (ag 3) au) m_is_tie) (ag 3) (dC (.non))))
 ax)))
def bV:ac->ak D:=da 4 fM
noncomputable def gV:OE->Ev->S3->ak fP:=λa=>
 (bF (mX (.ins "Draft" ["places","ties","ends"]) 0 a (i8 (aa (ao (af (bc (ag 0) (il "places")) au) (m1 bN)) (dC (.int 2)) mY) (i8 (aa (ag 1) (bc (ag 0) (il "places")) dk) (aa (ag 1) (bc (ag 0) (il "ends")) Bt)))
 (bF (kD (dC (.bl false)))
 bj)
 bj)
 (bF (lP (.ins "Draft" ["places","ties","ends"]) 0 a 2 (ag 1))
 (bF (kD (dC (.bl true)))
 bj)))
def cb:OE->S3->ac->ak (D×S3):=vi 2 gV
noncomputable def oj:OE->Ev->S3->ak fP:=λa=>
 (bF (mX (.ins "Draft" ["places","ties","ends"]) 0 a (ef (aa (aa (ag 1) (dC (.int 0)) aO) (dC (.str "place")) dm) (aa (ao (af (ag 1) au) (m1 bN)) (dC (.int 2)) dm))
 (bF (qm (iX 0 a (af (aa (ag 1) (dC (.int 1)) aO) au) cg))
 bj)
 bj)
 (bF (mX (.ins "Draft" ["places","ties","ends"]) 0 a (ef (aa (aa (ag 1) (dC (.int 0)) aO) (dC (.str "tie")) dm) (aa (ao (af (ag 1) au) (m1 bN)) (dC (.int 6)) dm))
 (bF (qm (iX 0 a (af (ao (af (ag 1) au) bV) au) cB))
 bj)
 bj)
 (bF (mX (.ins "Draft" ["places","ties","ends"]) 0 a (ef (aa (aa (ag 1) (dC (.int 0)) aO) (dC (.str "first")) dm) (aa (ao (af (ag 1) au) (m1 bN)) (dC (.int 2)) dm))
 (bF (qm (xQ (.ins "Draft" ["places","ties","ends"]) 0 a (aa (bc (ag 0) (il "ends")) (ao au cE) dm) (iX 0 a (af (aa (ag 1) (dC (.int 1)) aO) au) cb)))
 bj)
 bj)
 (bF (mX (.ins "Draft" ["places","ties","ends"]) 0 a (ef (aa (aa (ag 1) (dC (.int 0)) aO) (dC (.str "last")) dm) (aa (ao (af (ag 1) au) (m1 bN)) (dC (.int 2)) dm))
 (bF (qm (xQ (.ins "Draft" ["places","ties","ends"]) 0 a (aa (ao (af (bc (ag 0) (il "ends")) au) (m1 bN)) (dC (.int 1)) dm) (iX 0 a (af (aa (ag 1) (dC (.int 1)) aO) au) cb)))
 bj)
 bj)
 (bF (kD (dC (.bl false)))
 bj)))))
def bG:OE->S3->ac->ak (D×S3):=vi 2 oj
noncomputable def iM:bv :=
 (aw (fw (dZ (bc (ag 0) (i9 "str")))
 (aw (cQ "NoText" ["row"] (af (dC (.int 0)) au))
 ax)
 ax)
 (eZ 1 λa=>(bF (iW (aV 2 (kK bS (ag 0) (dC (.str "\n")))))
 (bF (vN (BY (ag 2)) (rH [3,4])
 (bF (A0 (iX 1 a (af (kK bS (ag 4) (dC (.str " "))) au) bG)
 (bF (iW (cQ "NoText" ["row"] (af (ag 3) au)))
 bj))
 bj))
 (bF (mX (.ins "Draft" ["places","ties","ends"]) 1 a (aa (ao (af (bc (ag 1) (il "ends")) au) (m1 bN)) (dC (.int 2)) mY)
 (bF (iW (cQ "NoText" ["row"] (af (ao (af (ag 2) au) (m1 bN)) au)))
 bj)
 bj)
 (bF (Dc 1 a false)
 bj))))))
noncomputable def dD:ac->ak D:=da 5 iM
abbrev fU:ac->ak D:=Com.fU
noncomputable def j6:bv :=
 (aw (xj [1,2] (ao (af (ag 0) au) gD))
 (aw (aV 3 (dC (.non)))
 (aw (aV 4 (dC (.non)))
 (aw (aV 5 (dC (.bl true)))
 (aw (xm (ko 3 (af (ag 0) au) dD) (jB jO) 6
 (aw (aV 5 (ef (bc (ag 6) (qI BQ)) (bc (ag 6) (qI BO))))
 (aw (fw (ag 5)
 (aw (aV 4 (bc (ag 6) (mK lR "row")))
 ax)
 ax)
 ax)))
 (aw (fw (aa (ag 1) (dC (.non)) rL)
 (aw (bE (ef (ag 5) (ef (aa (ag 4) (dC (.non)) rL) (aa (KI (ag 3)) (KI (ag 2)) dm))))
 ax)
 ax)
 (aw (bE (ef (ag 5) (ef (ao (af (ag 4) au) fU) (aa (ag 4) (ag 1) dm))))
 ax)))))))
noncomputable def cS:ac->ak D:=da 7 j6
noncomputable def kO:bv :=
 (aw (aV 1 (dC (.non)))
 (aw (xm (m8 (af (ag 0) au) dD) (jB jv) 2
 (aw (aV 1 (bc (ag 2) (mK lR "row")))
 ax))
 (aw (bE (aa (ag 1) (dC (.int 0)) dm))
 ax)))
noncomputable def dI:ac->ak D:=da 3 kO
noncomputable def Ic:bv :=
 (aw (aV 1 (ao (af (ag 0) (af (dC (.int 0)) au)) gC))
 (aw (aV 2 (ao (af (ag 1) au) ij))
 (aw (Ak (aa (eG (ag 0) (bQ (dC (.int 15))) (bQ (dC (.int 45)))) (ao (af (dC (.int 15)) au) cE) aP) (fv 3)
 (aw (aV 4 (ao (af (ag 3) (af (ao (af (dC (.int 10)) (af (dC (.int 23)) (af (dC (.int 6)) (af (dC (.int 32)) (af (dC (.int 3)) (af (dC (.int 10)) (af (dC (.int 23)) (af (dC (.int 6)) (af (dC (.int 32)) (af (dC (.int 7)) au)))))))))) cE) au)) bL))
 (aw (aV 5 (ao (af (ag 1) (af (ag 2) (af (eG (ag 4) dH (bQ (dC (.int 4)))) au))) bH))
 (aw (fw (ef (aa (aa (ag 4) (dC (.int 4)) aO) (dC (.int 0)) dm) (aa (ag 5) (ao au cE) jf))
 (aw (aV 5 (ao (af (ag 1) (af (ag 5) (af (eG (ag 4) (bQ (dC (.int 5))) (bQ (dC (.int 9)))) au))) bH))
 ax)
 ax)
 (aw (fw (dZ (ao (af (kL (dC (.str "\n")) (af (ag 5) au)) au) cS))
 (aw (bE (dC (.bl false)))
 ax)
 ax)
 (aw (fw (dZ (ao (af (aa (ao (af (dC (.non)) (af (dC (.bl true)) (af (dC (.int 1)) (af (ag 2) (af (ao (af (ag 2) au) (m1 uP)) (af (ao (af (dC (.str "web")) au) iR) (af (dC (.dic [] [])) au))))))) cE) (aa (ag 4) (dC (.int 9)) aO) aO) au) dI))
 (aw (bE (dC (.bl false)))
 ax)
 ax)
 ax))))))
 (aw (bE (ao (af (kL (dC (.str "\n")) (af (ag 2) au)) au) cS))
 ax))))
noncomputable def m_law:ac->ak D:=da 6 Ic
def top(i:Nat):Qe:=PySem.Challenge.pw_farthestcut_k76_rows_that_cannot_stand.main.body.getD i (.Pass ⟨0,0,0,0⟩)
noncomputable def rows:List Rw:=[
 ⟨"_law_cell_at",top 38,["_law_script","_law_k"],2⟩,
 ⟨"_law_draws",top 39,["_law_cell","_law_sizes","_law_number_here","_law_left","_law_found","_law_k","_law_one"],2⟩,
 ⟨"_law_names",top 43,["_law_cell","_law_many","_law_letters","_law_digits","_law_by","_law_base","_law_found","_law_k","_law_size","_law_at","_law_sign"],2⟩,
 ⟨"_law_divisor",top 41,["_law_one","_law_other"],2⟩,
 ⟨"_law_lowest",top 42,["_law_top","_law_bottom","_law_share"],2⟩,
 ⟨"_law_fraction",top 44,["_law_digits","_law_least","_law_way","_law_above","_law_below"],2⟩,
 ⟨"_law_tie",top 45,["_law_places","_law_cell","_law_bound","_law_big","_law_digits","_law_worth","_law_one","_law_other","_law_word_here"],3⟩,
 ⟨"_law_web",top 46,["_law_script","_law_at","_law_first","_law_digits","_law_places","_law_ties","_law_k","_law_bound","_law_begin","_law_end"],2⟩,
 ⟨"_law_written",top 47,["_law_one"],1⟩,
 ⟨"_law_lines",top 48,["_law_web_here","_law_lines_here","_law_one","_law_other","_law_word_here","_law_length","_law_worth","_law_last"],1⟩,
 ⟨"_law_word",top 56,["_law_web_here","_law_kind","_law_some"],2⟩,
 ⟨"_law_row",top 57,["_law_web_here","_law_lines_here","_law_kind","_law_tie_here","_law_some"],3⟩,
 ⟨"_law_bent",top 58,["_law_web_here","_law_lines_here","_law_digits","_law_way","_law_at","_law_spot","_law_kind","_law_words","_law_two"],3⟩,
 ⟨"_law_is_name",top 52,["_law_thing"],1⟩,
 ⟨"_law_figures",top 49,["_law_signs"],1⟩,
 ⟨"_law_number",top 50,["_law_text","_law_above","_law_stroke","_law_below","_law_head","_law_top"],1⟩,
 ⟨"_law_tie_of",top 51,["_law_words","_law_places","_law_length","_law_worth"],2⟩,
 ⟨"_law_stands",top 53,["_law_web_here","_law_words","_law_places","_law_ties","_law_ends"],2⟩,
 ⟨"_law_due",top 54,["_law_text","_law_web_here","_law_rows","_law_k","_law_words"],1⟩,
 ⟨"is_name",top 10,["thing"],1⟩,
 ⟨"takes_place",top 33,["draft","name"],2⟩,
 ⟨"takes_tie",top 35,["draft","tie"],2⟩,
 ⟨"has_figures",top 30,["text","figures"],1⟩,
 ⟨"is_whole",top 8,["thing"],1⟩,
 ⟨"common_divisor",top 4,["one","other","larger","smaller","rest"],2⟩,
 ⟨"is_ratio",top 9,["thing"],1⟩,
 ⟨"shown_ratio",top 28,["one"],1⟩,
 ⟨"read_ratio",top 29,["text","parts","one"],1⟩,
 ⟨"is_length",top 22,["thing"],1⟩,
 ⟨"is_worth",top 23,["thing"],1⟩,
 ⟨"is_tie",top 21,["thing"],1⟩,
 ⟨"read_tie",top 34,["words","length","worth","tie"],1⟩,
 ⟨"takes_end",top 36,["draft","name"],2⟩,
 ⟨"takes_row",top 32,["draft","words"],2⟩,
 ⟨"read_web",top 31,["text","draft","rows","number","row"],1⟩,
 ⟨"_law_whole",top 40,["_law_thing"],1⟩,
 ⟨"_law_right",top 55,["_law_text","_law_row_here","_law_web_here","_law_found","_law_refused_here","_law_told","e"],1⟩,
 ⟨"_law_refused",top 59,["_law_thing","_law_row_here","e"],1⟩,
 ⟨"law",top 60,["_law_script","_law_web_here","_law_lines_here","_law_cell","_law_digits","_law_bent_here"],1⟩]
def sc:MW rows:=by decide +kernel
theorem nd(i:Nat){r:Rw}(h:rows[i]?=some r:=by rfl):r.N.Nodup:=(sc r (Pp h)).nd
def bn:∀r∈rows,MQ r:=by
 unfold rows
 repeat refine List.forall_mem_cons.mpr ⟨by first|exact Ox|exact Ow|exact Ov|exact bd4|exact bd5,?_⟩
 exact λ_ h=>nomatch h
abbrev jl:Qe:=zi (top 27) 0
def Aj:fH ["self"] ["self"] (defScope jl):=⟨rfl,rfl,rfl,by decide +kernel,rfl,by decide +kernel,by decide +kernel⟩
abbrev m7:Qe:=zi (top 2) 0
def xh:fH ["self","row"] ["self","row"] (defScope m7):=⟨rfl,rfl,rfl,by decide +kernel,rfl,by decide +kernel,by decide +kernel⟩
set_option genInjectivity false in
set_option genSizeOfSpec false in
structure Adr where
 jA:OE
 k7:Pz
 bC:OE
 fZ:OE
 qp:Pz
 cm:OE
 de:OE
 A:Nat->OE
 Q:Nat->Pz
set_option genInjectivity false in
set_option genSizeOfSpec false in
structure Txt (K:OH) (mg:OG->Option OB) (t:Adr):Prop where
 g:TG rows K mg t.A t.Q
 n_ValueError:mg "ValueError"=none
 n_abs:mg "abs"=none
 n_all:mg "all"=none
 n_bool:mg "bool"=none
 n_enumerate:mg "enumerate"=none
 n_int:mg "int"=none
 n_isinstance:mg "isinstance"=none
 n_len:mg "len"=none
 n_max:mg "max"=none
 n_range:mg "range"=none
 n_str:mg "str"=none
 n_tuple:mg "tuple"=none
 Dp:mg "Draft"=some (.ref t.bC)
 Ew:zT K "__init__" "Draft.__init__" jl t.fZ t.qp
 qX:gk K t.qp ["self"] []
 CU:Mk K t.bC t.fZ
 vj:MH K "Draft" ["places","ties","ends"] t.bC
 qr:mg "CutError"=some (.ref t.cm)
 xS:mW K "CutError" t.cm
 gR:mg "NoText"=some (.ref t.de)
 vS:mW K "NoText" t.de
 jg:wG K "NoText" t.de
 bP:N5 K "NoText.__init__" t.de t.jA t.k7 m7 ["self","row"] ["row"]
 u5:En K t.cm
 rs:EF K [t.cm,t.de] [("NoText",t.de,[true,true])]
 hZ:wK K mg "FEWEST_PLACES" (.int 2)
 nI:wK K mg "FIGURES" (.str "0123456789")
 qW:wK K mg "LENGTH" (.int 3)
 nH:wK K mg "LETTERS" (.str "abcdefghijklmnopqrstuvwxyz")
 iL:wK K mg "LONGEST_NAME" (.int 8)
 iK:wK K mg "MOST_FIGURES" (.int 60)
 jc:wK K mg "MOST_PLACES" (.int 7)
 kM:wK K mg "MOST_TIES" (.int 14)
 wB:wK K mg "ONE" (.int 0)
 mM:wK K mg "OTHER" (.int 1)
 uT:wK K mg "WORD" (.int 2)
 uS:wK K mg "WORDS" (.tup [(.str "one"),(.str "both")])
 uR:wK K mg "WORTH" (.int 4)
section
variable {P:Pr}{w:PJ}{K:OH}{mg:OG->Option OB}{base:OY}{t:Adr}
def oF(T:Txt K mg t):∀x C,jB jO x=true->XC K x C->SR K (.ref C) (.ref t.cm)=some true:=Di T.rs T.xS 0 rfl rfl
def lJ(T:Txt K mg t):∀x C,jB jv x=true->XC K x C->SR K (.ref C) (.ref t.de)=some true:=Di T.rs T.vS 1 rfl rfl
def BP(T:Txt K mg t):oq K BQ (.ref t.de):=IG T.rs T.vS 1 rfl rfl
def BN(T:Txt K mg t):oq K BO (.type "ValueError"):=IF T.rs rfl
def sL(T:Txt K mg t):Ii K lR "row" :=
 ji (p:=λ_ C _=>Q2 K C=true/\eH K C "row") λq hq=>by
  simp only[O4,QZ,or_false]at hq;rcases hq with rfl
  .exact⟨t.de,T.jg.xc,T.bP.xs.hd,T.bP.xs.no _ (by decide)⟩
def xR(T:Txt K mg t):gq P w K mg base CX0 1 t.fZ t.qp ["self"] (IQ K ["places","ties","ends"]):=Dt T.Ew Aj rfl (by decide) (OP rfl)
def gQ(T:Txt K mg t):gq P w K mg base CX0 1 t.jA t.k7 ["self","row"] (Fg K ["row"]) :=
 Mc T.bP.Fi xh rfl (by decide) λcdv A outer s0 H E=>(KW (i:=1) T.u5 rfl T.qr (yH (i:=1) rfl (OP rfl) Jf) rfl rfl (OP rfl) (OP rfl) Im)
def kd(T:Txt K mg t):iP P w K mg base CX0 1 (t.A 0) (t.Q 0) ["_law_script","_law_k"] (spD K 2 ck) "_law_cell_at" (top 38) :=
 oD T.g sc (i:=0) rfl λ_ _ _ _ _ _ _ _=>(
 (ah (bT (aC ku (cc λ_ _ _ _=>rb _) (dv 1) (aL aQ bz rfl T.n_len PyProof.Rows.Boot.«len» (ae (dv 0) aj)) nm)
 (ah (aN (ar (dv 0) (dv 1)))
 aq)
 aq)
 (ah (aN (aK (jU ai (dv 1)) (jU ai (aL aQ bz rfl T.n_len PyProof.Rows.Boot.«len» (ae (dv 0) aj)))))
 aq)))
def gG(T:Txt K mg t):iP P w K mg base CX0 1 (t.A 1) (t.Q 1) ["_law_cell","_law_sizes"] (spD K 2 bL) "_law_draws" (top 39) :=
 oD T.g sc (i:=1) rfl λ_ _ _ _ _ _ _ _=>(
 (ah (aI (i:=2) (nd 1) rfl (OP rfl) (aL (Bi rfl) Kp rfl T.n_max PyProof.Rows.Boot.«max» (ae (dv 0) (ae (qF (ye ai) (dv 0)) aj))))
 (ah (aI (i:=3) (nd 1) rfl (OP rfl) (dv 2))
 (ah (yb (i:=4) (nd 1) rfl (OP rfl) (qD aj))
 (ah (uL QJ rfl rfl T.n_range (aL aQ bz rfl T.n_len PyProof.Rows.Boot.«len» (ae (dv 1) aj)) (fE (i:=5) (nd 1) rfl (OP rfl)) jh
 (ah (bT (DW.dt (lT (aC CL (cc λ_ _ _ _=>rb _) (dv 2) (yd ai ai) nm) (fL (aC nQ (cc λ_ _ _ _=>rb _) (dv 3) ai nm))))
 (ah (jE (i:=4) rfl (OP rfl) (di (dv 3) (ar (dv 1) (dv 5))))
 (ah (aI (i:=3) (nd 1) rfl (OP rfl) (qH (dv 3) (ar (dv 1) (dv 5))))
 aq))
 (ah (aI (i:=6) (nd 1) rfl (OP rfl) (di (jU (aK (aK (aK (di (dv 2) ai) (jU (jU ai (dv 5)) (dv 5))) (jU ai (dv 5))) ai) ai) ai))
 (ah (aI (i:=6) (nd 1) rfl (OP rfl) (di (jU (aK (di (jU (dv 6) (dv 6)) ai) (dv 5)) ai) ai))
 (ah (jE (i:=4) rfl (OP rfl) (di (qH (dv 6) ai) (ar (dv 1) (dv 5))))
 aq))))
 aq))
 (ah (aN (dv 4))
 aq))))))
def rF(T:Txt K mg t):iP P w K mg base CX0 2 (t.A 2) (t.Q 2) ["_law_cell","_law_many"] (spD K 2 dS) "_law_names" (top 43) :=
 oD T.g sc (i:=2) rfl λ_ _ _ _ H _ _ hr=>(
 (ah (aI (i:=2) (nd 2) rfl (Te rfl) aB)
 (ah (aI (i:=3) (nd 2) rfl (OP rfl) (rC (gG T) hr (ae (dv 0) (ae (aK (aK (bx (ae ai (ae ai (ae ai (ae ai (ae ai aj)))))) (D4 (qD (ae ai aj)) ai)) (D4 (qD (ae ai aj)) ai)) aj))))
 (ah (aI (i:=4) (nd 2) rfl (OP rfl) (ar (bx (ae ai (ae ai (ae ai (ae ai (ae ai (ae ai (ae ai (ae ai (ae ai (ae ai (ae ai (ae ai aj))))))))))))) (ar (dv 3) ai)))
 (ah (aI (i:=5) (nd 2) rfl (OP rfl) (lh aB (ae (sS (yf ["_law_digit","_law_letters"] 1 [2] rfl (uO (aW (dv 3) (bg ai) (bg ai))) (iA (by decide)) (λs H C fp pn=>⟨λHe η=>(fE (i:=0) (show RW (["_law_digit","_law_letters"]:ci) from by decide) rfl (OP rfl)),mH,(ar (dv 1) (dv 0))⟩) ⟨rfl,rfl⟩ rfl rfl rfl rfl)) aj)))
 (ah (yb (i:=6) (nd 2) rfl (OP rfl) (qD aj))
 (ah (uL QJ rfl rfl T.n_range (dv 1) (fE (i:=7) (nd 2) rfl (OP rfl)) jh
 (ah (aI (i:=8) (nd 2) rfl (OP rfl) (aK ai (ar (dv 3) ai)))
 (ah (bT (aC (aX hr.units) bK (ar (dv 3) ai) ai nm)
 (ah (aI (i:=8) (nd 2) rfl (OP rfl) (aK ai (ar (dv 3) (aK ai (dv 7)))))
 aq)
 aq)
 (ah (aI (i:=9) (nd 2) rfl (OP rfl) (di (ar (dv 3) ai) (dv 8)))
 (ah (aI (i:=10) (nd 2) rfl (OP rfl) (ar (dv 2) (di (aK (ar (dv 3) ai) (jU (dv 7) (dv 4))) ai)))
 (ah (jE (i:=6) rfl (OP rfl) (aK (aK (aW (dv 5) cy (bg (dv 9))) (dv 10)) (aW (dv 5) (bg (aK (dv 9) ai)) (bg (dv 8)))))
 aq))))))
 (ah (aN (dv 6))
 aq))))))))
def kc(T:Txt K mg t):iP P w K mg base CX0 1 (t.A 3) (t.Q 3) ["_law_one","_law_other"] (spD K 2 cj) "_law_divisor" (top 41) :=
 oD T.g sc (i:=3) rfl λ_ _ _ _ _ _ _ hr=>(
 (ah (wq _ QJ (aC (eD hr.units) gr (dv 1) ai nm)
 (ah (Kk (i:=0) (j:=1) rfl (nd 3) rfl rfl (by decide) rfl rfl (ae (dv 1) (ae (di (dv 0) (dv 1)) aj)) rfl)
 aq))
 (ah (aN (aL qU yk rfl T.n_abs PyProof.Rows.Boot.«abs» (ae (dv 0) aj)))
 aq)))
def kB(T:Txt K mg t):iP P w K mg base CX0 2 (t.A 4) (t.Q 4) ["_law_top","_law_bottom"] (spD K 2 cZ) "_law_lowest" (top 42) :=
 oD T.g sc (i:=4) rfl λ_ _ _ _ _ _ _ hr=>(
 (ah (aI (i:=2) (nd 4) rfl (OP rfl) (rC (kc T) hr (ae (dv 0) (ae (dv 1) aj))))
 (ah (aN (gY (ae (qH (dv 0) (dv 2)) (ae (qH (dv 1) (dv 2)) aj))))
 aq)))
def ju(T:Txt K mg t):iP P w K mg base CX0 3 (t.A 5) (t.Q 5) ["_law_digits","_law_least"] (spD K 2 bZ) "_law_fraction" (top 44) :=
 oD T.g sc (i:=5) rfl λ_ _ _ _ _ _ _ hr=>(
 (ah (qz rfl (dv 0) (bU (i:=2) (nd 5) rfl (OP rfl) (bU (i:=3) (nd 5) rfl (OP rfl) (bU (i:=4) (nd 5) rfl (OP rfl) jT))))
 (ah (bT (aC ku (cc λ_ _ _ _=>rb _) (dv 2) ai nm)
 (ah (aN (gY (ae (aK (dv 1) (di (dv 3) ai)) (ae ai aj))))
 aq)
 aq)
 (ah (bT (aC ku (cc λ_ _ _ _=>rb _) (dv 2) ai nm)
 (ah (aN (rC (kB T) hr (ae (aK (dv 1) (di (dv 3) ai)) (ae (aK ai (di (dv 4) ai)) aj))))
 aq)
 aq)
 (ah (aN (rC (kB T) hr (ae (aK (dv 1) (dv 3)) (ae (aK ai (dv 4)) aj))))
 aq)))))
def vD(T:Txt K mg t):iP P w K mg base CX0 4 (t.A 6) (t.Q 6) ["_law_places","_law_cell","_law_bound"] (spD K 3 eP) "_law_tie" (top 45) :=
 oD T.g sc (i:=6) rfl λ_ _ _ _ _ _ _ hr=>(
 (ah (aI (i:=3) (nd 6) rfl (OP rfl) (bx (ae ai (ae (dv 2) (ae (dv 2) aj)))))
 (ah (aI (i:=4) (nd 6) rfl (OP rfl) (rC (gG T) hr (ae (dv 1) (ae (aK (aK (bx (ae (aL aQ bz rfl T.n_len PyProof.Rows.Boot.«len» (ae (dv 0) aj)) (ae (qF (aL aQ bz rfl T.n_len PyProof.Rows.Boot.«len» (ae (dv 0) aj)) ai) (ae ai (ae ai aj))))) (dv 3)) (dv 3)) aj))))
 (ah (aI (i:=5) (nd 6) rfl (OP rfl) df)
 (ah (bT (aC nQ (cc λ_ _ _ _=>rb _) (ar (dv 4) ai) ai nm)
 (ah (aI (i:=5) (nd 6) rfl (OP rfl) (rC (ju T) hr (ae (aW (dv 4) (bg ai) (bg ai)) (ae ai aj))))
 aq)
 aq)
 (ah (aI (i:=6) (nd 6) rfl (OP rfl) (ar (dv 0) (ar (dv 4) ai)))
 (ah (aI (i:=7) (nd 6) rfl (OP rfl) (ar (dv 0) (di (aK (aK (ar (dv 4) ai) ai) (ar (dv 4) ai)) (aL aQ bz rfl T.n_len PyProof.Rows.Boot.«len» (ae (dv 0) aj)))))
 (ah (aI (i:=8) (nd 6) rfl (OP rfl) (ar (bx (ae aB (ae aB aj))) (ar (dv 4) ai)))
 (ah (aN (gY (ae (dv 6) (ae (dv 7) (ae (dv 8) (ae (rC (ju T) hr (ae (aW (dv 4) (bg ai) (bg ai)) (ae ai aj))) (ae (dv 5) aj)))))))
 aq)))))))))
def vC(T:Txt K mg t):iP P w K mg base CX0 5 (t.A 7) (t.Q 7) ["_law_script","_law_at"] (spD K 2 gC) "_law_web" (top 46) :=
 oD T.g sc (i:=7) rfl λ_ _ _ _ _ _ _ hr=>(
 (ah (aI (i:=2) (nd 7) rfl (OP rfl) (rC (kd T) hr (ae (dv 0) (ae (dv 1) aj))))
 (ah (aI (i:=3) (nd 7) rfl (OP rfl) (rC (gG T) hr (ae (dv 2) (ae (bx (ae ai (ae ai (ae ai (ae ai aj))))) aj))))
 (ah (aI (i:=4) (nd 7) rfl (OP rfl) (rC (rF T) hr (ae (qH (dv 2) ai) (ae (aK ai (ar (dv 3) ai)) aj))))
 (ah (yb (i:=5) (nd 7) rfl (OP rfl) (qD aj))
 (ah (uL QJ rfl rfl T.n_range (ar (dv 3) ai) (fE (i:=6) (nd 7) rfl (OP rfl)) jh
 (ah (aI (i:=7) (nd 7) rfl (OP rfl) (ar (bx (ae (qF (yd ai ai) ai) (ae (yd ai ai) aj))) (dj sX Kq rfl T.n_int PyProof.Rows.Boot.«int» (ae (cN nQ (cc λ_ _ _ _=>rb _) (di (dv 6) ai) ai nm) aj))))
 (ah (jE (i:=5) rfl (OP rfl) (rC (vD T) hr (ae (dv 4) (ae (rC (kd T) hr (ae (dv 0) (ae (aK (aK (dv 1) ai) (dv 6)) aj))) (ae (dv 7) aj)))))
 aq)))
 (ah (aI (i:=8) (nd 7) rfl (OP rfl) (di (ar (dv 3) ai) (aL aQ bz rfl T.n_len PyProof.Rows.Boot.«len» (ae (dv 4) aj))))
 (ah (aI (i:=9) (nd 7) rfl (OP rfl) (di (aK (aK (dv 8) ai) (di (ar (dv 3) ai) (qF (aL aQ bz rfl T.n_len PyProof.Rows.Boot.«len» (ae (dv 4) aj)) ai))) (aL aQ bz rfl T.n_len PyProof.Rows.Boot.«len» (ae (dv 4) aj))))
 (ah (aN (gY (ae (dv 4) (ae (dv 5) (ae (ar (dv 4) (dv 8)) (ae (ar (dv 4) (dv 9)) aj))))))
 aq)))))))))
def j8(T:Txt K mg t):iP P w K mg base CX0 1 (t.A 8) (t.Q 8) ["_law_one"] (spD K 1 bY) "_law_written" (top 47) :=
 oD T.g sc (i:=8) rfl λ_ _ _ _ _ _ _ hr=>(
 (ah (bT (aC (aX hr.units) bK (ar (dv 0) ai) ai nm)
 (ah (aN (dj fj nG rfl T.n_str PyProof.Rows.Boot.«str» (ae (ar (dv 0) ai) aj)))
 aq)
 aq)
 (ah (aN (aK (aK (dj fj nG rfl T.n_str PyProof.Rows.Boot.«str» (ae (ar (dv 0) ai) aj)) aB) (dj fj nG rfl T.n_str PyProof.Rows.Boot.«str» (ae (ar (dv 0) ai) aj))))
 aq)))
def rG(T:Txt K mg t):iP P w K mg base CX0 2 (t.A 9) (t.Q 9) ["_law_web_here"] (spD K 1 ij) "_law_lines" (top 48) :=
 oD T.g sc (i:=9) rfl λ_ _ _ _ H _ _ hr=>(
 (ah (G6 (i:=1) (nd 9) rfl rfl (yf ["_law_one"] 1 [] rfl (uO (ar (dv 0) ai)) (iA (by decide)) (λs H C fp pn=>⟨λHe η=>(fE (i:=0) (show RW (["_law_one"]:ci) from by decide) rfl (OP rfl)),mH,(aK aB (dv 0))⟩) ⟨rfl,rfl⟩ rfl rfl rfl rfl))
 (ah (DU QJ rfl (ar (dv 0) ai) (D0 rfl (bU (i:=2) (nd 9) rfl (OP rfl) (bU (i:=3) (nd 9) rfl (OP rfl) (bU (i:=4) (nd 9) rfl (OP rfl) (bU (i:=5) (nd 9) rfl (OP rfl) (bU (i:=6) (nd 9) rfl (OP rfl) jT)))))) rW
 (ah (aI (i:=7) (nd 9) rfl (OP rfl) aB)
 (ah (bT (aC yT yV (dv 6) df nm)
 (ah (aI (i:=7) (nd 9) rfl (OP rfl) (rC (j8 T) hr (ae (dv 6) aj)))
 aq)
 aq)
 (ah (jE (i:=1) rfl (OP rfl) (lh aB (ae (bx (ae aB (ae (dv 2) (ae (dv 3) (ae (dv 4) (ae (rC (j8 T) hr (ae (dv 5) aj)) (ae (dv 7) aj))))))) aj)))
 aq))))
 (ah (aN (aK (dv 1) (bx (ae (aK aB (ar (dv 0) ai)) (ae (aK aB (ar (dv 0) ai)) aj)))))
 aq))))
def mh(T:Txt K mg t):iP P w K mg base CX0 1 (t.A 10) (t.Q 10) ["_law_web_here","_law_kind"] (spD K 2 gP) "_law_word" (top 56) :=
 oD T.g sc (i:=10) rfl λ_ _ _ _ _ _ _ _=>(
 (ah (aI (i:=2) (nd 10) rfl (OP rfl) (bx (ae aB (ae aB (ae aB (ae aB (ae aB (ae aB (ae aB (ae aB aj))))))))))
 (ah (aI (i:=2) (nd 10) rfl (OP rfl) (aK (dv 2) (bx (ae aB (ae aB (ae aB (ae aB (ae aB (ae aB (ae aB aj))))))))))
 (ah (aI (i:=2) (nd 10) rfl (OP rfl) (aK (dv 2) (bx (ae aB (ae aB (ae aB (ae aB (ae aB aj))))))))
 (ah (aI (i:=2) (nd 10) rfl (OP rfl) (aK (dv 2) (bx (ae (mI aB ai) (ae (mI aB ai) (ae (aK aB (mI aB ai)) (ae (aK aB (mI aB ai)) aj)))))))
 (ah (aI (i:=2) (nd 10) rfl (OP rfl) (aK (dv 2) (bx (ae aB (ae aB aj)))))
 (ah (aN (ar (aK (dv 2) (bx (ae (ar (ar (dv 0) ai) ai) (ae (ar (ar (dv 0) ai) (ye ai)) (ae (ar (dv 0) ai) (ae (ar (dv 0) ai) (ae aB (ae (mI aB ai) aj)))))))) (dv 1)))
 aq)))))))
def vE(T:Txt K mg t):iP P w K mg base CX0 1 (t.A 11) (t.Q 11) ["_law_web_here","_law_lines_here","_law_kind"] (spD K 3 jN) "_law_row" (top 57) :=
 oD T.g sc (i:=11) rfl λ_ _ _ _ _ _ _ _=>(
 (ah (aI (i:=3) (nd 11) rfl (OP rfl) (lh aB (ae (bx (ae aB (ae (ar (ar (dv 0) ai) ai) (ae (ar (ar (dv 0) ai) ai) (ae aB (ae aB (ae aB aj))))))) aj)))
 (ah (aI (i:=4) (nd 11) rfl (OP rfl) (bx (ae aB (ae aB (ae aB (ae (aK aB (ar (ar (dv 0) ai) ai)) aj))))))
 (ah (aI (i:=4) (nd 11) rfl (OP rfl) (aK (dv 4) (bx (ae (dv 3) (ae (aK aB (ar (dv 0) ai)) (ae (aK aB (ar (dv 0) ai)) aj))))))
 (ah (aI (i:=4) (nd 11) rfl (OP rfl) (aK (dv 4) (bx (ae (aK aB (ar (dv 0) ai)) (ae (aK aB (ar (dv 0) ai)) (ae (ar (dv 1) ai) (ae (ar (dv 1) (ye ai)) (ae aB aj))))))))
 (ah (aI (i:=4) (nd 11) rfl (OP rfl) (aK (dv 4) (bx (ae aB (ae aB (ae aB (ae aB aj)))))))
 (ah (aN (ar (dv 4) (dv 2)))
 aq)))))))
def mi(T:Txt K mg t):iP P w K mg base CX0 2 (t.A 12) (t.Q 12) ["_law_web_here","_law_lines_here","_law_digits"] (spD K 3 bH) "_law_bent" (top 58) :=
 oD T.g sc (i:=12) rfl λ_ _ _ _ _ _ _ hr=>(
 (ah (qz rfl (dv 2) (bU (i:=3) (nd 12) rfl (OP rfl) (bU (i:=4) (nd 12) rfl (OP rfl) (bU (i:=5) (nd 12) rfl (OP rfl) (bU (i:=6) (nd 12) rfl (OP rfl) jT)))))
 (ah (aI (i:=4) (nd 12) rfl (OP rfl) (di (dv 4) (aL aQ bz rfl T.n_len PyProof.Rows.Boot.«len» (ae (dv 1) aj))))
 (ah (aI (i:=7) (nd 12) rfl (OP rfl) (jF (ar (dv 1) (dv 4)) aB))
 (ah (aI (i:=5) (nd 12) rfl (OP rfl) (di (dv 5) (aL aQ bz rfl T.n_len PyProof.Rows.Boot.«len» (ae (dv 7) aj))))
 (ah (bT (aC (aX hr.units) bK (dv 3) ai nm)
 (ah (aN (aK (aW (dv 1) cy (bg (dv 4))) (aW (dv 1) (bg (aK (dv 4) ai)) cy)))
 aq)
 aq)
 (ah (bT (aC (aX hr.units) bK (dv 3) ai nm)
 (ah (aN (aK (aW (dv 1) cy (bg (aK (dv 4) ai))) (aW (dv 1) (bg (dv 4)) cy)))
 aq)
 aq)
 (ah (bT (aC (aX hr.units) bK (dv 3) ai nm)
 (ah (aI (i:=8) (nd 12) rfl (OP rfl) (aW (dv 1) (bg (dv 4)) (bg (aK (dv 4) ai))))
 (ah (aN (aK (aK (aW (dv 1) cy (bg (dv 4))) (Km (dv 8))) (aW (dv 1) (bg (aK (dv 4) ai)) cy)))
 aq))
 aq)
 (ah (bT (aC (aX hr.units) bK (dv 3) ai nm)
 (ah (aN (aW (dv 1) cy (bg (dv 4))))
 aq)
 aq)
 (ah (bT (aC (aX hr.units) bK (dv 3) ai nm)
 (ah (aI (i:=7) (nd 12) rfl (OP rfl) (aK (aK (aW (dv 7) cy (bg (dv 5))) (bx (ae (rC (mh T) hr (ae (dv 0) (ae (dv 6) aj))) aj))) (aW (dv 7) (bg (dv 5)) cy)))
 aq)
 aq)
 (ah (bT (aC (aX hr.units) bK (dv 3) ai nm)
 (ah (aI (i:=7) (nd 12) rfl (OP rfl) (aK (aW (dv 7) cy (bg (dv 5))) (aW (dv 7) (bg (aK (dv 5) ai)) cy)))
 aq)
 aq)
 (ah (bT (DW.dt (cJ (aC (aX hr.units) bK (dv 3) ai nm) (bw (aC (aX hr.units) bK (dv 3) ai nm))))
 (ah (aI (i:=7) (nd 12) rfl (OP rfl) (aK (aK (aW (dv 7) cy (bg (dv 5))) (bx (ae (rC (mh T) hr (ae (dv 0) (ae (dv 6) aj))) aj))) (aW (dv 7) (bg (aK (dv 5) ai)) cy)))
 aq)
 aq)
 (ah (bT (aC nQ (cc λ_ _ _ _=>rb _) (dv 3) ai nm)
 (ah (aN (aK (aK (aW (dv 1) cy (bg (aK (dv 4) (di (dv 3) ai)))) (bx (ae (rC (vE T) hr (ae (dv 0) (ae (dv 1) (ae (di (dv 6) ai) aj)))) aj))) (aW (dv 1) (bg (aK (dv 4) (di (dv 3) ai))) cy)))
 aq)
 aq)
 (ah (aN (aK (aK (aW (dv 1) cy (bg (dv 4))) (bx (ae (lh aB (ae (dv 7) aj)) aj))) (aW (dv 1) (bg (aK (dv 4) ai)) cy)))
 aq))))))))))))))
def oB(T:Txt K mg t):iP P w K mg base CX0 1 (t.A 13) (t.Q 13) ["_law_thing"] (spD K 1 dJ) "_law_is_name" (top 52) :=
 oD T.g sc (i:=13) rfl λ_ _ _ _ H _ _ hr=>(
 (ah (bT (DW.dt (cJ (aC ku (cc λ_ _ _ _=>rb _) (aL aQ bz rfl T.n_len PyProof.Rows.Boot.«len» (ae (dv 0) aj)) ai nm) (bw (aC nQ (cc λ_ _ _ _=>rb _) (aL aQ bz rfl T.n_len PyProof.Rows.Boot.«len» (ae (dv 0) aj)) ai nm))))
 (ah (aN eK)
 aq)
 aq)
 (ah (aN (cN (aX hr.units) bK (sS (yf ["_law_sign"] 1 [] rfl (uN (dv 0)) (iA (by decide)) (λs H C fp pn=>⟨λHe η=>(fE (i:=0) (show RW (["_law_sign"]:ci) from by decide) rfl (OP rfl)),(zF (aC (eN hr.units) eO (dv 0) aB rfl)),(dv 0)⟩) ⟨rfl,rfl⟩ rfl rfl rfl rfl)) (bx aj) nm))
 aq)))
def ka(T:Txt K mg t):iP P w K mg base CX0 1 (t.A 14) (t.Q 14) ["_law_signs"] (spD K 1 bR) "_law_figures" (top 49) :=
 oD T.g sc (i:=14) rfl λ_ _ _ _ H _ _ hr=>(
 (ah (bT (DW.dt (cJ (aC (aX hr.units) bK (dv 0) aB nm) (cJ (aC nQ (cc λ_ _ _ _=>rb _) (aL aQ bz rfl T.n_len PyProof.Rows.Boot.«len» (ae (dv 0) aj)) ai nm) (bw (DW.dt (lT (aC (aX hr.units) bK (ar (dv 0) ai) aB nm) (fL (aC (eD hr.units) gr (dv 0) aB nm))))))))
 (ah (aN eK)
 aq)
 aq)
 (ah (aN (cN (aX hr.units) bK (sS (yf ["_law_sign"] 1 [] rfl (uN (dv 0)) (iA (by decide)) (λs H C fp pn=>⟨λHe η=>(fE (i:=0) (show RW (["_law_sign"]:ci) from by decide) rfl (OP rfl)),(zF (aC (eN hr.units) eO (dv 0) aB rfl)),(dv 0)⟩) ⟨rfl,rfl⟩ rfl rfl rfl rfl)) (bx aj) nm))
 aq)))
def kA(T:Txt K mg t):iP P w K mg base CX0 2 (t.A 15) (t.Q 15) ["_law_text"] (spD K 1 aH) "_law_number" (top 50) :=
 oD T.g sc (i:=15) rfl λ_ _ _ _ _ _ _ hr=>(
 (ah (qz rfl (G8 (dv 0) aB) (bU (i:=1) (nd 15) rfl (OP rfl) (bU (i:=2) (nd 15) rfl (OP rfl) (bU (i:=3) (nd 15) rfl (OP rfl) jT))))
 (ah (aI (i:=4) (nd 15) rfl (OP rfl) (aW (dv 1) (bg (dj gF jY rfl T.n_int PyProof.Rows.Boot.«int» (ae (cN (aX hr.units) bK (aW (dv 1) cy (bg ai)) aB nm) aj))) cy))
 (ah (bT (DW.dt (cJ (dU (dF (rC (ka T) hr (ae (dv 4) aj)))) (bw (aC (aX hr.units) bK (dv 1) aB nm))))
 (ah (aN df)
 aq)
 aq)
 (ah (aI (i:=5) (nd 15) rfl (OP rfl) (dj gF jY rfl T.n_int PyProof.Rows.Boot.«int» (ae (dv 4) aj)))
 (ah (bT (aC (aX hr.units) bK (aW (dv 1) cy (bg ai)) aB nm)
 (ah (aI (i:=5) (nd 15) rfl (OP rfl) (qF ai (dv 5)))
 aq)
 aq)
 (ah (bT (aC (aX hr.units) bK (dv 2) aB nm)
 (ah (aN (gY (ae (dv 5) (ae ai aj))))
 aq)
 aq)
 (ah (bT (DW.dt (cJ (dU (dF (rC (ka T) hr (ae (dv 3) aj)))) (cJ (aC ku (cc λ_ _ _ _=>rb _) (dj gF jY rfl T.n_int PyProof.Rows.Boot.«int» (ae (dv 3) aj)) ai nm) (bw (aC (eD hr.units) gr (rC (kc T) hr (ae (dv 5) (ae (dj gF jY rfl T.n_int PyProof.Rows.Boot.«int» (ae (dv 3) aj)) aj))) ai nm)))))
 (ah (aN df)
 aq)
 aq)
 (ah (aN (gY (ae (dv 5) (ae (dj gF jY rfl T.n_int PyProof.Rows.Boot.«int» (ae (dv 3) aj)) aj))))
 aq)))))))))
def kz(T:Txt K mg t):iP P w K mg base CX0 3 (t.A 16) (t.Q 16) ["_law_words","_law_places"] (spD K 2 aY) "_law_tie_of" (top 51) :=
 oD T.g sc (i:=16) rfl λ_ _ _ _ _ _ _ hr=>(
 (ah (bT (DW.dt (cJ (aC (eD hr.units) gr (aL aQ bz rfl T.n_len PyProof.Rows.Boot.«len» (ae (dv 0) aj)) ai nm) (cJ (aC (eN hr.units) eO (ar (dv 0) ai) (bx (ae aB (ae aB aj))) rfl) (bw (aC (aX hr.units) bK (ar (dv 0) ai) (ar (dv 0) ai) nm)))))
 (ah (aN df)
 aq)
 aq)
 (ah (aI (i:=2) (nd 16) rfl (OP rfl) (rC (kA T) hr (ae (ar (dv 0) ai) aj)))
 (ah (aI (i:=3) (nd 16) rfl (OP rfl) df)
 (ah (bT (aC (eD hr.units) gr (ar (dv 0) ai) aB nm)
 (ah (aI (i:=3) (nd 16) rfl (OP rfl) (rC (kA T) hr (ae (ar (dv 0) ai) aj)))
 (ah (bT (DW.dt (cJ (aC nj nk (dv 3) df nm) (bw (aC pT (cc λ_ _ _ _=>rb _) (ar (dv 3) ai) ai nm))))
 (ah (aN df)
 aq)
 aq)
 aq))
 aq)
 (ah (bT (DW.dt (cJ (aC nj nk (dv 2) df nm) (cJ (aC ku (cc λ_ _ _ _=>rb _) (ar (dv 2) ai) ai nm) (cJ (aC (eN hr.units) eO (ar (dv 0) ai) (dv 1) rfl) (bw (aC (eN hr.units) eO (ar (dv 0) ai) (dv 1) rfl))))))
 (ah (aN df)
 aq)
 aq)
 (ah (aN (gY (ae (ar (dv 0) ai) (ae (ar (dv 0) ai) (ae (ar (dv 0) ai) (ae (dv 2) (ae (dv 3) aj)))))))
 aq)))))))
def pY(T:Txt K mg t):iP P w K mg base CX0 4 (t.A 17) (t.Q 17) ["_law_web_here","_law_words"] (spD K 2 aA) "_law_stands" (top 53) :=
 oD T.g sc (i:=17) rfl λ_ _ _ _ _ _ _ hr=>(
 (ah (qz rfl (dv 0) (bU (i:=2) (nd 17) rfl (OP rfl) (bU (i:=3) (nd 17) rfl (OP rfl) (bU (i:=4) (nd 17) rfl (OP rfl) jT))))
 (ah (bT (aC (aX hr.units) bK (ar (dv 1) ai) aB nm)
 (ah (bT (DW.dt (cJ (aC (eD hr.units) gr (dv 3) (bx aj) nm) (cJ (aC (eD hr.units) gr (dv 4) (bx aj) nm) (cJ (aC nQ (cc λ_ _ _ _=>rb _) (aL aQ bz rfl T.n_len PyProof.Rows.Boot.«len» (ae (dv 2) aj)) ai nm) (bw (aC (eD hr.units) gr (aL aQ bz rfl T.n_len PyProof.Rows.Boot.«len» (ae (dv 1) aj)) ai nm))))))
 (ah (aN eK)
 aq)
 aq)
 (ah (aN (eS (rC (oB T) hr (ae (ar (dv 1) ai) aj)) (gb (cN (eN hr.units) eO (ar (dv 1) ai) (dv 2) rfl))))
 aq))
 aq)
 (ah (bT (aC ku (cc λ_ _ _ _=>rb _) (aL aQ bz rfl T.n_len PyProof.Rows.Boot.«len» (ae (dv 2) aj)) ai nm)
 (ah (aN eK)
 aq)
 aq)
 (ah (bT (aC (aX hr.units) bK (ar (dv 1) ai) aB nm)
 (ah (aN (eS (cN (aX hr.units) bK (dv 4) (bx aj) nm) (eS (cN ku (cc λ_ _ _ _=>rb _) (aL aQ bz rfl T.n_len PyProof.Rows.Boot.«len» (ae (dv 3) aj)) ai nm) (gb (cN yT yV (rC (kz T) hr (ae (dv 1) (ae (dv 2) aj))) df nm)))))
 aq)
 aq)
 (ah (bT (DW.dt (cJ (aC (eD hr.units) gr (aL aQ bz rfl T.n_len PyProof.Rows.Boot.«len» (ae (dv 1) aj)) ai nm) (bw (aC (eN hr.units) eO (ar (dv 1) ai) (dv 2) rfl))))
 (ah (aN eK)
 aq)
 aq)
 (ah (bT (aC (aX hr.units) bK (ar (dv 1) ai) aB nm)
 (ah (aN (cN (aX hr.units) bK (dv 4) (bx aj) nm))
 aq)
 aq)
 (ah (aN (eS (cN (aX hr.units) bK (ar (dv 1) ai) aB nm) (eS (cN (aX hr.units) bK (aL aQ bz rfl T.n_len PyProof.Rows.Boot.«len» (ae (dv 4) aj)) ai nm) (gb (cN (eD hr.units) gr (ar (dv 1) ai) (ar (dv 4) ai) nm)))))
 aq))))))))
def vF(T:Txt K mg t):iP P w K mg base CX0 5 (t.A 18) (t.Q 18) ["_law_text"] (spD K 1 gD) "_law_due" (top 54) :=
 oD T.g sc (i:=18) rfl λ_ _ _ _ _ _ _ hr=>(
 (xZ (i:=1) (nd 18) rfl (OP rfl) λa q=>(aU (mv λ_=>(aI (i:=2) (nd 18) rfl (OP rfl) (jF (dv 0) aB)))
 (aU (zc QJ rfl (Ba rfl T.n_range (aL aQ bz rfl T.n_len PyProof.Rows.Boot.«len» (ae (dv 2) aj))) (λ_=>(fE (i:=3) (nd 18) rfl (OP rfl))) jh
 (aU (mv λ_=>(aI (i:=4) (nd 18) rfl (OP rfl) (jF (ar (dv 2) (dv 3)) aB)))
 (aU (iV (i:=1) (dU (dF (rC (pY T) hr (ae (dv 1) (ae (dv 4) aj)))))
 (aU (iD (gY (ae (dv 3) (ae df aj))))
 bI)
 bI)
 (aU (iV (i:=1) (aC (aX hr.units) bK (ar (dv 4) ai) aB nm)
 (aU (nu (ql (i:=1) (k:=0) rfl (by decide) rfl (OP rfl)) (ar (dv 4) ai))
 bI)
 (aU (iV (i:=1) (aC (aX hr.units) bK (ar (dv 4) ai) aB nm)
 (aU (nu (ql (i:=1) (k:=1) rfl (by decide) rfl (OP rfl)) (rC (kz T) hr (ae (dv 4) (ae (ar (dv 1) ai) aj))))
 bI)
 (aU (nu (ql (i:=1) (k:=2) rfl (by decide) rfl (OP rfl)) (ar (dv 4) ai))
 bI))
 bI))
 bI))))
 (aU (iV (i:=1) (aC ku (cc λ_ _ _ _=>rb _) (aL aQ bz rfl T.n_len PyProof.Rows.Boot.«len» (ae (ar (dv 1) ai) aj)) ai nm)
 (aU (iD (gY (ae (aL aQ bz rfl T.n_len PyProof.Rows.Boot.«len» (ae (dv 2) aj)) (ae df aj))))
 bI)
 bI)
 (aU (JA (i:=1) (HG (ql (i:=1) (k:=0) rfl (by decide) rfl (OP rfl)) (ql (i:=1) (k:=1) rfl (by decide) rfl (OP rfl)) (ql (i:=1) (k:=2) rfl (by decide) rfl (OP rfl)) (ql (i:=1) (k:=2) rfl (by decide) rfl (OP rfl)) rfl rfl))
 bI))))))
def lN(T:Txt K mg t):iP P w K mg base CX0 1 (t.A 19) (t.Q 19) ["thing"] (spD K 1 m_is_name) "is_name" (top 10) :=
 oD T.g sc (i:=19) rfl λ_ _ _ _ H _ _ hr=>(
 (ah (bT (DW.dt (cJ (dU (dF (et jP rfl T.n_isinstance rfl T.n_str PyProof.Rows.Boot.«str» (dv 0)))) (bw (dU (wo pT pT (iu λ_ _ _ _=>rb _) (iu λ_ _ _ _=>rb _) iw iw ai (aL aQ bz rfl T.n_len PyProof.Rows.Boot.«len» (ae (dv 0) aj)) (eF T.iL rfl))))))
 (ah (aN eK)
 aq)
 aq)
 (ah (aN (aL (qT rfl) yj rfl T.n_all PyProof.Rows.Boot.«all» (ae (sS (yf ["sign"] 1 [] rfl (uN (dv 0)) (iA (by decide)) (λs H C fp pn=>⟨λHe η=>(fE (i:=0) (show RW (["sign"]:ci) from by decide) rfl (OP rfl)),mH,(cN (yU hr.units) yW (dv 0) (eF T.nH rfl) rfl)⟩) ⟨rfl,rfl⟩ rfl rfl rfl rfl)) aj)))
 aq)))
def pU(T:Txt K mg t):iP P w K mg base CX0 2 (t.A 20) (t.Q 20) ["draft","name"] (HA K 1 (.ins "Draft" ["places","ties","ends"]) cg) "takes_place" (top 33) :=
 oJ T.g sc (i:=20) rfl rfl λ_ _ _ _ _ _ _ _ _ _ hr=>(
 (aU (iV (i:=0) (DW.dt (cJ (aC (eD hr.units) gr (gf (dv 0)) (bx aj) nm) (cJ (aC (eD hr.units) gr (gf (dv 0)) (bx aj) nm) (bw (aC (aX hr.units) bK (aL aQ bz rfl T.n_len PyProof.Rows.Boot.«len» (ae (gf (dv 0)) aj)) (eF T.jc rfl) nm)))))
 (aU (iD eK)
 bI)
 bI)
 (aU (iV (i:=0) (DW.dt (cJ (dU (dF (rC (lN T) hr (ae (dv 1) aj)))) (bw (aC (yU hr.units) yW (dv 1) (gf (dv 0)) rfl))))
 (aU (iD eK)
 bI)
 bI)
 (aU (nu (lO (i:=0) (k:=0) rfl (by decide) rfl rfl (OP rfl)) (dv 1))
 (aU (iD eK)
 bI)))))
def uq(T:Txt K mg t):iP P w K mg base CX0 1 (t.A 21) (t.Q 21) ["draft","tie"] (HA K 1 (.ins "Draft" ["places","ties","ends"]) cB) "takes_tie" (top 35) :=
 oJ T.g sc (i:=21) rfl rfl λ_ _ _ _ _ _ _ _ _ _ hr=>(
 (aU (iV (i:=0) (DW.dt (cJ (aC nj nk (dv 1) df nm) (cJ (aC (eD hr.units) gr (gf (dv 0)) (bx aj) nm) (bw (aC (aX hr.units) bK (aL aQ bz rfl T.n_len PyProof.Rows.Boot.«len» (ae (gf (dv 0)) aj)) (eF T.kM rfl) nm)))))
 (aU (iD eK)
 bI)
 bI)
 (aU (iV (i:=0) (DW.dt (cJ (aC (eN hr.units) eO (ar (dv 1) (eF T.wB rfl)) (gf (dv 0)) rfl) (bw (aC (eN hr.units) eO (ar (dv 1) (eF T.mM rfl)) (gf (dv 0)) rfl))))
 (aU (iD eK)
 bI)
 bI)
 (aU (nu (lO (i:=0) (k:=1) rfl (by decide) rfl rfl (OP rfl)) (dv 1))
 (aU (iD eK)
 bI)))))
def pW(T:Txt K mg t):iP P w K mg base CX0 1 (t.A 22) (t.Q 22) ["text"] (spD K 1 m_has_figures) "has_figures" (top 30) :=
 oD T.g sc (i:=22) rfl λ_ _ _ _ H _ _ hr=>(
 (ah (aI (i:=1) (nd 22) rfl (OP rfl) (mJ (dF (Bb (dv 0) aB)) (aW (dv 0) (bg ai) cy) (dv 0)))
 (ah (aN (eS (D9 pT pT (iu λ_ _ _ _=>rb _) (iu λ_ _ _ _=>rb _) iw iw ai (aL aQ bz rfl T.n_len PyProof.Rows.Boot.«len» (ae (dv 1) aj)) (eF T.iK rfl)) (gb (aL (qT rfl) yj rfl T.n_all PyProof.Rows.Boot.«all» (ae (sS (yf ["sign"] 1 [] rfl (uN (dv 1)) (iA (by decide)) (λs H C fp pn=>⟨λHe η=>(fE (i:=0) (show RW (["sign"]:ci) from by decide) rfl (OP rfl)),mH,(cN (yU hr.units) yW (dv 0) (eF T.nI rfl) rfl)⟩) ⟨rfl,rfl⟩ rfl rfl rfl rfl)) aj)))))
 aq)))
def nS(T:Txt K mg t):iP P w K mg base CX0 1 (t.A 23) (t.Q 23) ["thing"] (spD K 1 m_is_whole) "is_whole" (top 8) :=
 oD T.g sc (i:=23) rfl λ_ _ _ _ _ _ _ _=>(
 (ah (aN (eS (et qk rfl T.n_isinstance rfl T.n_int PyProof.Rows.Boot.«int» (dv 0)) (gb (D6 (et nV rfl T.n_isinstance rfl T.n_bool PyProof.Rows.Boot.«bool» (dv 0))))))
 aq))
def mf(T:Txt K mg t):iP P w K mg base CX0 1 (t.A 24) (t.Q 24) ["one","other"] (spD K 2 m_common_divisor) "common_divisor" (top 4) :=
 oD T.g sc (i:=24) rfl λ_ _ _ _ _ _ _ hr=>(
 (ah (aI (i:=2) (nd 24) rfl (OP rfl) (aL qU yk rfl T.n_abs PyProof.Rows.Boot.«abs» (ae (dv 0) aj)))
 (ah (aI (i:=3) (nd 24) rfl (OP rfl) (aL qU yk rfl T.n_abs PyProof.Rows.Boot.«abs» (ae (dv 1) aj)))
 (ah (wq _ QJ (aC (eD hr.units) gr (dv 3) ai nm)
 (ah (aI (i:=4) (nd 24) rfl (OP rfl) (di (dv 2) (dv 3)))
 (ah (aI (i:=2) (nd 24) rfl (OP rfl) (dv 3))
 (ah (aI (i:=3) (nd 24) rfl (OP rfl) (dv 4))
 aq))))
 (ah (aN (dv 2))
 aq)))))
def kv(T:Txt K mg t):iP P w K mg base CX0 2 (t.A 25) (t.Q 25) ["thing"] (spD K 1 m_is_ratio) "is_ratio" (top 9) :=
 oD T.g sc (i:=25) rfl λ_ _ _ _ _ _ _ hr=>(
 (ah (bT (DW.dt (cJ (dU (dF (et mn rfl T.n_isinstance rfl T.n_tuple PyProof.Rows.Boot.«tuple» (dv 0)))) (bw (aC (eD hr.units) gr (aL aQ bz rfl T.n_len PyProof.Rows.Boot.«len» (ae (dv 0) aj)) ai nm))))
 (ah (aN eK)
 aq)
 aq)
 (ah (bT (DW.dt (cJ (dU (dF (rC (nS T) hr (ae (ar (dv 0) ai) aj)))) (bw (dU (dF (rC (nS T) hr (ae (ar (dv 0) ai) aj)))))))
 (ah (aN eK)
 aq)
 aq)
 (ah (aN (eS (cN CL (cc λ_ _ _ _=>rb _) (ar (dv 0) ai) ai nm) (gb (cN (aX hr.units) bK (rC (mf T) hr (ae (ar (dv 0) ai) (ae (ar (dv 0) ai) aj))) ai nm))))
 aq))))
def pV(T:Txt K mg t):iP P w K mg base CX0 1 (t.A 26) (t.Q 26) ["one"] (spD K 1 m_shown_ratio) "shown_ratio" (top 28) :=
 oD T.g sc (i:=26) rfl λ_ _ _ _ _ _ _ hr=>(
 (ah (bT (aC (aX hr.units) bK (ar (dv 0) ai) ai nm)
 (ah (aN (dj fj nG rfl T.n_str PyProof.Rows.Boot.«str» (ae (ar (dv 0) ai) aj)))
 aq)
 aq)
 (ah (aN (aK (aK (dj fj nG rfl T.n_str PyProof.Rows.Boot.«str» (ae (ar (dv 0) ai) aj)) aB) (dj fj nG rfl T.n_str PyProof.Rows.Boot.«str» (ae (ar (dv 0) ai) aj))))
 aq)))
def lF(T:Txt K mg t):iP P w K mg base (kj P w) 3 (t.A 27) (t.Q 27) ["text"] (spD K 1 m_read_ratio) "read_ratio" (top 29) :=
 oE T.g sc (i:=27) rfl λ_ _ _ _ H _ _ hr=>(
 (ah (aI (i:=1) (nd 27) rfl (OP rfl) (mJ (dF (et jP rfl T.n_isinstance rfl T.n_str PyProof.Rows.Boot.«str» (dv 0))) (jF (dv 0) aB) (bx aj)))
 (ah (bT (DW.dt (cJ (dU (wo pT pT (iu λ_ _ _ _=>rb _) (iu λ_ _ _ _=>rb _) iw iw ai (aL aQ bz rfl T.n_len PyProof.Rows.Boot.«len» (ae (dv 1) aj)) ai)) (bw (dU (dF (aL (qT rfl) yj rfl T.n_all PyProof.Rows.Boot.«all» (ae (sS (yf ["part"] 1 [] rfl (uO (dv 1)) (iA (by decide)) (λs H C fp pn=>⟨λHe η=>(fE (i:=0) (show RW (["part"]:ci) from by decide) rfl (OP rfl)),mH,(rC (pW T) hr (ae (dv 0) aj))⟩) ⟨rfl,rfl⟩ rfl rfl rfl rfl)) aj)))))))
 (ah (jD T.jg.xc T.bP.xi T.bP.xs T.bP.xf ((gQ T).mono (by decide:1<=1)) T.bP.bi (by decide) (by decide) hr T.gR hr.hd rfl (ae ai aj))
 aq)
 aq)
 (ah (aI (i:=2) (nd 27) rfl (OP rfl) (gY (ae (dj gF jY rfl T.n_int PyProof.Rows.Boot.«int» (ae (ar (dv 1) ai) aj)) (ae (mJ (aC (aX hr.units) bK (aL aQ bz rfl T.n_len PyProof.Rows.Boot.«len» (ae (dv 1) aj)) ai nm) (dj gF jY rfl T.n_int PyProof.Rows.Boot.«int» (ae (ar (dv 1) ai) aj)) ai) aj))))
 (ah (bT (DW.dt (cJ (dU (dF (rC (kv T) hr (ae (dv 2) aj)))) (bw (aC (eD hr.units) gr (rC (pV T) hr (ae (dv 2) aj)) (dv 0) nm))))
 (ah (jD T.jg.xc T.bP.xi T.bP.xs T.bP.xf ((gQ T).mono (by decide:1<=1)) T.bP.bi (by decide) (by decide) hr T.gR hr.hd rfl (ae ai aj))
 aq)
 aq)
 (ah (aN (dv 2))
 aq))))))
def uv(T:Txt K mg t):iP P w K mg base CX0 3 (t.A 28) (t.Q 28) ["thing"] (spD K 1 m_is_length) "is_length" (top 22) :=
 oD T.g sc (i:=28) rfl λ_ _ _ _ _ _ _ hr=>(
 (ah (aN (eS (rC (kv T) hr (ae (dv 0) aj)) (gb (cN CL (cc λ_ _ _ _=>rb _) (ar (dv 0) ai) ai nm))))
 aq))
def vB(T:Txt K mg t):iP P w K mg base CX0 3 (t.A 29) (t.Q 29) ["thing"] (spD K 1 m_is_worth) "is_worth" (top 23) :=
 oD T.g sc (i:=29) rfl λ_ _ _ _ _ _ _ hr=>(
 (ah (aN (Mx (cN nj nk (dv 0) df nm) (gb (eS (rC (kv T) hr (ae (dv 0) aj)) (gb (cN nQ (cc λ_ _ _ _=>rb _) (ar (dv 0) ai) ai nm))))))
 aq))
def AL(T:Txt K mg t):iP P w K mg base CX0 4 (t.A 30) (t.Q 30) ["thing"] (spD K 1 m_is_tie) "is_tie" (top 21) :=
 oD T.g sc (i:=30) rfl λ_ _ _ _ _ _ _ hr=>(
 (ah (bT (DW.dt (cJ (dU (dF (et mn rfl T.n_isinstance rfl T.n_tuple PyProof.Rows.Boot.«tuple» (dv 0)))) (bw (aC (eD hr.units) gr (aL aQ bz rfl T.n_len PyProof.Rows.Boot.«len» (ae (dv 0) aj)) ai nm))))
 (ah (aN eK)
 aq)
 aq)
 (ah (bT (DW.dt (cJ (dU (dF (rC (lN T) hr (ae (ar (dv 0) (eF T.wB rfl)) aj)))) (cJ (dU (dF (rC (lN T) hr (ae (ar (dv 0) (eF T.mM rfl)) aj)))) (bw (aC (aX hr.units) bK (ar (dv 0) (eF T.wB rfl)) (ar (dv 0) (eF T.mM rfl)) nm)))))
 (ah (aN eK)
 aq)
 aq)
 (ah (bT (DW.dt (cJ (dU (dF (et jP rfl T.n_isinstance rfl T.n_str PyProof.Rows.Boot.«str» (ar (dv 0) (eF T.uT rfl))))) (bw (aC (eN hr.units) eO (ar (dv 0) (eF T.uT rfl)) (eF T.uS rfl) rfl))))
 (ah (aN eK)
 aq)
 aq)
 (ah (aN (eS (rC (uv T) hr (ae (ar (dv 0) (eF T.qW rfl)) aj)) (gb (rC (vB T) hr (ae (ar (dv 0) (eF T.uR rfl)) aj)))))
 aq)))))
def vA(T:Txt K mg t):iP P w K mg base CX0 5 (t.A 31) (t.Q 31) ["words"] (spD K 1 bV) "read_tie" (top 34) :=
 oD T.g sc (i:=31) rfl λ_ _ _ _ _ _ _ hr=>(
 (ah (G5 ⟨rfl,rfl⟩ (yx (rT (i:=1) (nd 31) rfl (OP rfl) (lF T) hr (ae (ar (dv 0) ai) aj))
 (yx (Oo (i:=2) (nd 31) rfl (OP rfl) (aC (aX hr.units) bK (ar (dv 0) ai) aB nm) df (lF T) hr (ae (ar (dv 0) ai) aj))
 IC)) rfl T.gR (lJ T))
 (ah (aI (i:=3) (nd 31) rfl (OP rfl) (gY (ae (ar (dv 0) ai) (ae (ar (dv 0) ai) (ae (ar (dv 0) ai) (ae (dv 1) (ae (dv 2) aj)))))))
 (ah (aN (mJ (dF (rC (AL T) hr (ae (dv 3) aj))) (dv 3) df))
 aq))))
def me(T:Txt K mg t):iP P w K mg base CX0 1 (t.A 32) (t.Q 32) ["draft","name"] (HA K 1 (.ins "Draft" ["places","ties","ends"]) cb) "takes_end" (top 36) :=
 oJ T.g sc (i:=32) rfl rfl λ_ _ _ _ _ _ _ _ _ _ hr=>(
 (aU (iV (i:=0) (DW.dt (cJ (aC ku (cc λ_ _ _ _=>rb _) (aL aQ bz rfl T.n_len PyProof.Rows.Boot.«len» (ae (gf (dv 0)) aj)) (eF T.hZ rfl) nm) (cJ (aC (eN hr.units) eO (dv 1) (gf (dv 0)) rfl) (bw (aC (yU hr.units) yW (dv 1) (gf (dv 0)) rfl)))))
 (aU (iD eK)
 bI)
 bI)
 (aU (nu (lO (i:=0) (k:=2) rfl (by decide) rfl rfl (OP rfl)) (dv 1))
 (aU (iD eK)
 bI))))
def uu(T:Txt K mg t):iP P w K mg base CX0 6 (t.A 33) (t.Q 33) ["draft","words"] (HA K 1 (.ins "Draft" ["places","ties","ends"]) bG) "takes_row" (top 32) :=
 oJ T.g sc (i:=33) rfl rfl λ_ _ _ _ _ _ _ _ _ _ hr=>(
 (aU (iV (i:=0) (DW.dt (lT (aC (aX hr.units) bK (ar (dv 1) ai) aB nm) (fL (aC (aX hr.units) bK (aL aQ bz rfl T.n_len PyProof.Rows.Boot.«len» (ae (dv 1) aj)) ai nm))))
 (aU (o7 (rJ 0 (pU T) hr (ae (ar (dv 1) ai) aj)))
 bI)
 bI)
 (aU (iV (i:=0) (DW.dt (lT (aC (aX hr.units) bK (ar (dv 1) ai) aB nm) (fL (aC (aX hr.units) bK (aL aQ bz rfl T.n_len PyProof.Rows.Boot.«len» (ae (dv 1) aj)) ai nm))))
 (aU (o7 (rJ 0 (uq T) hr (ae (rC (vA T) hr (ae (dv 1) aj)) aj)))
 bI)
 bI)
 (aU (iV (i:=0) (DW.dt (lT (aC (aX hr.units) bK (ar (dv 1) ai) aB nm) (fL (aC (aX hr.units) bK (aL aQ bz rfl T.n_len PyProof.Rows.Boot.«len» (ae (dv 1) aj)) ai nm))))
 (aU (o7 (C8 (i:=0) (cN (aX hr.units) bK (gf (dv 0)) (bx aj) nm) (rJ 0 (me T) hr (ae (ar (dv 1) ai) aj))))
 bI)
 bI)
 (aU (iV (i:=0) (DW.dt (lT (aC (aX hr.units) bK (ar (dv 1) ai) aB nm) (fL (aC (aX hr.units) bK (aL aQ bz rfl T.n_len PyProof.Rows.Boot.«len» (ae (dv 1) aj)) ai nm))))
 (aU (o7 (C8 (i:=0) (cN (aX hr.units) bK (aL aQ bz rfl T.n_len PyProof.Rows.Boot.«len» (ae (gf (dv 0)) aj)) ai nm) (rJ 0 (me T) hr (ae (ar (dv 1) ai) aj))))
 bI)
 bI)
 (aU (iD eK)
 bI))))))
def nR(T:Txt K mg t):iP P w K mg base (kj P w) 7 (t.A 34) (t.Q 34) ["text"] (spD K 1 dD) "read_web" (top 31) :=
 oE T.g sc (i:=34) rfl λ_ _ _ _ _ _ _ hr=>(
 (ah (bT (dU (dF (et jP rfl T.n_isinstance rfl T.n_str PyProof.Rows.Boot.«str» (dv 0))))
 (ah (jD T.jg.xc T.bP.xi T.bP.xs T.bP.xf ((gQ T).mono (by decide:1<=5)) T.bP.bi (by decide) (by decide) hr T.gR hr.hd rfl (ae ai aj))
 aq)
 aq)
 (ya (i:=1) rfl (nd 34) rfl (OP rfl) T.CU ((xR T).mono (by decide:1<=5)) hr rfl T.Dp T.vj.ns T.qX T.vj.recC xy λa q=>(aU (mv λ_=>(aI (i:=2) (nd 34) rfl (OP rfl) (jF (dv 0) aB)))
 (aU (zc PassesOwn.leaving rfl (G7 rfl T.n_enumerate (dv 2)) (λ_=>(D0 rfl (bU (i:=3) (nd 34) rfl (OP rfl) (bU (i:=4) (nd 34) rfl (OP rfl) jT)))) rW
 (aU (Jz (rJ 1 (uu T) hr (ae (jF (dv 4) aB) aj))
 (aU (mv λ_=>(jD T.jg.xc T.bP.xi T.bP.xs T.bP.xf ((gQ T).mono (by decide:1<=5)) T.bP.bi (by decide) (by decide) hr T.gR hr.hd rfl (ae (dv 3) aj)))
 bI))
 bI))
 (aU (iV (i:=1) (aC ku (cc λ_ _ _ _=>rb _) (aL aQ bz rfl T.n_len PyProof.Rows.Boot.«len» (ae (gf (dv 1)) aj)) ai nm)
 (aU (mv λ_=>(jD T.jg.xc T.bP.xi T.bP.xs T.bP.xf ((gQ T).mono (by decide:1<=5)) T.bP.bi (by decide) (by decide) hr T.gR hr.hd rfl (ae (aL aQ bz rfl T.n_len PyProof.Rows.Boot.«len» (ae (dv 2) aj)) aj)))
 bI)
 bI)
 (aU (LY (i:=1) (HG (lO (i:=1) (k:=0) rfl (by decide) rfl rfl (OP rfl)) (lO (i:=1) (k:=1) rfl (by decide) rfl rfl (OP rfl)) (lO (i:=1) (k:=2) rfl (by decide) rfl rfl (OP rfl)) (lO (i:=1) (k:=2) rfl (by decide) rfl rfl (OP rfl)) rfl rfl))
 bI)))))))
def rE(T:Txt K mg t):iP P w K mg base CX0 1 (t.A 35) (t.Q 35) ["_law_thing"] (spD K 1 fU) "_law_whole" (top 40) :=
 oD T.g sc (i:=35) rfl λ_ _ _ _ _ _ _ _=>(
 (ah (aN (eS (et qk rfl T.n_isinstance rfl T.n_int PyProof.Rows.Boot.«int» (dv 0)) (gb (D6 (et nV rfl T.n_isinstance rfl T.n_bool PyProof.Rows.Boot.«bool» (dv 0))))))
 aq))
def lG(T:Txt K mg t):iP P w K mg base CX0 8 (t.A 36) (t.Q 36) ["_law_text"] (spD K 1 cS) "_law_right" (top 55) :=
 oD T.g sc (i:=36) rfl λ_ _ _ _ _ _ _ hr=>(
 (ah (qz rfl (rC (vF T) hr (ae (dv 0) aj)) (bU (i:=1) (nd 36) rfl (OP rfl) (bU (i:=2) (nd 36) rfl (OP rfl) jT)))
 (ah (aI (i:=3) (nd 36) rfl (OP rfl) df)
 (ah (aI (i:=4) (nd 36) rfl (OP rfl) df)
 (ah (aI (i:=5) (nd 36) rfl (OP rfl) eK)
 (ah (DR ⟨rfl,rfl⟩ (rT (i:=3) (nd 36) rfl (OP rfl) (nR T) hr (ae (dv 0) aj)) rfl T.qr (oF T) (nd 36) rfl rfl (λea=>(ah (aI (i:=5) (nd 36) rfl (OP rfl) (eS (Bc rfl T.gR (BP T) rfl T.n_isinstance (dv 6)) (gb (Bd rfl T.n_ValueError PyProof.Rows.Boot.«ValueError» (BN T) rfl T.n_isinstance (dv 6)))))
 (ah (bT (dF (dv 5))
 (ah (aI (i:=4) (nd 36) rfl (OP rfl) (zH (sL T) (dv 6)))
 aq)
 aq)
 aq))))
 (ah (bT (aC nj nk (dv 1) df nm)
 (ah (aN (eS (dv 5) (eS (cN nj nk (dv 4) df nm) (gb (cN (aX hr.units) bK (D8 (dv 3)) (D8 (dv 2)) nm)))))
 aq)
 aq)
 (ah (aN (eS (dv 5) (eS (rC (rE T) hr (ae (dv 4) aj)) (gb (cN (aX hr.units) bK (dv 4) (dv 1) nm)))))
 aq))))))))
def oA(T:Txt K mg t):iP P w K mg base CX0 8 (t.A 37) (t.Q 37) ["_law_thing"] (spD K 1 dI) "_law_refused" (top 59) :=
 oD T.g sc (i:=37) rfl λ_ _ _ _ _ _ _ hr=>(
 (ah (aI (i:=1) (nd 37) rfl (OP rfl) df)
 (ah (DR ⟨rfl,rfl⟩ (rD (nR T) hr (ae (dv 0) aj)) rfl T.gR (lJ T) (nd 37) rfl rfl (λea=>(ah (aI (i:=1) (nd 37) rfl (OP rfl) (zH (sL T) (dv 2)))
 aq)))
 (ah (aN (cN (aX hr.units) bK (dv 1) ai nm))
 aq))))
def ok_law(T:Txt K mg t):iP P w K mg base CX0 9 (t.A 38) (t.Q 38) ["_law_script"] (spD K 1 m_law) "law" (top 60) :=
 oD T.g sc (i:=38) rfl λ_ _ _ _ _ _ _ hr=>(
 (ah (aI (i:=1) (nd 38) rfl (OP rfl) (rC (vC T) hr (ae (dv 0) (ae ai aj))))
 (ah (aI (i:=2) (nd 38) rfl (OP rfl) (rC (rG T) hr (ae (dv 1) aj)))
 (ah (DU QJ rfl (aK (aW (dv 0) (bg ai) (bg ai)) (bx (ae ai aj))) (fE (i:=3) (nd 38) rfl (OP rfl)) jh
 (ah (aI (i:=4) (nd 38) rfl (OP rfl) (rC (gG T) hr (ae (dv 3) (ae (bx (ae ai (ae ai (ae ai (ae ai (ae ai (ae ai (ae ai (ae ai (ae ai (ae ai aj))))))))))) aj))))
 (ah (aI (i:=5) (nd 38) rfl (OP rfl) (rC (mi T) hr (ae (dv 1) (ae (dv 2) (ae (aW (dv 4) cy (bg ai)) aj)))))
 (ah (bT (DW.dt (lT (aC (aX hr.units) bK (ar (dv 4) ai) ai nm) (fL (aC (eD hr.units) gr (dv 5) (bx aj) nm))))
 (ah (aI (i:=5) (nd 38) rfl (OP rfl) (rC (mi T) hr (ae (dv 1) (ae (dv 5) (ae (aW (dv 4) (bg ai) (bg ai)) aj)))))
 aq)
 aq)
 (ah (bT (dU (dF (rC (lG T) hr (ae (lh aB (ae (dv 5) aj)) aj))))
 (ah (aN eK)
 aq)
 aq)
 (ah (bT (dU (dF (rC (oA T) hr (ae (ar (bx (ae df (ae eK (ae ai (ae (dv 2) (ae (dj rO Ef rfl T.n_tuple PyProof.Rows.Boot.«tuple» (ae (dv 2) aj)) (ae (gY (ae aB aj)) (ae Hc aj)))))))) (ar (dv 4) ai)) aj))))
 (ah (aN eK)
 aq)
 aq)
 aq))))))
 (ah (aN (rC (lG T) hr (ae (lh aB (ae (dv 2) aj)) aj)))
 aq)))))
end
def txt_mk{K:OH}{h:OY}{mg:OG->Option OB}(X:K.In h)(G:h.Ns O6 mg){bC fZ:OE}{jA:OE}{cm:OE}{de:OE}{a0 a1 a2 a3 a4 a5 a6 a7 a8 a9 a10 a11 a12 a13 a14 a15 a16 a17 a18 a19 a20 a21 a22 a23 a24 a25 a26 a27 a28 a29 a30 a31 a32 a33 a34 a35 a36 a37 a38:OE}(qs:QAs K rows [a0,a1,a2,a3,a4,a5,a6,a7,a8,a9,a10,a11,a12,a13,a14,a15,a16,a17,a18,a19,a20,a21,a22,a23,a24,a25,a26,a27,a28,a29,a30,a31,a32,a33,a34,a35,a36,a37,a38])
  {AO AZ Be AG sW Bf:OB}{AN Bk:Option OE}{Ah:Array (Option OB)}
  (vv:Qg K O6 "Draft"=some (some (.ref bC))) (Cm:Qj K (.ref bC) "__init__"=some (some (.ref fZ))) (Ck:W.isFn K (.ref fZ)=true) (vt:K.lookup fZ=some ⟨AO,AN,.func (Ru "__init__" "Draft.__init__" (defArgs jl) (defBody jl) (defScope jl) .none AZ Be AG Bk sW Bf),Ah⟩) (vq:Td K sW "Draft.__init__"=true) (vp:Rc K (.ref fZ)=true) (Cj:W.makesIn K bC=true) (Ci:Rc K (.ref bC)=true) (Aw:Sy K bC RI=true) (Ay:Q2 K bC=true) (Av:S6 K bC=true) (Au:Qj K (.ref bC) "__setattr__"=some (some (.builtin "object.__setattr__"))) (AA:Qj K (.ref bC) "__class__"=some (some (.builtin "object.__class__"))) (Az:R0 K (.builtin "object.__class__") "__get__"=some (some (.builtin "getset_descriptor.__get__"))) (Al:Tz K (.builtin "object.__class__")=some true) (Ax:TV K bC (.type "object")=some true) (As:Qx K (.ref bC) (.type "NoneType")=some false) (Ar:Qx K (.ref bC) (.type "bool")=some false) (Aq:Qx K (.ref bC) (.type "int")=some false) (Ap:Qx K (.ref bC) (.type "str")=some false) (Ao:Qx K (.ref bC) (.type "tuple")=some false) (An:Qx K (.ref bC) (.type "list")=some false) (Am:Qx K (.ref bC) (.type "dict")=some false) (oz:Qj K (.ref bC) "places"=some none) (rA:Qj K (.ref bC) "ties"=some none) (rB:Qj K (.ref bC) "ends"=some none)
  (z_ValueError:Qg K O6 "ValueError"=some none)
  (z_abs:Qg K O6 "abs"=some none)
  (z_all:Qg K O6 "all"=some none)
  (z_bool:Qg K O6 "bool"=some none)
  (z_enumerate:Qg K O6 "enumerate"=some none)
  (z_int:Qg K O6 "int"=some none)
  (z_isinstance:Qg K O6 "isinstance"=some none)
  (z_len:Qg K O6 "len"=some none)
  (z_max:Qg K O6 "max"=some none)
  (z_range:Qg K O6 "range"=some none)
  (z_str:Qg K O6 "str"=some none)
  (z_tuple:Qg K O6 "tuple"=some none)
  (nX:mW K "CutError" cm)
  (kR:wG K "NoText" de)
  (zX:XQ K "NoText.__init__" de cm jA m7 ["row"])
  (tM:TY K cm [.type "ValueError",.type "Exception",.type "BaseException",.type "object"] "ValueError.__new__"=true) (tK:W.readsIn K cm (.type "type")=true) (tL:W.findCls K (.ref cm) (.type "type") "__init__"=some (.val (.builtin "ValueError.__init__"))) (tI:R0 K (.ref cm) "__getattribute__"=some (some (.builtin "type.__getattribute__")))
  (CI:Sb K de [cm,de] [true,true])
  {oy:Tok}(ou:Qg K O6 "FEWEST_PLACES"=some (some (.int 2 oy)))
  {Ab:Tok}(zW:Qg K O6 "FIGURES"=some (some (.str "0123456789" Ab)))
  {BR:Tok}(Bv:Qg K O6 "LENGTH"=some (some (.int 3 BR)))
  {Aa:Tok}(zV:Qg K O6 "LETTERS"=some (some (.str "abcdefghijklmnopqrstuvwxyz" Aa)))
  {pz:Tok}(ph:Qg K O6 "LONGEST_NAME"=some (some (.int 8 pz)))
  {pw:Tok}(pf:Qg K O6 "MOST_FIGURES"=some (some (.int 60 pw)))
  {ro:Tok}(rn:Qg K O6 "MOST_PLACES"=some (some (.int 7 ro)))
  {vb:Tok}(u3:Qg K O6 "MOST_TIES"=some (some (.int 14 vb)))
  {K8:Tok}(KR:Qg K O6 "ONE"=some (some (.int 0 K8)))
  {Fe:Tok}(EM:Qg K O6 "OTHER"=some (some (.int 1 Fe)))
  {IH:Tok}(Ik:Qg K O6 "WORD"=some (some (.int 2 IH)))
  {yF:OE}{yX:Obj}(EL:Qg K O6 "WORDS"=some (some (.ref yF))) (EX:K.lookup yF=some yX) (E2:∃od its n sl vs,yX=⟨.type "tuple",od,.seq its n,sl⟩/\bJ vs its.toList/\its.size<=sizeLine/\∀H,Reps K H [.str "one",.str "both"] vs)
  {Fd:Tok}(EK:Qg K O6 "WORTH"=some (some (.int 4 Fd))) :
  ∃t:Adr,Txt K mg t/\t.A 38=a38/\∃kV doc pm an cdv ct,t.Q 38=Ru "law" "law" (defArgs (top 60)) (defBody (top 60)) (defScope (top 60)) .none kV doc pm an cdv ct:=by
 obtain⟨k7,Ep⟩:=Oa (ps:=["self","row"]) (λF=>F.binds λ_ _ _ _ _ _ us hl=>by obtain⟨_,_,rfl⟩:=Ny hl;rfl) zX tM;obtain⟨Q,hQ⟩:=Hw X G bn qs;have D_law:=(hQ 38 _ rfl).2;refine⟨⟨jA,k7,bC,fZ,_,cm,de,λi=>[a0,a1,a2,a3,a4,a5,a6,a7,a8,a9,a10,a11,a12,a13,a14,a15,a16,a17,a18,a19,a20,a21,a22,a23,a24,a25,a26,a27,a28,a29,a30,a31,a32,a33,a34,a35,a36,a37,a38].getD i 0,Q⟩,⟨λi r h=>(hQ i r h).1,Qy X G z_ValueError,Qy X G z_abs,Qy X G z_all,Qy X G z_bool,Qy X G z_enumerate,Qy X G z_int,Qy X G z_isinstance,Qy X G z_len,Qy X G z_max,Qy X G z_range,Qy X G z_str,Qy X G z_tuple,Q4 X G vv,qt vt vq vp,?qX,⟨Cj,Cm,Ck,Ci⟩,Fp vv Aw Ay Av Au AA Az Al Ax As Ar Aq Ap Ao An Am (noL_cons oz ( noL_cons rA ( noL_cons rB (noL_nil)))),Q4 X G nX.ns,nX,Q4 X G kR.i.ns,kR.i,kR,Ep,⟨tK,tL,tI⟩,(N9 kR CI Io),?hZ,?nI,?qW,?nH,?iL,?iK,?jc,?kM,?wB,?mM,?uT,?uS,?uR⟩,rfl,D_law⟩
 case qX=>exact(qt (st:=jl) vt vq vp).binds λ_ _ _ _ _ _ us hl=>by obtain⟨_,rfl⟩:=Nz hl;rfl
 case hZ=>exact gH (Q4 X G ou)
 case nI=>exact y9 (Q4 X G zW)
 case qW=>exact gH (Q4 X G Bv)
 case nH=>exact y9 (Q4 X G zV)
 case iL=>exact gH (Q4 X G ph)
 case iK=>exact gH (Q4 X G pf)
 case jc=>exact gH (Q4 X G rn)
 case kM=>exact gH (Q4 X G u3)
 case wB=>exact gH (Q4 X G KR)
 case mM=>exact gH (Q4 X G EM)
 case uT=>exact gH (Q4 X G Ik)
 case uS=>
  obtain⟨od,its,n,sl,vs,rfl,h1,h2,h3⟩:=E2;exact F8 (Q4 X G EL) EX h1 h2 h3
 case uR=>exact gH (Q4 X G EK)
def txt_wr{K:OH}{mg:OG->Option OB}{a:OE}{R:Adr->Prop}(h:∃t:Adr,Txt K mg t/\t.A 38=a/\R t):∃t:Adr,Txt K mg t/\mg "law"=some (.ref (t.A 38))/\R t:=h.elim λt ⟨T,_,r⟩=>⟨t,T,(T.g 38 _ rfl).g,r⟩
end K76
namespace Tex
open PySem PySem.NumText L2 DL
structure kQ (ds:cr):Prop where
 d:AllDigits ds
 n:ds≠[]
 z:∀r,ds=48::r->r=[]
def uX(m:Nat):cr:=(SU 10 m).map Char.toNat
def kJ{m:Nat}(h:m<10):uX m=[m+48]:=by
 unfold uX;rw[Nat.toDigits_of_lt_base h];show[(Nat.digitChar m).toNat]=_;have:=W.KIN.digit_back m h;have k:∀d:Nat,d<10->(Nat.digitChar d).toNat=d+48:=by decide
 rw[k m h]
def qE{m:Nat}(h:10<=m):uX m=uX (m / 10)++[m % 10+48]:=by
 have hm:m % 10<10:=RU m (by decide);have t:SU 10 (m / 10)++SU 10 (m % 10)=SU 10 (10*(m / 10)+m % 10):=Nat.toDigits_append_toDigits (by decide) (by omega) hm;rw[Nat.div_add_mod]at t;have e:=kJ hm;unfold uX at e ⊢;rw[←t,PZ,e]
def lU(m:Nat):AllDigits (uX m):=by
 induction m using Nat.strongRecOn with
 |_ m ih=>
  by_cases h:m<10
  .rw[kJ h]
   intro c hc;rw[PD.mp hc];omega
  .rw[qE (by omega)]
   intro c hc;rcases Qv.mp hc with hc|hc
   .exact ih _ (by omega) c hc
   .rw[PD.mp hc]
    have:=RU m (show 0<10 by decide);omega
def D1(m:Nat):uX m≠[]:=by
 by_cases h:m<10
 .rw[kJ h];simp
 .rw[qE (by omega)];simp
def D2{m:Nat}(h:0<m):∀r,uX m≠48::r:=by
 induction m using Nat.strongRecOn with
 |_ m ih=>
  intro r
  by_cases h10:m<10
  .rw[kJ h10]
   intro e;injection e with e1 _;omega
  .rw[qE (by omega)]
   have k:=ih (m / 10) (by omega) (by omega);cases q:uX (m / 10) with
   |nil=>exact absurd q (D1 _)
   |cons c cs=>
    intro e;rw[Qp]at e;injection e with e1 e2;exact k cs (by rw[q,e1])
def sR(m:Nat):kQ (uX m):=by
 refine⟨lU m,D1 m,λr e=>?_⟩
 by_cases h:m=0
 .subst h
  rw[kJ (by decide)]at e;injection e with _ e2;exact e2.symm
 .exact absurd e (D2 (by omega) r)
def pv{ds:cr}{c:Nat}:digitsVal (ds++[c])=digitsVal ds*10+(c-48):=by unfold digitsVal;rw[List.foldl_append];rfl
def E3:∀{ds:cr},AllDigits ds->ds≠[]->(∀r,ds≠48::r)->0<digitsVal ds:=by
 have key:∀(n:Nat) (ds:cr),ds.length=n->AllDigits ds->ds≠[]->(∀r,ds≠48::r)->0<digitsVal ds:=by
  intro n
  induction n with
  |zero=>intro ds hl _ hn _;exact absurd (Qa.mp hl) hn
  |succ n ih=>
   intro ds hl hd hn hz;rcases So ds with rfl|⟨es,c,rfl⟩
   .exact absurd rfl hn
   .rw[Sq]at *
    rw[pv];cases es with
    |nil=>
     have:=hd c (by simp);have hc:c≠48:=λe=>hz [] (by rw[e];rfl);omega
    |cons a es=>
     have:=ih (a::es) (by simpa using hl) (λx hx=>hd x (Rh _ hx)) (by simp) (λr e=>hz (r++[c]) (by rw[e];rfl));omega
 intro ds hd hn hz;exact key _ _ rfl hd hn hz
def lW:∀{ds:cr},kQ ds->uX (digitsVal ds)=ds:=by
 have key:∀(n:Nat) (ds:cr),ds.length=n->kQ ds->uX (digitsVal ds)=ds:=by
  intro n
  induction n with
  |zero=>intro ds hl h;exact absurd (Qa.mp hl) h.n
  |succ n ih=>
   intro ds hl h;rcases So ds with rfl|⟨es,c,rfl⟩
   .exact absurd rfl h.n
   .rw[Sq]at *
    have hc:=h.d c (by simp);rw[pv];cases es with
    |nil=>
     show uX (0*10+(c-48))=[c];rw[kJ (by omega)]
     congr 1
     omega
    |cons a es=>
     have hz:∀r,a::es≠48::r:=λr e=>by
      have:=h.z (r++[c]) (by rw[e];rfl);simp at this
     have hd:AllDigits (a::es):=λx hx=>h.d x (Rh _ hx);have hp:=E3 hd (by simp) hz;have:=ih (a::es) (by simpa using hl) ⟨hd,by simp,λr e=>absurd e (hz r)⟩;rw[qE (by omega)];have e1:(digitsVal (a::es)*10+(c-48)) / 10=digitsVal (a::es):=by omega
     have e2:(digitsVal (a::es)*10+(c-48)) % 10=c-48:=by omega
     rw[e1,e2,this]
     congr 2
     omega
 intro ds h;exact key _ _ rfl h
def wr(n:Int):cr:=if n<0 then 45::uX n.natAbs else uX n.natAbs
def oW(n:Int):(PL (toString n)).cps.toList=wr n:=by
 unfold wr;cases n with
 |ofNat m=>rw[if_neg (show ¬(Int.ofNat m<0) from Int.not_lt.mpr (RX m))];exact W.KIN.signs_num m
 |negSucc m=>
  rw[if_pos (Int.negSucc_lt_zero m),PyProof.Rows.signs_ofString];show("-"++Nat.repr (m+1)).toList.map Char.toNat=_;rw[String.toList_append,PZ,Nat.toList_repr];rfl
abbrev cl(z:OG):cr:=z.cps.toList
def iI{a b:OG}(h:cl a=cl b):a=b:=by
 cases a;cases b
 congr 1
 exact Array.toList_inj.mp h
def iJ(a b:OG):cl (a++b)=cl a++cl b:=by
 show(a.cps++b.cps).toList=_;rw[Array.toList_append]
abbrev cD:OG:=⟨#[47]⟩
def kT:("/" : OG)=cD:=by decide
theorem k8:∀{a b c d:cr},a++47::b=c++47::d->47∉a->47∉c->a=c/\b=d
 |[],b,[],d,h,_,_=>⟨rfl,by simpa using h⟩
 |[],b,c::cs,d,h,_,hc=>by
  rw[QL,Qp]at h;injection h with h1 _;exact absurd (h1▸Pe) hc
 |a::as,b,[],d,h,ha,_=>by
  rw[QL,Qp]at h;injection h with h1 _;exact absurd (h1▸Pe) ha
 |a::as,b,c::cs,d,h,ha,hc=>by
  rw[Qp,Qp]at h;injection h with h1 h2;obtain⟨e1,e2⟩:=k8 h2 (λz=>ha (OT _ z)) (λz=>hc (OT _ z));exact⟨by rw[h1,e1],e2⟩
def md(x:OG):(PB x cD=(x,RI,RI)/\47∉cl x)∨∃p q,PB x cD=(p,cD,q)/\47∉cl p/\cl x=cl p++47::cl q:=by
 rcases PyProof.Rows.partition_whole x cD with⟨h1,h2⟩|⟨i,h1,h2,h3⟩
 .exact .inl ⟨h1,λhm=>by obtain⟨i,hi⟩:=(TM x 47).mp hm;exact h2 i hi⟩
 .refine .inr ⟨_,_,h1,StrLaws.part_free x 47 0 i (by have:=h2.1;omega) (λk _ hk=>h3 k hk),?_⟩
  have:=Uc x cD;rw[h1]at this;have e:=congrArg cl this;rw[iJ,iJ]at e;rw[←e,QQ];rfl
def HS{y a:OG}:Sd y [a]=a:=rfl
def LZ{y a b:OG}:Sd y [a,b]=a++y++b:=rfl
def C7{y a b:OG}{r:ci}:Sd y (a::b::r)=a++y++Sd y (b::r):=rfl
def BZ(x:OG):(P6 x cD=[x]/\PB x cD=(x,RI,RI)/\47∉cl x) ∨
  (∃p q,P6 x cD=[p,q]/\PB x cD=(p,cD,q)/\47∉cl p/\47∉cl q/\cl x=cl p++47::cl q) ∨
  (3<=(P6 x cD).length/\∃p q,PB x cD=(p,cD,q)/\47∈cl q):=by
 have hj:=Sz x cD;have hf:=StrLaws.split_free x 47
 match e:P6 x cD with
 |[] =>
  rw[e]at hj;have hx:cl x=[]:=by rw[←hj];rfl
  rcases md x with⟨h1,h2⟩|⟨p,q,h1,h2,h3⟩
  .exfalso
   have:=Ss x 1 0 [];unfold P6 at e;split at e
   .cases e
   .split at e
    .cases e
    .rw[TF]at e
     obtain⟨a,r,q⟩:=Ss x (cD:OG).length 0 (Q1 x cD 0 x.length (x.length+1));rw[q]at e;cases e
  .rw[hx]at h3;simp at h3
 |[a] =>
  rw[e,HS]at hj;subst hj;have h0:47∉cl a:=hf a (by rw[e];exact List.mem_singleton_self a);rcases md a with⟨h1,_⟩|⟨p,q,h1,h2,h3⟩
  .exact .inl ⟨rfl,h1,h0⟩
  .exact absurd (by rw[h3];simp) h0
 |[a,b] =>
  rw[e,LZ]at hj;have ha:47∉cl a:=hf a (by rw[e];simp);have hb:47∉cl b:=hf b (by rw[e];simp);have hx:cl x=cl a++47::cl b:=by
   rw[←hj,iJ,iJ,QQ];rfl
  rcases md x with⟨_,h2⟩|⟨p,q,h1,h2,h3⟩
  .exact absurd (by rw[hx];simp) h2
  .obtain⟨e1,e2⟩:=k8 (hx.symm.trans h3) ha h2
   have e1:=iI e1;have e2:=iI e2;subst e1 e2;exact .inr (.inl ⟨a,b,rfl,h1,ha,hb,hx⟩)
 |a::b::c::r=>
  rw[e,C7]at hj;have ha:47∉cl a:=hf a (by rw[e];simp);have hx:cl x=cl a++47::cl (Sd cD (b::c::r)):=by
   rw[←hj,iJ,iJ,QQ];rfl
  rcases md x with⟨_,h2⟩|⟨p,q,h1,h2,h3⟩
  .exact absurd (by rw[hx];simp) h2
  .obtain⟨e1,e2⟩:=k8 (hx.symm.trans h3) ha h2
   refine .inr (.inr ⟨by simp,p,q,h1,?_⟩);rw[←e2,C7,iJ,iJ];simp
end Tex
namespace K74
open PySem PySem.NumText L2 DL Com Tex
def lQ(c:Nat):Bool:=HJ ⟨#[c]⟩ "0123456789"
def vR{c:Nat}:lQ c=true↔(48<=c/\c<=57):=by
 have key:lQ c=true↔c∈cl "0123456789":=by
  rw[TM];unfold lQ HJ;rcases StrLaws.occ_head ("0123456789" : OG) ⟨#[c]⟩ 1 (O3 1) with⟨h0,hn⟩|⟨i,r,h0,hi,_⟩
  .rw[h0]
   exact⟨λz=>(by cases z),λ⟨i,hi⟩=>absurd hi (hn i)⟩
  .rw[h0]
   exact⟨λ_=>⟨i,hi⟩,λ_=>rfl⟩
 rw[key,show cl "0123456789"=[48,49,50,51,52,53,54,55,56,57] by decide];simp only[O4,QZ,or_false];omega
def Ie{cs:cr}:cs.all lQ=true↔AllDigits cs:=by
 rw[Pk];exact⟨λh c hc=>vR.mp (h c hc),λh c hc=>vR.mpr (h c hc)⟩
theorem Ee{b:Ev}(hb:b=[.no]):∀(cs:cr),cC b (fv 0) mYes (aa (ag 0) (dC (.str "0123456789")) Bt) (cs.map λc=>D.str ⟨#[c]⟩)=.ok (cs.map λc=>D.bl (lQ c))
 |[]=>rfl
 |c::r=>by
  subst hb;rw[PC,iz (x:=.bl (lQ c)) rfl rfl rfl,Ee rfl r];rfl
def pF(z:OG):dr z=(cl z).map λc=>D.str ⟨#[c]⟩:=rfl
def neg(z:OG):Bool:=(cl z).head?==some 45
def Ad{z:OG}:Rz z "-"=neg z:=by
 have h:=StrLaws.subAt_one z 45 0;have e:(("-" : OG))=⟨#[45]⟩:=by decide
 rw[e];have k:Rz z ⟨#[45]⟩=true↔neg z=true:=by
  unfold neg;rw[beq_iff_eq,List.head?_eq_getElem?,←h];show(decide (0+1<=z.length)&&Builtin.Str.subAt z ⟨#[45]⟩ 0)=true↔_;rw[OR,decide_eq_true_eq];exact Tc
 cases a:Rz z ⟨#[45]⟩<;>cases b:neg z<;>simp_all
def wy{z:OG}{i:Nat}(h:i<=z.length):cl (Qh z (some (i:Int)) none)=(cl z).drop i:=by
 have:=StrLaws.sliceText_from (x:=z) (i:=(i:Int)) ⟨by omega,by show(i:Int)<=(z.cps.toList.length:Int);rw[QD];exact Int.ofNat_le.mpr h⟩;have e:Qh z (some (i:Int)) none=_:=this;rw[e];show List.take (((cl z).length:Int)-(i:Int)).toNat (List.drop (i:Int).toNat (cl z))=_;rw[T8 (by rw[Rm];omega),QR]
def zI{z:OG}:cl (Qh z none (some 1))=(cl z).take 1:=by
 by_cases h:1<=z.length
 .have:=Up (x:=z) (j:=1) ⟨by omega,by show(1:Int)<=(z.cps.toList.length:Int);rw[QD];exact Int.ofNat_le.mpr h⟩
  have e:Qh z none (some 1)=_:=this;rw[e];simp
 .have hz:z=RI:=iI (by
   have:(cl z).length=0:=by show z.cps.toList.length=0;rw[QD];have:z.length=z.cps.size:=rfl;omega
   rw[Qa.mp this];rfl)
  subst hz;rfl
def FP{z:OG}:dm (.str (Qh z none (some 1))) (.str "-")=.ok (.bl (neg z)):=by
 have e:dm (.str (Qh z none (some 1))) (.str "-")=.ok (.bl (cH (.str (Qh z none (some 1))) (.str "-"))):=if_pos ⟨rfl,rfl⟩;rw[e]
 congr 2
 have k:cH (.str (Qh z none (some 1))) (.str "-")=true↔neg z=true:=by
  rw[cH];unfold neg;rw[beq_iff_eq,beq_iff_eq];constructor
  .intro h
   have:=congrArg cl h;rw[zI]at this;cases q:cl z with
   |nil=>rw[q]at this;exact absurd this (by decide)
   |cons c cs=>
    rw[q]at this;have t:[c]=[45]:=this;injection t with t _;rw[t];rfl
  .intro h
   apply iI;rw[zI];cases q:cl z with
   |nil=>rw[q]at h;cases h
   |cons c cs=>
    rw[q]at h;have t:some c=some 45:=h;injection t with t;rw[t];rfl
 cases a:cH (.str (Qh z none (some 1))) (.str "-")<;>cases b:neg z<;>simp_all
def dW{z:OG}:(cl z).length=z.length:=by show z.cps.toList.length=z.length;rw[QD];rfl
def cf{a b:OG}:dm (.str a) (.str b)=.ok (.bl (decide (a=b))):=by
 have e:dm (.str a) (.str b)=.ok (.bl (cH (.str a) (.str b))):=if_pos ⟨rfl,rfl⟩;rw[e,cH];rfl
def mF{a b:OG}:jf (.str a) (.str b)=.ok (.bl (!(decide (a=b)))):=by
 have e:jf (.str a) (.str b)=.ok (.bl (!(cH (.str a) (.str b)))):=if_pos ⟨rfl,rfl⟩;rw[e,cH];rfl
def len_str{z:OG}(h:z.length<=100000):bN (.str z)=.ok (.int (z.length:Int)):=if_pos (O0 h (by decide))
def f9(z:OG):OG:=if neg z=true then Qh z (some 1) none else z
def Dv{z:OG}:cl (f9 z)=if neg z=true then(cl z).drop 1 else cl z:=by
 unfold f9;cases h:neg z with
 |true=>
  rw[if_pos rfl,if_pos rfl];have:1<=z.length:=by
   rw[←dW];unfold neg at h;cases q:cl z with|nil=>rw[q]at h;cases h|cons c cs=>simp
  exact wy this
 |false=>rw[if_neg (by decide),if_neg (by decide)]
def zq{z:OG}:(f9 z).length<=z.length:=by
 rw[←dW,←dW,Dv];split
 .rw[Rm];omega
 .exact O3 _
def fB(z:OG):Bool:=decide (1<=(f9 z).length)&&(decide ((f9 z).length<=60)&&(cl (f9 z)).all lQ)
def Ed{f:OG}{A:Sl}(hf:f.length<=100000):fN 1 [] (tR (ag 1)) (fv 0) mYes (aa (ag 0) (dC (.str "0123456789")) Bt) [A,.sh (.str f)]=.ok (.lst ((cl f).map λc=>.bl (lQ c))):=by
 have hl:(dr f).length<=line:=by rw[gA];exact O0 hf (by decide)
 unfold fN;show(if(dr f).length<=line then _ else _)=_;rw[if_pos hl,pF];have:=Ee (b:=dP 1 [] [A,.sh (.str f)]) rfl (cl f);rw[this]
def Kx{g:Nat->Bool}{cs:cr}:rM (.lst (cs.map λc=>.bl (g c)))=.ok (.bl (cs.all g)):=by
 have:fF (cs.map λc=>D.bl (g c))=some (cs.map g):=i6 g cs;show(match fF (cs.map λc=>D.bl (g c)) with|some bs=>ak.ok (D.bl (bs.all id))|none=>.stuck)=_;rw[this];simp[Sk,SW]
def JF{z:OG}(hz:z.length<=100000):m_has_figures [.str z]=.ok (.bl (fB z)):=by
 have hs:kK kY (ag 0) (dC (.str "-")) [.sh (.str z),.no]=.ok (.bl (neg z)):=by
  show kY z "-"=_;unfold kY;rw[Ad]
 have hf:=zq (z:=z);have hl:=len_str (z:=f9 z) (by omega);have hc:=Ed (f:=f9 z) (A:=.sh (.str z)) (by omega);have ha:=Kx (g:=lQ) (cs:=cl (f9 z));have hset:(Ia (kK kY (ag 0) (dC (.str "-"))) (eG (ag 0) (bQ (dC (.int 1))) dH) (ag 0)) [.sh (.str z),.no]=.ok (.str (f9 z)):=by
  unfold f9;cases h:neg z with
  |true=>
   rw[h]at hs;have sl:rz (.str z) (some 1) none=.ok (.str (Qh z (some 1) none)):=by
    show lM (.str z) (some 1) none=_;exact if_pos (O0 hz (by decide))
   open_line with[hs,sl,if_true]
  |false=>
   rw[h]at hs;open_line with[hs,if_false,SO]
 rw[DC]at hset;rw[zB]at hc;unfold fB;generalize f9 z=F at *
 by_cases h1:1<=F.length
 .by_cases h2:F.length<=60
  .have e1:decide ((1:Int)<=(F.length:Int))=true:=decide_eq_true (by omega)
   have e2:decide ((F.length:Int)<=60)=true:=decide_eq_true (by omega);rw[decide_eq_true h1,decide_eq_true h2];open_line with[m_has_figures,gJ,hset,hl,e1,e2,hc,ha,ON]
  .have e1:decide ((1:Int)<=(F.length:Int))=true:=decide_eq_true (by omega)
   have e2:decide ((F.length:Int)<=60)=false:=decide_eq_false (by omega);rw[decide_eq_true h1,decide_eq_false h2];open_line with[m_has_figures,gJ,hset,hl,e1,e2,ON,OL]
 .have e1:decide ((1:Int)<=(F.length:Int))=false:=decide_eq_false (by omega)
  rw[decide_eq_false h1];open_line with[m_has_figures,gJ,hset,hl,e1,OL]
def CJ:D->Bool
 |.str y=>!(HJ y "0123456789")
 |_=>false
def Du{z:OG}(h:z.length<=100000):∃bad:ac,lK 1 [] (fv 0) (aa (ag 0) (dC (.str "0123456789")) dk) (ag 0) [.sh (.str z)] (dr z)=.ok (.lst bad)/\dm (.lst bad) (.lst [])=.ok (.bl ((cl z).all lQ)):=by
 refine⟨((dr z).filter CJ).map id,?_,?_⟩
 .refine oa (by rw[gA];have:z.length=z.cps.size:=rfl;omega) λd hd=>?_
  rw[pF]at hd;obtain⟨c,_,rfl⟩:=PM.mp hd;exact⟨[.sh (.str ⟨#[c]⟩)],rfl,rfl,λ_=>rfl⟩
 .rw[List.map_id]
  have hs:bh 40 (.lst ((dr z).filter CJ))=true:=Pk.mpr λd hd=>by
   have:=(Sn.mp hd).1;rw[pF]at this;obtain⟨c,_,rfl⟩:=PM.mp this;rfl
  have e:dm (.lst ((dr z).filter CJ)) (.lst [])=.ok (.bl (cH (.lst ((dr z).filter CJ)) (.lst []))):=if_pos ⟨hs,rfl⟩;rw[e]
  congr 2
  have k:∀(cs:cr),cH (.lst ((cs.map λc=>D.str ⟨#[c]⟩).filter CJ)) (.lst [])=cs.all lQ:=by
   intro cs
   induction cs with
   |nil=>rw[cH];rfl
   |cons c r ih=>
    rw[PC,QH];cases q:lQ c with
    |true=>rw[Sg (by show ¬(!(lQ c))=true;rw[q];decide),ih];rfl
    |false=>
     rw[Sf (by show(!(lQ c))=true;rw[q];rfl),cH];rfl
  rw[pF];exact k _
def ik(z:OG):Bool:=!(decide (z=""))&&(decide (z.length<=60)&&(!((cl z).head?==some 48&&!(decide (z="0")))&&(cl z).all lQ))
def yA{z:OG}(h:z.length<=100000):tR (ag 0) [.sh (.str z)]=.ok (dr z):=rfl
def zp{z:OG}(h:z.length<=100000):bR [.str z]=.ok (.bl (ik z)):=by
 obtain⟨bad,hb,he⟩:=Du h;have hsrc:=yA h;have h1:=cf (a:=z) (b:="");have hl:=len_str h;have h2:=mF (a:=z) (b:="0");unfold ik;cases e1:decide (z=("" : OG)) with
 |true=>
  rw[e1]at h1;open_line with[bR,dN,h1,OL]
 |false=>
  rw[e1]at h1
  by_cases c:z.length<=60
  .have e2:decide ((60:Int)<(z.length:Int))=false:=decide_eq_false (by omega)
   have g2:wO (.int (z.length:Int)) (.int 60)=.ok (.bl false):=by
    show ak.ok (D.bl (decide ((z.length:Int) > 60)))=_;rw[decide_eq_false (by omega)]
   cases q:cl z with
   |nil=>exact absurd (iI (a:=z) (b:="") (by rw[q];rfl)) (of_decide_eq_false e1)
   |cons d ds=>
    have hix:aO (.str z) (.int 0)=.ok (.str ⟨#[d]⟩):=by
     show(if z.length<=line then(match atI (cl z) 0 with|some c=>ak.ok (D.str ⟨#[c]⟩)|none=>.stuck) else .stuck)=_;rw[if_pos (O0 h (by decide)),q,show atI (d::ds) 0=some d from cY (j:=0) rfl]
    have h3:=cf (a:=(⟨#[d]⟩:OG)) (b:="0");have e3:decide ((⟨#[d]⟩:OG)="0")=((d::ds).head?==some 48):=by
     rw[P8,decide_eq_true_eq,beq_iff_eq];constructor
     .intro z;have:=congrArg cl z;have t:[d]=[48]:=this;injection t with t _;rw[t];rfl
     .intro z;have t:some d=some 48:=z;injection t with t;rw[t];decide
    rw[e3]at h3;rw[q]at he;rw[decide_eq_true c];cases e4:((d::ds).head?==some 48) with
    |false=>
     rw[e4]at h3;open_line with[bR,dN,h1,hl,g2,hix,h3,hsrc,hb,he,ON,OL]
    |true=>
     rw[e4]at h3;cases e5:decide (z=("0" : OG)) with
     |true=>
      rw[e5]at h2;open_line with[bR,dN,h1,hl,g2,hix,h3,h2,hsrc,hb,he,ON,OL,Pf]
     |false=>
      rw[e5]at h2;open_line with[bR,dN,h1,hl,g2,hix,h3,h2,ON,OL]
  .have g2:wO (.int (z.length:Int)) (.int 60)=.ok (.bl true):=by
    show ak.ok (D.bl (decide ((z.length:Int) > 60)))=_;rw[decide_eq_true (by omega)]
   rw[decide_eq_false c];open_line with[bR,dN,h1,hl,g2,ON,OL]
def kH{z:OG}:ik z=true↔kQ (cl z)/\z.length<=60:=by
 unfold ik;simp only[OR,Rb,decide_eq_true_eq,decide_eq_false_iff_not,Ie,Sr,Bool.not_eq_false',beq_eq_false_iff_ne];constructor
 .rintro⟨h1,h2,h3,h4⟩
  refine⟨⟨h4,λe=>h1 (iI (by rw[e];rfl)),λr e=>?_⟩,h2⟩;rcases h3 with h3|h3
  .exact absurd (by rw[e];rfl) h3
  .rw[h3]at e
   have t:[48]=48::r:=e;injection t with _ t;exact t.symm
 .rintro⟨h,h2⟩
  refine⟨λe=>h.n (by rw[e];rfl),h2,?_,h.d⟩
  by_cases q:(cl z).head?=some 48
  .refine .inr ?_
   cases w:cl z with
   |nil=>rw[w]at q;cases q
   |cons d r=>
    rw[w]at q;have t:some d=some 48:=q;injection t with t;subst t;have:=h.z r w;subst this;exact iI w
  .exact .inl q
def val(z:OG):Int:=((digitsVal (cl z):Nat):Int)
def bW(z:OG):Int:=if neg z=true then -(val (f9 z)) else val (f9 z)
def qo{z:OG}(hd:AllDigits (cl z))(hn:cl z≠[])(hl:z.length<=60):eL (.str z)=.ok (.int (val z)):=by
 have h:=intText_digits hd hn (by omega);show(if z.length<=640 then(match QX z with|some n=>ak.ok (D.int n)|none=>.stuck) else .stuck)=_;rw[if_pos (by omega)];have h':QX z=some (val z):=h;rw[h']
def CO{z:OG}(h:neg z=true):cl z=45::cl (f9 z):=by
 rw[Dv,if_pos h];unfold neg at h;cases q:cl z with
 |nil=>rw[q]at h;cases h
 |cons c cs=>
  rw[q]at h;have t:some c=some 45:=beq_iff_eq.mp h;injection t with t;rw[t];rfl
def kW{z:OG}(h:neg z=false):f9 z=z:=by unfold f9;rw[h];rfl
def kG{z:OG}:fB z=true↔AllDigits (cl (f9 z))/\cl (f9 z)≠[]/\(f9 z).length<=60:=by
 unfold fB;rw[OR,OR,decide_eq_true_eq,decide_eq_true_eq,Ie];constructor
 .rintro⟨h1,h2,h3⟩
  exact⟨h3,λe=>by rw[←dW,e]at h1;simp at h1,h2⟩
 .rintro⟨h1,h2,h3⟩
  refine⟨?_,h3,h1⟩;rw[←dW];cases q:cl (f9 z) with|nil=>exact absurd q h2|cons c cs=>simp
def uC{z:OG}(h:fB z=true):eL (.str z)=.ok (.int (bW z)):=by
 obtain⟨h1,h2,h3⟩:=kG.mp h;unfold bW;cases q:neg z with
 |false=>
  rw[kW q]at h1 h2 h3 ⊢;exact qo h1 h2 h3
 |true=>
  have e:=CO q;have hl:z.length<=61:=by
   rw[←dW,e,Pa,dW];omega
  have k:QX z=some (-(val (f9 z))):=intText_neg e h1 h2 (by omega);show(if z.length<=640 then(match QX z with|some n=>ak.ok (D.int n)|none=>.stuck) else .stuck)=_;rw[if_pos (by omega),k];rfl
def Iv{z:OG}:0<=val z:=RX _
def Iu{z:OG}:wr (val z)=uX (digitsVal (cl z)):=by
 unfold wr val;rw[if_neg (by omega)];rfl
def tN{z:OG}(h:fB z=true):wr (bW z)=cl z↔(kQ (cl (f9 z))/\z≠"-0"):=by
 obtain⟨h1,h2,h3⟩:=kG.mp h;unfold bW;cases q:neg z with
 |false=>
  rw[kW q]at *;rw[if_neg (by decide),Iu];constructor
  .intro e
   refine⟨?_,λe2=>by rw[e2]at q;exact absurd q (by decide)⟩;rw[←e];exact sR _
  .rintro⟨c,_⟩
   exact lW c
 |true=>
  have e:=CO q;rw[if_pos rfl,e];have z0:z="-0"↔cl (f9 z)=[48]:=by
   constructor
   .intro t
    have:cl z=[45,48]:=by rw[t];decide
    rw[e]at this;injection this
   .intro t
    exact iI (by rw[e,t];decide)
  by_cases hp:digitsVal (cl (f9 z))=0
  .have hv:-(val (f9 z))=0:=by unfold val;rw[hp];rfl
   rw[hv];constructor
   .intro t
    have t2:[48]=45::cl (f9 z):=by
     have:wr 0=[48]:=by decide
     rw[←this];exact t
    injection t2 with t3 _;exact absurd t3 (by decide)
   .rintro⟨c,nz⟩
    have:=lW c;rw[hp]at this;exact absurd (z0.mpr (by rw[←this];decide)) nz
  .have hneg:-(val (f9 z))<0:=by unfold val;omega
   have hab:(-(val (f9 z))).natAbs=digitsVal (cl (f9 z)):=by unfold val;omega
   have hw:wr (-(val (f9 z)))=45::uX (digitsVal (cl (f9 z))):=by unfold wr;rw[if_pos hneg,hab]
   rw[hw];constructor
   .intro t
    injection t with _ t;refine⟨by rw[←t];exact sR _,λt2=>?_⟩;have:=z0.mp t2;rw[this]at hp;exact hp (by decide)
   .rintro⟨c,_⟩
    rw[lW c]
def Hv{n:Int}:47∉wr n:=by
 unfold wr;intro h;split at h
 .rcases O4.mp h with h|h
  .exact absurd h (by decide)
  .have:=lU _ _ h;omega
 .have:=lU _ _ h;omega
def oP(p q:Int):OG:=if q=1 then PL (toString p) else PL (toString p)++("/" : OG)++PL (toString q)
def BV{n:Int}(h:n.natAbs<10 ^ 130):jV (.int n)=.ok (.str (PL (toString n))):=by
 show(if n.natAbs.log2<1920 then ak.ok (D.str (toString n)) else .stuck)=_;refine if_pos ?_
 by_cases h0:n.natAbs=0
 .rw[h0];decide
 .exact(Nat.log2_lt h0).mpr (OS h (by decide))
theorem zG:∀(k m:Nat),m<10 ^ k->(uX m).length<=k+1
 |0,m,h=>by rw[kJ (by omega)];simp
 |k+1,m,h=>by
  by_cases c:m<10
  .rw[kJ c];simp
  .rw[qE (by omega),Pm]
   have:=zG k (m / 10) (by rw[Nat.pow_succ]at h;omega);simp only[Pa,QM];omega
def oX{n:Int}{k:Nat}(h:n.natAbs<10 ^ k):(PL (toString n)).length<=k+2:=by
 rw[←dW];show(PL (toString n)).cps.toList.length<=_;rw[oW];unfold wr;have:=zG k n.natAbs h;split
 .rw[Pa];omega
 .omega
def pE{p q:Int}(hp:p.natAbs<10 ^ 130)(hq:q.natAbs<10 ^ 130):m_shown_ratio [.tup [.int p,.int q]]=.ok (.str (oP p q)):=by
 have s1:=BV hp;have s2:=BV hq;have l1:=oX hp;have l2:=oX hq;unfold oP
 by_cases c:q=1
 .subst c
  rw[if_pos rfl];open_line with[m_shown_ratio,jd,s1]
 .rw[if_neg c]
  have e:(q==1)=false:=beq_eq_false_iff_ne.mpr c;have a1:aP (.str (PL (toString p))) (.str "/")=.ok (.str (PL (toString p)++("/" : OG))):=e9 (decide_eq_true (by have:("/" : OG).length=1:=rfl;omega));have a2:aP (.str (PL (toString p)++("/" : OG))) (.str (PL (toString q)))=.ok (.str (PL (toString p)++("/" : OG)++PL (toString q))):=e9 (decide_eq_true (by rw[RA];have:("/" : OG).length=1:=rfl;omega));generalize PL (toString p)=P at *;generalize PL (toString q)=R at *;open_line with[m_shown_ratio,jd,e,s1,s2,a1,a2]
def wU{p q:Int}:bY [.tup [.int p,.int q]]=m_shown_ratio [.tup [.int p,.int q]]:=rfl
def pj{p q:Int}:cl (oP p q)=if q=1 then wr p else wr p++47::wr q:=by
 unfold oP;split
 .exact oW p
 .rw[iJ,iJ,QQ]
  show cl (PL (toString p))++([47]++cl (PL (toString q)))=_;rw[show cl (PL (toString p))=wr p from oW p,show cl (PL (toString q))=wr q from oW q];rfl
def Eb{z:OG}:Qh z (some 0) none=z:=iI (wy (i:=0) (RJ _))
def B4{z:OG}{l h:Option Int}(hz:z.length<=100000):rz (.str z) l h=.ok (.str (Qh z l h)):=by
 show lM (.str z) l h=_;exact if_pos (O0 hz (by decide))
def AY(a st b:OG):D:=if ik (f9 a)=false∨a="-0" then .non else if st="" then .tup [.int (bW a),.int 1] else if ik b=false∨val b<2∨Pw (bW a) (val b)≠1 then .non else .tup [.int (bW a),.int (val b)]
def mC{z:OG}(h:ik z=true):eL (.str z)=.ok (.int (val z)):=by
 obtain⟨c,hl⟩:=kH.mp h;exact qo c.d c.n hl
def kX{z a st b:OG}(hz:z.length<=100000)(ha:a.length<=100000)(hb:b.length<=100000)(hp:PB z cD=(a,st,b)):aH [.str z]=.ok (AY a st b):=by
 have h1:kK sD (ag 0) (dC (.str "/")) [.sh (.str z),.no,.no,.no,.no,.no]=.ok (.tup [.str a,.str st,.str b]):=by
  show sD z "/"=_;unfold sD;rw[kT,if_pos ⟨rfl,by omega⟩,hp]
 have h3:=zp (z:=f9 a) (O0 zq ha);have h4:=cf (a:=a) (b:="-0");have h5:=cf (a:=st) (b:="");have h6:=zp hb;have s1:=B4 (l:=none) (h:=some 1) ha;have hn:=FP (z:=a);have iv:(if neg a=true then(0:Int)-val (f9 a) else val (f9 a))=bW a:=by unfold bW;split<;>omega
 have hg:∀x:Int,cj [.int x,.int (val b)]=.ok (.int (Pw x (val b))):=λx=>qA x (val b);unfold AY;cases q:neg a with
 |true=>
  rw[q]at hn iv;have i1:eL (.bl true)=.ok (.int 1):=rfl;rw[if_pos rfl]at iv;have s2:rz (.str a) (some 1) none=.ok (.str (f9 a)):=by
   rw[B4 ha];unfold f9;rw[if_pos q]
  generalize f9 a=FA at *;rw[←iv];cases e1:ik FA with
  |false=>
   rw[e1]at h3;rw[if_pos (.inl rfl)];open_line with[aH,bq,h1,s1,hn,i1,s2,h3]
  |true=>
   rw[e1]at h3;have h7:=mC e1
   by_cases c1:a="-0"
   .rw[decide_eq_true c1]at h4
    rw[if_pos (.inr c1)];open_line with[aH,bq,h1,s1,hn,i1,s2,h3,h4]
   .rw[decide_eq_false c1]at h4
    rw[if_neg (by simp[c1])]
    by_cases c2:st=""
    .rw[decide_eq_true c2]at h5
     rw[if_pos c2];open_line with[aH,bq,h1,s1,hn,i1,s2,h3,h4,h7,h5]
    .rw[decide_eq_false c2]at h5
     rw[if_neg c2];cases e2:ik b with
     |false=>
      rw[e2]at h6;rw[if_pos (.inl rfl)];open_line with[aH,bq,h1,s1,hn,i1,s2,h3,h4,h7,h5,h6]
     |true=>
      rw[e2]at h6;have h8:=mC e2
      by_cases c3:val b<2
      .rw[if_pos (.inr (.inl c3))]
       have e3:decide (val b<2)=true:=decide_eq_true c3;open_line with[aH,bq,h1,s1,hn,i1,s2,h3,h4,h7,h5,h6,h8,e3]
      .have e3:decide (val b<2)=false:=decide_eq_false c3
       by_cases c4:Pw (0-val FA) (val b)=1
       .rw[if_neg (λt=>t.elim (λz=>by cases z) λt=>t.elim c3 λt=>t c4)]
        have e4:(((Pw (0-val FA) (val b):Nat):Int)==1)=true:=by rw[c4];rfl
        open_line with[aH,bq,h1,s1,hn,i1,s2,h3,h4,h7,h5,h6,h8,e3,hg,e4]
       .rw[if_pos (.inr (.inr c4))]
        have e4:(((Pw (0-val FA) (val b):Nat):Int)==1)=false:=by rw[beq_eq_false_iff_ne];omega
        open_line with[aH,bq,h1,s1,hn,i1,s2,h3,h4,h7,h5,h6,h8,e3,hg,e4]
 |false=>
  rw[q]at hn iv;have i1:eL (.bl false)=.ok (.int 0):=rfl;rw[if_neg (by decide)]at iv;have s2:rz (.str a) (some 0) none=.ok (.str (f9 a)):=by
   rw[B4 ha,Eb];unfold f9;rw[if_neg (by rw[q];decide)]
  generalize f9 a=FA at *;rw[←iv];cases e1:ik FA with
  |false=>
   rw[e1]at h3;rw[if_pos (.inl rfl)];open_line with[aH,bq,h1,s1,hn,i1,s2,h3]
  |true=>
   rw[e1]at h3;have h7:=mC e1
   by_cases c1:a="-0"
   .rw[decide_eq_true c1]at h4
    rw[if_pos (.inr c1)];open_line with[aH,bq,h1,s1,hn,i1,s2,h3,h4]
   .rw[decide_eq_false c1]at h4
    rw[if_neg (by simp[c1])]
    by_cases c2:st=""
    .rw[decide_eq_true c2]at h5
     rw[if_pos c2];open_line with[aH,bq,h1,s1,hn,i1,s2,h3,h4,h7,h5]
    .rw[decide_eq_false c2]at h5
     rw[if_neg c2];cases e2:ik b with
     |false=>
      rw[e2]at h6;rw[if_pos (.inl rfl)];open_line with[aH,bq,h1,s1,hn,i1,s2,h3,h4,h7,h5,h6]
     |true=>
      rw[e2]at h6;have h8:=mC e2
      by_cases c3:val b<2
      .rw[if_pos (.inr (.inl c3))]
       have e3:decide (val b<2)=true:=decide_eq_true c3;open_line with[aH,bq,h1,s1,hn,i1,s2,h3,h4,h7,h5,h6,h8,e3]
      .have e3:decide (val b<2)=false:=decide_eq_false c3
       by_cases c4:Pw (val FA) (val b)=1
       .rw[if_neg (λt=>t.elim (λz=>by cases z) λt=>t.elim c3 λt=>t c4)]
        have e4:(((Pw (val FA) (val b):Nat):Int)==1)=true:=by rw[c4];rfl
        open_line with[aH,bq,h1,s1,hn,i1,s2,h3,h4,h7,h5,h6,h8,e3,hg,e4]
       .rw[if_pos (.inr (.inr c4))]
        have e4:(((Pw (val FA) (val b):Nat):Int)==1)=false:=by rw[beq_eq_false_iff_ne];omega
        open_line with[aH,bq,h1,s1,hn,i1,s2,h3,h4,h7,h5,h6,h8,e3,hg,e4]
abbrev NT:Ij:=⟨"NoText",[("row",.int 0)]⟩
def Kw{α:Type}{g:α->Bool}{cs:List α}:rM (.lst (cs.map λc=>.bl (g c)))=.ok (.bl (cs.all g)):=by
 have:fF (cs.map λc=>D.bl (g c))=some (cs.map g):=i6 g cs;show(match fF (cs.map λc=>D.bl (g c)) with|some bs=>ak.ok (D.bl (bs.all id))|none=>.stuck)=_;rw[this];simp[Sk,SW]
def qL{ps:ci}{ρ:Ev}(hl:ps.length<=100000)(h:∀y∈ps,y.length<=100000):lK 1 [] (fv 0) mYes (ao (af (ag 0) au) m_has_figures) ρ (ps.map D.str)=.ok (.lst (ps.map λy=>.bl (fB y))):=by
 rw[qK (F:=λd=>match d with|.str y=>.bl (fB y)|d=>d) (by rw[OD];omega)]
 .rw[RC];rfl
 .intro d hd
  obtain⟨y,hy,rfl⟩:=PM.mp hd;have:=JF (h y hy);refine⟨[.sh (.str y)],rfl,rfl,?_⟩;open_line with[this]
def Iw:∀{ds:cr},AllDigits ds->digitsVal ds<10 ^ ds.length:=by
 have key:∀(n:Nat) (ds:cr),ds.length=n->AllDigits ds->digitsVal ds<10 ^ ds.length:=by
  intro n
  induction n with
  |zero=>intro ds hl _;rw[Qa.mp hl];decide
  |succ n ih=>
   intro ds hl hd;rcases So ds with rfl|⟨es,c,rfl⟩
   .simp at hl
   .rw[Sq]at *
    have hc:=hd c (by simp);have h1:=ih es (by simpa using hl) (λx hx=>hd x (Rh _ hx));rw[pv,Pm];show _<10 ^ (es.length+1);rw[Nat.pow_succ];omega
 intro ds hd;exact key _ _ rfl hd
def uB{z:OG}(h:fB z=true):(bW z).natAbs<10 ^ 130:=by
 obtain⟨h1,_,h3⟩:=kG.mp h;have hv:=Iw h1;rw[dW]at hv;have h60:10 ^ (f9 z).length<=10 ^ 60:=QO (by decide) h3;have h130:(10:Nat) ^ 60<10 ^ 130:=by decide
 unfold bW val;split<;>omega
def uc{z:OG}{ps:ci}(hz:z.length<=100000)(hs:P6 z cD=ps)(hn:ps.length<=100000)(hp:∀y∈ps,y.length<=100000)(h:ps.length=0∨3<=ps.length∨ps.all fB=false):m_read_ratio [.str z]=.exn NT:=by
 have h1:kK bS (ag 0) (dC (.str "/")) [.sh (.str z),.no,.no]=.ok (.lst (ps.map D.str)):=by
  show bS z "/"=_;unfold bS;rw[kT,if_pos ⟨rfl,by omega⟩,hs]
 have hc:=qL (ρ:=[.sh (.str z),.sh (.lst (ps.map D.str)),.no]) hn hp;have ha:=Kw (g:=fB) (cs:=ps);have hl:(ps.map D.str).length=ps.length:=OD _;generalize ps.map D.str=P at *;generalize (ps.map λy=>D.bl (fB y))=B at *
 by_cases c1:1<=ps.length
 .have e1:decide ((1:Int)<=(P.length:Int))=true:=decide_eq_true (by omega)
  by_cases c2:ps.length<=2
  .have e2:decide ((P.length:Int)<=2)=true:=decide_eq_true (by omega)
   have e3:ps.all fB=false:=by rcases h with h|h|h<;>first|omega|exact h
   rw[e3]at ha;open_line with[m_read_ratio,cX,h1,e1,e2,hc,ha,iy,gE,iH]
  .have e2:decide ((P.length:Int)<=2)=false:=decide_eq_false (by omega)
   open_line with[m_read_ratio,cX,h1,e1,e2,iy,gE,iH]
 .have e1:decide ((1:Int)<=(P.length:Int))=false:=decide_eq_false (by omega)
  open_line with[m_read_ratio,cX,h1,e1,iy,gE,iH]
def Cb{z:OG}(hz:z.length<=100000)(hs:P6 z cD=[z])(hh:fB z=true):m_read_ratio [.str z]=if oP (bW z) 1=z then .ok (.tup [.int (bW z),.int 1]) else .exn NT:=by
 have h1:kK bS (ag 0) (dC (.str "/")) [.sh (.str z),.no,.no]=.ok (.lst [.str z]):=by
  show bS z "/"=_;unfold bS;rw[kT,if_pos ⟨rfl,by omega⟩,hs];rfl
 have hc:=qL (ps:=[z]) (ρ:=[.sh (.str z),.sh (.lst [.str z]),.no]) (by simp) (λy hy=>by rw[PD.mp hy];exact hz);rw[show([z].map D.str)=[.str z] from rfl,show([z].map λy=>D.bl (fB y))=[.bl (fB z)] from rfl,hh]at hc;have ha:rM (.lst [.bl true])=.ok (.bl true):=rfl;have hi:=uC hh;have hr:=e8 (.tup [.int (bW z),.int 1]);rw[show fu (.tup [.int (bW z),.int 1])=true by show(decide ((1:Int)<=1)&&(Pw (bW z) 1==1))=true;rw[SV];rfl]at hr;have hw:=pE (p:=bW z) (q:=1) (uB hh) (by decide);have hne:=mF (a:=oP (bW z) 1) (b:=z);generalize bW z=p at *;generalize oP p 1=w at *
 by_cases c:w=z
 .rw[decide_eq_true c]at hne
  rw[if_pos c];open_line with[m_read_ratio,cX,h1,hc,ha,hi,hr,hw,hne]
 .rw[decide_eq_false c]at hne
  rw[if_neg c];open_line with[m_read_ratio,cX,h1,hc,ha,hi,hr,hw,hne,iy,gE,iH]
def Ca{z p q:OG}(hz:z.length<=100000)(hp:p.length<=100000)(hq:q.length<=100000)(hs:P6 z cD=[p,q])(h1p:fB p=true)(h1q:fB q=true):m_read_ratio [.str z]=if(fu (.tup [.int (bW p),.int (bW q)])=true)/\oP (bW p) (bW q)=z then .ok (.tup [.int (bW p),.int (bW q)]) else .exn NT:=by
 have h1:kK bS (ag 0) (dC (.str "/")) [.sh (.str z),.no,.no]=.ok (.lst [.str p,.str q]):=by
  show bS z "/"=_;unfold bS;rw[kT,if_pos ⟨rfl,by omega⟩,hs];rfl
 have hc:=qL (ps:=[p,q]) (ρ:=[.sh (.str z),.sh (.lst [.str p,.str q]),.no]) (by simp) (λy hy=>by
  rcases O4.mp hy with rfl|hy
  .exact hp
  .rw[PD.mp hy];exact hq)
 rw[show([p,q].map D.str)=[.str p,.str q] from rfl,show([p,q].map λy=>D.bl (fB y))=[.bl (fB p),.bl (fB q)] from rfl,h1p,h1q]at hc;have ha:rM (.lst [.bl true,.bl true])=.ok (.bl true):=rfl;have hi:=uC h1p;have hj:=uC h1q;have hr:=e8 (.tup [.int (bW p),.int (bW q)]);have hw:=pE (p:=bW p) (q:=bW q) (uB h1p) (uB h1q);have hne:=mF (a:=oP (bW p) (bW q)) (b:=z);generalize fu (.tup [.int (bW p),.int (bW q)])=R at *;generalize oP (bW p) (bW q)=w at *;generalize bW p=P at *;generalize bW q=S at *;cases R with
 |false=>
  rw[if_neg (λt=>by cases t.1)];open_line with[m_read_ratio,cX,h1,hc,ha,hi,hj,hr,iy,gE,iH]
 |true=>
  by_cases c:w=z
  .rw[decide_eq_true c]at hne
   rw[if_pos ⟨rfl,c⟩];open_line with[m_read_ratio,cX,h1,hc,ha,hi,hj,hr,hw,hne]
  .rw[decide_eq_false c]at hne
   rw[if_neg (λt=>c t.2)];open_line with[m_read_ratio,cX,h1,hc,ha,hi,hj,hr,hw,hne,iy,gE,iH]
def iF{z:OG}:ik (f9 z)=true↔(fB z=true/\kQ (cl (f9 z))):=by
 rw[kH,kG];exact⟨λ⟨c,l⟩=>⟨⟨c.d,c.n,l⟩,c⟩,λ⟨⟨_,_,l⟩,c⟩=>⟨c,l⟩⟩
def qB{z:OG}(h:AllDigits (cl z)):neg z=false:=by
 unfold neg;cases q:cl z with
 |nil=>rfl
 |cons c cs=>
  rw[q]at h;have:=h.head;rw[beq_eq_false_iff_ne];intro t;have t:some c=some 45:=t;injection t with t;omega
def Nx{z:OG}(hz:z.length<=90000):(∃p q:Int,aH [.str z]=.ok (.tup [.int p,.int q])/\m_read_ratio [.str z]=.ok (.tup [.int p,.int q]))∨(aH [.str z]=.ok .non/\m_read_ratio [.str z]=.exn NT):=by
 have hzl:z.length<=100000:=by omega
 rcases BZ z with⟨hs,hp,hno⟩|⟨p,q,hs,hp,hpn,hqn,hx⟩|⟨h3,p,q,hp,hq⟩
 .have hn:=kX hzl hzl (by decide) hp
  unfold AY at hn;cases hh:fB z with
  |false=>
   have:ik (f9 z)=false:=by
    cases t:ik (f9 z) with|false=>rfl|true=>rw[(iF.mp t).1]at hh;cases hh
   rw[if_pos (.inl this)]at hn;exact .inr ⟨hn,uc hzl hs (by simp) (λy hy=>by rw[PD.mp hy];exact hzl) (.inr (.inr (by show(fB z&&true)=false;rw[hh];rfl)))⟩
  |true=>
   have hr:=Cb hzl hs hh;have hw:(oP (bW z) 1=z)↔(kQ (cl (f9 z))/\z≠"-0"):=by
    rw[←tN hh];constructor
    .intro t;have:=congrArg cl t;rw[pj,if_pos rfl]at this;exact this
    .intro t;exact iI (by rw[pj,if_pos rfl];exact t)
   by_cases c:kQ (cl (f9 z))/\z≠"-0"
   .rw[if_pos (hw.mpr c)]at hr
    rw[if_neg (by rw[iF.mpr ⟨hh,c.1⟩];exact λt=>t.elim (λt=>by cases t) c.2),if_pos (show(RI:OG)="" by decide)]at hn;exact .inl ⟨_,_,hn,hr⟩
   .rw[if_neg (λt=>c (hw.mp t))]at hr
    rw[if_pos (by
     by_cases c2:z="-0"
     .exact .inr c2
     .refine .inl ?_
      cases t:ik (f9 z) with
      |false=>rfl
      |true=>exact absurd ⟨(iF.mp t).2,c2⟩ c)]at hn
    exact .inr ⟨hn,hr⟩
 .have hpl:p.length<=100000:=by rw[←dW];have:=congrArg RK hx;rw[dW,Pm]at this;omega
  have hql:q.length<=100000:=by rw[←dW];have:=congrArg RK hx;rw[dW,Pm,Pa]at this;omega
  have hn:=kX hzl hpl hql hp;unfold AY at hn;have st:¬((cD:OG)=""):=by decide
  by_cases hh:fB p=true/\fB q=true
  .obtain⟨h1,h2⟩:=hh
   have hr:=Ca hzl hpl hql hs h1 h2;have hw:(bW q≠1->(oP (bW p) (bW q)=z↔((kQ (cl (f9 p))/\p≠"-0")/\(kQ (cl (f9 q))/\q≠"-0")))):=λn1=>by
    rw[←tN h1,←tN h2];constructor
    .intro t
     have:=congrArg cl t;rw[pj,if_neg n1,hx]at this;exact k8 this Hv hpn
    .rintro⟨t1,t2⟩
     exact iI (by rw[pj,if_neg n1,hx,t1,t2])
   have hw1:bW q=1->oP (bW p) (bW q)≠z:=λn1 t=>by
    have:=congrArg cl t;rw[pj,if_pos n1,hx]at this;exact Hv (n:=bW p) (by rw[this];simp)
   by_cases cA:ik (f9 p)=false∨p="-0"
   .rw[if_pos cA]at hn
    refine .inr ⟨hn,?_⟩;rw[hr,if_neg];rintro⟨_,t⟩
    by_cases n1:bW q=1
    .exact hw1 n1 t
    .obtain⟨⟨k1,k2⟩,_⟩:=(hw n1).mp t
     rcases cA with cA|cA
     .rw[iF.mpr ⟨h1,k1⟩]at cA;cases cA
     .exact k2 cA
   .rw[if_neg cA,if_neg st]at hn
    have cp:kQ (cl (f9 p))/\p≠"-0":=by
     refine⟨?_,λt=>cA (.inr t)⟩;cases t:ik (f9 p) with|false=>exact absurd (.inl t) cA|true=>exact(iF.mp t).2
    cases fq:ik q with
    |false=>
     rw[if_pos (.inl fq)]at hn;refine .inr ⟨hn,?_⟩;rw[hr,if_neg];rintro⟨t0,t⟩;have t1:1<=bW q:=by
      have:(decide ((1:Int)<=bW q)&&(Pw (bW p) (bW q)==1))=true:=t0;rw[OR,decide_eq_true_eq]at this;exact this.1
     have ng:neg q=false:=by
      cases w:neg q with|false=>rfl|true=>unfold bW at t1;rw[if_pos w]at t1;have:=Iv (z:=f9 q);omega
     by_cases n1:bW q=1
     .exact hw1 n1 t
     .have:=((hw n1).mp t).2.1
      have g:=iF.mpr ⟨h2,this⟩;rw[kW ng,fq]at g;cases g
    |true=>
     obtain⟨cq,lq⟩:=kH.mp fq;have ng:=qB cq.d;have iq:bW q=val q:=by unfold bW;rw[ng,kW ng];rfl
     rw[fq]at hn
     by_cases c3:val q<2∨Pw (bW p) (val q)≠1
     .rw[if_pos (.inr c3)]at hn
      refine .inr ⟨hn,?_⟩;rw[hr,if_neg];rintro⟨t0,t⟩;have:(decide ((1:Int)<=bW q)&&(Pw (bW p) (bW q)==1))=true:=t0;rw[OR,decide_eq_true_eq,beq_iff_eq]at this
      by_cases n1:bW q=1
      .exact hw1 n1 t
      .rcases c3 with c3|c3
       .omega
       .exact c3 (by rw[←iq];exact this.2)
     .have c4:¬val q<2:=λt=>c3 (.inl t)
      have c5:Pw (bW p) (val q)=1:=To λt=>c3 (.inr t);rw[if_neg (λt=>t.elim (λt=>by cases t) c3)]at hn;refine .inl ⟨_,_,hn,?_⟩;have n1:bW q≠1:=by omega
      rw[hr,if_pos ⟨by show(decide ((1:Int)<=bW q)&&(Pw (bW p) (bW q)==1))=true;rw[iq,c5,decide_eq_true (by omega)];rfl,(hw n1).mpr ⟨cp,by rw[kW ng];exact cq,λt=>by rw[t]at ng;exact absurd ng (by decide)⟩⟩,iq]
  .refine .inr ⟨?_,uc hzl hs (by simp) (λy hy=>?_) (.inr (.inr ?_))⟩
   .rw[hn]
    by_cases cA:ik (f9 p)=false∨p="-0"
    .rw[if_pos cA]
    .rw[if_neg cA,if_neg st,if_pos]
     left;cases fq:ik q with
     |false=>rfl
     |true=>
      obtain⟨cq,lq⟩:=kH.mp fq;have ng:=qB cq.d;have h2:fB q=true:=kG.mpr (by rw[kW ng];exact⟨cq.d,cq.n,lq⟩);have h1:fB p=true:=by
       cases t:ik (f9 p) with|false=>exact absurd (.inl t) cA|true=>exact(iF.mp t).1
      exact absurd ⟨h1,h2⟩ hh
   .rcases O4.mp hy with rfl|hy
    .exact hpl
    .rw[PD.mp hy];exact hql
   .show(fB p&&(fB q&&true))=false
    cases a:fB p with
    |false=>rfl
    |true=>cases b:fB q with
     |false=>rfl
     |true=>exact absurd ⟨a,b⟩ hh
 .have hpl:p.length<=100000/\q.length<=100000:=by
   have:=Uc z cD;rw[hp]at this;have:=congrArg Str.length this;rw[RA,RA]at this;dsimp only at this;omega
  have hn:=kX hzl hpl.1 hpl.2 hp;unfold AY at hn;have st:¬((cD:OG)=""):=by decide
  have fq:ik q=false:=by
   cases t:ik q with|false=>rfl|true=>have:=(kH.mp t).1.d 47 hq;omega
  have hr:m_read_ratio [.str z]=.exn NT:=by
   have hsl:=DL.split_len (x:=z) (y:=cD);exact uc hzl rfl (by omega) (λy hy=>by have:=PyProof.Rows.part_short hy;omega) (.inr (.inl h3))
  refine .inr ⟨?_,hr⟩;rw[hn]
  by_cases cA:ik (f9 p)=false∨p="-0"
  .rw[if_pos cA]
  .rw[if_neg cA,if_neg st,if_pos (.inl fq)]
end K74
namespace K68
open PySem L2 DL Com
def E9(p:Int->Bool):D->Bool
 |.tup [.int a,.int _]=>p a
 |_=>false
def F6(d:D):Bool:=fu d&&E9 (λa=>decide (0<=a)) d
def worthD(d:D):Bool:=fX d||(fu d&&E9 (λa=>decide (0<a)) d)
def wordD:D->Bool
 |.str z=>z=="one"||z=="both"
 |_=>false
def nN{d:D}(h:fu d=true):∃a b,d=.tup [.int a,.int b]:=by
 cases d with
 |tup xs=>
  rcases BG (xs:=xs) with⟨x,y,rfl⟩|hn
  .rw[pL,OR,OR]at h
   obtain⟨h1,h2,_⟩:=h;cases x<;>first|(cases h1;done)|skip
   cases y<;>first|(cases h2;done)|skip
   exact⟨_,_,rfl⟩
  .rw[vo hn]at h;cases h
 |_=>cases h
def sG(d:D):Com.m_is_length [d]=.ok (.bl (F6 d)):=by
 unfold F6;cases h:fu d with
 |false=>open_line with[Com.m_is_length,kN,e8,h,OL]
 |true=>
  obtain⟨a,b,rfl⟩:=nN h;open_line with[Com.m_is_length,kN,e8,h,ON,E9]
def BB(d:D):Com.m_is_worth [d]=.ok (.bl (worthD d)):=by
 unfold worthD;cases hn:fX d with
 |true=>open_line with[Com.m_is_worth,jZ,dM,hn,Bool.true_or]
 |false=>
  cases h:fu d with
  |false=>open_line with[Com.m_is_worth,jZ,dM,hn,e8,h,OL,Sx]
  |true=>
   obtain⟨a,b,rfl⟩:=nN h;open_line with[Com.m_is_worth,jZ,dM,hn,e8,h,ON,Sx,E9]
def tie5(a b w l o:D):Bool:=sC a&&(sC b&&(!(cH a b)&&(wordD w&&(F6 l&&worthD o))))
def vI{d:D}(h:sC d=true):∃z,d=.str z:=by cases d<;>first|exact⟨_,rfl⟩|cases h
def qv{x y:OG}:dm (.str x) (.str y)=.ok (.bl (cH (.str x) (.str y))):=by unfold dm;rw[if_pos ⟨rfl,rfl⟩]
def u6{w:OG}:(([.str "one",.str "both"]:ac).any λd=>cH d (.str w))=wordD (.str w):=by
 show((("one" : OG)==w)||((("both" : OG)==w)||false))=((w=="one")||(w=="both"));rw[Bool.or_false,Bool.beq_comm (a:=("one" : OG)),Bool.beq_comm (a:=("both" : OG))]
def tO{w:OG}:dk (.str w) (.tup [.str "one",.str "both"])=.ok (.bl (!(wordD (.str w)))):=by
 have e:Dg (.str w) (.tup [.str "one",.str "both"])=some (wordD (.str w)):=by
  show(if bh 40 (.str w)=true/\([.str "one",.str "both"]:ac).all (bh 40)=true then some (([.str "one",.str "both"]:ac).any λd=>cH d (.str w)) else none)=_;rw[if_pos ⟨rfl,rfl⟩,u6]
 unfold dk;rw[e]
def word_inL{w:OG}:dk (.str w) (.lst [.str "one",.str "both"])=.ok (.bl (!(wordD (.str w)))):=by
 have e:Dg (.str w) (.lst [.str "one",.str "both"])=some (wordD (.str w)):=by
  show(if bh 40 (.str w)=true/\([.str "one",.str "both"]:ac).all (bh 40)=true then some (([.str "one",.str "both"]:ac).any λd=>cH d (.str w)) else none)=_;rw[if_pos ⟨rfl,rfl⟩,u6]
 unfold dk;rw[e]
def BC{d:D}(h:∀z,d≠.str z):wordD d=false:=by cases d<;>first|rfl|exact absurd rfl (h _)
def N3{d:D}(h:∀z,d≠.str z):i9 "str" d=.ok (.bl false):=by
 cases d with
 |str z=>exact absurd rfl (h z)
 |ob k ds=>cases k<;>rfl
 |_=>rfl
def tie_tail{a b w l o:D}(fa:Me a=true)(fb:Me b=true):Com.m_is_tie [.tup [a,b,w,l,o]]=.ok (.bl (tie5 a b w l o)):=by
 unfold tie5;cases ha:sC a with
 |false=>open_line with[Com.m_is_tie,gW,cw fa,ha,OL]
 |true=>
  cases hb:sC b with
  |false=>open_line with[Com.m_is_tie,gW,cw fa,cw fb,ha,hb,OL,ON]
  |true=>
   obtain⟨x,rfl⟩:=vI ha;obtain⟨y,rfl⟩:=vI hb;cases he:cH (.str x) (.str y) with
   |true=>open_line with[Com.m_is_tie,gW,cw fa,cw fb,ha,hb,qv,he,OL,ON,OU]
   |false=>
    by_cases hw:∃z,w=.str z
    .obtain⟨z,rfl⟩:=hw
     cases hz:wordD (.str z) with
     |false=>open_line with[Com.m_is_tie,gW,cw fa,cw fb,ha,hb,qv,he,tO,hz,OL,ON,OO]
     |true=>
      cases hl:F6 l with
      |false=>open_line with[Com.m_is_tie,gW,cw fa,cw fb,ha,hb,qv,he,tO,hz,sG,hl,OL,ON,OO,OU]
      |true=>open_line with[Com.m_is_tie,gW,cw fa,cw fb,ha,hb,qv,he,tO,hz,sG,hl,BB,ON,OO,OU]
    .have hn:∀z,w≠.str z:=λz hz=>hw ⟨z,hz⟩
     open_line with[Com.m_is_tie,gW,cw fa,cw fb,ha,hb,qv,he,N3 hn,BC hn,OL,ON,OO]
end K68
namespace K76
open PySem L2 DL Com Tex K74
def Cn:D->Bool
 |.str y=>!(HJ y "abcdefghijklmnopqrstuvwxyz")
 |_=>false
def Hn{z:OG}(h:z.length<=100000):∃bad:ac,lK 1 [] (fv 0) (aa (ag 0) (dC (.str "abcdefghijklmnopqrstuvwxyz")) dk) (ag 0) [.sh (.str z)] (dr z)=.ok (.lst bad)/\dm (.lst bad) (.lst [])=.ok (.bl ((cl z).all kF)):=by
 refine⟨((dr z).filter Cn).map id,?_,?_⟩
 .refine oa (by rw[gA];have:z.length=z.cps.size:=rfl;omega) λd hd=>?_
  rw[pF]at hd;obtain⟨c,_,rfl⟩:=PM.mp hd;exact⟨[.sh (.str ⟨#[c]⟩)],rfl,rfl,λ_=>rfl⟩
 .rw[List.map_id]
  have hs:bh 40 (.lst ((dr z).filter Cn))=true:=Pk.mpr λd hd=>by
   have:=(Sn.mp hd).1;rw[pF]at this;obtain⟨c,_,rfl⟩:=PM.mp this;rfl
  have e:dm (.lst ((dr z).filter Cn)) (.lst [])=.ok (.bl (cH (.lst ((dr z).filter Cn)) (.lst []))):=if_pos ⟨hs,rfl⟩;rw[e]
  congr 2
  have k:∀(cs:cr),cH (.lst ((cs.map λc=>D.str ⟨#[c]⟩).filter Cn)) (.lst [])=cs.all kF:=by
   intro cs
   induction cs with
   |nil=>rw[cH];rfl
   |cons c r ih=>
    rw[PC,QH];cases q:kF c with
    |true=>rw[Sg (by show ¬(!(kF c))=true;rw[q];decide),ih];rfl
    |false=>
     rw[Sf (by show(!(kF c))=true;rw[q];rfl),cH];rfl
  rw[pF];exact k _
def CY{z:OG}(h:z.length<=100000):dJ [.str z]=.ok (.bl (dX z)):=by
 obtain⟨bad,hb,he⟩:=Hn h;have hsrc:=yA h;have hl:=len_str h;unfold dX;have g1:mY (.int (z.length:Int)) (.int 1)=.ok (.bl (decide ((z.length:Int)<1))):=rfl;have g2:wO (.int (z.length:Int)) (.int 8)=.ok (.bl (decide ((z.length:Int) > 8))):=rfl
 by_cases c1:1<=z.length
 .rw[decide_eq_false (show ¬(z.length:Int)<1 by omega)]at g1
  rw[decide_eq_true c1]
  by_cases c2:z.length<=8
  .rw[decide_eq_false (show ¬(z.length:Int) > 8 by omega)]at g2
   rw[decide_eq_true c2];open_line with[dJ,gi,hl,g1,g2,hsrc,hb,he,ON]
  .rw[decide_eq_true (show(z.length:Int) > 8 by omega)]at g2
   rw[decide_eq_false c2];open_line with[dJ,gi,hl,g1,g2,ON,OL]
 .rw[decide_eq_true (show(z.length:Int)<1 by omega)]at g1
  rw[decide_eq_false c1];open_line with[dJ,gi,hl,g1,OL]
def FU{z:OG}(h:z.length<=90000):m_is_name [.str z]=.ok (.bl (dX z)):=cw (d:=.str z) (decide_eq_true (O0 h (by decide)))
def AQ{z:OG}(hz:z.length<=90000){p q:Int}(h:aH [.str z]=.ok (.tup [.int p,.int q])):fu (.tup [.int p,.int q])=true:=by
 have key:∃a st b,PB z cD=(a,st,b)/\a.length<=100000/\b.length<=100000:=by
  rcases md z with⟨h1,_⟩|⟨a,b,h1,_,h3⟩
  .exact⟨_,_,_,h1,by omega,by decide⟩
  .have:=congrArg RK h3
   rw[dW,Pm,Pa,dW,dW]at this;exact⟨_,_,_,h1,by omega,by omega⟩
 obtain⟨a,st,b,hp,ha,hb⟩:=key;have hn:=kX (show z.length<=100000 by omega) ha hb hp;have h:=hn.symm.trans h;unfold AY at h;split at h
 .cases h
 .split at h
  .cases h
   show(decide ((1:Int)<=1)&&(Pw (bW a) 1==1))=true;rw[SV];rfl
  .split at h
   .cases h
   .next hc=>
    cases h;have h1:¬val b<2:=λt=>hc (.inr (.inl t));have h2:Pw (bW a) (val b)=1:=To λt=>hc (.inr (.inr t));show(decide ((1:Int)<=val b)&&(Pw (bW a) (val b)==1))=true;rw[decide_eq_true (by omega),h2];rfl
def pZ{z:OG}(hz:z.length<=90000):(∃p q:Int,aH [.str z]=.ok (.tup [.int p,.int q])/\m_read_ratio [.str z]=.ok (.tup [.int p,.int q])/\fu (.tup [.int p,.int q])=true)∨(aH [.str z]=.ok .non/\m_read_ratio [.str z]=.exn NT):=by
 rcases Nx hz with⟨p,q,h1,h2⟩|h
 .exact .inl ⟨p,q,h1,h2,AQ hz h1⟩
 .exact .inr h
def lg{g:bv}{hit:OG->Bool}{ρ:Ev}:B6 g hit ρ=rV hit (g ρ):=rfl
def mD{hit:OG->Bool}{r:Fl}:rV hit (.ok r)=.ok r:=rfl
def wg:rV (jB jv) (.exn NT)=.ok (.rt .non):=rfl
def zv{i:Nat}{fc f0:am}{fa:Ev->ak (ac)}{m:ac->ak D}{ρ:Ev}{d:D}(h:fc ρ=.ok (.bl true))(h0:f0 ρ=.ok d):iC i fc f0 fa m ρ=.ok (.nx (ρ.set i (.sh d))):=by
 unfold iC;rw[h];dsimp only;rw[h0]
def uI{i:Nat}{fc f0:am}{fa:Ev->ak (ac)}{m:ac->ak D}{ρ:Ev}(h:fc ρ=.ok (.bl false)):iC i fc f0 fa m ρ=ko i fa m ρ:=by
 unfold iC;rw[h]
abbrev uW(w0 w1 w2 w3 w4 w5:OG):D:=.lst [.str w0,.str w1,.str w2,.str w3,.str w4,.str w5]
abbrev km(w1 w2 w3:OG)(L O:D):D:=.tup [.str w1,.str w2,.str w3,L,O]
section
variable {w0 w1 w2 w3 w4 w5:OG}
def s1:aO (uW w0 w1 w2 w3 w4 w5) (.int 1)=.ok (.str w1):=rfl
def s2:aO (uW w0 w1 w2 w3 w4 w5) (.int 2)=.ok (.str w2):=rfl
def s3:aO (uW w0 w1 w2 w3 w4 w5) (.int 3)=.ok (.str w3):=rfl
def s4:aO (uW w0 w1 w2 w3 w4 w5) (.int 4)=.ok (.str w4):=rfl
def s5:aO (uW w0 w1 w2 w3 w4 w5) (.int 5)=.ok (.str w5):=rfl
def s6:bN (uW w0 w1 w2 w3 w4 w5)=.ok (.int 6):=rfl
def Ce(h:m_read_ratio [.str w4]=.exn NT):bV [uW w0 w1 w2 w3 w4 w5]=.ok .non:=by
 open_line with[bV,fM,lg,iZ,gS,s4,h,iH,wg]
def Cd{L:D}(h:m_read_ratio [.str w4]=.ok L)(hw:w5≠"-")(h5:m_read_ratio [.str w5]=.exn NT):bV [uW w0 w1 w2 w3 w4 w5]=.ok .non:=by
 have e:=cf (a:=w5) (b:="-");rw[decide_eq_false hw]at e;have hc:aa (aa (ag 0) (dC (.int 5)) aO) (dC (.str "-")) dm [.sh (uW w0 w1 w2 w3 w4 w5),.sh L,.no,.no]=.ok (.bl false):=by open_line with[s5,e]
 open_line with[bV,fM,lg,iZ,gS,s4,h,uI hc,s5,h5,iH,wg]
def AD{L:D}(h:m_read_ratio [.str w4]=.ok L)(hw:w5="-")(h1:w1.length<=90000)(h2:w2.length<=90000):bV [uW w0 w1 w2 w3 w4 w5]=.ok (if K68.tie5 (.str w1) (.str w2) (.str w3) L .non=true then km w1 w2 w3 L .non else .non):=by
 have e:=cf (a:=w5) (b:="-");rw[decide_eq_true hw]at e;have hc:aa (aa (ag 0) (dC (.int 5)) aO) (dC (.str "-")) dm [.sh (uW w0 w1 w2 w3 w4 w5),.sh L,.no,.no]=.ok (.bl true):=by open_line with[s5,e]
 have h0:dC D.non [.sh (uW w0 w1 w2 w3 w4 w5),.sh L,.no,.no]=.ok .non:=rfl;have ht:=K68.tie_tail (a:=.str w1) (b:=.str w2) (w:=.str w3) (l:=L) (o:=.non) (decide_eq_true (O0 h1 (by decide))) (decide_eq_true (O0 h2 (by decide)));cases q:K68.tie5 (.str w1) (.str w2) (.str w3) L .non with
 |true=>
  rw[q]at ht;open_line with[bV,fM,lg,iZ,gS,s4,h,zv hc h0,mD,s1,s2,s3,ht]
  rfl
 |false=>
  rw[q]at ht;open_line with[bV,fM,lg,iZ,gS,s4,h,zv hc h0,mD,s1,s2,s3,ht]
  rfl
def AB{L O:D}(h:m_read_ratio [.str w4]=.ok L)(hw:w5≠"-")(h5:m_read_ratio [.str w5]=.ok O)(h1:w1.length<=90000)(h2:w2.length<=90000):bV [uW w0 w1 w2 w3 w4 w5]=.ok (if K68.tie5 (.str w1) (.str w2) (.str w3) L O=true then km w1 w2 w3 L O else .non):=by
 have e:=cf (a:=w5) (b:="-");rw[decide_eq_false hw]at e;have hc:aa (aa (ag 0) (dC (.int 5)) aO) (dC (.str "-")) dm [.sh (uW w0 w1 w2 w3 w4 w5),.sh L,.no,.no]=.ok (.bl false):=by open_line with[s5,e]
 have ht:=K68.tie_tail (a:=.str w1) (b:=.str w2) (w:=.str w3) (l:=L) (o:=O) (decide_eq_true (O0 h1 (by decide))) (decide_eq_true (O0 h2 (by decide)));cases q:K68.tie5 (.str w1) (.str w2) (.str w3) L O with
 |true=>
  rw[q]at ht;open_line with[bV,fM,lg,iZ,gS,s4,h,uI hc,s5,h5,mD,s1,s2,s3,ht]
  rfl
 |false=>
  rw[q]at ht;open_line with[bV,fM,lg,iZ,gS,s4,h,uI hc,s5,h5,mD,s1,s2,s3,ht]
  rfl
end
def Bs:D->Bool
 |.tup [.int p,.int _]=>decide (0<=p)
 |_=>false
def EC:D->Bool
 |.tup [.int p,.int _]=>decide (0<p)
 |_=>false
def wJ(d:D):Prop:=d=.non∨∃p q,d=.tup [.int p,.int q]
def fY{xs:ac}:fX (.tup xs)=false:=rfl
def my:fX .non=true:=rfl
def FZ{p:Int}:mY (.int p) (.int 0)=.ok (.bl (decide (p<0))):=rfl
def LX{p:Int}:HZ (.int p) (.int 0)=.ok (.bl (decide (p<=0))):=rfl
def AR:jf (.int 6) (.int 6)=.ok (.bl false):=rfl
section
variable {w0 w1 w2 w3 w4 w5:OG}{ps:ci}
def xK(ps:ci)(w1 w2 w3 w5:OG)(nL nO:D):Bool:=K68.wordD (.str w3)&&(!(decide (w1=w2))&&((decide (w5="-")||EC nO)&&(Bs nL&&(decide (w1∈ps)&&decide (w2∈ps)))))
def AV{nL nO:D}(h4:aH [.str w4]=.ok nL)(hL:wJ nL)(hO:(w5="-"/\nO=.non)∨(w5≠"-"/\aH [.str w5]=.ok nO/\wJ nO)) :
  aY [uW w0 w1 w2 w3 w4 w5,.lst (ps.map D.str)]=.ok (if xK ps w1 w2 w3 w5 nL nO=true then km w1 w2 w3 nL nO else .non):=by
 have e12:=cf (a:=w1) (b:=w2);have ew:=K68.word_inL (w:=w3);have e1:=fJ (zs:=ps) (z:=w1);have e2:=fJ (zs:=ps) (z:=w2);have ed:=mF (a:=w5) (b:="-");unfold xK;cases c3:K68.wordD (.str w3) with
 |false=>
  rw[c3]at ew;open_line with[aY,c8,s6,AR,s3,ew,OO,OL]
  rfl
 |true=>
 rw[c3]at ew;cases c12:decide (w1=w2) with
 |true=>
  rw[c12]at e12;open_line with[aY,c8,s6,AR,s3,s1,s2,ew,e12,OU,ON,OL]
  rfl
 |false=>
 rw[c12]at e12;have tail:∀{nO:D},(if((decide (w5="-")||EC nO)&&(Bs nL&&(decide (w1∈ps)&&decide (w2∈ps))))=true then km w1 w2 w3 nL nO else D.non)=(if(decide (w5="-")||EC nO)=true then(if(Bs nL&&(decide (w1∈ps)&&decide (w2∈ps)))=true then km w1 w2 w3 nL nO else D.non) else D.non):=λ{nO}=>by
  cases (decide (w5="-")||EC nO)<;>cases (Bs nL&&(decide (w1∈ps)&&decide (w2∈ps)))<;>rfl
 rw[OO,ON,ON,tail];have rest:∀(nO:D),(aw (fw (i8 (aa (ag 2) (dC (.non)) rL) (i8 (aa (aa (ag 2) (dC (.int 0)) aO) (dC (.int 0)) mY) (i8 (aa (aa (ag 0) (dC (.int 1)) aO) (ag 1) dk) (aa (aa (ag 0) (dC (.int 2)) aO) (ag 1) dk))))
  (aw (bE (dC (.non)))
  ax)
  ax)
  (aw (bE (ao (af (aa (ag 0) (dC (.int 1)) aO) (af (aa (ag 0) (dC (.int 2)) aO) (af (aa (ag 0) (dC (.int 3)) aO) (af (ag 2) (af (ag 3) au))))) iR))
  ax)) [.sh (uW w0 w1 w2 w3 w4 w5),.sh (.lst (ps.map D.str)),.sh nL,.sh nO]=.ok (.rt (if(Bs nL&&(decide (w1∈ps)&&decide (w2∈ps)))=true then km w1 w2 w3 nL nO else D.non)):=λnO=>by
  rcases hL with rfl|⟨p,q,rfl⟩
  .open_line with[dM,my]
   rfl
  .by_cases hp:p<0
   .open_line with[dM,fY,FZ,decide_eq_true hp]
    rw[show Bs (.tup [.int p,.int q])=false from decide_eq_false (by omega)];rfl
   .rw[show Bs (.tup [.int p,.int q])=true from decide_eq_true (by omega),ON]
    cases m1:decide (w1∈ps) with
    |false=>
     rw[m1]at e1;open_line with[dM,fY,FZ,decide_eq_false hp,s1,e1,OO,OL]
     rfl
    |true=>
     rw[m1]at e1;cases m2:decide (w2∈ps) with
     |false=>
      rw[m2]at e2;open_line with[dM,fY,FZ,decide_eq_false hp,s1,s2,e1,e2,OU,OO,ON]
      rfl
     |true=>
      rw[m2]at e2;open_line with[dM,fY,FZ,decide_eq_false hp,s1,s2,s3,e1,e2,OU,ON]
      rfl
 rcases hO with⟨h5,rfl⟩|⟨h5,hn,hN⟩
 .have ed':=ed
  rw[decide_eq_true h5]at ed';rw[decide_eq_true h5,Bool.true_or,if_pos rfl];have r:=rest .non;open_line with[OU] seeing r;open_line with[aY,c8,s6,AR,s3,s1,s2,ew,e12,OU,OO,s4,h4,s5,ed',r]
 .have ed':=ed
  rw[decide_eq_false h5]at ed';rw[decide_eq_false h5,Sx];rcases hN with rfl|⟨p,q,rfl⟩
  .open_line with[aY,c8,s6,AR,s3,s1,s2,ew,e12,OU,OO,s4,h4,s5,ed',hn,dM,my]
   rfl
  .by_cases hp:p<=0
   .rw[show EC (.tup [.int p,.int q])=false from decide_eq_false (by omega)]
    open_line with[aY,c8,s6,AR,s3,s1,s2,ew,e12,OU,OO,s4,h4,s5,ed',hn,dM,fY,LX,decide_eq_true hp]
    rfl
   .rw[show EC (.tup [.int p,.int q])=true from decide_eq_true (by omega),if_pos rfl]
    have r:=rest (.tup [.int p,.int q]);open_line with[OU,dM] seeing r;open_line with[aY,c8,s6,AR,s3,s1,s2,ew,e12,OU,OO,s4,h4,s5,ed',hn,dM,fY,LX,decide_eq_false hp,r]
end
section
variable {w0 w1 w2 w3 w4 w5:OG}{ps:ci}
def G4{a b:OG}:cH (.str a) (.str b)=decide (a=b):=by
 have h1:=cf (a:=a) (b:=b);unfold dm at h1;rw[if_pos ⟨rfl,rfl⟩]at h1;injection h1 with h1;injection h1
def zo{p q:Int}{O:D}{oO:Bool}(hL:fu (.tup [.int p,.int q])=true)(hO:K68.worthD O=oO):K68.tie5 (.str w1) (.str w2) (.str w3) (.tup [.int p,.int q]) O=(dX w1&&(dX w2&&(!(decide (w1=w2))&&(K68.wordD (.str w3)&&(Bs (.tup [.int p,.int q])&&oO))))):=by
 unfold K68.tie5;rw[G4,hO];show(dX w1&&(dX w2&&(!(decide (w1=w2))&&(K68.wordD (.str w3)&&((fu (.tup [.int p,.int q])&&decide (0<=p))&&oO)))))=_;rw[hL,ON];rfl
def zd{T:D}{nL nO:D}{oO:Bool}(hT:fX T=false)(hps:∀z∈ps,dX z=true)(ho:(decide (w5="-")||EC nO)=oO):(if xK ps w1 w2 w3 w5 nL nO=true then T else D.non)=(if fX (if(dX w1&&(dX w2&&(!(decide (w1=w2))&&(K68.wordD (.str w3)&&(Bs nL&&oO)))))=true then T else D.non)=false/\w1∈ps/\w2∈ps then(if(dX w1&&(dX w2&&(!(decide (w1=w2))&&(K68.wordD (.str w3)&&(Bs nL&&oO)))))=true then T else D.non) else D.non):=by
 unfold xK;rw[ho]
 by_cases m1:w1∈ps
 .by_cases m2:w2∈ps
  .rw[hps _ m1,hps _ m2,decide_eq_true m1,decide_eq_true m2]
   cases K68.wordD (.str w3)<;>cases decide (w1=w2)<;>cases Bs nL<;>cases oO<;>simp[hT,m1,m2]
  .rw[decide_eq_false m2,Pf,Pf,Pf,Pf,Pf,if_neg (show ¬(false=true) by decide),if_neg (λz=>m2 z.2.2)]
 .rw[decide_eq_false m1,OL,Pf,Pf,Pf,Pf,if_neg (show ¬(false=true) by decide),if_neg (λz=>m1 z.2.1)]
def apart{x y u v:Bool}(h:(x&&(y&&(!(decide (w1=w2))&&(u&&v))))=true):w1≠w2:=by
 simp only[OR,Rb,decide_eq_false_iff_not]at h;exact h.2.2.1
def BK(h1:w1.length<=90000)(h2:w2.length<=90000)(h4:w4.length<=90000)(h5:w5.length<=90000)(hps:∀z∈ps,dX z=true) :
  ∃d,bV [uW w0 w1 w2 w3 w4 w5]=.ok d/\aY [uW w0 w1 w2 w3 w4 w5,.lst (ps.map D.str)]=.ok (if fX d=false/\w1∈ps/\w2∈ps then d else .non)/\(d=.non∨∃L O,d=km w1 w2 w3 L O/\wJ L/\wJ O/\w1≠w2):=by
 have nn:(if fX D.non=false/\w1∈ps/\w2∈ps then D.non else D.non)=D.non:=if_neg (λz=>by cases z.1);rcases pZ h4 with⟨p,q,n4,r4,t4⟩|⟨n4,r4⟩
 .by_cases hd:w5="-"
  .have hr:=AD (w0:=w0) (w3:=w3) r4 hd h1 h2
   have hl:=AV (w0:=w0) (w1:=w1) (w2:=w2) (w3:=w3) (ps:=ps) (nO:=.non) n4 (.inr ⟨p,q,rfl⟩) (.inl ⟨hd,rfl⟩);rw[zo (oO:=true) t4 rfl]at hr;rw[zd (oO:=true) rfl hps (by rw[decide_eq_true hd];rfl)]at hl;refine⟨_,hr,hl,?_⟩;split
   .next hh=>exact .inr ⟨_,_,rfl,.inr ⟨_,_,rfl⟩,.inl rfl,apart hh⟩
   .exact .inl rfl
  .rcases pZ h5 with⟨p',q',n5,r5,t5⟩|⟨n5,r5⟩
   .have hr:=AB (w0:=w0) (w3:=w3) r4 hd r5 h1 h2
    have hl:=AV (w0:=w0) (w1:=w1) (w2:=w2) (w3:=w3) (ps:=ps) n4 (.inr ⟨p,q,rfl⟩) (.inr ⟨hd,n5,.inr ⟨p',q',rfl⟩⟩);rw[zo (oO:=EC (.tup [.int p',.int q'])) t4 (by unfold K68.worthD;rw[t5];rfl)]at hr;rw[zd (oO:=EC (.tup [.int p',.int q'])) rfl hps (by rw[decide_eq_false hd];rfl)]at hl;refine⟨_,hr,hl,?_⟩;split
    .next hh=>exact .inr ⟨_,_,rfl,.inr ⟨_,_,rfl⟩,.inr ⟨_,_,rfl⟩,apart hh⟩
    .exact .inl rfl
   .have hl:=AV (w0:=w0) (w1:=w1) (w2:=w2) (w3:=w3) (ps:=ps) n4 (.inr ⟨p,q,rfl⟩) (.inr ⟨hd,n5,.inl rfl⟩)
    refine⟨.non,Cd r4 hd r5,?_,.inl rfl⟩;rw[hl,nn,if_neg];unfold xK;rw[decide_eq_false hd,show EC D.non=false from rfl];cases K68.wordD (.str w3)<;>cases decide (w1=w2)<;>simp
 .refine⟨.non,Ce r4,?_,.inl rfl⟩
  rw[nn];have fin:∀nO,xK ps w1 w2 w3 w5 .non nO≠true:=λnO=>by
   unfold xK;rw[show Bs D.non=false from rfl];cases K68.wordD (.str w3)<;>cases decide (w1=w2)<;>simp
  by_cases hd:w5="-"
  .rw[AV (w0:=w0) (w1:=w1) (w2:=w2) (w3:=w3) (ps:=ps) (nO:=.non) n4 (.inl rfl) (.inl ⟨hd,rfl⟩),if_neg (fin _)]
  .rcases pZ h5 with⟨p',q',n5,r5,t5⟩|⟨n5,r5⟩
   .rw[AV (w0:=w0) (w1:=w1) (w2:=w2) (w3:=w3) (ps:=ps) n4 (.inl rfl) (.inr ⟨hd,n5,.inr ⟨p',q',rfl⟩⟩),if_neg (fin _)]
   .rw[AV (w0:=w0) (w1:=w1) (w2:=w2) (w3:=w3) (ps:=ps) n4 (.inl rfl) (.inr ⟨hd,n5,.inl rfl⟩),if_neg (fin _)]
end
abbrev DK:Hk:=.ins "Draft" ["places","ties","ends"]
def A2(s t:Ev->S3->ak fP)(ρ:Ev)(st:S3)(d:D):ak fP:=match d with
 |.bl b=>if b=true then s ρ st else t ρ st
 |_=>.stuck
def zf(k:Nat)(ρ:Ev)(st:S3)(d:D):ak fP:=if jS d=true/\(st.at k).length<line then .ok (.nx ρ (st.add k d)) else .stuck
def zg(g:Ev->S3->ak (D×S3))(ρ:Ev)(st:S3)(d:D):ak (D×S3):=match d with
 |.bl b=>if b=true then g ρ st else .ok (.bl false,st)
 |_=>.stuck
section
variable {h:Hk}{i k n:Nat}{a:OE}{f:am}{fa:Ev->ak (ac)}{m:OE->S3->ac->ak (D×S3)}{s t:Ev->S3->ak fP}{g:Ev->S3->ak (D×S3)}{ρ:Ev}{st:S3}{W:D}{b:OE->Ev->S3->ak fP}
def eg:jz (some (.pt a)) a=true:=beq_self_eq_true a
def C5(hp:jz ρ[i]? a=true)(hn:lH ρ=true):mX h i a f s t ρ st=(f (y6 h i ρ st)).bind (A2 s t ρ st):=by
 unfold mX;rw[if_pos ⟨hp,hn⟩];congr 1;funext d;cases d with
 |bl b=>cases b<;>rfl
 |_=>rfl
def cM:A2 s t ρ st (.bl true)=s ρ st:=rfl
def eR:A2 s t ρ st (.bl false)=t ρ st:=rfl
def C6(hp:jz ρ[i]? a=true)(hn:lH ρ=true):lP h i a k f ρ st=(f (y6 h i ρ st)).bind (zf k ρ st):=by
 unfold lP;rw[if_pos ⟨hp,hn⟩];rfl
def k6{d:D}(hf:jS d=true)(hl:decide ((st.at k).length<100)=true):zf k ρ st d=.ok (.nx ρ (st.add k d)):=if_pos ⟨hf,OS (of_decide_eq_true hl) (by decide)⟩
def uz(hp:jz ρ[i]? a=true)(hn:lH ρ=true):iX i a fa m ρ st=(fa ρ).bind (fK a m st):=by
 unfold iX;rw[if_pos ⟨hp,hn⟩]
def fW{ds:ac}{p:D×S3}(hm:m a st ds=.ok p):fK a m st ds=.ok p:=by unfold fK;rw[hm]
def Jy(hp:jz ρ[i]? a=true)(hn:lH ρ=true):xQ h i a f g ρ st=(f (y6 h i ρ st)).bind (zg g ρ st):=by
 unfold xQ;rw[if_pos ⟨hp,hn⟩];congr 1;funext d;cases d with
 |bl b=>cases b<;>rfl
 |_=>rfl
def zb:zg g ρ st (.bl true)=g ρ st:=rfl
def za:zg g ρ st (.bl false)=.ok (.bl false,st):=rfl
def aZ:bF s t ρ st=(s ρ st).bind (sH t):=rfl
def cu{ρ':Ev}{st':S3}:sH t (.nx ρ' st')=t ρ' st':=rfl
def cT{d:D}{st':S3}:sH t (.rt d st')=.ok (.rt d st'):=rfl
def cW:bj ρ st=.ok (.nx ρ st):=rfl
def HU(st:S3)(d:D):ak fP:=.ok (.rt d st)
def eE:kD f ρ st=(f ρ).bind (HU st):=rfl
def dz{d:D}:HU st d=.ok (.rt d st):=rfl
def nv(p:D×S3):ak fP:=.ok (.rt p.1 p.2)
def kZ:qm g ρ st=(g ρ st).bind nv:=rfl
def vL{p:D×S3}:nv p=.ok (.rt p.1 p.2):=rfl
def eQ:vi 2 b a st [W]=(b a [.pt a,.sh W] st).bind vh:=rfl
def cU{d:D}:vh (.rt d st)=.ok (d,st):=rfl
def eM:mX DK 0 a f s t [.pt a,.sh W] st=(f [.sh (eJ DK st),.sh W]).bind (A2 s t [.pt a,.sh W] st):=C5 eg rfl
def xB:lP DK 0 a k f [.pt a,.sh W] st=(f [.sh (eJ DK st),.sh W]).bind (zf k [.pt a,.sh W] st):=C6 eg rfl
def o4:iX 0 a fa m [.pt a,.sh W] st=(fa [.pt a,.sh W]).bind (fK a m st):=uz eg rfl
def um:xQ DK 0 a f g [.pt a,.sh W] st=(f [.sh (eJ DK st),.sh W]).bind (zg g [.pt a,.sh W] st):=Jy eg rfl
def Dn:il "places" (eJ DK st)=.ok (.lst st.p):=rfl
def ED:il "ties" (eJ DK st)=.ok (.lst st.t):=rfl
def wN:il "ends" (eJ DK st)=.ok (.lst st.e):=rfl
end
def rf(t:D):Prop:=∃w1 w2 w3 L O,t=km w1 w2 w3 L O/\wJ L/\wJ O
def rf.fl{t:D}(h:rf t):jS t=true:=by
 obtain⟨w1,w2,w3,L,O,rfl,hL,hO⟩:=h;rcases hL with rfl|⟨p,q,rfl⟩<;>rcases hO with rfl|⟨p',q',rfl⟩<;>rfl
def rf.sh{t:D}(h:rf t):bh 39 t=true:=by
 obtain⟨w1,w2,w3,L,O,rfl,hL,hO⟩:=h;rcases hL with rfl|⟨p,q,rfl⟩<;>rcases hO with rfl|⟨p',q',rfl⟩<;>rfl
structure Inv (ps:ci) (ts:ac) (es:ci):Prop where
 n7:ps.length<=7
 nm:∀z∈ps,dX z=true
 n14:ts.length<=14
 ti:∀t∈ts,rf t
 n2:es.length<=2
abbrev S(ps:ci)(ts:ac)(es:ci):S3:=⟨ps.map D.str,ts,es.map D.str⟩
def DN{xs:ac}(h:∀x∈xs,bh 39 x=true):dm (.lst xs) (.lst [])=.ok (.bl xs.isEmpty):=by
 have e:dm (.lst xs) (.lst [])=.ok (.bl (cH (.lst xs) (.lst []))):=if_pos ⟨Pk.mpr h,rfl⟩;rw[e,cH];cases xs<;>rfl
def qf{xs:ac}(h:∀x∈xs,bh 39 x=true):jf (.lst xs) (.lst [])=.ok (.bl (!xs.isEmpty)):=by
 have e:jf (.lst xs) (.lst [])=.ok (.bl (!(cH (.lst xs) (.lst [])))):=if_pos ⟨Pk.mpr h,rfl⟩;rw[e,cH];cases xs<;>rfl
def l9{zs:ci}:∀x∈zs.map D.str,bh 39 x=true:=λx hx=>by
 obtain⟨z,_,rfl⟩:=PM.mp hx;rfl
def wm{n m:Int}:dm (.int n) (.int m)=.ok (.bl (decide (n=m))):=by
 unfold dm;rw[if_pos ⟨rfl,rfl⟩,cH];rfl
section
variable {ps:ci}{ts:ac}{es:ci}{a:OE}{z:OG}
def IB(I:Inv ps ts es)(hz:z.length<=90000):cg a (S ps ts es) [.str z]=.ok (if(ts.isEmpty&&(es.isEmpty&&(!(decide (ps.length=7))&&(dX z&&!(decide (z∈ps))))))=true then(.bl true,S (ps++[z]) ts es) else(.bl false,S ps ts es)):=by
 have e1:=qf (xs:=ts) λt ht=>(I.ti t ht).sh;have e2:=qf (xs:=es.map D.str) l9;have e3:=wm (n:=(ps.length:Int)) (m:=7);have e3':decide ((ps.length:Int)=7)=decide (ps.length=7):=by rw[P8,decide_eq_true_eq,decide_eq_true_eq];omega
 have e4:=FU hz;have e5:=zh (zs:=ps) (z:=z);rw[e3']at e3;rw[show(es.map D.str).isEmpty=es.isEmpty by cases es<;>rfl]at e2;cases c1:ts.isEmpty with
 |false=>
  rw[c1]at e1;open_line with[cg,dG,eQ,aZ,eM,ED,e1,OO,cM,eE,dz,cT,cU,OL]
  rfl
 |true=>
 rw[c1]at e1;cases c2:es.isEmpty with
 |false=>
  rw[c2]at e2;open_line with[cg,dG,eQ,aZ,eM,ED,wN,e1,e2,OO,OU,cM,eE,dz,cT,cU,ON,OL]
  rfl
 |true=>
 rw[c2]at e2;cases c3:decide (ps.length=7) with
 |true=>
  rw[c3]at e3;open_line with[cg,dG,eQ,aZ,eM,Dn,ED,wN,e1,e2,OD,e3,OO,OU,cM,eE,dz,cT,cU,ON,OL]
  rfl
 |false=>
 rw[c3]at e3;cases c4:dX z with
 |false=>
  rw[c4]at e4;open_line with[cg,dG,eQ,aZ,eM,Dn,ED,wN,e1,e2,OD,e3,e4,OO,OU,cM,eR,cW,cu,eE,dz,cT,cU,ON,OL]
  rfl
 |true=>
 rw[c4]at e4;cases c5:decide (z∈ps) with
 |true=>
  rw[c5]at e5;open_line with[cg,dG,eQ,aZ,eM,Dn,ED,wN,e1,e2,OD,e3,e4,e5,OO,OU,cM,eR,cW,cu,eE,dz,cT,cU,ON,OL]
  rfl
 |false=>
  rw[c5]at e5;have hl:decide (((S ps ts es).at 0).length<100)=true:=decide_eq_true (by show(ps.map D.str).length<100;rw[OD];have:=I.n7;omega);have hf:jS (D.str z)=true:=rfl;open_line with[cg,dG,eQ,aZ,eM,xB,Dn,ED,wN,e1,e2,OD,e3,e4,e5,OO,OU,cM,eR,cW,cu,eE,dz,cT,cU,k6 hf hl,ON,OL]
  show ak.ok (D.bl true,(⟨ps.map D.str++[.str z],ts,es.map D.str⟩:S3))=ak.ok (D.bl true,(⟨(ps++[z]).map D.str,ts,es.map D.str⟩:S3));rw[PZ];rfl
end
section
variable {ps:ci}{ts:ac}{es:ci}{a:OE}{z w1 w2 w3:OG}{L O:D}
def BH:cB a (S ps ts es) [.non]=.ok (.bl false,S ps ts es):=by
 open_line with[cB,eT,eQ,aZ,eM,dM,my,cM,eE,dz,cT,cU]
def M3(I:Inv ps ts es)(hL:wJ L)(hO:wJ O):cB a (S ps ts es) [km w1 w2 w3 L O]=.ok (if(es.isEmpty&&(!(decide (ts.length=14))&&(decide (w1∈ps)&&decide (w2∈ps))))=true then(.bl true,S ps (ts++[km w1 w2 w3 L O]) es) else(.bl false,S ps ts es)):=by
 have e2:=qf (xs:=es.map D.str) l9;have e3:=wm (n:=(ts.length:Int)) (m:=14);have e3':decide ((ts.length:Int)=14)=decide (ts.length=14):=by rw[P8,decide_eq_true_eq,decide_eq_true_eq];omega
 have e4:=fJ (zs:=ps) (z:=w1);have e5:=fJ (zs:=ps) (z:=w2);rw[e3']at e3;rw[show(es.map D.str).isEmpty=es.isEmpty by cases es<;>rfl]at e2;cases c2:es.isEmpty with
 |false=>
  rw[c2]at e2;open_line with[cB,eT,eQ,aZ,eM,dM,fY,wN,e2,OO,OU,cM,eE,dz,cT,cU,ON,OL]
  rfl
 |true=>
 rw[c2]at e2;cases c3:decide (ts.length=14) with
 |true=>
  rw[c3]at e3;open_line with[cB,eT,eQ,aZ,eM,dM,fY,ED,wN,e2,e3,OO,OU,cM,eE,dz,cT,cU,ON,OL]
  rfl
 |false=>
 rw[c3]at e3;cases c4:decide (w1∈ps) with
 |false=>
  rw[c4]at e4;open_line with[cB,eT,eQ,aZ,eM,dM,fY,Dn,ED,wN,e2,e3,e4,OO,OU,cM,eR,cW,cu,eE,dz,cT,cU,ON,OL]
  rfl
 |true=>
 rw[c4]at e4;cases c5:decide (w2∈ps) with
 |false=>
  rw[c5]at e5;open_line with[cB,eT,eQ,aZ,eM,dM,fY,Dn,ED,wN,e2,e3,e4,e5,OO,OU,cM,eR,cW,cu,eE,dz,cT,cU,ON,OL]
  rfl
 |true=>
  rw[c5]at e5;have hl:decide (((S ps ts es).at 1).length<100)=true:=decide_eq_true (by show ts.length<100;have:=I.n14;omega);have hf:jS (km w1 w2 w3 L O)=true:=rf.fl ⟨_,_,_,_,_,rfl,hL,hO⟩;open_line with[cB,eT,eQ,aZ,eM,xB,dM,fY,Dn,ED,wN,e2,e3,e4,e5,OO,OU,cM,eR,cW,cu,eE,dz,cT,cU,k6 hf hl,ON,OL]
  rfl
def K5(I:Inv ps ts es):cb a (S ps ts es) [.str z]=.ok (if(!(decide (ps.length<2))&&(decide (z∈ps)&&!(decide (z∈es))))=true then(.bl true,S ps ts (es++[z])) else(.bl false,S ps ts es)):=by
 have e3:mY (.int (ps.length:Int)) (.int 2)=.ok (.bl (decide ((ps.length:Int)<2))):=rfl;have e3':decide ((ps.length:Int)<2)=decide (ps.length<2):=by rw[P8,decide_eq_true_eq,decide_eq_true_eq];omega
 have e4:=fJ (zs:=ps) (z:=z);have e5:=zh (zs:=es) (z:=z);rw[e3']at e3;cases c3:decide (ps.length<2) with
 |true=>
  rw[c3]at e3;open_line with[cb,gV,eQ,aZ,eM,Dn,OD,e3,cM,eE,dz,cT,cU,OU,OL]
  rfl
 |false=>
 rw[c3]at e3;cases c4:decide (z∈ps) with
 |false=>
  rw[c4]at e4;open_line with[cb,gV,eQ,aZ,eM,Dn,OD,e3,e4,OO,cM,eE,dz,cT,cU,ON,OL]
  rfl
 |true=>
 rw[c4]at e4;cases c5:decide (z∈es) with
 |true=>
  rw[c5]at e5;open_line with[cb,gV,eQ,aZ,eM,Dn,wN,OD,e3,e4,e5,OO,OU,cM,eE,dz,cT,cU,ON,OL]
  rfl
 |false=>
  rw[c5]at e5;have hl:decide (((S ps ts es).at 2).length<100)=true:=decide_eq_true (by show(es.map D.str).length<100;rw[OD];have:=I.n2;omega);have hf:jS (D.str z)=true:=rfl;open_line with[cb,gV,eQ,aZ,eM,xB,Dn,wN,OD,e3,e4,e5,OO,OU,eR,cW,cu,eE,dz,cT,cU,k6 hf hl,ON,OL]
  show ak.ok (D.bl true,(⟨ps.map D.str,ts,es.map D.str++[.str z]⟩:S3))=ak.ok (D.bl true,(⟨ps.map D.str,ts,(es++[z]).map D.str⟩:S3));rw[PZ];rfl
variable {ws:ci}{w0:OG}
def i0:aO (.lst ((w0::ws).map D.str)) (.int 0)=.ok (.str w0):=kE (k:=0) rfl
def i1:aO (.lst ((w0::z::ws).map D.str)) (.int 1)=.ok (.str z):=kE (k:=1) rfl
def i7(ws:ci)(n:Nat):Bool:=decide (ws.length=n)
def C0{n:Nat}:dm (.int ((ws.length:Nat):Int)) (.int (n:Int))=.ok (.bl (i7 ws n)):=by
 rw[wm,i7];congr 2;rw[P8,decide_eq_true_eq,decide_eq_true_eq];omega
def IA(I:Inv ps ts es)(hw:ws.head?=some w0)(a:OE):bG a (S ps ts es) [.lst (ws.map D.str)] =
  if(decide (w0="place")&&i7 ws 2)=true then(af (aa (ag 1) (dC (.int 1)) aO) au [.pt a,.sh (.lst (ws.map D.str))]).bind (λds=>(fK a cg (S ps ts es) ds))
  else if(decide (w0="tie")&&i7 ws 6)=true then(af (ao (af (ag 1) au) bV) au [.pt a,.sh (.lst (ws.map D.str))]).bind (λds=>(fK a cB (S ps ts es) ds))
  else if(decide (w0="first")&&i7 ws 2)=true then(if es.isEmpty=true then(af (aa (ag 1) (dC (.int 1)) aO) au [.pt a,.sh (.lst (ws.map D.str))]).bind (λds=>(fK a cb (S ps ts es) ds)) else .ok (.bl false,S ps ts es))
  else if(decide (w0="last")&&i7 ws 2)=true then(if decide (es.length=1)=true then(af (aa (ag 1) (dC (.int 1)) aO) au [.pt a,.sh (.lst (ws.map D.str))]).bind (λds=>(fK a cb (S ps ts es) ds)) else .ok (.bl false,S ps ts es))
  else .ok (.bl false,S ps ts es):=by
 have ih:aO (.lst (ws.map D.str)) (.int 0)=.ok (.str w0):=by
  cases ws with|nil=>cases hw|cons x r=>cases hw;exact i0
 have ff:¬(false=true):=by decide
 have p1:=cf (a:=w0) (b:="place");have p2:=cf (a:=w0) (b:="tie");have p3:=cf (a:=w0) (b:="first");have p4:=cf (a:=w0) (b:="last");have l2:dm (.int ((ws.length:Nat):Int)) (.int 2)=.ok (.bl (i7 ws 2)):=C0 (n:=2);have l6:dm (.int ((ws.length:Nat):Int)) (.int 6)=.ok (.bl (i7 ws 6)):=C0 (n:=6);have ee:=DN (xs:=es.map D.str) l9;rw[show(es.map D.str).isEmpty=es.isEmpty by cases es<;>rfl]at ee;have en:=wm (n:=(es.length:Int)) (m:=1);rw[show decide ((es.length:Int)=1)=decide (es.length=1) by rw[P8,decide_eq_true_eq,decide_eq_true_eq];omega]at en;have fin:∀(x:ak (D×S3)),((x.bind nv).bind (sH bj)).bind vh=x:=λx=>by cases x<;>rfl
 have sq:∀(x:ak (D×S3)) (t:Ev->S3->ak fP),((x.bind nv).bind (sH t))=x.bind nv:=λx t=>by cases x<;>rfl
 have fin2:∀(x:ak (D×S3)),(x.bind nv).bind vh=x:=λx=>by cases x<;>rfl
 unfold bG;rw[eQ];unfold oj;cases c1:(decide (w0="place")&&i7 ws 2) with
 |true=>
  rw[OR]at c1;rw[c1.1]at p1;rw[c1.2]at l2;rw[if_pos rfl];open_line with[aZ,eM,ih,p1,OD,l2,cM,kZ,o4,sq,fin2]
 |false=>
 rw[if_neg ff];have c1':ef (aa (aa (ag 1) (dC (.int 0)) aO) (dC (.str "place")) dm) (aa (ao (af (ag 1) au) (m1 bN)) (dC (.int 2)) dm) [.sh (eJ DK (S ps ts es)),.sh (.lst (ws.map D.str))]=.ok (.bl false):=by
  cases q:decide (w0=("place" : OG)) with
  |false=>rw[q]at p1;open_line with[ih,p1]
  |true=>rw[q]at p1 c1;rw[ON]at c1;rw[c1]at l2;open_line with[ih,p1,OD,l2]
 open_line with[ih] seeing c1';cases c2:(decide (w0="tie")&&i7 ws 6) with
 |true=>
  rw[OR]at c2;rw[if_pos rfl];rw[c2.1]at p2;rw[c2.2]at l6;open_line with[c1',aZ,eM,ih,p2,OD,l6,cM,eR,cW,cu,kZ,o4,sq,fin2]
 |false=>
 rw[if_neg ff];have c2':ef (aa (aa (ag 1) (dC (.int 0)) aO) (dC (.str "tie")) dm) (aa (ao (af (ag 1) au) (m1 bN)) (dC (.int 6)) dm) [.sh (eJ DK (S ps ts es)),.sh (.lst (ws.map D.str))]=.ok (.bl false):=by
  cases q:decide (w0=("tie" : OG)) with
  |false=>rw[q]at p2;open_line with[ih,p2]
  |true=>rw[q]at p2 c2;rw[ON]at c2;rw[c2]at l6;open_line with[ih,p2,OD,l6]
 open_line with[ih] seeing c2';cases c3:(decide (w0="first")&&i7 ws 2) with
 |true=>
  rw[OR]at c3;rw[if_pos rfl];rw[c3.1]at p3;rw[c3.2]at l2;cases q:es.isEmpty with
  |true=>
   rw[q]at ee;rw[if_pos rfl];open_line with[c1',c2',aZ,eM,ih,p3,OD,l2,cM,eR,cW,cu,kZ,um,wN,ee,zb,o4,sq,fin2]
  |false=>
   rw[q]at ee;rw[if_neg ff];open_line with[c1',c2',aZ,eM,ih,p3,OD,l2,cM,eR,cW,cu,kZ,um,wN,ee,za,vL,cT,cU]
 |false=>
 rw[if_neg ff];have c3':ef (aa (aa (ag 1) (dC (.int 0)) aO) (dC (.str "first")) dm) (aa (ao (af (ag 1) au) (m1 bN)) (dC (.int 2)) dm) [.sh (eJ DK (S ps ts es)),.sh (.lst (ws.map D.str))]=.ok (.bl false):=by
  cases q:decide (w0=("first" : OG)) with
  |false=>rw[q]at p3;open_line with[ih,p3]
  |true=>rw[q]at p3 c3;rw[ON]at c3;rw[c3]at l2;open_line with[ih,p3,OD,l2]
 open_line with[ih] seeing c3';cases c4:(decide (w0="last")&&i7 ws 2) with
 |true=>
  rw[OR]at c4;rw[if_pos rfl];rw[c4.1]at p4;rw[c4.2]at l2;cases q:decide (es.length=1) with
  |true=>
   rw[q]at en;rw[if_pos rfl];open_line with[c1',c2',c3',aZ,eM,ih,p4,OD,l2,cM,eR,cW,cu,kZ,um,wN,en,zb,o4,sq,fin2]
  |false=>
   rw[q]at en;rw[if_neg ff];open_line with[c1',c2',c3',aZ,eM,ih,p4,OD,l2,cM,eR,cW,cu,kZ,um,wN,en,za,vL,cT,cU]
 |false=>
 rw[if_neg ff];have c4':ef (aa (aa (ag 1) (dC (.int 0)) aO) (dC (.str "last")) dm) (aa (ao (af (ag 1) au) (m1 bN)) (dC (.int 2)) dm) [.sh (eJ DK (S ps ts es)),.sh (.lst (ws.map D.str))]=.ok (.bl false):=by
  cases q:decide (w0=("last" : OG)) with
  |false=>rw[q]at p4;open_line with[ih,p4]
  |true=>rw[q]at p4 c4;rw[ON]at c4;rw[c4]at l2;open_line with[ih,p4,OD,l2]
 open_line with[ih] seeing c4';open_line with[ih,c1',c2',c3',c4',aZ,eM,eR,cW,cu,eE,dz,cT,cU]
end
abbrev WD(ps:ci)(ts:ac)(es:ci):D:=.tup [.lst (ps.map D.str),.lst ts,.lst (es.map D.str)]
noncomputable abbrev upd:OE->Ev->S3->ak fP:=λa=>
 (bF (mX (.tup) 1 a (aa (aa (ag 4) (dC (.int 0)) aO) (dC (.str "place")) dm)
 (bF (lP (.tup) 1 a 0 (aa (ag 4) (dC (.int 1)) aO))
 bj)
 (bF (mX (.tup) 1 a (aa (aa (ag 4) (dC (.int 0)) aO) (dC (.str "tie")) dm)
 (bF (lP (.tup) 1 a 1 (ao (af (ag 4) (af (aa (ag 1) (dC (.int 0)) aO) au)) aY))
 bj)
 (bF (lP (.tup) 1 a 2 (aa (ag 4) (dC (.int 1)) aO))
 bj))
 bj))
 bj)
section
variable {k:Nat}{a:OE}{f:am}{s t:Ev->S3->ak fP}{st:S3}{W A R I:D}
def vz:mX .tup 1 a f s t [.sh A,.pt a,.sh R,.sh I,.sh W] st=(f [.sh A,.sh (eJ .tup st),.sh R,.sh I,.sh W]).bind (A2 s t [.sh A,.pt a,.sh R,.sh I,.sh W] st):=C5 eg rfl
def xA:lP .tup 1 a k f [.sh A,.pt a,.sh R,.sh I,.sh W] st=(f [.sh A,.sh (eJ .tup st),.sh R,.sh I,.sh W]).bind (zf k [.sh A,.pt a,.sh R,.sh I,.sh W] st):=C6 eg rfl
def NH:aO (eJ .tup st) (.int 0)=.ok (.lst st.p):=rfl
end
noncomputable def Eo(ps:ci) (ts:ac) (es ws:ci):Prop :=
 (aA [WD ps ts es,.lst (ws.map D.str)]=.ok (.bl false)/\∀a,bG a (S ps ts es) [.lst (ws.map D.str)]=.ok (.bl false,S ps ts es)) ∨
 ∃ps' ts' es',Inv ps' ts' es'/\aA [WD ps ts es,.lst (ws.map D.str)]=.ok (.bl true)/\(∀a,bG a (S ps ts es) [.lst (ws.map D.str)]=.ok (.bl true,S ps' ts' es')) /\
  ∀a A R I,upd a [.sh A,.pt a,.sh R,.sh I,.sh (.lst (ws.map D.str))] (S ps ts es)=.ok (.nx [.sh A,.pt a,.sh R,.sh I,.sh (.lst (ws.map D.str))] (S ps' ts' es'))
def C1{w0:OG}{ws:ci}(h:i7 (w0::ws) 2=true):∃z,ws=[z]:=by
 have:=of_decide_eq_true h
 match ws,this with
 |[z],_=>exact⟨z,rfl⟩
def Jt{w0:OG}{ws:ci}(h:i7 (w0::ws) 6=true):∃w1 w2 w3 w4 w5,ws=[w1,w2,w3,w4,w5]:=by
 have:=of_decide_eq_true h
 match ws,this with
 |[w1,w2,w3,w4,w5],_=>exact⟨w1,w2,w3,w4,w5,rfl⟩
section
variable {ps:ci}{ts:ac}{es ws:ci}{z w0 w1 w2 w3 w4 w5:OG}
def Inv.e1(I:Inv ps ts es):jf (.lst ts) (.lst [])=.ok (.bl (!ts.isEmpty)):=qf λt ht=>(I.ti t ht).sh
def DM:jf (.lst (es.map D.str)) (.lst [])=.ok (.bl (!es.isEmpty)):=by
 have:=qf (xs:=es.map D.str) l9;rw[show(es.map D.str).isEmpty=es.isEmpty by cases es<;>rfl]at this;exact this
def HY:dm (.lst (es.map D.str)) (.lst [])=.ok (.bl es.isEmpty):=by
 have:=DN (xs:=es.map D.str) l9;rw[show(es.map D.str).isEmpty=es.isEmpty by cases es<;>rfl]at this;exact this
def L8(I:Inv ps ts es):wO (.int (ps.length:Int)) (.int 6)=.ok (.bl (decide (ps.length=7))):=by
 show ak.ok (D.bl (decide ((ps.length:Int) > 6)))=_
 congr 2;rw[P8,decide_eq_true_eq,decide_eq_true_eq];have:=I.n7;omega
def FY:mY (.int (ps.length:Int)) (.int 2)=.ok (.bl (decide (ps.length<2))):=by
 show ak.ok (D.bl (decide ((ps.length:Int)<2)))=_
 congr 2;rw[P8,decide_eq_true_eq,decide_eq_true_eq];omega
def LR(I:Inv ps ts es):mY (.int (ts.length:Int)) (.int 14)=.ok (.bl (!(decide (ts.length=14)))):=by
 show ak.ok (D.bl (decide ((ts.length:Int)<14)))=_
 congr 2;rw[P8,decide_eq_true_eq,Rb,decide_eq_false_iff_not];have:=I.n14;omega
abbrev cP(ps:ci)(ts:ac)(es:ci)(z:OG):Bool:=ts.isEmpty&&(es.isEmpty&&(!(decide (ps.length=7))&&(dX z&&!(decide (z∈ps)))))
def ff:¬(false=true):=by decide
def F7{W:ac}:jf (.int ((W.length:Nat):Int)) (.int 2)=.ok (.bl (!(decide (W.length=2)))):=by
 have:jf (.int ((W.length:Nat):Int)) (.int 2)=.ok (.bl (!(cH (.int ((W.length:Nat):Int)) (.int 2)))):=by unfold jf;rw[if_pos ⟨rfl,rfl⟩]
 rw[this,cH]
 congr 3
 show decide ((W.length:Int)=2)=_;rw[P8,decide_eq_true_eq,decide_eq_true_eq];omega
def Ln(I:Inv ps ts es){W:ac}(i_0:aO (.lst W) (.int 0)=.ok (.str "place"))(h:W.length≠2):aA [WD ps ts es,.lst W]=.ok (.bl false):=by
 have p1:=cf (a:="place") (b:="place");rw[decide_eq_true rfl]at p1;have e1:=I.e1;have e2:=DM (es:=es);have e3:=L8 I;have l2:=F7 (W:=W);rw[decide_eq_false h]at l2;cases c1:ts.isEmpty with
 |false=>rw[c1]at e1;open_line with[aA,aT,i_0,p1,e1,OO]
 |true=>
 rw[c1]at e1;cases c2:es.isEmpty with
 |false=>rw[c2]at e2;open_line with[aA,aT,i_0,p1,e1,e2,OO,OU]
 |true=>
 rw[c2]at e2;cases c3:decide (ps.length=7) with
 |true=>rw[c3]at e3;open_line with[aA,aT,i_0,p1,e1,e2,OD,e3,OO,OU]
 |false=>rw[c3]at e3;open_line with[aA,aT,i_0,p1,e1,e2,OD,e3,l2,OO,OU]
def IP(I:Inv ps ts es){W:ac}(i_0:aO (.lst W) (.int 0)=.ok (.str "place"))(i_1:aO (.lst W) (.int 1)=.ok (.str z))(h:W.length=2)(hz:z.length<=90000):aA [WD ps ts es,.lst W]=.ok (.bl (cP ps ts es z)):=by
 have p1:=cf (a:="place") (b:="place");rw[decide_eq_true rfl]at p1;have e1:=I.e1;have e2:=DM (es:=es);have e3:=L8 I;have l2:=F7 (W:=W);rw[decide_eq_true h]at l2;have e4:=CY (show z.length<=100000 by omega);have e5:=fJ (zs:=ps) (z:=z);unfold cP;cases c1:ts.isEmpty with
 |false=>rw[c1]at e1;open_line with[aA,aT,i_0,p1,e1,OO,OL]
 |true=>
 rw[c1]at e1;cases c2:es.isEmpty with
 |false=>rw[c2]at e2;open_line with[aA,aT,i_0,p1,e1,e2,OO,OU,ON,OL]
 |true=>
 rw[c2]at e2;cases c3:decide (ps.length=7) with
 |true=>rw[c3]at e3;open_line with[aA,aT,i_0,p1,e1,e2,OD,e3,OO,OU,ON,OL]
 |false=>
 rw[c3]at e3;cases c4:dX z with
 |false=>rw[c4]at e4;open_line with[aA,aT,i_0,i_1,p1,e1,e2,OD,e3,l2,e4,OO,OU,ON,OL]
 |true=>rw[c4]at e4;open_line with[aA,aT,i_0,i_1,p1,e1,e2,OD,e3,l2,e4,e5,OO,OU,ON,OL]
def E4(I:Inv ps ts es){W:ac}(i_0:aO (.lst W) (.int 0)=.ok (.str "place"))(i_1:aO (.lst W) (.int 1)=.ok (.str z)){a:OE}{A R J:D}:upd a [.sh A,.pt a,.sh R,.sh J,.sh (.lst W)] (S ps ts es)=.ok (.nx [.sh A,.pt a,.sh R,.sh J,.sh (.lst W)] (S (ps++[z]) ts es)):=by
 have p1:=cf (a:="place") (b:="place");rw[decide_eq_true rfl]at p1;have hl:decide (((S ps ts es).at 0).length<100)=true:=decide_eq_true (by show(ps.map D.str).length<100;rw[OD];have:=I.n7;omega);have hf:jS (D.str z)=true:=rfl;have e:(S ps ts es).add 0 (.str z)=S (ps++[z]) ts es:=by
  show(⟨ps.map D.str++[.str z],ts,es.map D.str⟩:S3)=⟨(ps++[z]).map D.str,ts,es.map D.str⟩;rw[PZ];rfl
 open_line with[upd,aZ,vz,i_0,i_1,p1,cM,xA,k6 hf hl,e,cu,cW]
def w6(I:Inv ps ts es)(hz:∀w∈ws,w.length<=90000):Eo ps ts es (("place" : OG)::ws):=by
 have hr:=λa=>IA (ws:=("place" : OG)::ws) (w0:="place") I rfl a;have i_0:=i0 (w0:="place") (ws:=ws)
 by_cases h2:(("place" : OG)::ws).length=2
 .obtain⟨z,rfl⟩:=C1 (w0:="place") (decide_eq_true h2)
  have hz:=hz z (by simp);have i_1:=i1 (w0:="place") (z:=z) (ws:=[]);have hr':∀a,bG a (S ps ts es) [.lst ([("place" : OG),z].map D.str)]=.ok (if cP ps ts es z=true then(.bl true,S (ps++[z]) ts es) else(.bl false,S ps ts es)):=λa=>by
   rw[hr a,show i7 [("place" : OG),z] 2=true from rfl,QV,if_pos (show decide (("place" : OG)="place")=true by decide)];have:af (aa (ag 1) (dC (.int 1)) aO) au [.pt a,.sh (.lst ([("place" : OG),z].map D.str))]=.ok [.str z]:=by
    generalize [("place" : OG),z].map D.str=W at i_1 ⊢;open_line with[i_1]
   rw[this];exact fW (IB I hz)
  have hs:=IP I i_0 i_1 rfl hz;cases c:cP ps ts es z with
  |false=>
   rw[c]at hs;refine .inl ⟨hs,λa=>?_⟩;have:=hr' a;rw[c,if_neg ff]at this;exact this
  |true=>
   rw[c]at hs;have hc:=c;unfold cP at hc;simp only[OR,Rb,decide_eq_false_iff_not]at hc;have hlen:(ps++[z]).length<=7:=by rw[Pm];have:=I.n7;have:=hc.2.2.1;simp;omega
   refine .inr ⟨ps++[z],ts,es,⟨hlen,λy hy=>?_,I.n14,I.ti,I.n2⟩,hs,λa=>?_,λa A R J=>E4 I i_0 i_1⟩
   .rcases Qv.mp hy with hy|hy
    .exact I.nm y hy
    .rw[PD.mp hy];exact hc.2.2.2.1
   .have:=hr' a
    rw[c,if_pos rfl]at this;exact this
 .refine .inl ⟨Ln I i_0 (by rw[OD];exact h2),λa=>?_⟩
  have:=hr a;rw[show i7 (("place" : OG)::ws) 2=false from decide_eq_false h2,Pf,if_neg ff,show decide (("place" : OG)="tie")=false by decide,OL,if_neg ff,show decide (("place" : OG)="first")=false by decide,OL,if_neg ff,show decide (("place" : OG)="last")=false by decide,OL,if_neg ff]at this;exact this
end
section
variable {ps:ci}{ts:ac}{es ws:ci}{z w0 w1 w2 w3 w4 w5:OG}{W:ac}
def lD(h:w0≠"place"):dm (.str w0) (.str "place")=.ok (.bl false):=by rw[cf,decide_eq_false h]
def tQ(i_0:aO (.lst W) (.int 0)=.ok (.str w0))(hp:w0≠"place")(h:ps.length<2):aA [WD ps ts es,.lst W]=.ok (.bl false):=by
 have e:=FY (ps:=ps);rw[decide_eq_true h]at e;open_line with[aA,aT,i_0,lD hp,OD,e]
def w8(I:Inv ps ts es)(i_0:aO (.lst W) (.int 0)=.ok (.str "tie")){T:D}(hT:aY [.lst W,.lst (ps.map D.str)]=.ok T)(h2:¬ps.length<2):aA [WD ps ts es,.lst W]=.ok (.bl (es.isEmpty&&(!(decide (ts.length=14))&&!(fX T)))):=by
 have e:=FY (ps:=ps);rw[decide_eq_false h2]at e;have p1:=lD (w0:="tie") (by decide);have p2:=cf (a:="tie") (b:="tie");rw[decide_eq_true rfl]at p2;have e2:=HY (es:=es);have e3:=LR I;cases c2:es.isEmpty with
 |false=>rw[c2]at e2;open_line with[aA,aT,i_0,p1,p2,OD,e,e2,OL]
 |true=>
 rw[c2]at e2;cases c3:decide (ts.length=14) with
 |true=>rw[c3]at e3;open_line with[aA,aT,i_0,p1,p2,OD,e,e2,e3,OU,ON,OL]
 |false=>rw[c3]at e3;open_line with[aA,aT,i_0,p1,p2,OD,e,e2,e3,hT,show n6 T .non=.ok (.bl (!(fX T))) from rfl,OO,ON]
def Fb(h:W.length≠6):aY [.lst W,.lst (ps.map D.str)]=.ok .non:=by
 have l6:jf (.int ((W.length:Nat):Int)) (.int 6)=.ok (.bl true):=by
  have:jf (.int ((W.length:Nat):Int)) (.int 6)=.ok (.bl (!(cH (.int ((W.length:Nat):Int)) (.int 6)))):=by unfold jf;rw[if_pos ⟨rfl,rfl⟩]
  rw[this,cH];show ak.ok (D.bl (!(decide ((W.length:Int)=6))))=_;rw[decide_eq_false (by omega)];rfl
 open_line with[aY,c8,l6]
def Iz(h1:w1∈ps)(h2:w2∈ps)(hn:w1≠w2):¬ps.length<2:=λh=>by
 match ps,h with
 |[],_=>cases h1
 |[x],_=>exact hn ((PD.mp h1).trans (PD.mp h2).symm)
def K2(I:Inv ps ts es)(i_0:aO (.lst W) (.int 0)=.ok (.str "tie")){T:D}(hT:aY [.lst W,.lst (ps.map D.str)]=.ok T)(hf:jS T=true){a:OE}{A R J:D}:upd a [.sh A,.pt a,.sh R,.sh J,.sh (.lst W)] (S ps ts es)=.ok (.nx [.sh A,.pt a,.sh R,.sh J,.sh (.lst W)] (S ps (ts++[T]) es)):=by
 have p1:=lD (w0:="tie") (by decide);have p2:=cf (a:="tie") (b:="tie");rw[decide_eq_true rfl]at p2;have hl:decide (((S ps ts es).at 1).length<100)=true:=decide_eq_true (by show ts.length<100;have:=I.n14;omega);have e:(S ps ts es).add 1 T=S ps (ts++[T]) es:=rfl;open_line with[upd,aZ,vz,i_0,p1,p2,cM,eR,xA,NH,hT,k6 hf hl,e,cu,cW]
def BW(I:Inv ps ts es)(hz:∀w∈ws,w.length<=90000):Eo ps ts es (("tie" : OG)::ws):=by
 have hr:=λa=>IA (ws:=("tie" : OG)::ws) (w0:="tie") I rfl a;have i_0:=i0 (w0:="tie") (ws:=ws);have np:∀b:Bool,¬((decide (("tie" : OG)="place")&&b)=true):=λb=>by rw[show decide (("tie" : OG)="place")=false by decide,OL];exact ff
 by_cases h6:(("tie" : OG)::ws).length=6
 .obtain⟨w1,w2,w3,w4,w5,rfl⟩:=Jt (w0:="tie") (decide_eq_true h6)
  obtain⟨d,h1,hl,hd⟩:=BK (w0:="tie") (w1:=w1) (w2:=w2) (w3:=w3) (w4:=w4) (w5:=w5) (ps:=ps) (hz _ (by simp)) (hz _ (by simp)) (hz _ (by simp)) (hz _ (by simp)) I.nm;have hr':∀a,bG a (S ps ts es) [.lst ([("tie" : OG),w1,w2,w3,w4,w5].map D.str)]=fK a cB (S ps ts es) [d]:=λa=>by
   rw[hr a,if_neg (np _),show i7 [("tie" : OG),w1,w2,w3,w4,w5] 6=true from rfl,QV,if_pos (show decide (("tie" : OG)="tie")=true by decide)];have:af (ao (af (ag 1) au) bV) au [.pt a,.sh (.lst ([("tie" : OG),w1,w2,w3,w4,w5].map D.str))]=.ok [d]:=by
    have h1':bV [.lst ([("tie" : OG),w1,w2,w3,w4,w5].map D.str)]=.ok d:=h1;generalize [("tie" : OG),w1,w2,w3,w4,w5].map D.str=W at h1' ⊢;open_line with[h1']
   rw[this];rfl
  have hl':aY [.lst ([("tie" : OG),w1,w2,w3,w4,w5].map D.str),.lst (ps.map D.str)]=_:=hl;have stf:fX (if fX d=false/\w1∈ps/\w2∈ps then d else D.non)=true->aA [WD ps ts es,.lst ([("tie" : OG),w1,w2,w3,w4,w5].map D.str)]=.ok (.bl false):=λh=>by
   by_cases h2:ps.length<2
   .exact tQ i_0 (by decide) h2
   .rw[w8 I i_0 hl' h2,h,OU,Pf,Pf]
  rcases hd with rfl|⟨L,O,rfl,hL,hO,hne⟩
  .refine .inl ⟨stf (by rw[if_neg (λz=>by cases z.1)];rfl),λa=>?_⟩
   rw[hr' a];exact fW BH
  .have ht:=λa=>M3 (a:=a) (w1:=w1) (w2:=w2) (w3:=w3) I hL hO
   by_cases hm:w1∈ps/\w2∈ps
   .have hT:(if fX (km w1 w2 w3 L O)=false/\w1∈ps/\w2∈ps then km w1 w2 w3 L O else D.non)=km w1 w2 w3 L O:=if_pos ⟨rfl,hm⟩
    rw[hT]at hl';have hs:=w8 I i_0 hl' (Iz hm.1 hm.2 hne);rw[show fX (km w1 w2 w3 L O)=false from rfl,OO,QV]at hs;have ec:(es.isEmpty&&(!(decide (ts.length=14))&&(decide (w1∈ps)&&decide (w2∈ps))))=(es.isEmpty&&!(decide (ts.length=14))):=by rw[decide_eq_true hm.1,decide_eq_true hm.2,QV,QV]
    rw[ec]at ht;cases c:(es.isEmpty&&!(decide (ts.length=14))) with
    |false=>
     rw[c]at hs;refine .inl ⟨hs,λa=>?_⟩;rw[hr' a];have:=ht a;rw[c,if_neg ff]at this;exact fW this
    |true=>
     rw[c]at hs;have hc:=c;simp only[OR,Rb,decide_eq_false_iff_not]at hc;have td:rf (km w1 w2 w3 L O):=⟨_,_,_,_,_,rfl,hL,hO⟩
     refine .inr ⟨ps,ts++[km w1 w2 w3 L O],es,⟨I.n7,I.nm,by rw[Pm];have:=I.n14;have:=hc.2;simp;omega,λt h=>?_,I.n2⟩,hs,λa=>?_,λa A R J=>K2 I i_0 hl' td.fl⟩
     .rcases Qv.mp h with h|h
      .exact I.ti t h
      .rw[PD.mp h];exact td
     .rw[hr' a]
      have:=ht a;rw[c,if_pos rfl]at this;exact fW this
   .refine .inl ⟨stf (by rw[if_neg (λz=>hm z.2)];rfl),λa=>?_⟩
    rw[hr' a];have:=ht a;have ec:(decide (w1∈ps)&&decide (w2∈ps))=false:=by
     rw[Bool.eq_false_iff,Ne,OR,decide_eq_true_eq,decide_eq_true_eq];exact hm
    rw[ec,Pf,Pf,if_neg ff]at this;exact fW this
 .refine .inl ⟨?_,λa=>?_⟩
  .by_cases h2:ps.length<2
   .exact tQ i_0 (by decide) h2
   .rw[w8 I i_0 (Fb (by rw[OD];exact h6)) h2,my,OU,Pf,Pf]
  .have:=hr a
   rw[if_neg (np _),show i7 (("tie" : OG)::ws) 6=false from decide_eq_false h6,Pf,if_neg ff,show decide (("tie" : OG)="first")=false by decide,OL,if_neg ff,show decide (("tie" : OG)="last")=false by decide,OL,if_neg ff]at this;exact this
end
section
variable {ps:ci}{ts:ac}{es ws:ci}{z w0:OG}{W:ac}
def IM(i_0:aO (.lst W) (.int 0)=.ok (.str w0))(hp:w0≠"place")(ht:w0≠"tie")(h:W.length≠2):aA [WD ps ts es,.lst W]=.ok (.bl false):=by
 by_cases h2:ps.length<2
 .exact tQ i_0 hp h2
 have e:=FY (ps:=ps);rw[decide_eq_false h2]at e;have p2:=cf (a:=w0) (b:="tie");rw[decide_eq_false ht]at p2;have l2:=F7 (W:=W);rw[decide_eq_false h]at l2;open_line with[aA,aT,i_0,lD hp,p2,OD,e,l2,OO]
def IL(i_0:aO (.lst W) (.int 0)=.ok (.str w0))(i_1:aO (.lst W) (.int 1)=.ok (.str z))(hp:w0≠"place")(ht:w0≠"tie")(h:W.length=2):aA [WD ps ts es,.lst W]=.ok (.bl (!(decide (ps.length<2))&&(decide (z∈ps)&&(if w0="first" then es.isEmpty else(decide (w0="last")&&(decide (es.length=1)&&!(decide (z∈es)))))))):=by
 by_cases h2:ps.length<2
 .rw[decide_eq_true h2];exact tQ i_0 hp h2
 have e:=FY (ps:=ps);rw[decide_eq_false h2]at e ⊢;have p2:=cf (a:=w0) (b:="tie");rw[decide_eq_false ht]at p2;have p3:=cf (a:=w0) (b:="first");have p4:=cf (a:=w0) (b:="last");have l2:=F7 (W:=W);rw[decide_eq_true h]at l2;have e5:=fJ (zs:=ps) (z:=z);have e2:=HY (es:=es);have en:=wm (n:=(es.length:Int)) (m:=1);rw[show decide ((es.length:Int)=1)=decide (es.length=1) by rw[P8,decide_eq_true_eq,decide_eq_true_eq];omega]at en;rw[OO,ON];cases c5:decide (z∈ps) with
 |false=>rw[c5]at e5;open_line with[aA,aT,i_0,i_1,lD hp,p2,OD,e,l2,e5,OO,OU,OL]
 |true=>
 rw[c5]at e5
 by_cases h3:w0="first"
 .rw[decide_eq_true h3]at p3
  rw[if_pos h3];open_line with[aA,aT,i_0,i_1,lD hp,p2,p3,OD,e,l2,e5,e2,OO,OU,ON]
 .rw[decide_eq_false h3]at p3
  rw[if_neg h3];cases c4:decide (w0=("last" : OG)) with
  |false=>rw[c4]at p4;open_line with[aA,aT,i_0,i_1,lD hp,p2,p3,p4,OD,e,l2,e5,OO,OU,ON,OL]
  |true=>
  rw[c4]at p4;cases c6:decide (es.length=1) with
  |false=>rw[c6]at en;open_line with[aA,aT,i_0,i_1,lD hp,p2,p3,p4,OD,e,l2,e5,en,OO,OU,ON,OL]
  |true=>
   rw[c6]at en
   match es,of_decide_eq_true c6,en with
   |[y],_,en=>
   have j0:aO (.lst ([y].map D.str)) (.int 0)=.ok (.str y):=rfl;have ny:=mF (a:=z) (b:=y);rw[show decide (z∈[y])=decide (z=y) by rw[P8,decide_eq_true_eq,decide_eq_true_eq,PD]];have en:dm (.int (([y].map D.str).length:Int)) (.int 1)=.ok (.bl true):=rfl;generalize [y].map D.str=Y at j0 en ⊢;open_line with[aA,aT,i_0,i_1,lD hp,p2,p3,p4,OD,e,l2,e5,en,j0,ny,OO,OU,ON]
def K3(I:Inv ps ts es)(i_0:aO (.lst W) (.int 0)=.ok (.str w0))(i_1:aO (.lst W) (.int 1)=.ok (.str z))(hp:w0≠"place")(ht:w0≠"tie"){a:OE}{A R J:D}:upd a [.sh A,.pt a,.sh R,.sh J,.sh (.lst W)] (S ps ts es)=.ok (.nx [.sh A,.pt a,.sh R,.sh J,.sh (.lst W)] (S ps ts (es++[z]))):=by
 have p2:=cf (a:=w0) (b:="tie");rw[decide_eq_false ht]at p2;have hl:decide (((S ps ts es).at 2).length<100)=true:=decide_eq_true (by show(es.map D.str).length<100;rw[OD];have:=I.n2;omega);have hf:jS (D.str z)=true:=rfl;have e:(S ps ts es).add 2 (.str z)=S ps ts (es++[z]):=by
  show(⟨ps.map D.str,ts,es.map D.str++[.str z]⟩:S3)=⟨ps.map D.str,ts,(es++[z]).map D.str⟩;rw[PZ];rfl
 open_line with[upd,aZ,vz,i_0,i_1,lD hp,p2,eR,xA,k6 hf hl,e,cu,cW]
def Ac(I:Inv ps ts es)(hp:w0≠"place")(ht:w0≠"tie"):Eo ps ts es (w0::ws):=by
 have hr:=λa=>IA (ws:=w0::ws) (w0:=w0) I rfl a;have i_0:=i0 (w0:=w0) (ws:=ws);have np:∀b:Bool,¬((decide (w0=("place" : OG))&&b)=true):=λb=>by rw[decide_eq_false hp,OL];exact ff
 have nt:∀b:Bool,¬((decide (w0=("tie" : OG))&&b)=true):=λb=>by rw[decide_eq_false ht,OL];exact ff
 by_cases h2:(w0::ws).length=2
 .obtain⟨z,rfl⟩:=C1 (w0:=w0) (decide_eq_true h2)
  have i_1:=i1 (w0:=w0) (z:=z) (ws:=[]);have hs:=IL (ps:=ps) (ts:=ts) (es:=es) i_0 i_1 hp ht rfl;have ha:∀a,af (aa (ag 1) (dC (.int 1)) aO) au [.pt a,.sh (.lst ([w0,z].map D.str))]=.ok [.str z]:=λa=>by
   generalize [w0,z].map D.str=W at i_1 ⊢;open_line with[i_1]
  have go:es.length<=1->(∀a,bG a (S ps ts es) [.lst ([w0,z].map D.str)]=fK a cb (S ps ts es) [.str z])->aA [WD ps ts es,.lst ([w0,z].map D.str)]=.ok (.bl (!(decide (ps.length<2))&&(decide (z∈ps)&&!(decide (z∈es)))))->Eo ps ts es [w0,z]:=λhn hr' hs'=>by
   cases c:(!(decide (ps.length<2))&&(decide (z∈ps)&&!(decide (z∈es)))) with
   |false=>
    rw[c]at hs';refine .inl ⟨hs',λa=>?_⟩;have:=K5 (a:=a) (z:=z) I;rw[c,if_neg ff]at this;rw[hr' a];exact fW this
   |true=>
    rw[c]at hs';refine .inr ⟨ps,ts,es++[z],⟨I.n7,I.nm,I.n14,I.ti,by rw[Pm];simp;omega⟩,hs',λa=>?_,λa A R J=>K3 I i_0 i_1 hp ht⟩;have:=K5 (a:=a) (z:=z) I;rw[c,if_pos rfl]at this;rw[hr' a];exact fW this
  by_cases h3:w0="first"
  .rw[if_pos h3]at hs
   have hr':∀a,bG a (S ps ts es) [.lst ([w0,z].map D.str)]=(if es.isEmpty=true then fK a cb (S ps ts es) [.str z] else .ok (.bl false,S ps ts es)):=λa=>by
    rw[hr a,if_neg (np _),if_neg (nt _),decide_eq_true h3,show i7 [w0,z] 2=true from rfl,if_pos (show(true&&true)=true from rfl),ha];rfl
   cases c:es.isEmpty with
   |true=>
    have he:es=[]:=List.isEmpty_iff.mp c;subst he;exact go (by simp) (λa=>by rw[hr' a];rfl) (by rw[hs];simp)
   |false=>
    rw[c,Pf,Pf]at hs;exact .inl ⟨hs,λa=>by rw[hr' a,c,if_neg ff]⟩
  .rw[if_neg h3]at hs
   have nf:∀b:Bool,¬((decide (w0=("first" : OG))&&b)=true):=λb=>by rw[decide_eq_false h3,OL];exact ff
   by_cases h4:w0="last"
   .rw[decide_eq_true h4,ON]at hs
    have hr':∀a,bG a (S ps ts es) [.lst ([w0,z].map D.str)]=(if decide (es.length=1)=true then fK a cb (S ps ts es) [.str z] else .ok (.bl false,S ps ts es)):=λa=>by
     rw[hr a,if_neg (np _),if_neg (nt _),if_neg (nf _),decide_eq_true h4,show i7 [w0,z] 2=true from rfl,if_pos (show(true&&true)=true from rfl),ha];rfl
    cases c:decide (es.length=1) with
    |true=>
     rw[c,ON]at hs;exact go (by have:=of_decide_eq_true c;omega) (λa=>by rw[hr' a,c,if_pos rfl]) hs
    |false=>
     rw[c,OL,Pf,Pf]at hs;exact .inl ⟨hs,λa=>by rw[hr' a,c,if_neg ff]⟩
   .rw[decide_eq_false h4,OL,Pf,Pf]at hs
    refine .inl ⟨hs,λa=>?_⟩;have:=hr a;rw[if_neg (np _),if_neg (nt _),if_neg (nf _),decide_eq_false h4,OL,if_neg ff]at this;exact this
 .refine .inl ⟨IM i_0 hp ht (by rw[OD];exact h2),λa=>?_⟩
  have:=hr a;rw[show i7 (w0::ws) 2=false from decide_eq_false h2,Pf,Pf,Pf,if_neg ff,if_neg (nt _),if_neg ff,if_neg ff]at this;exact this
def step(I:Inv ps ts es)(hw:ws≠[])(hz:∀w∈ws,w.length<=90000):Eo ps ts es ws:=by
 match ws,hw with
 |w0::r,_=>
  by_cases hp:w0="place"
  .subst hp;exact w6 I λw h=>hz w (OT _ h)
  .by_cases ht:w0="tie"
   .subst ht;exact BW I λw h=>hz w (OT _ h)
   .exact Ac I hp ht
end
def gZ(a b:OG):(a++b).length=a.length+b.length:=by
 rw[←dW,iJ,Pm,dW,dW]
theorem vM{y p:OG}:∀{ps:ci},p∈ps->p.length<=(Sd y ps).length
 |[a],h=>by rw[HS,PD.mp h];exact O3 _
 |a::b::r,h=>by
  rw[C7,gZ,gZ];rcases O4.mp h with rfl|h
  .omega
  .have:=vM (y:=y) h;omega
def rZ{x y p:OG}(h:p∈P6 x y):p.length<=x.length:=by
 have:=vM (y:=y) h;rw[Sz x y]at this;exact this
def pC{x y:OG}:P6 x y≠[]:=by
 intro e;unfold P6 at e;split at e
 .cases e
 .split at e
  .cases e
  .rw[TF]at e
   obtain⟨a,r,q⟩:=Ss x y.length 0 (Q1 x y 0 x.length (x.length+1));rw[q]at e;cases e
def vd{z w:OG}(hw:(w.length==0)=false)(hz:z.length<=90000):bS z w=.ok (.lst ((P6 z w).map D.str)):=if_pos ⟨hw,by omega⟩
abbrev oQ(r:OG):ci:=P6 r " "
def pk{r:OG}(h:r.length<=90000):bS r " "=.ok (.lst ((oQ r).map D.str)):=vd rfl h
def C9(s:Ev->S3->ak fP)(ρ:Ev)(p:D×S3):ak fP:=match p.1 with
 |.bl b=>if b=true then .ok (.nx ρ p.2) else s ρ p.2
 |_=>.stuck
section
variable {s:Ev->S3->ak fP}{g:Ev->S3->ak (D×S3)}{f:bv}{ρ:Ev}{st:S3}
def C4:A0 g s ρ st=(g ρ st).bind (C9 s ρ):=by
 unfold A0;congr 1;funext p;rcases p with⟨d,p⟩;cases d with
 |bl b=>cases b<;>rfl
 |_=>rfl
def Ga:C9 s ρ (.bl true,st)=.ok (.nx ρ st):=rfl
def F9:C9 s ρ (.bl false,st)=s ρ st:=rfl
def iU:iW f ρ st=(f ρ).bind (xP st):=rfl
def mq{ρ':Ev}:xP st (.nx ρ')=.ok (.nx ρ' st):=rfl
end
abbrev lE(a:OE):Ev->S3->ak fP :=
 (bF (A0 (iX 1 a (af (kK bS (ag 4) (dC (.str " "))) au) bG)
 (bF (iW (cQ "NoText" ["row"] (af (ag 3) au)))
 bj))
 bj)
noncomputable abbrev lI(a:OE):Ev->S3->ak fP :=
 (bF (iW (aV 4 (kK bS (aa (ag 2) (ag 3) aO) (dC (.str " ")))))
 (bF (mX (.tup) 1 a (dZ (ao (af (ag 1) (af (ag 4) au)) aA))
 (bF (kD (ao (af (ag 3) (af (dC (.non)) au)) iR))
 bj)
 bj)
 (upd a)))
abbrev NR(k:Nat):Ij:=⟨"NoText",[("row",.int (k:Int))]⟩
section
variable {ps:ci}{ts:ac}{es:ci}{r:OG}{A R:D}{a:OE}{k:Nat}{st':S3}
def yR(h:r.length<=90000){x:D}:kK bS (ag 4) (dC (.str " ")) [.sh A,.pt a,.sh R,.sh x,.sh (.str r)]=.ok (.lst ((oQ r).map D.str)):=pk h
def HI(h:r.length<=90000)(hr:bG a (S ps ts es) [.lst ((oQ r).map D.str)]=.ok (.bl true,st')):lE a [.sh A,.pt a,.sh R,.sh (.int (k:Int)),.sh (.str r)] (S ps ts es)=.ok (.nx [.sh A,.pt a,.sh R,.sh (.int (k:Int)),.sh (.str r)] st'):=by
 have hc:iX 1 a (af (kK bS (ag 4) (dC (.str " "))) au) bG [.sh A,.pt a,.sh R,.sh (.int (k:Int)),.sh (.str r)] (S ps ts es)=.ok (.bl true,st'):=by
  rw[uz eg rfl];have:af (kK bS (ag 4) (dC (.str " "))) au [.sh A,.pt a,.sh R,.sh (.int (k:Int)),.sh (.str r)]=.ok [.lst ((oQ r).map D.str)]:=by open_line with[yR h]
  rw[this];exact fW hr
 open_line with[lE,aZ,C4,hc,Ga,cu,cW]
def Nv(h:r.length<=90000)(hr:bG a (S ps ts es) [.lst ((oQ r).map D.str)]=.ok (.bl false,st')):lE a [.sh A,.pt a,.sh R,.sh (.int (k:Int)),.sh (.str r)] (S ps ts es)=.exn (NR k):=by
 have hc:iX 1 a (af (kK bS (ag 4) (dC (.str " "))) au) bG [.sh A,.pt a,.sh R,.sh (.int (k:Int)),.sh (.str r)] (S ps ts es)=.ok (.bl false,st'):=by
  rw[uz eg rfl];have:af (kK bS (ag 4) (dC (.str " "))) au [.sh A,.pt a,.sh R,.sh (.int (k:Int)),.sh (.str r)]=.ok [.lst ((oQ r).map D.str)]:=by open_line with[yR h]
  rw[this];exact fW hr
 have hx:cQ "NoText" ["row"] (af (ag 3) au) [.sh A,.pt a,.sh R,.sh (.int (k:Int)),.sh (.str r)]=.exn (NR k):=rfl;open_line with[lE,aZ,C4,hc,F9,iU,hx,iH]
variable {RS:ci}
def y8{x:Sl}(h:r.length<=90000)(hk:RS[k]?=some r):aV 4 (kK bS (aa (ag 2) (ag 3) aO) (dC (.str " "))) [.sh A,.pt a,.sh (.lst (RS.map D.str)),.sh (.int (k:Int)),x]=.ok (.nx [.sh A,.pt a,.sh (.lst (RS.map D.str)),.sh (.int (k:Int)),.sh (.lst ((oQ r).map D.str))]):=by
 have ix:aO (.lst (RS.map D.str)) (.int (k:Int))=.ok (.str r):=kE (by rw[O5,hk];rfl);have e:kK bS (aa (ag 2) (ag 3) aO) (dC (.str " ")) [.sh A,.pt a,.sh (.lst (RS.map D.str)),.sh (.int (k:Int)),x]=.ok (.lst ((oQ r).map D.str)):=by
  have e2:aa (ag 2) (ag 3) aO [.sh A,.pt a,.sh (.lst (RS.map D.str)),.sh (.int (k:Int)),x]=.ok (.str r):=ix;unfold kK;rw[e2];exact pk h
 open_line with[e]
def HP{x:Sl}(h:r.length<=90000)(hk:RS[k]?=some r)(hs:aA [WD ps ts es,.lst ((oQ r).map D.str)]=.ok (.bl true))(hu:upd a [.sh A,.pt a,.sh (.lst (RS.map D.str)),.sh (.int (k:Int)),.sh (.lst ((oQ r).map D.str))] (S ps ts es)=.ok (.nx [.sh A,.pt a,.sh (.lst (RS.map D.str)),.sh (.int (k:Int)),.sh (.lst ((oQ r).map D.str))] st')) :
  lI a [.sh A,.pt a,.sh (.lst (RS.map D.str)),.sh (.int (k:Int)),x] (S ps ts es)=.ok (.nx [.sh A,.pt a,.sh (.lst (RS.map D.str)),.sh (.int (k:Int)),.sh (.lst ((oQ r).map D.str))] st'):=by
 unfold lI;rw[aZ,iU,y8 h hk];show bF _ _ _ _=_;rw[aZ,vz];have hs':aA [eJ .tup (S ps ts es),.lst ((oQ r).map D.str)]=.ok (.bl true):=hs;have:dZ (ao (af (ag 1) (af (ag 4) au)) aA) [.sh A,.sh (eJ .tup (S ps ts es)),.sh (.lst (RS.map D.str)),.sh (.int (k:Int)),.sh (.lst ((oQ r).map D.str))]=.ok (.bl false):=by open_line with[hs',OU]
 rw[this];exact hu
def NA{x:Sl}(h:r.length<=90000)(hk:RS[k]?=some r)(hs:aA [WD ps ts es,.lst ((oQ r).map D.str)]=.ok (.bl false)) :
  lI a [.sh A,.pt a,.sh (.lst (RS.map D.str)),.sh (.int (k:Int)),x] (S ps ts es)=.ok (.rt (.tup [.int (k:Int),.non]) (S ps ts es)):=by
 unfold lI;rw[aZ,iU,y8 h hk];show bF _ _ _ _=_;rw[aZ,vz];have hs':aA [eJ .tup (S ps ts es),.lst ((oQ r).map D.str)]=.ok (.bl false):=hs;have:dZ (ao (af (ag 1) (af (ag 4) au)) aA) [.sh A,.sh (eJ .tup (S ps ts es)),.sh (.lst (RS.map D.str)),.sh (.int (k:Int)),.sh (.lst ((oQ r).map D.str))]=.ok (.bl true):=by open_line with[hs',OO]
 rw[this];rfl
def Pn(x:Sl):Prop:=x=.no∨∃d,x=.sh d
theorem HM(hR:∀r∈RS,r.length<=90000):∀(n k:Nat) (ps:ci) (ts:ac) (es:ci) (x3 x4 y3 y4:Sl),k+n=RS.length->Inv ps ts es->Pn x3->Pn x4->Pn y3->Pn y4 ->
  (∃j:Nat,(∀a,mB (rH [3,4]) (lE a) (numbered k ((RS.drop k).map D.str)) [.sh A,.pt a,.sh (.lst (RS.map D.str)),x3,x4] (S ps ts es)=.exn (NR j))/\∃st',∀a,mB (fv 3) (lI a) ((S8 k n).map λ(i:Nat)=>D.int (0+(i:Int))) [.sh A,.pt a,.sh (.lst (RS.map D.str)),y3,y4] (S ps ts es)=.ok (.rt (.tup [.int (j:Int),.non]) st')) ∨
  ∃ps' ts' es' x3' x4' y3' y4',Inv ps' ts' es'/\(Pn x3'/\Pn x4'/\Pn y3'/\Pn y4')/\(∀a,mB (rH [3,4]) (lE a) (numbered k ((RS.drop k).map D.str)) [.sh A,.pt a,.sh (.lst (RS.map D.str)),x3,x4] (S ps ts es)=.ok (.nx [.sh A,.pt a,.sh (.lst (RS.map D.str)),x3',x4'] (S ps' ts' es'))) /\
   ∀a,mB (fv 3) (lI a) ((S8 k n).map λ(i:Nat)=>D.int (0+(i:Int))) [.sh A,.pt a,.sh (.lst (RS.map D.str)),y3,y4] (S ps ts es)=.ok (.nx [.sh A,.pt a,.sh (.lst (RS.map D.str)),y3',y4'] (S ps' ts' es'))
 |0,k,ps,ts,es,x3,x4,y3,y4,hk,I,q1,q2,q3,q4=>by
  rw[List.drop_of_length_le (show RS.length<=k by omega)];exact .inr ⟨ps,ts,es,x3,x4,y3,y4,I,⟨q1,q2,q3,q4⟩,λa=>rfl,λa=>rfl⟩
 |n+1,k,ps,ts,es,x3,x4,y3,y4,hk,I,q1,q2,q3,q4=>by
  have hlt:k<RS.length:=by omega
  have hg:RS[k]?=some RS[k]:=OQ hlt;have hr:=hR _ (Rn hlt);rw[Qf hlt,List.range'_succ];generalize RS[k]=r at hg hr;have st:=step (ws:=oQ r) I pC λw h=>O0 (rZ h) hr;have z0:(0:Int)+(k:Int)=(k:Int):=by omega
  rcases st with⟨hs,hp⟩|⟨ps',ts',es',I',hs,hp,hu⟩
  .refine .inl ⟨k,λa=>?_,S ps ts es,λa=>?_⟩
   .show(lE a [.sh A,.pt a,.sh (.lst (RS.map D.str)),.sh (.int (k:Int)),.sh (.str r)] (S ps ts es)).bind _=_
    rw[Nv hr (hp a)];rfl
   .show(lI a [.sh A,.pt a,.sh (.lst (RS.map D.str)),.sh (.int (0+(k:Int))),y4] (S ps ts es)).bind _=_
    rw[z0,NA hr hg hs];rfl
  .rcases HM hR n (k+1) ps' ts' es' (.sh (.int (k:Int))) (.sh (.str r)) (.sh (.int (k:Int))) (.sh (.lst ((oQ r).map D.str))) (by omega) I' (.inr ⟨_,rfl⟩) (.inr ⟨_,rfl⟩) (.inr ⟨_,rfl⟩) (.inr ⟨_,rfl⟩) with⟨j,h1,st',h2⟩|⟨ps2,ts2,es2,x3',x4',y3',y4',I2,Q,h1,h2⟩
   .refine .inl ⟨j,λa=>?_,st',λa=>?_⟩
    .show(lE a [.sh A,.pt a,.sh (.lst (RS.map D.str)),.sh (.int (k:Int)),.sh (.str r)] (S ps ts es)).bind _=_
     rw[HI hr (hp a)];exact h1 a
    .show(lI a [.sh A,.pt a,.sh (.lst (RS.map D.str)),.sh (.int (0+(k:Int))),y4] (S ps ts es)).bind _=_
     rw[z0,HP hr hg hs (hu a A _ _)];exact h2 a
   .refine .inr ⟨ps2,ts2,es2,x3',x4',y3',y4',I2,Q,λa=>?_,λa=>?_⟩
    .show(lE a [.sh A,.pt a,.sh (.lst (RS.map D.str)),.sh (.int (k:Int)),.sh (.str r)] (S ps ts es)).bind _=_
     rw[HI hr (hp a)];exact h1 a
    .show(lI a [.sh A,.pt a,.sh (.lst (RS.map D.str)),.sh (.int (0+(k:Int))),y4] (S ps ts es)).bind _=_
     rw[z0,HP hr hg hs (hu a A _ _)];exact h2 a
end
section
variable {A R:D}{x3 x4:Sl}{a:OE}{f:am}{s t:Ev->S3->ak fP}{st:S3}
def Ft{h:Hk}(q3:Pn x3)(q4:Pn x4):mX h 1 a f s t [.sh A,.pt a,.sh R,x3,x4] st=(f [.sh A,.sh (eJ h st),.sh R,x3,x4]).bind (A2 s t [.sh A,.pt a,.sh R,x3,x4] st):=by
 rcases q3 with rfl|⟨d,rfl⟩<;>rcases q4 with rfl|⟨e,rfl⟩<;>exact C5 eg rfl
def LB{w:Bool}:Dc 1 a w [.sh A,.pt a,.sh R,x3,x4] st=MT st w:=if_pos eg
end
def BX{f:am}{ρ:Ev}{n:Nat}(h:f ρ=.ok (.int (n:Int)))(hn:n<=100000):pB f ρ=.ok ((S8 0 n).map λ(i:Nat)=>D.int (0+(i:Int))):=by
 unfold pB;rw[h,gT];dsimp only;rw[if_pos (by omega),QR,DL.intsFrom,List.range_eq_range']
def uy{src:Ev->ak (ac)}{tg:Ev->D->ak Ev}{s:Ev->S3->ak fP}{ρ:Ev}{st:S3}{ds:ac}(h:src ρ=.ok ds):vN src tg s ρ st=mB tg s ds ρ st:=by unfold vN;rw[h];rfl
def MX:(⟨[],[],[]⟩:S3)=S [] [] []:=rfl
abbrev yC(t:OG):ci:=P6 t "\n"
def Fo{t:OG}(h:t.length<=90000):bS t "\n"=.ok (.lst ((yC t).map D.str)):=vd rfl h
noncomputable abbrev uk(a:OE):Ev->S3->ak fP :=
 (bF (iW (aV 2 (kK bS (ag 0) (dC (.str "\n")))))
 (bF (vN (BY (ag 2)) (rH [3,4]) (lE a))
 (bF (mX (.ins "Draft" ["places","ties","ends"]) 1 a (aa (ao (af (bc (ag 1) (il "ends")) au) (m1 bN)) (dC (.int 2)) mY)
 (bF (iW (cQ "NoText" ["row"] (af (ao (af (ag 2) au) (m1 bN)) au)))
 bj)
 bj)
 (bF (Dc 1 a false)
 bj))))
noncomputable abbrev vK(a:OE):Ev->S3->ak fP :=
 (bF (iW (aV 2 (kK bS (ag 0) (dC (.str "\n")))))
 (bF (vN (pB (ao (af (ag 2) au) (m1 bN))) (fv 3) (lI a))
 (bF (mX (.tup) 1 a (aa (ao (af (aa (ag 1) (dC (.int 2)) aO) au) (m1 bN)) (dC (.int 2)) mY)
 (bF (kD (ao (af (ao (af (ag 2) au) (m1 bN)) (af (dC (.non)) au)) iR))
 bj)
 bj)
 (bF (Dc 1 a true)
 bj))))
def Ht(d:D):Prop:=∃(ps:ci) (ts:ac) (z0 z1:OG),d=.tup [.ob .pl (ps.map D.str),.ob .pl ts,.str z0,.str z1]/\∀t∈ts,rf t
def NM{t:OG}(h:t.length<=90000) :
  (∃j:Nat,(∀a,uk a [.sh (.str t),.pt a,.no,.no,.no] ⟨[],[],[]⟩=.exn (NR j))/\∃st',∀a,vK a [.sh (.str t),.pt a,.no,.no,.no] ⟨[],[],[]⟩=.ok (.rt (.tup [.int (j:Int),.non]) st')) ∨
  ∃d,Ht d/\(∀a,uk a [.sh (.str t),.pt a,.no,.no,.no] ⟨[],[],[]⟩=.ok (.fr d))/\∀a,vK a [.sh (.str t),.pt a,.no,.no,.no] ⟨[],[],[]⟩=.ok (.fr (.tup [.non,d])):=by
 have hsp:∀a,aV 2 (kK bS (ag 0) (dC (.str "\n"))) [.sh (.str t),.pt a,.no,.no,.no]=.ok (.nx [.sh (.str t),.pt a,.sh (.lst ((yC t).map D.str)),.no,.no]):=λa=>by
  have e:kK bS (ag 0) (dC (.str "\n")) [.sh (.str t),.pt a,.no,.no,.no]=.ok (.lst ((yC t).map D.str)):=Fo h;open_line with[e]
 have hlen:(yC t).length<=100000:=by have:=split_len (x:=t) (y:="\n");show(P6 t "\n").length<=_;omega
 have hR:∀r∈yC t,r.length<=90000:=λr hr=>O0 (rZ hr) h;have he:∀a,BY (ag 2) [.sh (.str t),.pt a,.sh (.lst ((yC t).map D.str)),.no,.no]=.ok (numbered 0 ((yC t).map D.str)):=λa=>rfl;have hn:∀a,pB (ao (af (ag 2) au) (m1 bN)) [.sh (.str t),.pt a,.sh (.lst ((yC t).map D.str)),.no,.no]=.ok ((S8 0 (yC t).length).map λ(i:Nat)=>D.int (0+(i:Int))):=λa=>by
  have e:ao (af (ag 2) au) (m1 bN) [.sh (.str t),.pt a,.sh (.lst ((yC t).map D.str)),.no,.no]=.ok (.int ((yC t).length:Int)):=by
   have:ao (af (ag 2) au) (m1 bN) [.sh (.str t),.pt a,.sh (.lst ((yC t).map D.str)),.no,.no]=.ok (.int (((yC t).map D.str).length:Int)):=rfl;rw[this,OD]
  exact BX e hlen
 generalize yC t=RS at hsp hlen hR he hn;have L:=HM (A:=.str t) hR RS.length 0 [] [] [] .no .no .no .no (by omega) ⟨by decide,by simp,by decide,by simp,by decide⟩ (.inl rfl) (.inl rfl) (.inl rfl) (.inl rfl);rw[Tf]at L;rcases L with⟨j,h1,st',h2⟩|⟨ps,ts,es,x3,x4,y3,y4,I,⟨q1,q2,q3,q4⟩,h1,h2⟩
 .refine .inl ⟨j,λa=>?_,st',λa=>?_⟩
  .unfold uk
   rw[aZ,iU,hsp a,gT,mq,gT,cu,aZ,uy (he a),MX,h1 a];rfl
  .unfold vK
   rw[aZ,iU,hsp a,gT,mq,gT,cu,aZ,uy (hn a),MX,h2 a];rfl
 .have e2:∀n:Nat,mY (.int (n:Int)) (.int 2)=.ok (.bl (decide (n<2))):=λn=>by
   show ak.ok (D.bl (decide ((n:Int)<2)))=_
   congr 2;rw[P8,decide_eq_true_eq,decide_eq_true_eq];omega
  have cP:∀a:OE,aa (ao (af (bc (ag 1) (il "ends")) au) (m1 bN)) (dC (.int 2)) mY [.sh (.str t),.sh (eJ DK (S ps ts es)),.sh (.lst (RS.map D.str)),x3,x4]=.ok (.bl (decide (es.length<2))):=λ_=>by
   have:aa (ao (af (bc (ag 1) (il "ends")) au) (m1 bN)) (dC (.int 2)) mY [.sh (.str t),.sh (eJ DK (S ps ts es)),.sh (.lst (RS.map D.str)),x3,x4]=mY (.int ((es.map D.str).length:Int)) (.int 2):=rfl;rw[this,OD];exact e2 _
  have cL:∀a:OE,aa (ao (af (aa (ag 1) (dC (.int 2)) aO) au) (m1 bN)) (dC (.int 2)) mY [.sh (.str t),.sh (eJ .tup (S ps ts es)),.sh (.lst (RS.map D.str)),y3,y4]=.ok (.bl (decide (es.length<2))):=λ_=>by
   have:aa (ao (af (aa (ag 1) (dC (.int 2)) aO) au) (m1 bN)) (dC (.int 2)) mY [.sh (.str t),.sh (eJ .tup (S ps ts es)),.sh (.lst (RS.map D.str)),y3,y4]=mY (.int ((es.map D.str).length:Int)) (.int 2):=rfl;rw[this,OD];exact e2 _
  have pr:∀a,uk a [.sh (.str t),.pt a,.no,.no,.no] ⟨[],[],[]⟩=(bF (mX DK 1 a (aa (ao (af (bc (ag 1) (il "ends")) au) (m1 bN)) (dC (.int 2)) mY) (bF (iW (cQ "NoText" ["row"] (af (ao (af (ag 2) au) (m1 bN)) au))) bj) bj) (bF (Dc 1 a false) bj)) [.sh (.str t),.pt a,.sh (.lst (RS.map D.str)),x3,x4] (S ps ts es):=λa=>by
   unfold uk;rw[aZ,iU,hsp a,gT,mq,gT,cu,aZ,uy (he a),MX,h1 a];rfl
  have lr:∀a,vK a [.sh (.str t),.pt a,.no,.no,.no] ⟨[],[],[]⟩=(bF (mX .tup 1 a (aa (ao (af (aa (ag 1) (dC (.int 2)) aO) au) (m1 bN)) (dC (.int 2)) mY) (bF (kD (ao (af (ao (af (ag 2) au) (m1 bN)) (af (dC (.non)) au)) iR)) bj) bj) (bF (Dc 1 a true) bj)) [.sh (.str t),.pt a,.sh (.lst (RS.map D.str)),y3,y4] (S ps ts es):=λa=>by
   unfold vK;rw[aZ,iU,hsp a,gT,mq,gT,cu,aZ,uy (hn a),MX,h2 a];rfl
  by_cases c:es.length<2
  .refine .inl ⟨RS.length,λa=>?_,S ps ts es,λa=>?_⟩
   .rw[pr a,aZ,Ft q1 q2,cP a,decide_eq_true c,gT,cM]
    have hx:cQ "NoText" ["row"] (af (ao (af (ag 2) au) (m1 bN)) au) [.sh (.str t),.pt a,.sh (.lst (RS.map D.str)),x3,x4]=.exn (NR RS.length):=by
     have:cQ "NoText" ["row"] (af (ao (af (ag 2) au) (m1 bN)) au) [.sh (.str t),.pt a,.sh (.lst (RS.map D.str)),x3,x4]=.exn ⟨"NoText",[("row",.int ((RS.map D.str).length:Int))]⟩:=rfl;rw[this,OD]
    rw[aZ,iU,hx];rfl
   .rw[lr a,aZ,Ft q3 q4,cL a,decide_eq_true c,gT,cM]
    have hx:ao (af (ao (af (ag 2) au) (m1 bN)) (af (dC (.non)) au)) iR [.sh (.str t),.pt a,.sh (.lst (RS.map D.str)),y3,y4]=.ok (.tup [.int (RS.length:Int),.non]):=by
     have:ao (af (ao (af (ag 2) au) (m1 bN)) (af (dC (.non)) au)) iR [.sh (.str t),.pt a,.sh (.lst (RS.map D.str)),y3,y4]=.ok (.tup [.int ((RS.map D.str).length:Int),.non]):=rfl;rw[this,OD]
    rw[aZ,eE,hx];rfl
  .match es,I,c,pr,lr,cP,cL with
   |[],_,c,_,_,_,_=>exact absurd (show 0<2 by decide) c
   |[_],_,c,_,_,_,_=>exact absurd (show 1<2 by decide) c
   |z0::z1::zr,I,c,pr,lr,cP,cL=>
    refine .inr ⟨MU (S ps ts (z0::z1::zr)) (.str z0) (.str z1),⟨ps,ts,z0,z1,rfl,I.ti⟩,λa=>?_,λa=>?_⟩
    .rw[pr a,aZ,Ft q1 q2,cP a,decide_eq_false c,gT,eR,cW,gT,cu,aZ,LB];rfl
    .rw[lr a,aZ,Ft q3 q4,cL a,decide_eq_false c,gT,eR,cW,gT,cu,aZ,LB];rfl
def DP{t:OG}(h:t.length<=90000):(∃j:Nat,dD [.str t]=.exn (NR j)/\gD [.str t]=.ok (.tup [.int (j:Int),.non]))∨∃d,Ht d/\dD [.str t]=.ok d/\gD [.str t]=.ok (.tup [.non,d]):=by
 have nn:lH [.sh (.str t),.no,.no,.no,.no]=true/\1 < [Sl.sh (D.str t),.no,.no,.no,.no].length:=⟨rfl,by show 1<5;decide⟩
 have N3:dZ (bc (ag 0) (i9 "str")) [.sh (.str t),.no,.no,.no,.no]=.ok (.bl false):=rfl;have hp:∀{r:ak Fl},(∀a,we (uk a [.sh (.str t),.pt a,.no,.no,.no] ⟨[],[],[]⟩)=r)->dD [.str t]=r.bind xp:=λ{r} e=>by
  have e1:eZ 1 uk [.sh (.str t),.no,.no,.no,.no]=r:=by
   unfold eZ;rw[if_pos nn];exact y0 e
  have e2:dD [.str t]=(iM [.sh (.str t),.no,.no,.no,.no]).bind xp:=rfl;have e3:iM=aw (fw (dZ (bc (ag 0) (i9 "str"))) (aw (cQ "NoText" ["row"] (af (dC (.int 0)) au)) ax) ax) (eZ 1 uk):=rfl;rw[e2,e3,uH];have e4:fw (dZ (bc (ag 0) (i9 "str"))) (aw (cQ "NoText" ["row"] (af (dC (.int 0)) au)) ax) ax [.sh (.str t),.no,.no,.no,.no]=.ok (.nx [.sh (.str t),.no,.no,.no,.no]):=rfl;rw[e4,gT,zu,e1]
 have hl:∀{r:ak Fl},(∀a,we (vK a [.sh (.str t),.pt a,.no,.no,.no] ⟨[],[],[]⟩)=r)->gD [.str t]=r.bind xp:=λ{r} e=>by
  have e1:eZ 1 vK [.sh (.str t),.no,.no,.no,.no]=r:=by
   unfold eZ;rw[if_pos nn];exact y0 e
  have e2:gD [.str t]=(lY [.sh (.str t),.no,.no,.no,.no]).bind xp:=rfl;have e3:lY=eZ 1 vK:=rfl;rw[e2,e3,e1]
 rcases NM h with⟨j,h1,st',h2⟩|⟨d,G,h1,h2⟩
 .refine .inl ⟨j,?_,?_⟩
  .rw[hp (r:=.exn (NR j)) λa=>by rw[h1 a];rfl];rfl
  .rw[hl (r:=.ok (.rt (.tup [.int (j:Int),.non]))) λa=>by rw[h2 a];rfl];rfl
 .refine .inr ⟨d,G,?_,?_⟩
  .rw[hp (r:=.ok (.rt d)) λa=>by rw[h1 a];rfl];rfl
  .rw[hl (r:=.ok (.rt (.tup [.non,d]))) λa=>by rw[h2 a];rfl];rfl
theorem nC:∀{ts:ac},(∀t∈ts,fgt t=t)->fgts ts=ts
 |[],_=>rfl
 |t::r,h=>by
  show fgt t::fgts r=_;rw[h t Pe,nC λx hx=>h x (OT _ hx)]
def rf.fg{t:D}(h:rf t):fgt t=t:=by
 obtain⟨w1,w2,w3,L,O,rfl,hL,hO⟩:=h;rcases hL with rfl|⟨p,q,rfl⟩<;>rcases hO with rfl|⟨p',q',rfl⟩<;>rfl
def Ht.eq{d:D}(h:Ht d):dm (fgt d) (fgt d)=.ok (.bl true):=by
 obtain⟨ps,ts,z0,z1,rfl,ht⟩:=h;have e:fgt (.tup [.ob .pl (ps.map D.str),.ob .pl ts,.str z0,.str z1])=.tup [.lst (ps.map D.str),.lst ts,.str z0,.str z1]:=by
  show D.tup [.lst (fgts (ps.map D.str)),.lst (fgts ts),.str z0,.str z1]=_;rw[nC (ts:=ts) λt h=>(ht t h).fg,nC (ts:=ps.map D.str) λt h=>by obtain⟨z,_,rfl⟩:=PM.mp h;rfl]
 rw[e];have sh:bh 40 (.tup [.lst (ps.map D.str),.lst ts,.str z0,.str z1])=true:=by
  have m38:∀{t:D},rf t->bh 38 t=true:=λh=>by
   obtain⟨w1,w2,w3,L,O,rfl,hL,hO⟩:=h;rcases hL with rfl|⟨p,q,rfl⟩<;>rcases hO with rfl|⟨p',q',rfl⟩<;>rfl
  have s1:bh 39 (.lst (ps.map D.str))=true:=Pk.mpr λt h=>by obtain⟨z,_,rfl⟩:=PM.mp h;rfl
  have s2:bh 39 (.lst ts)=true:=Pk.mpr λt h=>m38 (ht t h);show(bh 39 (.lst (ps.map D.str))&&(bh 39 (.lst ts)&&true))=true;rw[s1,s2];rfl
 have:dm (.tup [.lst (ps.map D.str),.lst ts,.str z0,.str z1]) (.tup [.lst (ps.map D.str),.lst ts,.str z0,.str z1])=.ok (.bl (cH (.tup [.lst (ps.map D.str),.lst ts,.str z0,.str z1]) (.tup [.lst (ps.map D.str),.lst ts,.str z0,.str z1]))):=if_pos ⟨sh,sh⟩;rw[this,kI 40 _ sh]
def Gg{n:Int}:fX (.int n)=false:=rfl
def pJ{t:OG}(h:t.length<=90000):cS [.str t]=.ok (.bl true):=by
 have hw:∀v:Int,fU [.int v]=.ok (.bl true):=λ_=>rfl;rcases DP h with⟨j,hr,hl⟩|⟨d,G,hr,hl⟩
 .have t1:BQ "NoText"=some true:=rfl
  have t2:BO "NoText"=some true:=rfl;have t3:lR "NoText"=some true:=rfl;have ht:∀(ni:Nat) (sh:bv) (ρ:Ev),BI (jB jO) ni sh ρ (.exn (NR j))=(sh (ρ.set ni (.sh (oG (NR j))))).bind (AI ni):=λ_ _ _=>zt (x:=NR j) (show jB jO "NoText"=true from rfl);have he:oG (NR j)=.ob (.exf "NoText" ["row"]) [.int (j:Int)]:=HX;have hf:mK lR "row" (.ob (.exf "NoText" ["row"]) [.int (j:Int)])=.ok (.int (j:Int)):=wj t3;have hj:dm (.int (j:Int)) (.int (j:Int))=.ok (.bl true):=by rw[wm,decide_eq_true rfl]
  open_line with[cS,j6,hl,xY,iZ,gS,hr,iH,ht,he,zy t1,zy t2,hf,hw,DB,dM,Gg,hj]
 .have hq:=G.eq
  have e1:∀x:Sl,KI (ag 3) [.sh (.str t),.sh .non,.sh d,.sh d,.sh .non,.sh (.bl true),x]=.ok (fgt d):=λ_=>rfl;have e2:∀x:Sl,KI (ag 2) [.sh (.str t),.sh .non,.sh d,.sh d,.sh .non,.sh (.bl true),x]=.ok (fgt d):=λ_=>rfl;open_line with[cS,j6,hl,xY,iZ,gS,hr,Gr,dM,my,e1,e2,hq]
def Cc{d:D}(h:i9 "str" d=.ok (.bl false)):dD [d]=.exn (NR 0):=by
 have e4:fw (dZ (bc (ag 0) (i9 "str"))) (aw (cQ "NoText" ["row"] (af (dC (.int 0)) au)) ax) ax [.sh d,.no,.no,.no,.no]=.exn (NR 0):=by
  have hx:cQ "NoText" ["row"] (af (dC (.int 0)) au) [.sh d,.no,.no,.no,.no]=.exn (NR 0):=rfl;open_line with[h,OO,hx,iH]
 have e2:dD [d]=(iM [.sh d,.no,.no,.no,.no]).bind xp:=rfl;have e3:iM=aw (fw (dZ (bc (ag 0) (i9 "str"))) (aw (cQ "NoText" ["row"] (af (dC (.int 0)) au)) ax) ax) (eZ 1 uk):=rfl;rw[e2,e3,uH,e4];rfl
def vm{d:D}(h:i9 "str" d=.ok (.bl false)):dI [d]=.ok (.bl true):=by
 have hr:=Cc h;have t3:lR "NoText"=some true:=rfl;have ht:∀(ni:Nat) (sh:bv) (ρ:Ev),BI (jB jv) ni sh ρ (.exn (NR 0))=(sh (ρ.set ni (.sh (oG (NR 0))))).bind (AI ni):=λ_ _ _=>zt (x:=NR 0) (show jB jv "NoText"=true from rfl);have he:oG (NR 0)=.ob (.exf "NoText" ["row"]) [.int 0]:=HX;have hf:mK lR "row" (.ob (.exf "NoText" ["row"]) [.int 0])=.ok (.int 0):=wj t3;have hj:dm (.int 0) (.int 0)=.ok (.bl true):=by rw[wm,decide_eq_true rfl]
 have hd:m8 (af (ag 0) au) dD [.sh d,.sh .non,.no]=.exn (NR 0):=by
  have e:af (ag 0) au [.sh d,.sh .non,.no]=.ok [d]:=rfl;unfold m8;rw[e];dsimp only;rw[hr];rfl
 open_line with[dI,kO,xY,hd,ht,he,hf,DB,hj]
end K76
namespace K74
open PySem PySem.NumText L2 DL Com Tex
def ix_mem{ds:ac}{v:Int}(h0:0<=v)(h1:v<(ds.length:Int)):∃d,aO (.lst ds) (.int v)=.ok d/\d∈ds:=by
 have hk:v.toNat<ds.length:=by omega
 refine⟨ds[v.toNat],?_,Rn hk⟩;have:=kE (OQ hk);rw[show((v.toNat:Nat):Int)=v by omega]at this;exact this
end K74
namespace K76
open PySem L2 DL Com Tex K74
def je(zs:ci):Nat:=(zs.map λz=>z.length+1).sum
def jI:je []=0:=rfl
def c9{z:OG}{zs:ci}:je (z::zs)=z.length+1+je zs:=rfl
theorem bO:∀{a b:ci},je (a++b)=je a+je b
 |[],b=>by rw[QL,jI,Si]
 |z::a,b=>by rw[Qp,c9,c9,bO];omega
theorem u9:∀{n:Nat}{a:ci},je (a.take n)<=je a
 |0,a=>by rw[List.take_zero,jI];omega
 |n+1,[]=>by rw[List.take_nil];omega
 |n+1,z::a=>by rw[Ut,c9,c9];have:=u9 (n:=n) (a:=a);omega
theorem va:∀{n:Nat}{a:ci},je (a.drop n)<=je a
 |0,a=>by rw[Tf];omega
 |n+1,[]=>by rw[List.drop_nil];omega
 |n+1,z::a=>by rw[List.drop_succ_cons,c9];have:=va (n:=n) (a:=a);omega
def E8{a:ci}:je a.reverse=je a:=by
 induction a with|nil=>rfl|cons z a ih=>rw[RB,bO,ih,c9,c9,jI];omega
theorem oS{z:OG}:∀{a:ci},z∈a->z.length+1<=je a
 |y::a,h=>by
  rw[c9];rcases O4.mp h with rfl|h
  .omega
  .have:=oS h;omega
theorem oU:∀{a:ci},a.length<=je a
 |[]=>O3 _
 |z::a=>by rw[Pa,c9];have:=oU (a:=a);omega
theorem oR:∀{a:ci},(a.map (·.length)).sum+a.length=je a
 |[]=>rfl
 |z::a=>by rw[PC,Tu,Pa,c9,←oR (a:=a)];omega
theorem yy:∀{ys:ci},gz (ys.map D.str)=some ys
 |[]=>rfl
 |y::ys=>by
  show(gz (ys.map D.str)).map _=_;rw[yy];rfl
def mw{z:OG}{ys:ci}(hz:z.length=1)(h:je ys<=500000):kf z [.lst (ys.map D.str)]=.ok (.str (Q6 z ys)):=by
 show(match gz (ys.map D.str) with|some ys=>if gI z ys=true then ak.ok (D.str (Q6 z ys)) else .stuck|none=>.stuck)=_;rw[yy];dsimp only;rw[if_pos];unfold gI;rw[OR,decide_eq_true_eq,decide_eq_true_eq,oR];omega
def mx{z:OG}{ys:ci}(hz:z.length=1):(Q6 z ys).length<=je ys:=by
 show(TK z ys).length<=_;rw[S1,hz,←oR];omega
def Af{x y:OG}(hy:y.length=1):je (P6 x y)=x.length+1:=by
 have h:=congrArg Str.length (Sz x y);rw[←Ue,S1,hy]at h;have hn:(P6 x y).length≠0:=λe=>pC (x:=x) (y:=y) (Qa.mp e);rw[←oR];omega
def wx{zs:ci}{lo hi:Option Int}:∃ys:ci,mL (zs.map D.str) lo hi=ys.map D.str/\je ys<=je zs:=⟨_,pe,O0 u9 va⟩
def cG{a b:ci}(h:je a+je b<=90000):aP (.lst (a.map D.str)) (.lst (b.map D.str))=.ok (.lst ((a++b).map D.str)):=by
 have ha:=oU (a:=a);have hb:=oU (a:=b);rw[PZ];exact if_pos (O0 (show(a.map D.str).length+(b.map D.str).length<=90000 by rw[OD,OD];omega) (by decide))
def jQ{zs:ci}{v:Int}(h0:0<=v)(h1:v<(zs.length:Int)):∃z,aO (.lst (zs.map D.str)) (.int v)=.ok (.str z)/\z∈zs:=by
 obtain⟨d,hd,hm⟩:=K74.ix_mem (ds:=zs.map D.str) h0 (by rw[OD];exact h1);obtain⟨z,hz,rfl⟩:=PM.mp hm;exact⟨z,hd,hz⟩
theorem ix_last{zs:ci}(h:zs≠[]):∃z,aO (.lst (zs.map D.str)) (.int (-1))=.ok (.str z)/\z∈zs:=by
 refine⟨zs.getLast h,?_,List.getLast_mem h⟩;have e:zs.map D.str=zs.dropLast.map D.str++[D.str (zs.getLast h)]:=by
  have:=congrArg (List.map D.str) (List.dropLast_concat_getLast h);rw[PZ]at this;exact this.symm
 rw[e];exact Com.ix_last
def dw{z:OG}(h:dX z=true):z.length<=8:=by
 unfold dX at h;simp only[OR,decide_eq_true_eq]at h;exact h.2.1
def KY{x:EJ}(h:rl x):bY [fr x]=.ok (.str (oP x.1 x.2))/\(oP x.1 x.2).length<=125:=by
 have h1:x.1.natAbs<10 ^ 60:=OS h.pN (by decide);have h2:x.2.natAbs<10 ^ 60:=OS h.qN (by decide);refine⟨wU.trans (pE (OS h1 (by decide)) (OS h2 (by decide))),?_⟩;have l1:=oX h1;have l2:=oX h2;unfold oP;split
 .omega
 .rw[RA,RA]
  have:("/" : OG).length=1:=rfl;omega
theorem yw{g:OG->OG}{B:Nat}:∀{zs:ci},(∀z∈zs,(g z).length<=B)->je (zs.map g)<=(B+1)*zs.length
 |[],_=>O3 _
 |z::zs,h=>by
  have h1:=h z Pe;have h2:=yw (g:=g) (B:=B) λy hy=>h y (OT _ hy);rw[PC,c9,Pa,Nat.mul_succ];omega
noncomputable abbrev oV:bv :=
 (aw (aV 7 (dC (.str "-")))
 (aw (fw (aa (ag 6) (dC (.non)) n6)
 (aw (aV 7 (ao (af (ag 6) au) bY))
 ax)
 ax)
 (aw (eI 1 (kL (dC (.str " ")) (af (ao (af (dC (.str "tie")) (af (ag 2) (af (ag 3) (af (ag 4) (af (ao (af (ag 5) au) bY) (af (ag 7) au)))))) cE) au)))
 ax)))
section
variable {w:KN}
def yi{ρ:Ev}(W:oo w):lK 1 [] (fv 0) mYes (aa (dC (.str "place ")) (ag 0) aP) ρ (w.ps.map D.str)=.ok (.lst ((w.ps.map λy=>("place " : OG)++y).map D.str)):=by
 rw[qK (F:=λd=>match d with|.str y=>.str (("place " : OG)++y)|d=>d) (by rw[OD];have:=W.n7;omega)]
 .rw[RC,RC];rfl
 .intro d hd
  obtain⟨y,hy,rfl⟩:=PM.mp hd;have l:=dw (W.nm.nm y hy);have a:aP (.str "place ") (.str y)=.ok (.str (("place " : OG)++y)):=e9 (decide_eq_true (by have:("place " : OG).length=6:=rfl;omega));refine⟨[.sh (.str y)],rfl,rfl,?_⟩;open_line with[a]
def BJ(W:oo w){t:MF}(T:zP w.ps t){A:D}{LS:ci}(hl:LS.length<=300){x7:Sl} :
  ∃z x7',z.length<=278/\oV [.sh A,.ow (.lst (LS.map D.str)),.sh (.str t.a),.sh (.str t.b),.sh (.str t.w),.sh (fr t.l),.sh (mZ t.o),x7]=.ok (.nx [.sh A,.ow (.lst ((LS++[z]).map D.str)),.sh (.str t.a),.sh (.str t.b),.sh (.str t.w),.sh (fr t.l),.sh (mZ t.o),x7']):=by
 have la:=dw (W.nm.nm _ T.a);have lb:=dw (W.nm.nm _ T.b);have lw:t.w.length<=4:=by rcases T.w with h|h<;>rw[h]<;>decide
 obtain⟨e1,l1⟩:=KY T.l;have go:∀(x:OG),x.length<=125->kf " " [.lst [.str "tie",.str t.a,.str t.b,.str t.w,.str (oP t.l.1 t.l.2),.str x]]=.ok (.str (Q6 " " ["tie",t.a,t.b,t.w,oP t.l.1 t.l.2,x]))/\(Q6 " " ["tie",t.a,t.b,t.w,oP t.l.1 t.l.2,x]).length<=278:=λx hx=>by
  have h3:("tie" : OG).length=3:=rfl;have ht:je ["tie",t.a,t.b,t.w,oP t.l.1 t.l.2,x]<=279:=by simp only[c9,jI];omega
  refine⟨mw (ys:=["tie",t.a,t.b,t.w,oP t.l.1 t.l.2,x]) rfl (by omega),?_⟩;show(TK _ _).length<=_;rw[S1];simp only[PC,RO,Tu,List.sum_nil,Pa,QM];have:(" " : OG).length=1:=rfl;omega
 have hll:decide (LS.length<=999)=true:=decide_eq_true (by omega);have ap:∀z:OG,(LS.map D.str)++[.str z]=(LS++[z]).map D.str:=λz=>by rw[PZ];rfl
 cases ho:t.o with
 |none=>
  obtain⟨j1,j2⟩:=go "-" (by decide);refine⟨_,.sh (.str "-"),j2,?_⟩;have hn:n6 (mZ none) .non=.ok (.bl false):=rfl;open_line with[oV,hn,e1,fD,dY,j1,ap,OD,hll]
 |some y=>
  obtain⟨e2,l2⟩:=KY (T.o y ho).1;obtain⟨j1,j2⟩:=go (oP y.1 y.2) l2;refine⟨_,.sh (.str (oP y.1 y.2)),j2,?_⟩;have hn:n6 (mZ (some y)) .non=.ok (.bl true):=rfl;have e2':bY [mZ (some y)]=.ok (.str (oP y.1 y.2)):=e2;open_line with[oV,hn,e1,e2',fD,dY,j1,ap,OD,hll]
def CZ(W:oo w):∃LS:ci,ij [ig w]=.ok (.lst (LS.map D.str))/\je LS<=4100/\LS≠[]:=by
 have hc:=λρ=>yi (ρ:=ρ) W;have t0:je (w.ps.map λy=>("place " : OG)++y)<=15*w.ps.length:=yw (B:=14) λz hz=>by
  have l:=dw (W.nm.nm z hz);have:("place " : OG).length=6:=rfl;rw[gZ];omega
 generalize (w.ps.map λy=>("place " : OG)++y)=P at hc t0;have t0:je P<=105:=by have:=W.n7;omega
 obtain⟨ρ',hf,LS,x2,x3,x4,x5,x6,x7,rfl,ht⟩:=zl (tg:=rH [2,3,4,5,6]) (body:=oV) (ds:=w.ts.map wX) (ρ:=[.sh (ig w),.ow (.lst (P.map D.str)),.no,.no,.no,.no,.no,.no])
  (λk ρ=>∃(LS:ci) (x2 x3 x4 x5 x6 x7:Sl),ρ=[.sh (ig w),.ow (.lst (LS.map D.str)),x2,x3,x4,x5,x6,x7]/\je LS<=105+279*k/\LS.length<=P.length+k) (by
   rintro k d hd ρ ⟨LS,x2,x3,x4,x5,x6,x7,rfl,ht,hn⟩;rw[O5]at hd;cases hk:w.ts[k]? with
   |none=>rw[hk]at hd;cases hd
   |some t=>
    rw[hk]at hd;cases hd;have hkl:k<w.ts.length:=(OZ.mp hk).1;have hp:=oU (a:=P);have:=W.t14;obtain⟨z,y7,hz,e⟩:=BJ W (W.ts t (Pp hk)) (A:=ig w) (LS:=LS) (by omega) (x7:=x7);exact⟨_,_,rfl,e,LS++[z],_,_,_,_,_,y7,rfl,by rw[bO,c9,jI];omega,by rw[Pm];simp;omega⟩) ⟨P,_,_,_,_,_,_,rfl,by omega,by omega⟩
 obtain⟨ht,hn⟩:=ht;rw[OD]at ht hn;have h14:=W.t14;have l1:=dw (W.nm.nm _ W.fi);have l2:=dw (W.nm.nm _ W.la);have c1:("first " : OG).length=6:=rfl;have c2:("last " : OG).length=5:=rfl;have a1:aP (.str "first ") (.str w.fi)=.ok (.str (("first " : OG)++w.fi)):=e9 (decide_eq_true (by omega));have a2:aP (.str "last ") (.str w.la)=.ok (.str (("last " : OG)++w.la)):=e9 (decide_eq_true (by omega));have m1:=gZ "first " w.fi;have m2:=gZ "last " w.la;have tt:je [("first " : OG)++w.fi,("last " : OG)++w.la]<=29:=by simp only[c9,jI];omega
 have a3:aP (.lst (LS.map D.str)) (.lst [.str (("first " : OG)++w.fi),.str (("last " : OG)++w.la)])=.ok (.lst ((LS++[("first " : OG)++w.fi,("last " : OG)++w.la]).map D.str)):=cG (a:=LS) (b:=[("first " : OG)++w.fi,("last " : OG)++w.la]) (by omega);have i0:aO (ig w) (.int 0)=.ok (.lst (w.ps.map D.str)):=rfl;have i1:aO (ig w) (.int 1)=.ok (.lst (w.ts.map wX)):=rfl;have i2:aO (ig w) (.int 2)=.ok (.str w.fi):=rfl;have i3:aO (ig w) (.int 3)=.ok (.str w.la):=rfl;refine⟨LS++[("first " : OG)++w.fi,("last " : OG)++w.la],?_,by rw[bO];omega,by simp⟩;open_line with[ij,mQ,i0,i1,i2,i3,hc,hf,a1,a2,a3]
end
section
variable {w:KN}
def CV{B:Nat}{z:OG}:∀{zs:ci},z∈zs->(zs.all λy=>decide (y.length<=B))=true->z.length<=B:=λhz h=>of_decide_eq_true (Pk.mp h _ hz)
def EY(W:oo w){k:Int}(h:0<=k/\k<32):∃z,gP [ig w,.int k]=.ok (.str z)/\z.length<=4400:=by
 have q1:gU (.str "1") (.int 4400)=.ok (.str (gM "1" 4400)):=by unfold gU;exact if_pos (by decide)
 have q2:gU (.str "1") (.int 60)=.ok (.str (gM "1" 60)):=by unfold gU;exact if_pos (by decide)
 have q3:gU (.str "1") (.int 61)=.ok (.str (gM "1" 61)):=by unfold gU;exact if_pos (by decide)
 have q4:gU (.str "3") (.int 60)=.ok (.str (gM "3" 60)):=by unfold gU;exact if_pos (by decide)
 have q5:gU (.str "3") (.int 61)=.ok (.str (gM "3" 61)):=by unfold gU;exact if_pos (by decide)
 have l1:(gM "1" 4400).length=4400:=by rw[jm];decide
 have l2:(gM "1" 60).length=60:=by rw[jm];decide
 have l3:(gM "1" 61).length=61:=by rw[jm];decide
 have l4:(gM "3" 60).length=60:=by rw[jm];decide
 have l5:(gM "3" 61).length=61:=by rw[jm];decide
 have c2:("1/" : OG).length=2:=rfl;have a4:aP (.str "1/") (.str (gM "3" 60))=.ok (.str ("1/"++gM "3" 60)):=e9 (decide_eq_true (by omega));have a5:aP (.str "1/") (.str (gM "3" 61))=.ok (.str ("1/"++gM "3" 61)):=e9 (decide_eq_true (by omega));have l6:(("1/" : OG)++gM "3" 60).length=62:=by rw[gZ];omega
 have l7:(("1/" : OG)++gM "3" 61).length=63:=by rw[gZ];omega
 generalize gM "1" 4400=R1 at *;generalize gM "1" 60=R2 at *;generalize gM "1" 61=R3 at *;generalize (("1/" : OG)++gM "3" 60)=R4 at *;generalize (("1/" : OG)++gM "3" 61)=R5 at *;have i0:aO (ig w) (.int 0)=.ok (.lst (w.ps.map D.str)):=rfl;have i2:aO (ig w) (.int 2)=.ok (.str w.fi):=rfl;have i3:aO (ig w) (.int 3)=.ok (.str w.la):=rfl;have h2:=W.n2;obtain⟨p0,j0,m0⟩:=jQ (zs:=w.ps) (v:=0) (by decide) (by omega);obtain⟨p9,j9,m9⟩:=ix_last (zs:=w.ps) (λe=>by rw[e]at h2;exact absurd h2 (by decide));have b0:=dw (W.nm.nm _ m0);have b9:=dw (W.nm.nm _ m9);have bf:=dw (W.nm.nm _ W.fi);have bl:=dw (W.nm.nm _ W.la);obtain⟨z,hz,mz⟩:=jQ (zs:=["","place","tie","first","last","one","both","two","-","0","-1","1/2","2/4","1/1","0/2","01","Ab","abcdefghi","a1","zzzzzzzz",R2,R3,R4,R5,"-0","+1",p0,p9,w.fi,w.la,"\t",R1]) h.1 h.2;have hz':aO (.lst [.str "",.str "place",.str "tie",.str "first",.str "last",.str "one",.str "both",.str "two",.str "-",.str "0",.str "-1",.str "1/2",.str "2/4",.str "1/1",.str "0/2",.str "01",.str "Ab",.str "abcdefghi",.str "a1",.str "zzzzzzzz",.str R2,.str R3,.str R4,.str R5,.str "-0",.str "+1",.str p0,.str p9,.str w.fi,.str w.la,.str "\t",.str R1]) (.int k)=.ok (.str z):=hz;refine⟨z,by open_line with[gP,om,q1,q2,q3,q4,q5,a4,a5,i0,i2,i3,j0,j9,hz'],?_⟩;refine CV mz ?_;simp only[QH,T9,QV,OR,decide_eq_true_eq];refine⟨?_,?_,?_,?_,?_,?_,?_,?_,?_,?_,?_,?_,?_,?_,?_,?_,?_,?_,?_,?_,?_,?_,?_,?_,?_,?_,?_,?_,?_,?_,?_,?_⟩
 all_goals first
  |omega
  |decide
def Ja(W:oo w){LS:ci}(hn:LS≠[]){k:Int}(h:0<=k/\k<16):∃z,jN [ig w,.lst (LS.map D.str),.int k]=.ok (.str z)/\z.length<=je LS+40:=by
 have i0:aO (ig w) (.int 0)=.ok (.lst (w.ps.map D.str)):=rfl;have i2:aO (ig w) (.int 2)=.ok (.str w.fi):=rfl;have i3:aO (ig w) (.int 3)=.ok (.str w.la):=rfl;have h2:=W.n2;obtain⟨p0,j0,m0⟩:=jQ (zs:=w.ps) (v:=0) (by decide) (by omega);obtain⟨p1,j1,m1⟩:=jQ (zs:=w.ps) (v:=1) (by decide) (by omega);have hl:0<LS.length:=by cases LS with|nil=>exact absurd rfl hn|cons x r=>simp
 obtain⟨r0,k0,n0⟩:=jQ (zs:=LS) (v:=0) (by decide) (by omega);obtain⟨r9,k9,n9⟩:=ix_last (zs:=LS) hn;have b0:=dw (W.nm.nm _ m0);have b1:=dw (W.nm.nm _ m1);have bf:=dw (W.nm.nm _ W.fi);have bl:=dw (W.nm.nm _ W.la);have t0:=oS n0;have t9:=oS n9;have c0:("place " : OG).length=6:=rfl;have c1:("first " : OG).length=6:=rfl;have c2:("last " : OG).length=5:=rfl;have a0:aP (.str "place ") (.str p0)=.ok (.str (("place " : OG)++p0)):=e9 (decide_eq_true (by omega));have a1:aP (.str "first ") (.str w.fi)=.ok (.str (("first " : OG)++w.fi)):=e9 (decide_eq_true (by omega));have a2:aP (.str "last ") (.str w.la)=.ok (.str (("last " : OG)++w.la)):=e9 (decide_eq_true (by omega));have a3:aP (.str "first ") (.str w.la)=.ok (.str (("first " : OG)++w.la)):=e9 (decide_eq_true (by omega));have a4:aP (.str "last ") (.str w.fi)=.ok (.str (("last " : OG)++w.fi)):=e9 (decide_eq_true (by omega));have l0:=gZ "place " p0;have l1:=gZ "first " w.fi;have l2:=gZ "last " w.la;have l3:=gZ "first " w.la;have l4:=gZ "last " w.fi;have ht:je ["tie",p0,p1,"both","1","1"]<=33:=by
  have e1:("tie" : OG).length=3:=rfl;have e2:("both" : OG).length=4:=rfl;have e3:("1" : OG).length=1:=rfl;simp only[c9,jI];omega
 have jt:kf " " [.lst [.str "tie",.str p0,.str p1,.str "both",.str "1",.str "1"]]=.ok (.str (Q6 " " ["tie",p0,p1,"both","1","1"])):=mw (ys:=["tie",p0,p1,"both","1","1"]) rfl (by omega);have lt:=mx (z:=" ") (ys:=["tie",p0,p1,"both","1","1"]) rfl;generalize Q6 " " ["tie",p0,p1,"both","1","1"]=T at jt lt;generalize ("place " : OG)++p0=P0 at *;generalize ("first " : OG)++w.fi=P1 at *;generalize ("last " : OG)++w.la=P2 at *;generalize ("first " : OG)++w.la=P3 at *;generalize ("last " : OG)++w.fi=P4 at *;obtain⟨z,hz,mz⟩:=jQ (zs:=[""," ","place zzzzzzzz",P0,T,P3,P4,P1,P2,r0,r9,"webs","place","tie","first","last"]) h.1 h.2;have hz':aO (.lst [.str "",.str " ",.str "place zzzzzzzz",.str P0,.str T,.str P3,.str P4,.str P1,.str P2,.str r0,.str r9,.str "webs",.str "place",.str "tie",.str "first",.str "last"]) (.int k)=.ok (.str z):=hz;refine⟨z,by open_line with[jN,q9,i0,i2,i3,j0,j1,k0,k9,fD,dY,jt,a0,a1,a2,a3,a4,hz'],?_⟩;refine CV mz ?_;simp only[QH,T9,QV,OR,decide_eq_true_eq];have s1:("" : OG).length=0:=rfl;have s2:(" " : OG).length=1:=rfl;have s3:("place zzzzzzzz" : OG).length=14:=rfl;have s4:("webs" : OG).length=4:=rfl;have s5:("place" : OG).length=5:=rfl;have s6:("tie" : OG).length=3:=rfl;have s7:("first" : OG).length=5:=rfl;have s8:("last" : OG).length=4:=rfl;refine⟨?_,?_,?_,?_,?_,?_,?_,?_,?_,?_,?_,?_,?_,?_,?_,?_⟩<;>omega
end
section
variable {w:KN}
def Oc{n:Int}(h:0<=n/\n<10):n=0∨n=1∨n=2∨n=3∨n=4∨n=5∨n=6∨n=7∨n=8∨n=9:=by omega
def zL(W:oo w){LS:ci}(hn:LS≠[])(hb:je LS<=21000){way at_ spot kind:Int}(hw:0<=way/\way<10)(hk:0<=kind/\kind<32) :
  ∃BS:ci,bH [ig w,.lst (LS.map D.str),.lst [.int way,.int at_,.int spot,.int kind]]=.ok (.lst (BS.map D.str))/\je BS<=4*je LS+4500:=by
 have hl:0<LS.length:=by cases LS with|nil=>exact absurd rfl hn|cons x r=>simp
 have n0:((LS.length:Int)==0)=false:=beq_eq_false_iff_ne.mpr (by omega);have f1:=iE (a:=at_) (b:=(LS.length:Int)) (by omega);generalize hm:at_.fmod (LS.length:Int)=m at f1;obtain⟨r,jr,mr⟩:=jQ (zs:=LS) f1.1 f1.2;have tr:=oS mr;have sp:bS r " "=.ok (.lst ((oQ r).map D.str)):=pk (by omega);have ts:je (oQ r)=r.length+1:=Af rfl;have wl:0<(oQ r).length:=by
  have:=pC (x:=r) (y:=" ");show 0<(P6 r " ").length;cases q:P6 r " " with|nil=>exact absurd q this|cons x r=>simp
 have n1:(((oQ r).length:Int)==0)=false:=beq_eq_false_iff_ne.mpr (by omega);generalize oQ r=ws at sp ts wl n1;have f2:=iE (a:=spot) (b:=(ws.length:Int)) (by omega);generalize hs:spot.fmod (ws.length:Int)=s at f2;have e7:∀{k:D}{x5 x6 x7 x8:Sl}{y3:Sl},kK bS (aa (ag 1) (ag 4) aO) (dC (.str " ")) [.sh (ig w),.sh (.lst (LS.map D.str)),.sh k,y3,.sh (.int m),x5,x6,x7,x8]=.ok (.lst (ws.map D.str)):=λ{k x5 x6 x7 x8 y3}=>by
  have e2:aa (ag 1) (ag 4) aO [.sh (ig w),.sh (.lst (LS.map D.str)),.sh k,y3,.sh (.int m),x5,x6,x7,x8]=.ok (.str r):=jr;unfold kK;rw[e2];exact sp
 obtain⟨z,ez,lz⟩:=EY W hk;have k16:(0:Int)<=kind.fmod 16/\kind.fmod 16<16:=iE (by decide);obtain⟨y,ey,ly⟩:=Ja W hn k16;have cut:=λlo hi=>wx (zs:=LS) (lo:=lo) (hi:=hi);have cuw:=λlo hi=>wx (zs:=ws) (lo:=lo) (hi:=hi);have one:∀x:OG,([D.str x]:ac)=[x].map D.str:=λ_=>rfl;have t1:∀x:OG,je [x]=x.length+1:=λ_=>rfl;have g2:cO (.int 8) (.int 2)=.ok (.int 0):=rfl;have g3:cO (.int 9) (.int 2)=.ok (.int 1):=rfl;obtain⟨A,eA,tA⟩:=cut none (some m);obtain⟨B,eB,tB⟩:=cut (some (m+1)) none;obtain⟨A1,eA1,tA1⟩:=cut none (some (m+1));obtain⟨B0,eB0,tB0⟩:=cut (some m) none;obtain⟨C,eC,tC⟩:=cut (some m) (some (m+2));obtain⟨B2,eB2,tB2⟩:=cut (some (m+2)) none;obtain⟨U,eU,tU⟩:=cuw none (some s);obtain⟨V,eV,tV⟩:=cuw (some (s+1)) none;obtain⟨V0,eV0,tV0⟩:=cuw (some s) none;have fin:∀WS:ci,je WS<=2*je LS+4401->∃J,kf " " [.lst (WS.map D.str)]=.ok (.str J)/\aP (.lst (A.map D.str)) (.lst [.str J])=.ok (.lst ((A++[J]).map D.str))/\aP (.lst ((A++[J]).map D.str)) (.lst (B.map D.str))=.ok (.lst ((A++[J]++B).map D.str))/\je (A++[J]++B)<=4*je LS+4500:=λWS tW=>by
  have ej:=mw (z:=" ") (ys:=WS) rfl (by omega);have lj:=mx (z:=" ") (ys:=WS) rfl;generalize Q6 " " WS=J at ej lj;exact⟨J,ej,cG (a:=A) (b:=[J]) (by rw[t1];omega),cG (a:=A++[J]) (b:=B) (by rw[bO,t1];omega),by rw[bO,bO,t1];omega⟩
 have rv:Kn (.lst (C.map D.str))=.ok (.lst (C.reverse.map D.str)):=by rw[List.map_reverse];rfl
 have pre:∀{n:Nat},aO (.lst (LS.map D.str)) (.int m)=.ok (.str r):=λ{n}=>jr;rcases Oc hw with rfl|rfl|rfl|rfl|rfl|rfl|rfl|rfl|rfl|rfl
 .have a:=cG (a:=A) (b:=B) (by omega)
  exact⟨A++B,by open_line with[bH,cI,OD,dE n0,hm,e7,dE n1,hs,eA,eB,a],by rw[bO];omega⟩
 .have a:=cG (a:=A1) (b:=B0) (by omega)
  exact⟨A1++B0,by open_line with[bH,cI,OD,dE n0,hm,e7,dE n1,hs,eA1,eB0,a],by rw[bO];omega⟩
 .have tr':=E8 (a:=C)
  have a:=cG (a:=A) (b:=C.reverse) (by omega);have a':=cG (a:=A++C.reverse) (b:=B2) (by rw[bO];omega);exact⟨A++C.reverse++B2,by open_line with[bH,cI,OD,dE n0,hm,e7,dE n1,hs,eA,eC,eB2,rv,a,a'],by rw[bO,bO];omega⟩
 .exact⟨A,by open_line with[bH,cI,OD,dE n0,hm,e7,dE n1,hs,eA],by omega⟩
 .have a:=cG (a:=U) (b:=[z]) (by rw[t1];omega)
  have a':=cG (a:=U++[z]) (b:=V0) (by rw[bO,t1];omega);have a1:aP (.lst (U.map D.str)) (.lst [.str z])=.ok (.lst ((U++[z]).map D.str)):=a;obtain⟨J,ej,b1,b2,t⟩:=fin (U++[z]++V0) (by rw[bO,bO,t1];omega);exact⟨A++[J]++B,by open_line with[bH,cI,OD,dE n0,hm,e7,dE n1,hs,eU,eV0,ez,a1,a',fD,dY,ej,eA,eB,b1,b2],t⟩
 .have a:=cG (a:=U) (b:=V) (by omega)
  obtain⟨J,ej,b1,b2,t⟩:=fin (U++V) (by rw[bO];omega);exact⟨A++[J]++B,by open_line with[bH,cI,OD,dE n0,hm,e7,dE n1,hs,eU,eV,a,fD,dY,ej,eA,eB,b1,b2],t⟩
 .have a:=cG (a:=U) (b:=[z]) (by rw[t1];omega)
  have a':=cG (a:=U++[z]) (b:=V) (by rw[bO,t1];omega);have a1:aP (.lst (U.map D.str)) (.lst [.str z])=.ok (.lst ((U++[z]).map D.str)):=a;obtain⟨J,ej,b1,b2,t⟩:=fin (U++[z]++V) (by rw[bO,bO,t1];omega);exact⟨A++[J]++B,by open_line with[bH,cI,OD,dE n0,hm,e7,dE n1,hs,eU,eV,ez,a1,a',fD,dY,ej,eA,eB,b1,b2],t⟩
 .have a:=cG (a:=U) (b:=[z]) (by rw[t1];omega)
  have a':=cG (a:=U++[z]) (b:=V) (by rw[bO,t1];omega);have a1:aP (.lst (U.map D.str)) (.lst [.str z])=.ok (.lst ((U++[z]).map D.str)):=a;obtain⟨J,ej,b1,b2,t⟩:=fin (U++[z]++V) (by rw[bO,bO,t1];omega);exact⟨A++[J]++B,by open_line with[bH,cI,OD,dE n0,hm,e7,dE n1,hs,eU,eV,ez,a1,a',fD,dY,ej,eA,eB,b1,b2],t⟩
 .obtain⟨X,eX,tX⟩:=cut none (some (m+0))
  obtain⟨Y,eY,tY⟩:=cut (some (m+0)) none;have a:=cG (a:=X) (b:=[y]) (by rw[t1];omega);have a':=cG (a:=X++[y]) (b:=Y) (by rw[bO,t1];omega);have a1:aP (.lst (X.map D.str)) (.lst [.str y])=.ok (.lst ((X++[y]).map D.str)):=a;exact⟨X++[y]++Y,by open_line with[bH,cI,OD,dE n0,hm,e7,dE n1,hs,g2,eX,eY,ey,a1,a'],by rw[bO,bO,t1];omega⟩
 .have a:=cG (a:=A1) (b:=[y]) (by rw[t1];omega)
  have a':=cG (a:=A1++[y]) (b:=B) (by rw[bO,t1];omega);have a1:aP (.lst (A1.map D.str)) (.lst [.str y])=.ok (.lst ((A1++[y]).map D.str)):=a;exact⟨A1++[y]++B,by open_line with[bH,cI,OD,dE n0,hm,e7,dE n1,hs,g3,eA1,eB,ey,a1,a'],by rw[bO,bO,t1];omega⟩
end
def M4{vs:List Int}(h:vs.length=10):∃a b c d e f g i j k,vs=[a,b,c,d,e,f,g,i,j,k]:=by
 match vs,h with
 |[a,b,c,d,e,f,g,i,j,k],_=>exact⟨a,b,c,d,e,f,g,i,j,k,rfl⟩
noncomputable abbrev ml:bv :=
 (aw (aV 4 (ao (af (ag 3) (af (ao (af (dC (.int 10)) (af (dC (.int 23)) (af (dC (.int 6)) (af (dC (.int 32)) (af (dC (.int 3)) (af (dC (.int 10)) (af (dC (.int 23)) (af (dC (.int 6)) (af (dC (.int 32)) (af (dC (.int 7)) au)))))))))) cE) au)) bL))
 (aw (aV 5 (ao (af (ag 1) (af (ag 2) (af (eG (ag 4) dH (bQ (dC (.int 4)))) au))) bH))
 (aw (fw (ef (aa (aa (ag 4) (dC (.int 4)) aO) (dC (.int 0)) dm) (aa (ag 5) (ao au cE) jf))
 (aw (aV 5 (ao (af (ag 1) (af (ag 5) (af (eG (ag 4) (bQ (dC (.int 5))) (bQ (dC (.int 9)))) au))) bH))
 ax)
 ax)
 (aw (fw (dZ (ao (af (kL (dC (.str "\n")) (af (ag 5) au)) au) cS))
 (aw (bE (dC (.bl false)))
 ax)
 ax)
 (aw (fw (dZ (ao (af (aa (ao (af (dC (.non)) (af (dC (.bl true)) (af (dC (.int 1)) (af (ag 2) (af (ao (af (ag 2) au) (m1 uP)) (af (ao (af (dC (.str "web")) au) iR) (af (dC (.dic [] [])) au))))))) cE) (aa (ag 4) (dC (.int 9)) aO) aO) au) dI))
 (aw (bE (dC (.bl false)))
 ax)
 ax)
 ax)))))
def vk{LS:ci}{v:Int}(h:0<=v/\v<7):∃d,aO (.lst [.non,.bl true,.int 1,.lst (LS.map D.str),.tup (LS.map D.str),.tup [.str "web"],.dic [] []]) (.int v)=.ok d/\dI [d]=.ok (.bl true):=by
 obtain⟨d,hd,hm⟩:=K74.ix_mem (ds:=[.non,.bl true,.int 1,.lst (LS.map D.str),.tup (LS.map D.str),.tup [.str "web"],.dic [] []]) h.1 h.2;refine⟨d,hd,vm ?_⟩;simp only[O4,QZ,or_false]at hm;rcases hm with rfl|rfl|rfl|rfl|rfl|rfl|rfl<;>rfl
def E6{w:KN}(W:oo w){LS:ci}(hn:LS≠[])(ht:je LS<=4100){A:D}{c:Int}{x4 x5:Sl}:∃y4 y5,ml [.sh A,.sh (ig w),.sh (.lst (LS.map D.str)),.sh (.int c),x4,x5]=.ok (.nx [.sh A,.sh (ig w),.sh (.lst (LS.map D.str)),.sh (.int c),y4,y5]):=by
 obtain⟨vs,hd,V⟩:=mE c [10,23,6,32,3,10,23,6,32,7] (by decide) (by decide);have hd':bL [.int c,.lst [.int 10,.int 23,.int 6,.int 32,.int 3,.int 10,.int 23,.int 6,.int 32,.int 7]]=.ok (.lst (vs.map D.int)):=hd;obtain⟨v0,g0,b0,_⟩:=V.at 0 rfl;obtain⟨v3,g3,b3,_⟩:=V.at 3 rfl;obtain⟨v5,g5,b5,_⟩:=V.at 5 rfl;obtain⟨v8,g8,b8,_⟩:=V.at 8 rfl;obtain⟨v9,g9,b9,_⟩:=V.at 9 rfl;obtain⟨a0,a1,a2,a3,a4,a5,a6,a7,a8,a9,rfl⟩:=M4 (vs:=vs) V.len;cases g0;cases g3;cases g5;cases g8;cases g9;obtain⟨BS,hb,tb⟩:=zL W hn (by omega) (at_:=a1) (spot:=a2) b0 b3;have s1:mL [.int v0,.int a1,.int a2,.int v3,.int a4,.int v5,.int a6,.int a7,.int v8,.int v9] none (some 4)=[.int v0,.int a1,.int a2,.int v3]:=rfl;have s2:mL [.int v0,.int a1,.int a2,.int v3,.int a4,.int v5,.int a6,.int a7,.int v8,.int v9] (some 5) (some 9)=[.int v5,.int a6,.int a7,.int v8]:=rfl;obtain⟨d,hx,hr⟩:=vk (LS:=LS) b9;have hq:=wm (n:=a4) (m:=0);have he:=DM (es:=BS);have htu:uP (.lst (LS.map D.str))=.ok (.tup (LS.map D.str)):=rfl;have fin:∀CS:ci,je CS<=90000->∃J,kf "\n" [.lst (CS.map D.str)]=.ok (.str J)/\cS [.str J]=.ok (.bl true):=λCS tc=>
  ⟨_,mw rfl (by omega),pJ (O0 (mx rfl) tc)⟩
 by_cases c1:a4=0/\BS≠[]
 .have e2:BS.isEmpty=false:=by cases BS with|nil=>exact absurd rfl c1.2|cons x r=>rfl
  rw[e2]at he;rw[decide_eq_true c1.1]at hq;obtain⟨CS,hc,tc⟩:=zL W c1.2 (by omega) (at_:=a6) (spot:=a7) b5 b8;obtain⟨J,ej,er⟩:=fin CS (by omega);exact⟨.sh (.lst [.int v0,.int a1,.int a2,.int v3,.int a4,.int v5,.int a6,.int a7,.int v8,.int v9]),.sh (.lst (CS.map D.str)),by open_line with[ml,hd',s1,s2,hb,hq,he,hc,fD,dY,ej,er,htu,hx,hr,OO,OU]⟩
 .obtain⟨J,ej,er⟩:=fin BS (by omega)
  by_cases c2:a4=0
  .have e2:BS.isEmpty=true:=by
    cases BS with|nil=>rfl|cons x r=>exact absurd ⟨c2,by simp⟩ c1
   rw[e2]at he;rw[decide_eq_true c2]at hq;exact⟨.sh (.lst [.int v0,.int a1,.int a2,.int v3,.int a4,.int v5,.int a6,.int a7,.int v8,.int v9]),.sh (.lst (BS.map D.str)),by open_line with[ml,hd',s1,s2,hb,hq,he,fD,dY,ej,er,htu,hx,hr,OO,OU]⟩
  .rw[decide_eq_false c2]at hq
   exact⟨.sh (.lst [.int v0,.int a1,.int a2,.int v3,.int a4,.int v5,.int a6,.int a7,.int v8,.int v9]),.sh (.lst (BS.map D.str)),by open_line with[ml,hd',s1,s2,hb,hq,fD,dY,ej,er,htu,hx,hr,OO,OU]⟩
def C2(ns:List Int)(hn:ns.length<=63):m_law [.lst (ns.map D.int)]=.ok (.bl true):=by
 obtain⟨w,hw,W⟩:=zZ (ns:=ns) (by omega) (at_:=0) (by decide) (by decide);obtain⟨LS,hl,tl,nl⟩:=CZ W;have hc:∃cs:List Int,mL (ns.map D.int) (some 15) (some 45)=cs.map D.int/\cs.length<=63:=⟨_,pe,by rw[Qw,Rm];omega⟩
 obtain⟨cs,hc,ln⟩:=hc;have ca:aP (.lst (cs.map D.int)) (.lst [.int 15])=.ok (.lst ((cs++[15]).map D.int)):=by
  rw[zC (decide_eq_true (by simp;omega)),PZ];rfl
 obtain⟨ρ',hf,y3,y4,y5,rfl⟩:=zl (tg:=fv 3) (body:=ml) (ds:=(cs++[15]).map D.int) (ρ:=[.sh (.lst (ns.map D.int)),.sh (ig w),.sh (.lst (LS.map D.str)),.no,.no,.no])
  (λ_ ρ=>∃y3 y4 y5,ρ=[.sh (.lst (ns.map D.int)),.sh (ig w),.sh (.lst (LS.map D.str)),y3,y4,y5]) (by
   rintro k d hd ρ ⟨y3,y4,y5,rfl⟩;rw[O5]at hd;cases hk:(cs++[15])[k]? with
   |none=>rw[hk]at hd;cases hd
   |some c=>
    rw[hk]at hd;cases hd;obtain⟨z4,z5,e⟩:=E6 W nl tl (A:=.lst (ns.map D.int)) (c:=c) (x4:=y4) (x5:=y5);exact⟨_,_,rfl,e,_,z4,z5,rfl⟩) ⟨_,_,_,rfl⟩
 have ej:=mw (z:="\n") (ys:=LS) rfl (by omega);have er:cS [.str (Q6 "\n" LS)]=.ok (.bl true):=pJ (O0 (mx rfl) (by omega));open_line with[m_law,Ic,hw,hl,hc,ca,hf,fD,dY,ej,er]
end K76
namespace K76
open PySem L2 DL
def sp_law(K:OH)(H:Hp)(a:OE)(ns:List Int)(hl:ns.length<=63)(hS:gL K H a (ns.map V.int)):spD K 1 m_law [.ref a] H (λv _=>v=.bl true) λ_ _ _=>False:=by
 refine⟨rfl,H,[.lst (ns.map D.int)],aG.refl _,Reps.cons (aF.mpr ⟨a,_,rfl,hS,tw ns⟩) Reps.nil,?_⟩;rw[C2 ns hl];exact λv H' Ha' _ r=>aE.mp r
end K76
structure PySem.W.Fast:Prop where(tw3213205014123350164 tw12520966022857374603 tw12843255460428904141 tw8904389417385406679 tw13626959758575599574 tw3390638537441469463 tw8034806653910430859 tw9306398077775894874 tw7511729324234369958 tw7992349912225072818 tw5183416367455668177 tw6353610885402606595 tw17452002586900899505 tw4726841689855015008 tw8766791137025704310 tw554030926058317471 tw11673540344569755922 tw10537999989114113318 tw9036124367942538141 tw11058012228630971682 tw6941050071284052112 tw11423953916211539829 tw6847796038556001925 tw2569852509736446336 tw16549428731976623945 tw11272878189290878328 tw240370471331407807 tw7740517586910634271 tw10192942981771717876 tw4325248435368160119 tw18179506813874393116 tw9211481096121790116 tw7790214423916145810 tw17686022944798236726 tw6179528623365879608 tw10859527183555669789 tw802717710141202078 tw2821480713913170043 tw4156177265298482817 tw10929065291044826808 tw10595057214145038970 tw165015237779611156 tw16189808289734379057 tw11156898539883809929 tw12595121438213259860 tw17371362041115308835 tw3595938254017787937 tw8021326520437962593 tw11294916619963101970 tw8942872696663514708 tw4225480638311805793 tw8608775785692399246 tw10774619549912469234 tw3553029983857370202 tw10679111762570475078 tw12154854169017337435 tw409657778147301485 tw5210973881864458608 tw14618036604507054919 tw12297723640886571027 tw15970475985398329080 tw1338693326317593460 tw14442553425205665141 tw2013212048475579115 tw4696192569664689275 tw14341417196007282694 tw3510069824648508381 tw1044166093636107526 tw2507245362193910454 tw2714815417340670649 tw3337946829025839325 tw3664820797889629387 tw2385216184691494783 tw6596268288689879267 tw9033309648842269560 tw7723089412665665099 tw14557112210137212733 tw17360775445124933426 tw1442013547880075336 tw17207351056072940220 tw11608503612038831188 tw5155965346042904414 tw11097809183218487077 tw3838632688940298570 tw13139833556915383042 tw3027525079723182106 tw15978284022502467148 tw4978003257579802949 tw11764772635340127447 tw9193605603312354969 tw5884252690144781003 tw1162518380523972614 tw2427666225157611796 tw16393596051067157307 tw18056083419067899381 tw17581270426183133972 tw17855429230899450484 tw1103122577169391958 tw234551954021422181 tw487135472135315319 tw3025931739527500894 tw13604724679950145357 tw13639786245677358086:True)
open PySem PySem.W PyProof.Rows
set_option maxRecDepth 100000 in
set_option maxHeartbeats 0 in
theorem PySem.Challenge.cw_farthestcut_k76_rows_that_cannot_stand_holds : PySem.Challenge.rw_farthestcut_k76_rows_that_cannot_stand.Holds := by
 w_on;o_law;k_head;(case hw=>w_witness2)
 k_fill
 refine L2.walk_ofK (l:=PySem.Challenge.rw_farthestcut_k76_rows_that_cannot_stand) (n:=63) (k:=9) (x:="_law_script") (CX:=L2.CX0) (sp:=fun K=>DL.spD K 1 K76.m_law) ?I rfl (by decide) rfl ⟨rfl,by decide,by decide,rfl⟩ (fun w h Y=>W.kIn_of Y) ?F ?S ?C
 case S=>exact fun K H a ns hl _ hS=>K76.sp_law K H a ns hl hS
 case C=>exact fun _ _ _ _ h=>h
 case I=>rfl
 case F =>
  intro w mg fa h KX G hmg;have T:∃ t:K76.Adr,K76.Txt (L2.KOf KX) mg t/\mg "law"=some (.ref (t.A 38))/\∃ kV doc pm an cdv ct,t.Q 38=Ru "law" "law" (L2.defArgs (K76.top 60)) (L2.defBody (K76.top 60)) (L2.defScope (K76.top 60)) .none kV doc pm an cdv ct:=by
   dsimp only[L2.KOf];refine' K76.txt_wr (K76.txt_mk KX G ?QS ?_ ?_ ?_ ?_ ?_ ?_ ?_ ?_ ?_ ?_ ?_ ?_ ?_ ?_ ?_ ?_ ?_ ?_ ?_ ?_ ?_ ?_ ?_ ?_ ?_ ?_ ?_ ?_ ?_ ?_ ?_ ?_ ?_ ?_ ?_ ?_ ?_ ?_ ⟨?_,?_,?_,?_⟩ ⟨⟨?_,?_,?_,?_⟩,?_,?_,?_,?_,?_,?_,?_,?_,?_,?_,?_,?_⟩ ⟨_,_,_,_,_,_,_,_,_,_,_,_,_,_,_,_,_,_,_,_,_,_,_,_,_,_,_,_,_,?_,?_,?_,?_,?_,?_,?_,?_,?_,?_,(DL.noL_cons ?_ DL.noL_nil)⟩ ?_ ?_ ?_ ?_ (DL.sb_c ?_ (DL.sb_c ?_ trivial)) ?_ ?_ ?_ ?_ ?_ ?_ ?_ ?_ ?_ ?_ ?_ ?_ ?_ ?_ ?_)
   case' QS=>iterate 39 refine DL.QAs.cons ⟨by k_is,by k_is,_,_,_,_,_,_,_,_,_,by k_is,by k_is⟩ ?_
   case QS=>trivial
   all_goals try first |k_is |k_exc |rfl
   exact⟨_,_,_,_,[.str "one",.str "both"],rfl,.cons ⟨_,rfl⟩ (.cons ⟨_,rfl⟩ (.nil)),by decide,fun H=>DL.Reps.cons (DL.Rep.str_iff.mpr rfl) (DL.Reps.cons (DL.Rep.str_iff.mpr rfl) (DL.Reps.nil))⟩
  obtain⟨t,T,e0,kV,doc,pm,an,cdv,ct,ed⟩:=T;have e1:=hmg.symm.trans e0;cases e1;refine⟨t.Q 38,fun s u=>?_,fun base kb nb=>(K76.ok_law T).F⟩;rw[ed];exact .of_eq rfl
