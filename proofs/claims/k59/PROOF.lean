import PyProof.Rows.All
import Wide.All
import OpenK.AllK
import Wide.FinOn
import PyProof.EqAt
import PyProof.EqKinds
import PyProof.NeKinds
import PyProof.TupleCall
import PyProof.StrWalks
import PyProof.EnumMake
import PyProof.WalksEnum
import PyProof.ZipIter
import PyProof.Rows.ZipGen
import PyProof.Rows.SortWalk
import KE.KSortedM
import PyProof.StrLawsIdx
import PyProof.StrLawsNeg
import PyProof.ExcInit
import PyProof.InstStoreFacts
import PyProof.AttrMissHeap
import PyProof.FactsAll.enumerate
import PyProof.FactsAll.dict_1
import KE.KDictOf
import KE.KItemsList
import PyProof.ReprRoads
import KE.LcSums
import PyProof.AttrMissSeq
import PyProof.TupleIter
import PyProof.WalksMore
import PyProof.ExcClass2
import PyProof.Rows.MatchSeqLen
import PyProof.FactsAll.zip_1
import PyProof.FitsInt
import PySem.Challenge.RW_farthestcut_k59_called_otherwise
open PySem renaming Value->OB,wpAny_bind->OC,Shared->OE,Addr->OG,starEach->OJ,Heap->OL,wpAny_pure->ON,Str->OO,wpAny->OS,model->OW,Program->O5,mainGlobals->O6,Expr->Pd,World->Pt,Around->Pu,FuncData->Pz,wpAny_mono->PH,backTo->PN,Env->PQ,compareOp->PX,wpAny_holding->PY,swapsWith->P1,wpAny_loadPart_at->Qr,Stmt->Qt,NameKind->Qy,wpAny_truthy_bool->QK,mem_of_lookup->QN,cLine->QU,sysModules->Q2,attributeBase->Ra,keywordEach->Rm,codeAny->Rt,Within->Ru,Scope->RA,typeLookup->RI,pyNext->RQ,Keyword->R7,backToKw->Sx,Result->Tv,DictEntry->TC,holding->TZ,callWith->UO,intBits_le_iff->US
open PySem.Heap renaming get?_push_of_some->OD,lt_size->OT,get?_push_size->Pf,get?_update_self->Qb,get?_update_other->Qo,SameBut->QI,ExtBut->QW,FlyingW->Q6,size_push->Ro,MadeExcOf->R0,get?_none_of_le->Sa,IsSliceOf->Ua,IsTuple->UE,NotedW->U2,get?_update_ne->U5
open PySem.W renaming Frag->OF,nsIn->Qg,mg_none_of->Qm,kia_one->Qz,mg_of->QV,hideAll->Rb,findIn->Rn,fnOf->RJ,of_hideAll->RT,subIn->R6,keepIn->Sh,kia_tup->Sy,kitx_dict->SK,emptyDict->SM,Looks->SR,hideAll_get->SU,isNs_of_in->S9,excIn->Ta,funFrames_hide->Tu,specialIn->TF,kitx_list->TH,hasDictIn->TJ,codeIn->T5,looks_clsIn->Uh,kitx_tuple->Ut,methodObj->UP,InstAt->UQ
open List renaming length_map->OH,getElem?_eq_getElem->OI,getElem?_map->OM,getElem?_eq_some_iff->OP,getElem?_set_ne->OQ,mem_cons->OU,map_cons->OY,mem_cons_of_mem->OZ,mem_of_getElem?->O1,size_toArray->O3,replicate->O7,getElem?_append_left->O8,getElem?_append_right->O9,mem_cons_self->Pc,getElem?_replicate->Pm,mem_map->Pp,getElem?_set_self->Pq,all_eq_true->Pr,length_cons->Pw,map_append->PF,length_take->PJ,range->PL,not_mem_nil->PR,length_append->PU,mem_append_right->P0,nodup_iff_pairwise_ne->P4,map_map->P7,getElem_mem->P9,getElem?_cons_succ->Qe,nodup_cons->Qk,mem_append->Ql,length_drop->Qn,replicate_succ->Qp,filterMap_cons->Qq,zip_cons_cons->Qu,getElem?_cons_zero->Qw,map_congr_left->QB,drop_eq_getElem_cons->QC,length_replicate->QD,getElem?_take_of_lt->QH,mem_range->QJ,append_nil->QM,pairwise_cons->QP,getElem?_drop->QQ,any_cons->QX,length_reverse->QY,getElem_inj->Q0,getElem?_set_self'->Q1,take_of_length_le->Q3,mem_singleton->Q4,Nodup->Q5,length_nil->Q8,all_cons->Rc,getElem?_eq_none->Ri,pairwise_map->Rk,flatten_cons->Rl,mem_nil_iff->Rx,Pairwise->RD,mem_filter->RF,find?_cons->RG,filterMap_map->RK,range_succ_eq_map->RX,ext_getElem?->RY,take_length->R4,lookup_cons->R5,lookup->R9,length_zip->Sb,forIn_cons->Sd,map_nil->Sf,reverse_cons->Sm,append_assoc->Sn,length_eq_zero_iff->SA,nil_append->SJ,not_lt->SN,forIn_nil->SO,mem_filterMap->S3,contains_cons->S4,reverse_perm->Ti,nodup_append->Tj,mem_reverse->Tw,length->TM,of_mem_zip->TR,take_succ->T7,eq_of_mem_replicate->Um,pairwise_lt_range->Uz,all_map->UA,take_append_drop->UK,mem_iff_getElem?->UL,mem_append_left->UW,length_dropLast->UX,getElem_toArray->UY,getElem?_of_mem->UZ,replicate_zero->U3,getElem?_range->U4
open Nat renaming lt_of_lt_of_le->OR,le_refl->O0,le_trans->Pe,ne_of_lt->Pj,lt_of_le_of_lt->P6,ne_of_gt->Qd,pow_le_pow_right->Qv,lt_succ_of_lt->Rj,lt_succ_self->Rv,lt_irrefl->RC,zero_le->RP,le_of_lt->RW,le_add_right->Sz,min_eq_left->SI,zero_add->Tg,add_zero->Th,sub_zero->Uy,pow_add->UT,le_succ->UU
open Or renaming inl->O2,inr->S0
open Bool renaming and_eq_true->O4,false_ne_true->Qj,false_and->Rr,false_eq_true->RM,true_and->R8,false_or->SW,not_eq_true'->Tq,or_eq_true->TY,not_false->Ud,and_false->Ue,not_true->Uo,or_true->UH,and_eq_false_iff->UN
open PySem.SeqAt renaming RcNeAt->Pa,EqAt->Pb,RcAt->Pg,ne_of_list_tuple->Uu
open PySem.Value renaming ref->Ph,none->PZ,bool->P5,str->QE,int->QF,builtin->Sq,type->SX
open PySem.Builtin.SmallTypes renaming nextOf->Pk,ownedTupleIsFree->Py,ownedTupleHandOut->SS
open Sum renaming inr->Pn,inl->RU
open Ne renaming symm->Px
open Option renaming some->PD,map_some->Q7,getD_some->R3,isSome_iff_exists->Sr,isSome_map->Te,none->TL,bind_eq_some_iff->Ur,map_eq_some_iff->Ux
open Option.some renaming inj->PK,injEq->Qx
open Int renaming gcd->PM,eq_ofNat_of_zero_le->Qf,toNat_natCast->Qs,natAbs_ediv_le_natAbs->Ry,fmod_nonneg_of_pos->RZ,fmod_eq_emod_of_nonneg->Si,mul_ediv_cancel_left->Sv,mul_pos->SQ,natCast_nonneg->S5,fmod_lt_of_pos->S6,mul_comm->To,gcd_dvd_right->Tp,mul_le_mul_of_nonneg_right->Tx,gcd_dvd_left->Tz,ediv_nonneg->TV,dvd_gcd_mul_iff_dvd_mul->T3,natAbs_mul->T8,fdiv_eq_ediv_of_nonneg->T9,gcd_comm->UB,ediv_one->UC,natAbs_of_nonneg->U0,le_refl->U1
open PySem.PassesOwn renaming never->P8,leaving->Td
open True renaming intro->Qa
open PyProof.Rows renaming callWith_type1->Qc,slot_tuple_getitem->R1
open PySem.F renaming excBase_ValueError->Qh,slot_zip_next->QT,slot_tuple_iterator_next->Rp,plainAttrs_list->RO,args_zip_next_1->So,slot_zip_getattribute->SD,entry_zip_next->SE,args_tuple_iterator_next_1->TX,entry_tuple_iterator_next->T4,type_list_append->Uj,slot_list_append->Uk,args_tuple_add_2->Ul,slot_dict_clear->Up,entry_tuple_add->Uq,slot_tuple_add->Uw,typeOf_object_class->UM
open False renaming elim->Qi
open PySem.Obj renaming data_mapFields->QG,isFreed_of_fields->Rg,mapFields->Ss,cls_mapFields->Tf
open Rat renaming intCast_mul->QL,intCast_lt_intCast->Uv
open PySem.NameKind renaming free->QO
open Array renaming getElem?_eq_some_iff->QR,length_toList->Se,append_assoc->S8,getElem?_setIfInBounds_ne->Tt,toList->UI,getElem?_eq_none->UJ
open PySem.Builtin renaming divisionGoesByPylong->Q9,bitAnd->Sj
open PySem.Calls renaming evalArgs_plain->Rq,callWith_builtin->SH,Name_function_global->Ub
open PySem.Builtin.Slice renaming slicePlaces->Rz,sliceAdjust->Sk,sliceApplied->Uc
open PySem.Builtin.Tuple renaming tupleExact->RE
open ForInStep renaming yield->RH
open PySem.Code renaming quiet_builtin->RL,isFrame->UG
open PySem.Txt renaming slice->RN,slice_le->Tb,join->T6
open PySem.Str renaming ofString->RV
open PySem.Builtin.Str renaming strSliceIndices->Sg,occurrences->SG
open List.Pairwise renaming imp_of_mem->Su,imp->Tn
open PySem.Builtin.List renaming listTooLong->Sw
open PySem.Paired renaming length->SV
open PySem.SeqAt.EqAt renaming of_refs->SY,same->TQ
open PySem.Heap.IsSliceOf renaming new->S7
open PySem.StrLaws renaming sliceText->Tc
open PySem.Around renaming under->Tr
open Sum.inr renaming inj->TK
open List.cons renaming injEq->TU
open Classical renaming byContradiction->Ug
open PySem.SeqAt.RcAt renaming lists_lengths->Ui
open PySem.Builtin.Dict renaming updateFrom->Us
open Iff renaming rfl->UD
open PySem.Shared renaming heap->UR
open PySem.Heap.SameBut renaming update->U6
open PySem.EntryCells renaming newEntry->U7
set_option compiler.extract_closed false
set_option bootstrap.genMatcherCode false
set_option Elab.async false
set_option linter.all false
set_option maxRecDepth 100000
set_option maxHeartbeats 4000000
noncomputable section
abbrev bv:=List OO
abbrev cr:=List Nat
namespace L2
open PySem PySem.Spec PyProof.Rows
abbrev Key:=Sum Int OO
def rl:Key->OB->Bool
 |.inl k,v=>Value.isInt k v
 |.inr x,v=>Value.isStrOf x v
def Nr(w:Pt):Key->Int
 |.inl k=>hashInt k
 |.inr x=>hashStr w x
theorem cB:∀{k:Key}{v:OB},rl k v=true->(∃i t,k=RU i/\v=QF i t)∨(∃x t,k=Pn x/\v=QE x t)
 |.inl i,v,h=>by
  obtain⟨t,e⟩:=Value.isInt_shape (k:=i) (v:=v) h;exact .inl ⟨i,t,rfl,e⟩
 |.inr x,v,h=>by
  obtain⟨t,e⟩:=Value.isStrOf_shape (x:=x) (v:=v) h;exact .inr ⟨x,t,rfl,e⟩
def Aq(i:Int)(t:Tok):rl (.inl i) (.int i t)=true:=by simp[rl,Value.isInt]
def Ap(x:OO)(t:Tok):rl (.inr x) (.str x t)=true:=by simp[rl,Value.isStrOf]
def Ji(a b:Int):decide ((RU a:Key)=RU b)=(a==b):=by
 by_cases e:a=b
 .subst e;simp
 .have h:¬(RU a:Key)=RU b:=λq=>e (RU.inj q)
  rw[decide_eq_false h];exact(beq_eq_false_iff_ne.mpr e).symm
def Je(a b:OO):decide ((Pn a:Key)=Pn b)=decide (a=b):=by
 by_cases e:a=b
 .subst e;simp
 .have h:¬(Pn a:Key)=Pn b:=λq=>e (TK q)
  rw[decide_eq_false h,decide_eq_false e]
def Jh(a:Int)(b:OO):decide ((RU a:Key)=Pn b)=false:=decide_eq_false (λq=>nomatch q)
def Jg(a:OO)(b:Int):decide ((Pn a:Key)=RU b)=false:=decide_eq_false (λq=>nomatch q)
noncomputable def mixKind(prog:O5) (w:Pt):PySem.KeyKind prog w Key where
 is:=rl
 hash:=Nr w
 inj:=λv a b ha hb=>by
  rcases cB ha with⟨i,t,rfl,rfl⟩|⟨x,t,rfl,rfl⟩
  .rcases cB hb with⟨j,u,rfl,e⟩|⟨y,u,rfl,e⟩
   .injection e with e1 _;rw[e1]
   .exact nomatch e
  .rcases cB hb with⟨j,u,rfl,e⟩|⟨y,u,rfl,e⟩
   .exact nomatch e
   .injection e with e1 _;rw[e1]
 byValue:=λk v h=>by
  rcases cB h with⟨i,t,rfl,rfl⟩|⟨x,t,rfl,rfl⟩<;>rfl
 pyHash:=λhv h=>by
  rcases cB hv with⟨i,t,rfl,rfl⟩|⟨x,t,rfl,rfl⟩
  .exact wpAny_pyHash_int h
  .exact wpAny_pyHash_str h
 eqBool:=λhu hv h=>by
  rcases cB hu with⟨i,t,rfl,rfl⟩|⟨x,t,rfl,rfl⟩
  .rcases cB hv with⟨j,u,rfl,rfl⟩|⟨y,u,rfl,rfl⟩
   .rw[Ji]at h;exact wpAny_eqBool_int h
   .rw[Jh]at h;exact Pb.int_str i t y u _ _ _ _ h
  .rcases cB hv with⟨j,u,rfl,rfl⟩|⟨y,u,rfl,rfl⟩
   .rw[Jg]at h;exact Pb.str_int x t j u _ _ _ _ h
   .rw[Je]at h;exact wpAny_eqBool_str h
 «strs»:=λk x t v h=>by
  rcases cB h with⟨i,u,rfl,e⟩|⟨y,u,rfl,e⟩
  .exact nomatch e
  .injection e with e1 _
   subst e1;cases v<;>rfl
def uY(prog:O5)(w:Pt)(i:Int)(t:Tok):(mixKind prog w).is (.inl i) (.int i t)=true:=Aq i t
def uX(prog:O5)(w:Pt)(x:OO)(t:Tok):(mixKind prog w).is (.inr x) (.str x t)=true:=Ap x t
inductive V where
 |non|bl (b:Bool)|int (i:Int)|str (x:OO)|byt (b:Array UInt8)|flt (b:UInt64)|ref (a:OG)|ty (n:String)
 deriving DecidableEq
abbrev ad:=List V
noncomputable def bA:V->OB->Prop
 |.non,u=>u=PZ
 |.bl b,u=>u=P5 b
 |.int i,u=>∃t,u=QF i t
 |.str x,u=>∃t,u=QE x t
 |.byt b,u=>∃t,u=Value.bytes b t
 |.flt b,u=>∃t,u=Value.float b t
 |.ref a,u=>u=Ph a
 |.ty n,u=>u=SX n
abbrev bq:ad->List OB->Prop:=Paired bA
def bq.length{xs:ad}{us:List OB}(r:bq xs us):xs.length=us.length:=SV r
theorem bq.get:∀{xs:ad}{us:List OB}{i:Nat}{x:V},bq xs us->xs[i]?=some x->∃u,us[i]?=some u/\bA x u
 |_,_,_,_,.nil,e=>by simp at e
 |_,_,0,_,.cons r _,e=>by simp at e;subst e;exact⟨_,rfl,r⟩
 |_,_,i+1,x,.cons _ t,e=>by
  obtain⟨u,h1,h2⟩:=bq.get (i:=i) (x:=x) t (by simpa using e);exact⟨u,by simpa using h1,h2⟩
theorem bq.append:∀{xs ys:ad}{us ws:List OB},bq xs us->bq ys ws->bq (xs++ys) (us++ws)
 |_,_,_,_,.nil,s=>s
 |_,_,_,_,.cons r t,s=>.cons r (bq.append t s)
theorem bq.take:∀{xs:ad}{us:List OB}(n:Nat),bq xs us->bq (xs.take n) (us.take n)
 |_,_,0,_=>.nil
 |_,_,_+1,.nil=>.nil
 |_,_,n+1,.cons r t=>.cons r (bq.take n t)
theorem bq.drop:∀{xs:ad}{us:List OB}(n:Nat),bq xs us->bq (xs.drop n) (us.drop n)
 |_,_,0,r=>r
 |_,_,_+1,.nil=>.nil
 |_,_,n+1,.cons _ t=>bq.drop n t
def mn:Option V->Option OB->Prop
 |some v,some u=>bA v u
 |none,none=>True
 |_,_=>False
def KV{κ:Type}:List (κ×V)->List (κ×OB)->Prop:=Paired λ(p:κ×V) (q:κ×OB)=>p.1=q.1/\bA p.2 q.2
def kV:Key->V
 |.inl i=>.int i
 |.inr x=>.str x
inductive HO where
 |lst (xs:ad)
 |tup (xs:ad)
 |dK (kvs:List (Key×V))|dT (kvs:List (List Key×V))
 |set (S:Int->Bool) (n:Nat)
 |ins (C dx:OG) (fs:List (OO×V))
 |own (x:OG)
 |xd (fs:List (OO×V))
 |met (f x:OG)
 |rng (lo hi:Int)
 |frz (o:Obj) (u:HO)
 |tbl (ps:Array OB)
 |ext (φ:OL->Prop)
abbrev Hp:=OG->Option HO
def upd(H:Hp)(a:OG)(o:HO):Hp:=λb=>if b=a then some o else H b
def aG{H:Hp}{a:OG}{o:HO}:upd H a o a=some o:=by unfold upd;rw[if_pos rfl]
def aE{H:Hp}{a b:OG}{o:HO}(h:b≠a):upd H a o b=H b:=by unfold upd;rw[if_neg h]
def Lw{H:Hp}{a b:OG}{o u:HO}(h:H a=some o)(h':H b=some u)(d:o≠u):a≠b:=by
 intro e;subst e;rw[h]at h';exact d (PK h')
def aR{H:Hp}{a b:OG}{o:HO}(h:H a=some o)(h':H b=none):a≠b:=by
 intro e;subst e;rw[h]at h';cases h'
section
variable (P:O5) (w:Pt)
noncomputable def bB(H:Hp) (h:OL) (a:OG):HO->Prop
 |.lst xs=>xs.length<=sizeLine/\∃(its:List OB) (n:Nat),bq xs its/\h.get? a=some { cls:=.type "list",data:=.seq its.toArray n }
 |.tup xs=>xs.length<=sizeLine/\∃its:List OB,bq xs its/\IsTup h a its.toArray
 |.dK kvs=>kvs.length<=sizeLine/\(a==Q2)=false/\∃vs,KV kvs vs/\h.DictOf (mixKind P w) a vs
 |.dT kvs=>kvs.length<=sizeLine/\(a==Q2)=false/\∃xs:List (List Key×OG×OB),
   Paired (λ(p:List Key×V) (q:List Key×OG×OB)=>p.1=q.1/\H q.2.1=some (.tup (p.1.map kV))/\bA p.2 q.2.2) kvs xs /\
   ∃o es ep,h.get? a=some o/\o.ExactDict/\o.data=.dict es ep/\es.toList=xs.map (entryOfKey (tupleKind (mixKind P w)))/\(xs.map (·.1)).Nodup
 |.set S n=>h.SetOf (intKind P w) a S n
 |.ins C dx fs=>H dx=some (.own a)/\fs.length<=1000/\dx≠a/\h.get? a=some (W.instObj C dx) /\
   ∃mA,h.Ns1 dx mA/\(∀f,mn (fs.lookup f) (mA f))/\Ru mA (fs.map (·.1))
 |.own _=>∃o,h.get? a=some o
 |.xd fs=>∃mA,h.Ns1 a mA/\∀f,mn (fs.lookup f) (mA f)
 |.rng lo hi=>∃t u v,h.get? a=some { cls:=.type "range",data:=.fields #[.int lo t,.int hi u,.int 1 v] }
 |.frz o u=>h.get? a=some o/\bB H h a u
 |.tbl ps=>h.get? a=some { cls:=.none,data:=.fields ps }
 |.met f x=>h.get? a=some (UP (.ref f) (.ref x))
 |.ext φ=>φ h/\(∃o,h.get? a=some o)/\∀h1 h2:OL,φ h1->(∀o,h1.get? a=some o->h2.get? a=some o)->φ h2
def fv(H:Hp)(h:OL):Prop:=∀a o,H a=some o->bB P w H h a o
end
section
variable {P:O5}{w:Pt}{H H':Hp}{h h':OL}{a:OG}{o:HO}
def bB.lt(x:bB P w H h a o):a<h.objs.size:=by
 cases o with|lst xs=>obtain⟨_,_,_,_,e⟩:=x;exact OT e|tup xs=>obtain⟨_,_,_,p⟩:=x;exact p.lt|dK kvs|dT kvs=>obtain⟨_,_,_,_,o,_,_,e,_⟩:=x;exact OT e|set S n=>obtain⟨o,_,_,_,e,_⟩:=x;exact OT e|ins C dx fs=>obtain⟨_,_,_,e,_⟩:=x;exact OT e|own y=>obtain⟨_,e⟩:=x;exact OT e|xd fs=>obtain⟨_,⟨_,_,_,e,_⟩,_⟩:=x;exact OT e|rng lo hi=>obtain⟨_,_,_,e⟩:=x;exact OT e|frz ob u=>obtain⟨e,_⟩:=x;exact OT e|tbl ps|met f y=>exact OT (show h.get? a=some _ from x)|ext φ=>obtain⟨_,⟨_,e⟩,_⟩:=x;exact OT e
theorem jE{α β:Type}{F G:α->β->Prop}:∀{lc:List α}{lg:List β},Paired F lc lg->(∀a b,F a b->G a b)->Paired G lc lg
 |_,_,.nil,_=>.nil
 |_,_,.cons r t,f=>.cons (f _ _ r) (jE t f)
def bB.stay(x:bB P w H h a o)(k:∀b u,(b=a∨H b=some (.own a))->h.get? b=some u->h'.get? b=some u)
  (ho:∀b,H b=some (.own a)->H' b=some (.own a))(ht:∀b xs,H b=some (.tup xs)->H' b=some (.tup xs)):bB P w H' h' a o:=by
 induction o with
 |lst xs=>obtain⟨z,its,n,r,e⟩:=x;exact⟨z,its,n,r,k _ _ (.inl rfl) e⟩|tup xs=>obtain⟨z,its,r,ob,e,c⟩:=x;exact⟨z,its,r,ob,k _ _ (.inl rfl) e,c⟩|dK kvs=>obtain⟨z,y,vs,r,ob,es,ep,e,c⟩:=x;exact⟨z,y,vs,r,ob,es,ep,k _ _ (.inl rfl) e,c⟩
 |dT kvs=>
  obtain⟨z,y,xs,r,ob,es,ep,e,c⟩:=x;exact⟨z,y,xs,jE r λp q z=>⟨z.1,ht _ _ z.2.1,z.2.2⟩,ob,es,ep,k _ _ (.inl rfl) e,c⟩
 |set S n=>obtain⟨ob,es,ep,t,e,c⟩:=x;exact⟨ob,es,ep,t,k _ _ (.inl rfl) e,c⟩
 |ins C dx fs=>
  obtain⟨d,z,ne,e,mA,⟨od,es,ep,e2,c⟩,r⟩:=x;exact⟨ho _ d,z,ne,k _ _ (.inl rfl) e,mA,⟨od,es,ep,k _ _ (.inr d) e2,c⟩,r⟩
 |own y=>obtain⟨ob,e⟩:=x;exact⟨ob,k _ _ (.inl rfl) e⟩|xd fs=>obtain⟨mA,⟨od,es,ep,e,c⟩,r⟩:=x;exact⟨mA,⟨od,es,ep,k _ _ (.inl rfl) e,c⟩,r⟩|rng lo hi=>obtain⟨t,u,v,e⟩:=x;exact⟨t,u,v,k _ _ (.inl rfl) e⟩|frz ob u ih=>obtain⟨e,q⟩:=x;exact⟨k _ _ (.inl rfl) e,ih q⟩
 |tbl ps=>
  have e:h.get? a=some { cls:=.none,data:=.fields ps }:=x;show h'.get? a=some { cls:=.none,data:=.fields ps };exact k a _ (.inl rfl) e
 |met f y=>
  have e:h.get? a=some (UP (.ref f) (.ref y)):=x;show h'.get? a=some (UP (.ref f) (.ref y));exact k a _ (.inl rfl) e
 |ext φ=>obtain⟨p,⟨o,e⟩,st⟩:=x;exact⟨st _ _ p λo q=>k _ _ (.inl rfl) q,⟨o,k _ _ (.inl rfl) e⟩,st⟩
def fv.lt(x:fv P w H h)(e:H a=some o):a<h.objs.size:=(x a o e).lt
def fv.fresh(x:fv P w H h)(e:h.objs.size<=a):H a=none:=by
 cases q:H a with|none=>rfl|some u=>exact absurd (OR (x.lt q) e) (RC _)
def fv.kept(x:fv P w H h)(k:∀b u,h.get? b=some u->h'.get? b=some u):fv P w H h':=λa o e=>
 (x a o e).stay (λb u _ q=>k b u q) (λ_ q=>q) λ_ _ q=>q
def fv.laid(x:fv P w H h)(k:∀b u,h.get? b=some u->h'.get? b=some u)(hp:h.objs.size<=a)(new:bB P w (upd H a o) h' a o):fv P w (upd H a o) h':=λb u e=>by
 have hn:=x.fresh hp
 by_cases hb:b=a
 .subst hb;rw[aG]at e;cases e;exact new
 .rw[aE hb]at e
  exact(x b u e).stay (λc v _ q=>k c v q) (λc q=>by rw[aE (aR q hn)];exact q) λc xs q=>by rw[aE (aR q hn)];exact q
end
def Rd(H:Hp)(a:OG)(u:HO):Prop:=H a=some u∨∃o,H a=some (.frz o u)
def Rd.ok{P:O5}{w:Pt}{H:Hp}{h:OL}{a:OG}{u:HO}(r:Rd H a u)(x:fv P w H h):bB P w H h a u:=by
 rcases r with r|⟨o,r⟩
 .exact x a u r
 .obtain⟨_,q⟩:=x a _ r
  exact q
def Kk:Option HO->Prop
 |some (.lst _)=>True
 |some (.dK _)=>True
 |some (.dT _)=>True
 |some (.set _ _)=>True
 |some (.ins _ _ _)=>True
 |some (.ext _)=>True
 |_=>False
section
variable {P:O5}{w:Pt}{H:Hp}{h h':OL}{x e:OG}{o':HO}
def fv.write(ok:fv P w H h)(mu:Kk (H x))(he:e=x∨H e=some (.own x))(k:∀b u,b≠e->h.get? b=some u->h'.get? b=some u)(heo:∃u,h'.get? e=some u)
  (new:bB P w (upd H x o') h' x o'):fv P w (upd H x o') h':=λb u q=>by
 have nown:∀c y,H c=some (.own y)->c≠x:=λc y r z=>by subst z;rw[r]at mu;exact mu
 have ntup:∀c xs,H c=some (.tup xs)->c≠x:=λc xs r z=>by subst z;rw[r]at mu;exact mu
 by_cases hb:b=x
 .subst hb;rw[aG]at q;cases q;exact new
 .rw[aE hb]at q
  by_cases hbe:b=e
  .have q':H b=some (.own x):=by
    rcases he with z|z
    .exact absurd (hbe.trans z) hb
    .rw[hbe];exact z
   rw[q]at q';cases q';obtain⟨v,hv⟩:=heo;exact⟨v,by rw[hbe];exact hv⟩
  .refine(ok b u q).stay (λc v hc r=>k c v ?_ r) (λc r=>by rw[aE (nown c b r)];exact r) λc xs r=>by rw[aE (ntup c xs r)];exact r
   rcases hc with rfl|hc
   .exact hbe
   .rintro rfl
    rcases he with z|z
    .exact nown c b hc z
    .rw[hc]at z;cases z;exact hb rfl
end
structure Un (fs ex:List OG) (H H':Hp) (h h':OL):Prop where
 keep:∀b o,h.get? b=some o->H b=none->b∉fs->b∉ex->h'.get? b=some o
 slot:∀b o,h.get? b=some o->H b=none->b∈fs->b∉ex->∃sl,h'.get? b=some { o with slots:=sl }
 free:∀b o,h.get? b=some o->H b=none->b∉ex->H' b=none
 there:∀b o,h.get? b=some o->b∉ex->∃o',h'.get? b=some o'
 tups:∀b xs,H b=some (.tup xs)->H' b=some (.tup xs)
 frzs:∀b o u,H b=some (.frz o u)->H' b=some (.frz o u)
 tbls:∀b ps,H b=some (.tbl ps)->∃more,H' b=some (.tbl (ps++more))
section
variable {fs fs' ex ex':List OG}{H H1 H2:Hp}{h h1 h2 h':OL}{a x e:OG}{o:HO}
def Un.any(u:Un fs ex H H1 h h1){b:OG}{ob:Obj}(q:h.get? b=some ob)(n:H b=none)(hx:b∉ex):∃sl,h1.get? b=some { ob with slots:=sl }:=by
 by_cases hb:b∈fs
 .exact u.slot b ob q n hb hx
 .exact⟨ob.slots,u.keep b ob q n hb hx⟩
def Un.trans(a:Un fs ex H H1 h h1)(b:Un fs ex H1 H2 h1 h2):Un fs ex H H2 h h2 where
 keep:=λc ob q n hc hx=>b.keep c ob (a.keep c ob q n hc hx) (a.free c ob q n hx) hc hx
 slot:=λc ob q n hc hx=>by
  obtain⟨sl,e1⟩:=a.slot c ob q n hc hx;obtain⟨sl',e2⟩:=b.slot c _ e1 (a.free c ob q n hx) hc hx;exact⟨sl',e2⟩
 free:=λc ob q n hx=>by
  obtain⟨o',e1⟩:=a.there c ob q hx;exact b.free c o' e1 (a.free c ob q n hx) hx
 there:=λc ob q hx=>by
  obtain⟨o',e1⟩:=a.there c ob q hx;exact b.there c o' e1 hx
 tups:=λc xs q=>b.tups c xs (a.tups c xs q)
 frzs:=λc ob xs q=>b.frzs c ob xs (a.frzs c ob xs q)
 tbls:=λc ps q=>by
  obtain⟨m1,e1⟩:=a.tbls c ps q;obtain⟨m2,e2⟩:=b.tbls c _ e1;exact⟨m1++m2,by rw[e2,S8]⟩
def Un.kept(k:∀b u,h.get? b=some u->h'.get? b=some u):Un fs ex H H h h' :=
 ⟨λb ob q _ _ _=>k b ob q,λb ob q _ _ _=>⟨ob.slots,k b ob q⟩,λ_ _ _ n _=>n,λb ob q _=>⟨ob,k b ob q⟩,λ_ _ q=>q,λ_ _ _ q=>q,λ_ ps q=>⟨#[],by rw[q];simp⟩⟩
def Un.refl:Un fs ex H H h h:=Un.kept λ_ _ q=>q
def Un.laid(k:∀b u,h.get? b=some u->h'.get? b=some u)(hp:h.objs.size<=a)(hn:H a=none):Un fs ex H (upd H a o) h h' where
 keep:=λb u q _ _ _=>k b u q
 slot:=λb u q _ _ _=>⟨u.slots,k b u q⟩
 free:=λb u q n _=>by rw[aE (Pj (OR (OT q) hp))];exact n
 there:=λb u q _=>⟨u,k b u q⟩
 tups:=λb xs q=>by rw[aE (aR q hn)];exact q
 frzs:=λb u xs q=>by rw[aE (aR q hn)];exact q
 tbls:=λb ps q=>⟨#[],by rw[aE (aR q hn),q];simp⟩
def Un.write(mu:Kk (H x))(he:e=x∨H e=some (.own x))(k:∀b u,b≠e->h.get? b=some u->h'.get? b=some u)(heo:∃u,h'.get? e=some u):Un fs ex H (upd H x o) h h':=by
 have hx:∀b,H b=none->b≠x:=λb n z=>by subst z;rw[n]at mu;exact mu
 have hb:∀b,H b=none->b≠e:=λb n z=>by
  subst z;rcases he with r|r
  .exact hx b n r
  .rw[n]at r;cases r
 have hm:∀b u,H b=some u->¬Kk (some u)->b≠x:=λb u q nm z=>by subst z;rw[q]at mu;exact nm mu
 refine⟨λb u q n _ _=>k b u (hb b n) q,λb u q n _ _=>⟨u.slots,k b u (hb b n) q⟩,λb u q n _=>by rw[aE (hx b n)];exact n,λb u q _=>?_,
  λb xs q=>by rw[aE (hm b _ q λz=>z)];exact q,λb u xs q=>by rw[aE (hm b _ q λz=>z)];exact q,λb ps q=>⟨#[],by rw[aE (hm b _ q λz=>z),q];simp⟩⟩
 by_cases hbe:b=e
 .subst hbe;exact heo
 .exact⟨u,k b u hbe q⟩
end
def MD(h:OL)(H:Hp):List OG:=(PL h.objs.size).filter λa=>(H a).isSome
def tf(h:OL)(H:Hp):OL:=Rb h (MD h H)
def Aw(h:OL)(H:Hp):(tf h H).objs.size=h.objs.size:=W.hideAll_size _ _
def CW{h:OL}{H:Hp}{b:OG}{o:Obj}(e:h.get? b=some o)(n:H b=none):(tf h H).get? b=some o :=
 SU _ e λhm=>by
  have q:(H b).isSome=true:=(RF.mp hm).2;rw[n]at q;simp at q
def Fm{h:OL}{H:Hp}{b:OG}{o:Obj}(e:(tf h H).get? b=some o):h.get? b=some o/\H b=none:=by
 have e':h.get? b=some o:=RT (MD h H) e;refine⟨e',?_⟩;cases q:H b with
 |none=>rfl
 |some x=>
  have hm:b∈MD h H:=RF.mpr ⟨QJ.mpr (OT e'),by simp[q]⟩;have z:(tf h H).get? b=none:=W.hideAll_none (MD h H) hm;rw[z]at e;cases e
structure Mod (K:OF) (mg:OO->Option OB) (base:OL):Prop where
 kin:K.In base
 glob:base.Ns O6 mg
 blt:∃mb,base.Ns builtinsNs mb/\∀x:OO,x≠"__name__"->mb x=bootBuiltins x
 nolimit:base.NoLimit
 sm:∃mm,base.Ns Q2 mm
structure Cx where
 prog:O5
 w:Pt
 K:OF
 mg:OO->Option OB
 base:OL
 A:Pu
 N:bv
 sf:OE
 Ha:Hp
 env:Env
 outer:List Env
 stack:List Env
 ex:List OG
 fn:OO->Bool
 calm:Bool
 pn:List (OG×Obj)
 xe:OB->OE->Prop
def fH(l:List Env):List OG:=l.filterMap (·.frame)
abbrev Cx.fs(X:Cx):List OG:=fH X.outer
def zy(sc:RA)(x:OO):Prop:=sc.names.lookup x=some .local ∨ sc.names.lookup x=some .cell∨sc.names.lookup x=some .free
def A6(sc:RA)(x:OO):Prop:=sc.names.lookup x=some .local ∨ sc.names.lookup x=some .cell
def NK(env:Env)(h:OL)(m:OO->Option OB)(x:OO)(u:OB):Prop :=
 (env.kindOf x=some .local /\ m x=some u)∨((env.kindOf x=some .cell∨env.kindOf x=some .free)/\∃c,env.cells.lookup x=some c/\h.IsCell c (some u))
structure Cx.Ok (X:Cx):Prop where
 mod:Mod X.K X.mg X.base
 kind:X.env.scope.kind=.function
 glob:X.env.globals=O6
 blt:X.env.builtins=builtinsNs
 above:X.sf.heap.objs.size<=X.env.locals
 inj:∀x y c,X.env.cells.lookup x=some c->X.env.cells.lookup y=some c->x=y
 has:∀x,(X.env.kindOf x=some .cell∨X.env.kindOf x=some .free)->∃c,X.env.cells.lookup x=some c
 cab:∀x c,X.fn x=true->X.env.cells.lookup x=some c->X.sf.heap.objs.size<=c
 hd:X.calm=true->X.A.handled=none
 frames:X.A.frames=some X.stack
 stk:X.stack=X.outer∨(X.stack=X.env::X.outer/\X.env.frame=some X.env.locals)
 exf:∀b∈X.ex,b≠X.env.locals/\∀x c,X.env.cells.lookup x=some c->c≠b
 bs:∀b o,X.base.get? b=some o->X.sf.heap.get? b=some o/\X.Ha b=none
 bsz:X.base.objs.size<=X.sf.heap.objs.size
 noex:∀b o,X.base.get? b=some o->b∉X.ex
 exfs:∀b∈X.ex,b∉X.fs
 funs:X.sf.heap.FunFrames X.base X.outer
 frf:∀b∈X.fs,X.Ha b=none
structure Inv (X:Cx) (π:List (OG×Obj)) (σ:List (Option V)) (H:Hp) (s:OE):Prop where
 ok:X.Ok
 os:s.os=X.sf.os
 bare:AllBare s.gens
 base:Un X.fs X.ex X.Ha H X.sf.heap s.heap
 loc:∃m,s.heap.Ns X.env.locals m/\∀(i:Nat) (x:OO) (v:V),X.N[i]?=some x->σ[i]?=some (some v)->zy X.env.scope x->∃u,bA v u/\NK X.env s.heap m x u
 cell:∀x c,X.env.cells.lookup x=some c->∃v,s.heap.IsCell c v
 free:H X.env.locals=none
 freeC:∀x c,X.env.cells.lookup x=some c->H c=none
 pin:∀p∈X.pn++π,s.heap.get? p.1=some p.2/\H p.1=none/\p.1≠X.env.locals/\p.1∉X.fs/\∀v,p.2.data≠.cell v
 hok:fv X.prog X.w H s.heap
 len:σ.length=X.N.length
section
variable {X:Cx}{π:List (OG×Obj)}{σ:List (Option V)}{H H':Hp}{s:OE}{h':OL}
def Cx.Ok.nofr(ok:X.Ok){b:OG}{o:Obj}(e:X.base.get? b=some o):b∉X.fs:=λhb=>by
 have:=(ok.funs.mem hb).1;rw[e]at this;cases this
def Inv.bs(I:Inv X π σ H s):∀b o,X.base.get? b=some o->s.heap.get? b=some o/\H b=none:=λb o e=>
 ⟨I.base.keep b o (I.ok.bs b o e).1 (I.ok.bs b o e).2 (I.ok.nofr e) (I.ok.noex b o e),I.base.free b o (I.ok.bs b o e).1 (I.ok.bs b o e).2 (I.ok.noex b o e)⟩
def Inv.bk(I:Inv X π σ H s):∀b o,X.base.get? b=some o->s.heap.get? b=some o:=λb o e=>(I.bs b o e).1
def Inv.mod(I:Inv X π σ H s):Mod X.K X.mg X.base:=I.ok.mod
def Inv.kIn(I:Inv X π σ H s):X.K.In s.heap:=I.ok.mod.kin.keeps I.bk
def Inv.lt(I:Inv X π σ H s):X.env.locals<s.heap.objs.size:=let ⟨_,hn,_⟩:=I.loc;hn.lt
def Inv.sz(I:Inv X π σ H s):X.sf.heap.objs.size<=s.heap.objs.size:=Pe I.ok.above (RW I.lt)
def Inv.nofs(I:Inv X π σ H s){a:OG}(h:s.heap.objs.size<=a):a∉X.fs:=λhb=>by
 obtain⟨_,o,ho,_⟩:=I.ok.funs.mem hb;exact absurd (OR (OT ho) (Pe I.sz h)) (RC _)
def Inv.cne(I:Inv X π σ H s):∀x c,X.env.cells.lookup x=some c->c≠X.env.locals:=λx c e z=>by
 obtain⟨v,o,ho,hd⟩:=I.cell x c e;obtain⟨m,⟨o',es,ep,ho',hd',_⟩,_⟩:=I.loc;rw[z,ho']at ho;cases ho;rw[hd']at hd;cases hd
def Inv.funs(I:Inv X π σ H s):s.heap.FunFrames X.base X.outer:=by
 have all:∀(l:List Env),(∀b∈fH l,b∈X.fs)->X.sf.heap.FunFrames X.base l->s.heap.FunFrames X.base l:=by
  intro l
  induction l with
  |nil=>intro _ _;trivial
  |cons env r ih=>
   intro hs hl;obtain⟨hk,⟨L,o,hf,hn,ho,hd⟩,hr⟩:=hl;have hL:L∈X.fs:=hs L (by unfold fH;rw[Qq,hf];exact Pc);obtain⟨sl,e⟩:=I.base.slot L o ho (I.ok.frf L hL) hL λz=>I.ok.exfs L z hL;exact⟨hk,⟨L,_,hf,hn,e,hd⟩,ih (λb hb=>hs b (by unfold fH;rw[Qq,hf];exact OZ _ hb)) hr⟩
 exact all X.outer (λ_ hb=>hb) I.ok.funs
def Inv.stack(I:Inv X π σ H s):s.heap.FunFrames X.base X.stack:=by
 rcases I.ok.stk with e|⟨e,hf⟩
 .rw[e];exact I.funs
 .rw[e]
  obtain⟨m,hn,_⟩:=I.loc;refine .cons (by rw[I.ok.kind];decide) hf hn ?_ I.funs;exact Sa (Pe I.ok.bsz I.ok.above)
def Inv.stkSub(I:Inv X π σ H s):∀b∈fH X.stack,b∈X.env.locals::X.fs:=λb hb=>by
 rcases I.ok.stk with e|⟨e,hf⟩
 .rw[e]at hb;exact OZ _ hb
 .rw[e]at hb
  unfold fH at hb;rw[Qq,hf]at hb;exact hb
def Inv.stkFree(I:Inv X π σ H s):∀b∈fH X.stack,H b=none:=λb hb=>by
 rcases OU.mp (I.stkSub b hb) with e|hb
 .rw[e];exact I.free
 .obtain⟨_,o,ho,_⟩:=I.ok.funs.mem hb
  exact I.base.free b o ho (I.ok.frf b hb) λz=>I.ok.exfs b z hb
def Inv.step{g':Array GenState}{t':Nat}{d':Drawn}{ch:List OG}(I:Inv X π σ H s)
  (hch:∀b∈ch,(b∈X.ex∨X.sf.heap.objs.size<=b)/\b≠X.env.locals/\(∀x c,X.env.cells.lookup x=some c->c≠b)/\∀p∈X.pn++π,p.1≠b)
  (keep:∀b o,b≠X.env.locals->b∉X.fs->b∉ch->s.heap.get? b=some o->H b=none->h'.get? b=some o)
  (slot:∀b o,b≠X.env.locals->b∈X.fs->b∉ch->s.heap.get? b=some o->H b=none->∃sl,h'.get? b=some { o with slots:=sl })(free:∀b o,b∉ch->s.heap.get? b=some o->H b=none->H' b=none)
  (there:∀b o,b∉ch->s.heap.get? b=some o->∃o',h'.get? b=some o')
  (tups:∀b xs,H b=some (.tup xs)->H' b=some (.tup xs))(frzs:∀b o u,H b=some (.frz o u)->H' b=some (.frz o u))(tbls:∀b ps,H b=some (.tbl ps)->∃more,H' b=some (.tbl (ps++more)))
  (ns:∀m,s.heap.Ns X.env.locals m->h'.Ns X.env.locals m)(hok:fv X.prog X.w H' h')(hg:AllBare g') :
  Inv X π σ H' { s with heap:=h',gens:=g',drawn:=d',toks:=t' }:=by
 have neL:∀b o,X.sf.heap.get? b=some o->b≠X.env.locals:=λb o e=>Pj (OR (OT e) I.ok.above);have neC:∀b o,X.sf.heap.get? b=some o->b∉X.ex->b∉ch:=λb o e hx hb=>by
  rcases(hch b hb).1 with z|z
  .exact hx z
  .exact absurd (OR (OT e) z) (RC _)
 have cellK:∀x c,X.env.cells.lookup x=some c->∀v,s.heap.IsCell c v->h'.IsCell c v:=λx c e v z9=>by
  obtain⟨o,ho,hd⟩:=z9;have nch:c∉ch:=λz=>(hch c z).2.2.1 x c e rfl
  by_cases hc:c∈X.fs
  .obtain⟨sl,q⟩:=slot c o (I.cne x c e) hc nch ho (I.freeC x c e)
   exact⟨_,q,hd⟩
  .exact⟨o,keep c o (I.cne x c e) hc nch ho (I.freeC x c e),hd⟩
 refine⟨I.ok,I.os,hg,⟨λb o e n hb hx=>?_,λb o e n hb hx=>?_,λb o e n hx=>?_,λb o e hx=>?_,λb xs e=>tups b xs (I.base.tups b xs e),λb o xs e=>frzs b o xs (I.base.frzs b o xs e),λb ps e=>?_⟩,?_,λx c e=>?_,?_,λx c e=>?_,λp hp=>?_,hok,I.len⟩
 .exact keep b o (neL b o e) hb (neC b o e hx) (I.base.keep b o e n hb hx) (I.base.free b o e n hx)
 .obtain⟨sl,e1⟩:=I.base.slot b o e n hb hx
  obtain⟨sl',e2⟩:=slot b _ (neL b o e) hb (neC b o e hx) e1 (I.base.free b o e n hx);exact⟨sl',e2⟩
 .obtain⟨o',e1⟩:=I.base.there b o e hx
  exact free b o' (neC b o e hx) e1 (I.base.free b o e n hx)
 .obtain⟨o',e1⟩:=I.base.there b o e hx
  exact there b o' (neC b o e hx) e1
 .obtain⟨m1,e1⟩:=I.base.tbls b ps e
  obtain⟨m2,e2⟩:=tbls b _ e1;exact⟨m1++m2,by rw[e2,S8]⟩
 .obtain⟨m,hn,hl⟩:=I.loc
  refine⟨m,ns m hn,λi x v e1 e2 e3=>?_⟩;obtain⟨u,r,l⟩:=hl i x v e1 e2 e3;refine⟨u,r,?_⟩;rcases l with l|⟨k,c,e,z⟩
  .exact .inl l
  .exact .inr ⟨k,c,e,cellK x c e _ z⟩
 .obtain⟨v,z⟩:=I.cell x c e
  exact⟨v,cellK x c e v z⟩
 .obtain⟨m,⟨o,_,_,ho,_⟩,_⟩:=I.loc
  exact free _ o (λz=>(hch _ z).2.1 rfl) ho I.free
 .obtain⟨v,o,ho,hd⟩:=I.cell x c e
  exact free c o (λz=>(hch c z).2.2.1 x c e rfl) ho (I.freeC x c e)
 .obtain⟨e,n,ne,nf,d⟩:=I.pin p hp
  have nch:p.1∉ch:=λz=>(hch p.1 z).2.2.2 p hp rfl;exact⟨keep p.1 p.2 ne nf nch e n,free p.1 p.2 nch e n,ne,nf,d⟩
def Inv.un{t':Nat}(I:Inv X π σ H s)(u:Un X.fs [] H H' s.heap h')(hok:fv X.prog X.w H' h'):Inv X π σ H' { s with heap:=h',toks:=t' }:=by
 obtain⟨m,⟨o,es,ep,ho,r⟩,_⟩:=id I.loc;obtain⟨sl,hL⟩:=u.any ho I.free (by simp);exact I.step (g':=s.gens) (d':=s.drawn) (ch:=[]) (λ_ z=>nomatch z) (λb o _ hb _ e n=>u.keep b o e n hb (by simp)) (λb o _ hb _ e n=>u.slot b o e n hb (by simp)) (λb o _ e n=>u.free b o e n (by simp)) (λb o _ e=>u.there b o e (by simp)) u.tups u.frzs u.tbls (λm' hm=>by
  obtain⟨o',es',ep',ho',r'⟩:=hm;rw[ho]at ho';cases ho';exact⟨_,es',ep',hL,r'⟩) hok I.bare
def Inv.call{g':Array GenState}{t':Nat}{d':Drawn}{ch:List OG}(I:Inv X π σ H s)(u:Un (fH X.stack) ch H H' s.heap h')(hok:fv X.prog X.w H' h')(hg:AllBare g')
  (hch:∀b∈ch,(b∈X.ex∨X.sf.heap.objs.size<=b)/\b≠X.env.locals/\(∀x c,X.env.cells.lookup x=some c->c≠b)/\∀p∈X.pn++π,p.1≠b) :
  Inv X π σ H' { s with heap:=h',gens:=g',drawn:=d',toks:=t' }:=by
 obtain⟨m,⟨o,es,ep,ho,r⟩,_⟩:=id I.loc;obtain⟨sl,hL⟩:=u.any ho I.free λz=>(hch _ z).2.1 rfl;exact I.step (ch:=ch) hch (λb o hL hb hc e n=>u.keep b o e n (λz=>(OU.mp (I.stkSub b z)).elim hL hb) hc) (λb o _ _ hc e n=>u.any e n hc) (λb o hc e n=>u.free b o e n hc) (λb o hc e=>u.there b o e hc) u.tups u.frzs u.tbls (λm' hm=>by
  obtain⟨o',es',ep',ho',r'⟩:=hm;rw[ho]at ho';cases ho';exact⟨_,es',ep',hL,r'⟩) hok hg
def Inv.turned{t':Nat}{it:OG}(I:Inv X π σ H s)(k:∀b o,b≠it->s.heap.get? b=some o->h'.get? b=some o)(hn:H it=none)(hL:it≠X.env.locals)
  (h1:it∈X.ex∨X.sf.heap.objs.size<=it)(h2:∀x c,X.env.cells.lookup x=some c->c≠it)(h3:∀p∈X.pn++π,p.1≠it):Inv X π σ H { s with heap:=h',toks:=t' }:=by
 have nit:∀b u,H b=some u->b≠it:=λb u e z=>by rw[z,hn]at e;cases e
 refine I.step (g':=s.gens) (d':=s.drawn) (ch:=[it]) (λb hb=>?_) (λb o _ _ hc e _=>k b o (λz=>hc (by simp[z])) e) (λb o _ _ hc e _=>⟨o.slots,k b o (λz=>hc (by simp[z])) e⟩) (λ_ _ _ _ n=>n)
  (λb o hc e=>⟨o,k b o (λz=>hc (by simp[z])) e⟩) (λ_ _ e=>e) (λ_ _ _ e=>e) (λb ps e=>⟨#[],by rw[e];simp⟩) (λm hm=>?_) (λb u e=>?_) I.bare
 .have e:b=it:=by simpa using hb
  subst e;exact⟨h1,hL,h2,h3⟩
 .obtain⟨o,es,ep,ho,r⟩:=hm
  exact⟨o,es,ep,k _ o (Px hL) ho,r⟩
 .refine(I.hok b u e).stay (λc v hc q=>k c v ?_ q) (λ_ q=>q) λ_ _ q=>q
  rcases hc with z|z
  .rw[z];exact nit b u e
  .exact nit c _ z
def Inv.tok(I:Inv X π σ H s)(t:Nat):Inv X π σ H { s with toks:=t }:=I.un (h':=s.heap) (t':=t) Un.refl I.hok
def Inv.kept{t':Nat}(I:Inv X π σ H s)(k:∀b u,s.heap.get? b=some u->h'.get? b=some u):Inv X π σ H { s with heap:=h',toks:=t' }:=I.un (Un.kept k) (I.hok.kept k)
def Inv.laid{a:OG}{o:HO}{t':Nat}(I:Inv X π σ H s)(k:∀b u,s.heap.get? b=some u->h'.get? b=some u)(hp:s.heap.objs.size<=a)(new:bB X.prog X.w (upd H a o) h' a o) :
  Inv X π σ (upd H a o) { s with heap:=h',toks:=t' }:=I.un (Un.laid k hp (I.hok.fresh hp)) (I.hok.laid k hp new)
def Inv.write{x e:OG}{o:HO}{t':Nat}(I:Inv X π σ H s)(mu:Kk (H x))(he:e=x∨H e=some (.own x))(k:∀b u,b≠e->s.heap.get? b=some u->h'.get? b=some u)(heo:∃u,h'.get? e=some u)
  (new:bB X.prog X.w (upd H x o) h' x o):Inv X π σ (upd H x o) { s with heap:=h',toks:=t' }:=I.un (Un.write mu he k heo) (I.hok.write mu he k heo new)
def Inv.pins_of{pins':List (OG×Obj)}(I:Inv X π σ H s)(h:∀p∈pins',s.heap.get? p.1=some p.2/\H p.1=none/\p.1≠X.env.locals/\p.1∉X.fs/\∀v,p.2.data≠.cell v):Inv X pins' σ H s :=
 ⟨I.ok,I.os,I.bare,I.base,I.loc,I.cell,I.free,I.freeC,λp hp=>(Ql.mp hp).elim (λz=>I.pin p (UW _ z)) (h p),I.hok,I.len⟩
def uU{N:bv}(hN:N.Nodup){i j:Nat}{x:OO}(a:N[i]?=some x)(b:N[j]?=some x):i=j:=by
 obtain⟨h1,e1⟩:=OP.mp a;obtain⟨h2,e2⟩:=OP.mp b;exact(Q0 hN).mp (e1.trans e2.symm)
def qO{M:Model}{A:Pu}{E:OB->OE->Prop}{i:Nat}{x:OO}{v:V}{u:OB}{Q:Unit->OE->Prop}(I:Inv X π σ H s)(hN:X.N.Nodup)(hi:X.N[i]?=some x)(hx:A6 X.env.scope x)(r:bA v u)
  (h:∀s',Inv X π (σ.set i (some v)) H s'->(∃a,QI a s.heap s'.heap/\(a=X.env.locals∨X.env.cells.lookup x=some a))->Q () s')(hf:X.fn x=true∨X.env.scope.names.lookup x=some .local := by first|exact .inl rfl|exact .inr rfl|assumption):OS M A (storeName X.env x u) Q E s:=by
 obtain⟨m,hn,hl⟩:=id I.loc;have hcls:(X.env.scope.kind==.class||(X.env.scope.kind==.module&&X.env.locals != X.env.globals))=false:=by rw[I.ok.kind];rfl
 have hiσ:i<σ.length:=by rw[I.len];exact(OP.mp hi).1
 have cne:=I.cne;have tracked:∀{a:OG}{h':OL},(∃o,s.heap.get? a=some o/\H a=none)->QI a s.heap h'->fv X.prog X.w H h':=λ{a h'} ha hs b ob e=>by
  obtain⟨_,_,hfree⟩:=ha;refine(I.hok b ob e).stay (λc w' hc q=>(hs.2 c ?_).trans q) (λ_ q=>q) λ_ _ q=>q;rintro rfl;rcases hc with rfl|hc
  .rw[hfree]at e;cases e
  .rw[hfree]at hc;cases hc
 rcases hx with hk|hk
 .refine wpAny_storeName_local hk hn (λh' hn' hs=>?_) hcls
  obtain⟨oL,_,_,hoL,_⟩:=id hn;refine h _ ⟨I.ok,I.os,I.bare,⟨λb o e n hb hx=>?_,λb o e n hb hx=>?_,I.base.free,λb o e hx=>?_,I.base.tups,I.base.frzs,I.base.tbls⟩,⟨_,hn',λj y v' e1 e2 e3=>?_⟩,λy c e=>?_,I.free,I.freeC,λp hp=>?_,tracked ⟨oL,hoL,I.free⟩ hs,by simpa using I.len⟩ ⟨_,hs,.inl rfl⟩
  .exact(hs.2 b (Pj (OR (OT e) I.ok.above))).trans (I.base.keep b o e n hb hx)
  .obtain⟨sl,e1⟩:=I.base.slot b o e n hb hx
   exact⟨sl,(hs.2 b (Pj (OR (OT e) I.ok.above))).trans e1⟩
  .obtain⟨o',e1⟩:=I.base.there b o e hx
   exact⟨o',(hs.2 b (Pj (OR (OT e) I.ok.above))).trans e1⟩
  .by_cases hj:j=i
   .subst hj
    rw[hi]at e1;cases e1;rw[Pq hiσ]at e2;cases e2;exact⟨u,r,.inl ⟨hk,by simp⟩⟩
   .rw[OQ (Px hj)]at e2
    obtain⟨u',r',q⟩:=hl j y v' e1 e2 e3;refine⟨u',r',?_⟩;rcases q with⟨k,e⟩|⟨k,c,e,z⟩
    .refine .inl ⟨k,?_⟩
     have:y≠x:=λe=>hj (uU hN e1 (e▸hi));simp[this,e]
    .exact .inr ⟨k,c,e,z.sameBut hs (cne y c e)⟩
  .obtain⟨w',z⟩:=I.cell y c e
   exact⟨w',z.sameBut hs (cne y c e)⟩
  .obtain⟨e,n,ne,nf,d⟩:=I.pin p hp
   exact⟨(hs.2 p.1 ne).trans e,n,ne,nf,d⟩
 .have hfn:X.fn x=true:=by
   rcases hf with z|z
   .exact z
   .rw[z]at hk;cases hk
  obtain⟨c,hc⟩:=I.ok.has x (.inl hk);obtain⟨w',z⟩:=I.cell x c hc;refine wpAny_storeName_cell I.ok.kind hk hc z (λh' hc' hs=>?_);obtain⟨oc,hoc,hocd⟩:=id z;refine h { s with heap:=h' } ⟨I.ok,I.os,I.bare,⟨λb o e n hb hx=>?_,λb o e n hb hx=>?_,I.base.free,λb o e hx=>?_,I.base.tups,I.base.frzs,I.base.tbls⟩,⟨m,hn.sameBut hs (Px (cne x c hc)),λj y v' e1 e2 e3=>?_⟩,λy c' e=>?_,I.free,I.freeC,λp hp=>?_,tracked ⟨oc,hoc,I.freeC x c hc⟩ hs,by simpa using I.len⟩ ⟨c,hs,.inr hc⟩
  .exact(hs.2 b (Pj (OR (OT e) (I.ok.cab x c hfn hc)))).trans (I.base.keep b o e n hb hx)
  .obtain⟨sl,e1⟩:=I.base.slot b o e n hb hx
   exact⟨sl,(hs.2 b (Pj (OR (OT e) (I.ok.cab x c hfn hc)))).trans e1⟩
  .obtain⟨o',e1⟩:=I.base.there b o e hx
   exact⟨o',(hs.2 b (Pj (OR (OT e) (I.ok.cab x c hfn hc)))).trans e1⟩
  .by_cases hj:j=i
   .subst hj
    rw[hi]at e1;cases e1;rw[Pq hiσ]at e2;cases e2;exact⟨u,r,.inr ⟨.inl hk,c,hc,hc'⟩⟩
   .rw[OQ (Px hj)]at e2
    obtain⟨u',r',q⟩:=hl j y v' e1 e2 e3;refine⟨u',r',?_⟩;rcases q with q|⟨k,c',e,z'⟩
    .exact .inl q
    .refine .inr ⟨k,c',e,z'.sameBut hs ?_⟩
     rintro rfl;exact hj (uU hN e1 (I.ok.inj _ _ _ e hc▸hi))
  .by_cases hcc:c'=c
   .subst hcc;exact⟨_,hc'⟩
   .obtain⟨w2,z2⟩:=I.cell y c' e
    exact⟨w2,z2.sameBut hs hcc⟩
  .obtain⟨e,n,ne,nf,d⟩:=I.pin p hp
   refine⟨(hs.2 p.1 ?_).trans e,n,ne,nf,d⟩;intro q;rw[q,hoc]at e;have q':oc=p.2:=PK e;exact d w' (by rw[←q'];exact hocd)
def kD{M:Model}{A:Pu}{E:OB->OE->Prop}{i:Nat}{x:OO}{v:V}{u:OB}{Q:Unit->OE->Prop}(I:Inv X π σ H s)(hN:X.N.Nodup)(hi:X.N[i]?=some x)(hx:A6 X.env.scope x)(r:bA v u)
  (h:∀s',Inv X π (σ.set i (some v)) H s'->Q () s')(hf:X.fn x=true∨X.env.scope.names.lookup x=some .local := by first|exact .inl rfl|exact .inr rfl|assumption):OS M A (storeName X.env x u) Q E s :=
 qO I hN hi hx r (λs' I' _=>h s' I') hf
def Inv.call'{s':OE}{ch:List OG}(I:Inv X π σ H s)(ho:s'.os=s.os)(u:Un (fH X.stack) ch H H' s.heap s'.heap)(hok:fv X.prog X.w H' s'.heap)(hg:AllBare s'.gens)
  (hch:∀b∈ch,(b∈X.ex∨X.sf.heap.objs.size<=b)/\b≠X.env.locals/\(∀x c,X.env.cells.lookup x=some c->c≠b)/\∀p∈X.pn++π,p.1≠b):Inv X π σ H' s':=by
 obtain⟨h',g',d',t',o'⟩:=s';have e:o'=s.os:=ho;subst e;exact I.call (g':=g') (t':=t') (d':=d') u hok hg hch
end
abbrev XK:=OB->Option OG->Hp->Prop
abbrev St:=List (Option V)
abbrev VK:=V->Hp->Prop
abbrev TE:=St->Hp->VK->Prop
abbrev TT:=St->Hp->(Bool->Hp->Prop)->Prop
abbrev TA:=St->Hp->(ad->Hp->Prop)->Prop
structure gr where
 nx:St->Hp->Prop
 rt:VK
 bk:St->Hp->Prop:=λ_ _=>False
 ct:St->Hp->Prop:=λ_ _=>False
abbrev TS:=gr->St->Hp->Prop
def EP(X:Cx)(π:List (OG×Obj))(σ:St)(Q:VK)(u:OB)(s':OE):Prop:=∃v H',Inv X π σ H' s'/\bA v u/\Q v H'
def TP(X:Cx)(π:List (OG×Obj))(σ:St)(Q:Bool->Hp->Prop)(b:Bool)(s':OE):Prop:=∃H',Inv X π σ H' s'/\Q b H'
def AP(X:Cx)(π:List (OG×Obj))(σ:St)(Q:ad->Hp->Prop)(us:List OB)(s':OE):Prop:=∃vs H',Inv X π σ H' s'/\bq vs us/\Q vs H'
noncomputable def SP(X:Cx) (π:List (OG×Obj)) (D:gr) (f:Flow) (s':OE):Prop :=
 match f with
 |.next=>∃σ' H',Inv X π σ' H' s'/\D.nx σ' H'
 |.brk=>∃σ' H',Inv X π σ' H' s'/\D.bk σ' H'
 |.cont=>∃σ' H',Inv X π σ' H' s'/\D.ct σ' H'
 |.ret u=>∃v σ' H',Inv X π σ' H' s'/\bA v u/\D.rt v H'
def PE(X:Cx)(e:Pd)(t:TE):Prop :=
 ∀(π:List (OG×Obj)) (s:OE) (σ:St) (H:Hp) (Q:VK),Inv X π σ H s->t σ H Q->OS (OW X.prog X.w) X.A (eval e X.env) (EP X π σ Q) X.xe s
def PT(X:Cx)(e:Pd)(t:TT):Prop :=
 ∀(π:List (OG×Obj)) (s:OE) (σ:St) (H:Hp) (Q:Bool->Hp->Prop),Inv X π σ H s->t σ H Q->OS (OW X.prog X.w) X.A (isTrue e X.env (eval e X.env)) (TP X π σ Q) X.xe s
def PW(X:Cx)(e:Pd)(t:TT):Prop :=
 ∀(whole:Sem OB) (π:List (OG×Obj)) (s:OE) (σ:St) (H:Hp) (Q:Bool->Hp->Prop),Inv X π σ H s->t σ H Q->OS (OW X.prog X.w) X.A (isTrue e X.env whole) (TP X π σ Q) X.xe s
def PW.pt{X:Cx}{e:Pd}{t:TT}(h:PW X e t):PT X e t:=h _
def PA(X:Cx)(es:List Pd)(t:TA):Prop :=
 ∀(pos:Pos) (π:List (OG×Obj)) (s:OE) (σ:St) (H:Hp) (Q:ad->Hp->Prop),Inv X π σ H s->t σ H Q->OS (OW X.prog X.w) X.A (spliced (PN pos (OJ es X.env))) (AP X π σ Q) X.xe s
def PS(X:Cx)(st:Qt)(t:TS):Prop :=
 ∀(π:List (OG×Obj)) (s:OE) (σ:St) (H:Hp) (D:gr),Inv X π σ H s->t D σ H->OS (OW X.prog X.w) X.A (exec st X.env) (SP X π D) X.xe s
def ql(X:Cx)(st:List Qt)(t:TS):Prop :=
 ∀(π:List (OG×Obj)) (s:OE) (σ:St) (H:Hp) (D:gr),Inv X π σ H s->t D σ H->OS (OW X.prog X.w) X.A (execs st X.env) (SP X π D) X.xe s
def cM{α:Type}{t:Sem α}{Q Q':α->OE->Prop}{M:Model}{A:Pu}{E:OB->OE->Prop}{s:OE}(h:OS M A t Q E s)(hQ:∀a s,Q a s->Q' a s):OS M A t Q' E s:=PH h hQ λ_ _ x=>x
section
variable {X:Cx}
def MU(i:Nat):TE:=λσ H Q=>∃v,σ[i]?=some (some v)/\Q v H
def tC(v:V):TE:=λ_ H Q=>Q v H
def fE{i:Nat}{x:OO}{pos:Pos}(hN:X.N[i]?=some x)(hv:zy X.env.scope x)(hd:(x==("__debug__" : OO))=false:=by decide)(hcd:(x==("__classdict__" : OO))=false:=by decide):PE X (.Name x pos) (MU i):=by
 intro π s σ H Q I h;obtain⟨v,e,h⟩:=h;obtain⟨m,hn,hl⟩:=I.loc;obtain⟨u,r,l⟩:=hl i x v hN e hv;have fin:EP X π σ Q u s:=⟨v,H,I,r,h⟩
 rcases l with⟨hk,hm⟩|⟨hk,c,hc,hcell⟩
 .exact wpAny_Name (wpAny_loadName_local I.ok.kind hk hn hm fin) hd
 .rcases hk with hk|hk
  .exact wpAny_Name (wpAny_loadName_cell I.ok.kind hk hc hcell fin) hd
  .exact wpAny_Name (wpAny_loadName_free I.ok.kind hk hc hcell fin hcd) hd
def sJ{i j pos}:PE X (.Constant (.int i) j pos) (tC (.int i)):=λ_ _ _ H _ I h=>wpAny_Constant_int ⟨.int i,H,I.tok _,⟨_,rfl⟩,h⟩
def Ll{b j pos}:PE X (.Constant (.bool b) j pos) (tC (.bl b)):=λ_ _ _ H _ I h=>Constant_bool ⟨.bl b,H,I,rfl,h⟩
def B6{j pos}:PE X (.Constant .none j pos) (tC .non):=λ_ _ _ H _ I h=>Constant_none ⟨.non,H,I,rfl,h⟩
def II{x j pos}:PE X (.Constant (.str x) j pos) (tC (.str x)):=λ_ _ _ H _ I h=>Calls.Constant_str ⟨.str x,H,I.tok _,⟨_,rfl⟩,h⟩
def Gl(X:Cx)(x:OO):Prop:=X.env.kindOf x=some .globalImplicit
def gC{E:OB->OE->Prop}{π:List (OG×Obj)}{s:OE}{σ:St}{H:Hp}{x:OO}{u:OB}{pos:Pos}{Q:OB->OE->Prop}(I:Inv X π σ H s)(hg:Gl X x)(hm:X.mg x=some u)(h:Q u s)
  (hd:(x==("__debug__" : OO))=false:=by decide):OS (OW X.prog X.w) X.A (eval (.Name x pos) X.env) Q E s :=
 Ub I.ok.kind hg (Calls.loadGlobal_global (by rw[I.ok.glob];exact I.mod.glob.keeps I.bk) hm h) hd
def iE{E:OB->OE->Prop}{π:List (OG×Obj)}{s:OE}{σ:St}{H:Hp}{x:OO}{u:OB}{pos:Pos}{Q:OB->OE->Prop}(I:Inv X π σ H s)(hg:Gl X x)(hm:X.mg x=none)(hv:bootBuiltins x=some u)(h:Q u s)
  (hn:x≠"__name__":=by decide)(hd:(x==("__debug__" : OO))=false:=by decide):OS (OW X.prog X.w) X.A (eval (.Name x pos) X.env) Q E s:=by
 obtain⟨mb,h1,h2⟩:=I.mod.blt;exact Ub I.ok.kind hg (Calls.loadGlobal_builtin (by rw[I.ok.glob];exact I.mod.glob.keeps I.bk) hm (by rw[I.ok.blt];exact h1.keeps I.bk) ((h2 x hn).trans hv) h) hd
def E9{x:OO}{v:V}{u:OB}{pos:Pos}(hg:Gl X x)(hm:X.mg x=some u)(r:bA v u)(hd:(x==("__debug__" : OO))=false:=by decide):PE X (.Name x pos) (tC v) :=
 λ_ _ _ H _ I h=>gC I hg hm ⟨v,H,I,r,h⟩ hd
def yx{x:OO}{v:V}{u:OB}{pos:Pos}(hg:Gl X x)(hm:X.mg x=none)(hv:bootBuiltins x=some u)(r:bA v u)(hn:x≠"__name__":=by decide)(hd:(x==("__debug__" : OO))=false:=by decide):PE X (.Name x pos) (tC v) :=
 λ_ _ _ H _ I h=>iE I hg hm hv ⟨v,H,I,r,h⟩ hn hd
variable {a b:Pd}{ta tb:TE}{pos:Pos}
noncomputable def PC(X:Cx) (op:CmpOp) (a b:Pd) (t:TE):Prop :=
 ∀(π:List (OG×Obj)) (s:OE) (σ:St) (H:Hp) (Q:VK),Inv X π σ H s->t σ H Q ->
  OS (OW X.prog X.w) X.A (eval a X.env) (λv sg=>OS (OW X.prog X.w) X.A (eval b X.env) (λu si=>OS (OW X.prog X.w) X.A (PX op v u) (EP X π σ Q) X.xe si) X.xe sg) X.xe s
def Co(b:Pd){op:CmpOp}(h:op≠.In)(h2:op≠.NotIn):behindInMarks op b=false:=by
 have e1:(op==CmpOp.In)=false:=by cases op<;>first|rfl|exact absurd rfl h
 have e2:(op==CmpOp.NotIn)=false:=by cases op<;>first|rfl|exact absurd rfl h2
 cases b<;>simp[behindInMarks,e1,e2]
def tB(t:TE):TT:=λσ H Q=>t σ H λx H1=>∃c,x=.bl c/\Q c H1
def Iy{e:Pd}{t:TE}(h:PE X e t)(he:∀whole,isTrue e X.env whole=(do let v ←whole;standAt e.pos;TZ [v] (truthy v)):=by intro _;rfl):PT X e (tB t):=by
 intro π s σ H Q I hw;refine isTrue_plain (cM (h π s σ H _ I hw) λv s1 z9=>?_) (he _);obtain⟨x,H1,I1,r1,q1⟩:=z9;obtain⟨d,rfl,q⟩:=q1;cases r1;exact QK ⟨H1,I1,q⟩
variable {tA tB':TT}{rest:List Pd}
def Nb(t u:TT):TT:=λσ H Q=>t σ H λc H1=>if c=true then u σ H1 Q else Q false H1
def Ob(t u:TT):TT:=λσ H Q=>t σ H λc H1=>if c=true then Q true H1 else u σ H1 Q
def M4(t:TT):TT:=λσ H Q=>t σ H λc H1=>Q (!c) H1
def ES(ha:PT X a tA):PW X (.BoolOp .And [a] pos) tA:=by
 intro wh π s σ H Q I h;refine isTrue_and (cM (ha π s σ H Q I h) λc s1 e=>?_);cases c with|true=>exact isTrue_and_nil e|false=>exact e
def Iu(ha:PT X a tA):PW X (.BoolOp .Or [a] pos) tA:=by
 intro wh π s σ H Q I h;refine isTrue_or (cM (ha π s σ H Q I h) λc s1 e=>?_);cases c with|false=>exact isTrue_or_nil e|true=>exact e
def Iv(ha:PT X a tA)(hb:PW X (.BoolOp .And (b::rest) pos) tB'):PW X (.BoolOp .And (a::b::rest) pos) (Nb tA tB'):=by
 intro wh π s σ H Q I h;refine isTrue_and (cM (ha π s σ H _ I h) λc s1 z9=>?_);obtain⟨H1,I1,q1⟩:=z9;cases c with|true=>exact hb wh π s1 σ H1 Q I1 q1|false=>exact⟨H1,I1,q1⟩
def Lf(ha:PT X a tA)(hb:PW X (.BoolOp .Or (b::rest) pos) tB'):PW X (.BoolOp .Or (a::b::rest) pos) (Ob tA tB'):=by
 intro wh π s σ H Q I h;refine isTrue_or (cM (ha π s σ H _ I h) λc s1 z9=>?_);obtain⟨H1,I1,q1⟩:=z9;cases c with|true=>exact⟨H1,I1,q1⟩|false=>exact hb wh π s1 σ H1 Q I1 q1
def Iz(ha:PT X a tA):PT X (.UnaryOp .Not a pos) (M4 tA):=by
 intro π s σ H Q I h;exact isTrue_not (ha π s σ H (λc H1=>Q (!c) H1) I h)
def KR(ta tb:TE):TE:=λσ H Q=>ta σ H λx H1=>∃c,x=.bl c/\if c=true then tb σ H1 Q else Q (.bl false) H1
def M1(ta tb:TE):TE:=λσ H Q=>ta σ H λx H1=>∃c,x=.bl c/\if c=true then Q (.bl true) H1 else tb σ H1 Q
def KI(ta:TE):TE:=λσ H Q=>ta σ H λx H1=>∃c,x=.bl c/\Q (.bl (!c)) H1
def IK{op}{t:TE}(h:PE X a t):PE X (.BoolOp op [a] pos) t:=λπ s σ H Q I hw=>BoolOp_one (h π s σ H Q I hw)
def IM(ha:PE X a ta)(hb:PE X (.BoolOp .And (b::rest) pos) tb):PE X (.BoolOp .And (a::b::rest) pos) (KR ta tb):=by
 intro π s σ H Q I h;refine BoolOp_and (cM (ha π s σ H _ I h) λv s1 ⟨x,H1,I1,r1,q1⟩=>?_);obtain⟨c,rfl,q1⟩:=q1;cases r1;refine QK ?_;cases c with|true=>exact hb π s1 σ H1 Q I1 q1|false=>exact⟨.bl false,H1,I1,rfl,q1⟩
def Lk(ha:PE X a ta)(hb:PE X (.BoolOp .Or (b::rest) pos) tb):PE X (.BoolOp .Or (a::b::rest) pos) (M1 ta tb):=by
 intro π s σ H Q I h;refine BoolOp_or (cM (ha π s σ H _ I h) λv s1 ⟨x,H1,I1,r1,q1⟩=>?_);obtain⟨c,rfl,q1⟩:=q1;cases r1;refine QK ?_;cases c with|false=>exact hb π s1 σ H1 Q I1 q1|true=>exact⟨.bl true,H1,I1,rfl,q1⟩
def IL(ha:PE X a ta):PE X (.UnaryOp .Not a pos) (KI ta):=by
 intro π s σ H Q I h;refine UnaryOp_ (cM (ha π s σ H _ I h) λv s1 z9=>?_);obtain⟨x,H1,I1,r1,q1⟩:=z9;obtain⟨c,rfl,q1⟩:=q1;cases r1;exact not_of (QK ⟨.bl (!c),H1,I1,rfl,q1⟩)
end
def df(K:OF)(H:Hp)(a:OG)(xs:ad):Prop :=
 Rd H a (.lst xs) ∨
  ∃(o:Obj) (its:Array OB) (n:Nat),K.lookup a=some o/\o.cls=.type "list"/\o.dict=none/\o.data=.seq its n/\its.size<=sizeLine/\bq xs its.toList
def gT(K:OF)(H:Hp)(a:OG)(xs:ad):Prop :=
 Rd H a (.tup xs) ∨
  ∃(o:Obj) (its:Array OB) (n:Nat),K.lookup a=some o/\o.cls=.type "tuple"/\o.data=.seq its n/\its.size<=sizeLine/\bq xs its.toList
def NF:OB->Option V
 |.none=>some .non
 |.bool b=>some (.bl b)
 |.int i _=>some (.int i)
 |.str x _=>some (.str x)
 |.bytes b _=>some (.byt b)
 |.float b _=>some (.flt b)
 |.ref a=>some (.ref a)
 |.type n=>some (.ty n)
 |_=>none
def bA.abs{x:V}{u:OB}(r:bA x u):NF u=some x:=by
 cases x with|non|bl _=>cases r;rfl|int _|str _|byt _|flt _=>obtain⟨t,rfl⟩:=r;rfl|ref _|ty _=>cases r;rfl
def bA.inj{x y:V}{u:OB}(r:bA x u)(q:bA y u):x=y:=PK (r.abs.symm.trans q.abs)
theorem bq.inj:∀{xs ys:ad}{us:List OB},bq xs us->bq ys us->xs=ys
 |_,_,_,.nil,.nil=>rfl
 |_,_,_,.cons r t,.cons r' t'=>by rw[r.inj r',bq.inj t t']
section
variable {X:Cx}{π:List (OG×Obj)}{σ:St}{H:Hp}{s:OE}{a:OG}{xs ys:ad}
def df.of{K:OF}(h:H a=some (.lst xs)):df K H a xs:=.inl (.inl h)
def gT.of{K:OF}(h:H a=some (.tup xs)):gT K H a xs:=.inl (.inl h)
def Inv.list(I:Inv X π σ H s)(h:df X.K H a xs):∃its:List OB,bq xs its/\PlainL s.heap a its.toArray/\xs.length<=sizeLine:=by
 rcases h with h|⟨o,its,n,hk,hc,hd,hs,hz,r⟩
 .obtain⟨z,its,n,r,e⟩:=h.ok I.hok
  exact⟨its,r,⟨_,n,e,rfl,rfl,rfl⟩,z⟩
 .refine⟨its.toList,r,⟨o,n,I.kIn a o hk,hc,hd,by simpa using hs⟩,?_⟩
  have e:=r.length;simp only[Se]at e;omega
def Inv.tuple(I:Inv X π σ H s)(h:gT X.K H a xs):∃its:List OB,bq xs its/\IsTup s.heap a its.toArray/\xs.length<=sizeLine:=by
 rcases h with h|⟨o,its,n,hk,hc,hs,hz,r⟩
 .obtain⟨z,its,r,p⟩:=h.ok I.hok
  exact⟨its,r,p,z⟩
 .refine⟨its.toList,r,⟨o,I.kIn a o hk,hc,n,by simpa using hs⟩,?_⟩
  have e:=r.length;simp only[Se]at e;omega
def Inv.list_inj(I:Inv X π σ H s)(h:df X.K H a xs)(h':df X.K H a ys):xs=ys:=by
 obtain⟨its,r,⟨o,n,e,_,_,d⟩,_⟩:=I.list h;obtain⟨its',r',⟨o',n',e',_,_,d'⟩,_⟩:=I.list h';rw[e]at e';cases e';rw[d]at d';injection d' with d1 _;have:its=its':=by simpa using congrArg UI d1
 subst this;exact r.inj r'
def Inv.tuple_inj(I:Inv X π σ H s)(h:gT X.K H a xs)(h':gT X.K H a ys):xs=ys:=by
 obtain⟨its,r,⟨o,e,_,n,d⟩,_⟩:=I.tuple h;obtain⟨its',r',⟨o',e',_,n',d'⟩,_⟩:=I.tuple h';rw[e]at e';cases e';rw[d]at d';injection d' with d1 _;have:its=its':=by simpa using congrArg UI d1
 subst this;exact r.inj r'
end
abbrev Cx.wish(X:Cx)(E:OB->OE->Prop):Cx:={ X with xe:=E }
abbrev Cx.nox(X:Cx):Cx:=X.wish λ_ _=>False
def Cx.Ok.wish{X:Cx}(ok:X.Ok)(E:OB->OE->Prop):(X.wish E).Ok :=
 ⟨ok.mod,ok.kind,ok.glob,ok.blt,ok.above,ok.inj,ok.has,ok.cab,ok.hd,ok.frames,ok.stk,ok.exf,ok.bs,ok.bsz,ok.noex,ok.exfs,ok.funs,ok.frf⟩
def Cx.Ok.unwish{X:Cx}{E:OB->OE->Prop}(ok:(X.wish E).Ok):X.Ok :=
 ⟨ok.mod,ok.kind,ok.glob,ok.blt,ok.above,ok.inj,ok.has,ok.cab,ok.hd,ok.frames,ok.stk,ok.exf,ok.bs,ok.bsz,ok.noex,ok.exfs,ok.funs,ok.frf⟩
section
variable {X:Cx}{π:List (OG×Obj)}{σ:St}{H:Hp}{s:OE}{E:OB->OE->Prop}
def Inv.wish(I:Inv X π σ H s)(E:OB->OE->Prop):Inv (X.wish E) π σ H s:=⟨I.ok.wish E,I.os,I.bare,I.base,I.loc,I.cell,I.free,I.freeC,I.pin,I.hok,I.len⟩
def Inv.unwish(I:Inv (X.wish E) π σ H s):Inv X π σ H s:=⟨I.ok.unwish,I.os,I.bare,I.base,I.loc,I.cell,I.free,I.freeC,I.pin,I.hok,I.len⟩
def SP.unwish{D:gr}{f:Flow}{s':OE}(h:SP (X.wish E) π D f s'):SP X π D f s':=by
 cases f with|next|brk|cont=>obtain⟨σ',H',I,q⟩:=h;exact⟨σ',H',I.unwish,q⟩|ret u=>obtain⟨v,σ',H',I,r,q⟩:=h;exact⟨v,σ',H',I.unwish,r,q⟩
def ql.nox{st:List Qt}{t:TS}(h:ql X.nox st t):ql X st t:=λπ s σ H D I hw=>
 PH (h π s σ H D (I.wish _) hw) (λ_ _ q=>q.unwish) λ_ _ z=>Qi z
end
section
variable {X:Cx}{st:Qt}{rest:List Qt}{t u:TS}{e:Pd}{te:TE}{pos:Pos}
def KJ:TS:=λD σ H=>D.nx σ H
def MW(t u:TS):TS:=λD σ H=>t { D with nx:=u D } σ H
def nH:ql X [] KJ:=λ_ _ σ H _ I h=>wpAny_execs_nil ⟨σ,H,I,h⟩
def dQ(h1:PS X st t)(h2:ql X rest u):ql X (st::rest) (MW t u):=by
 intro π s σ H D I h;refine wpAny_execs_cons (cM (h1 π s σ H { D with nx:=u D } I h) λf s1 q=>?_);cases f with
 |next=>
  obtain⟨σ',H',I',q⟩:=q;exact h2 π s1 σ' H' D I' q
 |ret v|brk|cont=>exact q
def Inv.quiet{π:List (OG×Obj)}{σ:St}{H:Hp}{s:OE}(I:Inv X π σ H s):interactive X.env=false:=by simp[interactive,I.ok.kind]
def KL(te:TE):TS:=λD σ H=>te σ H λ_ H1=>D.nx σ H1
def jJ(he:PE X e te)(hs:P1 e none pos.line X.env=pure false:=by rfl):PS X (.Expr e pos) (KL te):=by
 intro π s σ H D I h;exact wpAny_Expr_any (cM (he π s σ H _ I h) λv s1 ⟨x,H1,I1,r1,q1⟩=>⟨σ,H1,I1,q1⟩) I.quiet hs
def MZ(te:TE):TS:=λD σ H=>te σ H D.rt
def BV(he:PE X e te):PS X (.Return (some e) pos) (MZ te):=by
 intro π s σ H D I h;exact wpAny_Return_some (cM (he π s σ H _ I h) λv s1 ⟨x,H1,I1,r1,q1⟩=>⟨x,σ,H1,I1,r1,q1⟩)
def M7(c:TT)(t u:TS):TS:=λD σ H=>c σ H λb H1=>if b=true then t D σ H1 else u D σ H1
def Hj{c:Pd}{a b:List Qt}{tc:TT}(hc:PT X c tc)(ha:ql X a t)(hb:ql X b u):PS X (.If c a b pos) (M7 tc t u):=by
 intro π s σ H D I h;refine wpAny_If (cM (hc π s σ H _ I h) λd s1 z9=>?_);obtain⟨H1,I1,q1⟩:=z9;cases d with|true=>exact ha π s1 σ H1 D I1 q1|false=>exact hb π s1 σ H1 D I1 q1
end
abbrev TG:=V->St->Hp->(St->Hp->Prop)->Prop
abbrev D9:=ad->St->Hp->(St->Hp->Prop)->Prop
noncomputable def PG(X:Cx) (target:Pd) (t:TG):Prop :=
 ∀(π:List (OG×Obj)) (s:OE) (σ:St) (H:Hp) (v:V) (u:OB) (Q:St->Hp->Prop),Inv X π σ H s->bA v u->t v σ H Q ->
  OS (OW X.prog X.w) X.A (assign target X.env u) (λ_ s'=>∃σ' H',Inv X π σ' H' s'/\Q σ' H') X.xe s
noncomputable def A0(X:Cx) (ts:List Pd) (t:D9):Prop :=
 ∀(π:List (OG×Obj)) (s:OE) (σ:St) (H:Hp) (vs:ad) (us:List OB) (Q:St->Hp->Prop),Inv X π σ H s->bq vs us->t vs σ H Q ->
  OS (OW X.prog X.w) X.A (assignInOrder ((assignEach ts X.env).map (·.2)) us) (λ_ s'=>∃σ' H',Inv X π σ' H' s'/\Q σ' H') X.xe s
section
variable {X:Cx}{pos:Pos}
def CZ(i:Nat):TG:=λv σ H Q=>Q (σ.set i (some v)) H
def yt{i:Nat}{x:OO}(hN:X.N.Nodup)(hi:X.N[i]?=some x)(hx:A6 X.env.scope x)(hf:X.fn x=true∨X.env.scope.names.lookup x=some .local := by first|exact .inl rfl|exact .inr rfl|assumption):PG X (.Name x pos) (CZ i):=by
 intro π s σ H v u Q I r h;exact wpAny_assign_Name (kD I hN hi hx r (λs' I'=>⟨_,H,I',h⟩) hf)
def Nx:D9:=λvs σ H Q=>vs=[]/\Q σ H
def LP(t:TG)(u:D9):D9:=λvs σ H Q=>∃v r,vs=v::r/\t v σ H λσ' H'=>u r σ' H' Q
def E6:A0 X [] Nx:=by
 intro π s σ H vs us Q I r h;obtain⟨e,h⟩:=h;subst e;cases r;exact assignInOrder_nil ⟨σ,H,I,h⟩
def B1{e:Pd}{es:List Pd}{t:TG}{u:D9}(h1:PG X e t)(h2:A0 X es u)
  (hs:(assignEach (e::es) X.env).map (·.2)=assign e X.env::(assignEach es X.env).map (·.2):=by rfl):A0 X (e::es) (LP t u):=by
 intro π s σ H vs us Q I r h;obtain⟨v,vr,e1,h⟩:=h;subst e1;cases r with
 |cons r rr=>
  rw[hs];refine assignInOrder_cons (cM (h1 π s σ H _ _ _ I r h) λ_ s1 z9=>?_);obtain⟨σ1,H1,I1,q1⟩:=z9;exact h2 π s1 σ1 H1 _ _ Q I1 rr q1
def Nw(K:OF)(n:Nat)(t:D9):TG:=λv σ H Q=>∃a xs,v=.ref a/\gT K H a xs/\xs.length=n/\t xs σ H Q
def IH{es:List Pd}{k:Nat}{t:D9}{n:Nat}(hc:X.calm=true)(h:A0 X es t)
  (hn:(assignEach es X.env).length=n:=by rfl)(hst:(assignEach es X.env).findIdx? (·.1)=none:=by rfl):PG X (.Tuple es k pos) (Nw X.K n t):=by
 intro π s σ H v u Q I r hw;obtain⟨a,xs,e1,hq,hl,hw⟩:=hw;subst e1;cases r;obtain⟨its,rv,ht,hz⟩:=I.tuple hq;refine assign_Tuple_tuple (I.ok.hd hc) ht (by simp[hn,←hl,rv.length]) hst λh' hx=>?_;have I1:Inv X π σ H { s with heap:=h' }:=I.kept (t':=s.toks) λb o e=>hx b o (Pj (OT e)) e;exact h π _ σ H xs _ Q I1 (by simpa using rv) hw
def HZ(te:TE)(g:TG):TS:=λD σ H=>te σ H λx H1=>g x σ H1 D.nx
def IC{tg e:Pd}{te:TE}{g:TG}(he:PE X e te)(hg:PG X tg g)(hs:swapsWithSole [tg] e pos.line X.env=pure false:=by rfl)(hw:swappedStores [tg] e X.env=pure none:=by rfl)
  (h1:(assignEach [tg] X.env).map (·.2)=[assign tg X.env]:=by rfl):PS X (.Assign [tg] e pos) (HZ te g):=by
 intro π s σ H D I h;refine wpAny_Assign_stores (cM (he π s σ H _ I h) λv s1 z9=>?_) hs hw;obtain⟨x,H1,I1,r1,q1⟩:=z9;rw[h1];exact cM (hg π s1 σ H1 x v _ I1 r1 q1) λ_ s2 q=>q
def lX{i:Nat}{x:OO}{e:Pd}{te:TE}{pos':Pos}(hN:X.N.Nodup)(hi:X.N[i]?=some x)(hx:A6 X.env.scope x)(he:PE X e te)(hs:P1 e (some (.Name x pos')) pos.line X.env=pure false:=by rfl)(hf:X.fn x=true∨X.env.scope.names.lookup x=some .local := by first|exact .inl rfl|exact .inr rfl|assumption) :
  PS X (.Assign [.Name x pos'] e pos) (HZ te (CZ i)):=by
 intro π s σ H D I h;refine wpAny_Assign_Name (cM (he π s σ H _ I h) λv s1 z9=>?_) hs;obtain⟨y,H1,I1,r1,q1⟩:=z9;exact kD I1 hN hi hx r1 (λs2 I2=>⟨_,H1,I2,q1⟩) hf
def M0(i j:Nat)(ta:TA):TS:=λD σ H=>ta σ H λvs H1=>∃v w,vs=[v,w]/\D.nx ((σ.set i (some v)).set j (some w)) H1
def IA{i j:Nat}{x y:OO}{a b:Pd}{ta:TA}{px py pt:Pos}{kt k2 pt2}(hc:X.calm=true)(hN:X.N.Nodup)(hi:X.N[i]?=some x)(hj:X.N[j]?=some y)(hij:i≠j)
  (hx:X.env.scope.names.lookup x=some .local)(hy:X.env.scope.names.lookup y=some .local)(ha:PA X [a,b] ta)
  (hw:swappedStores [.Tuple [.Name x px,.Name y py] kt pt] (.Tuple [a,b] k2 pt2) X.env=pure (some [x,y]))
  (hs:swapsWithSole [.Tuple [.Name x px,.Name y py] kt pt] (.Tuple [a,b] k2 pt2) pos.line X.env=pure false:=by rfl) :
  PS X (.Assign [.Tuple [.Name x px,.Name y py] kt pt] (.Tuple [a,b] k2 pt2) pos) (M0 i j ta):=by
 intro π s σ H D I h;rw[exec_Assign_arm];refine OC (wpAny_standAt ?_);rw[hs];refine OC (ON ?_);rw[if_neg (by decide)];refine OC (Tuple_ (cM (ha _ π s σ H _ I h) λus s1 z9=>?_));obtain⟨vs,H1,I1,r1,q1⟩:=z9;obtain⟨v,w,e1,q1⟩:=q1;subst e1;obtain⟨u1,u2,rfl,rv,rw'⟩:∃u1 u2,us=[u1,u2]/\bA v u1/\bA w u2:=by
  cases r1 with
  |cons p q=>
   cases q with
   |cons p' q'=>
    cases q';exact⟨_,_,rfl,p,p'⟩
 refine wpAny_newObj_type ?_ (by show 2<=sizeLine;decide);have I2:Inv X π σ H1 { s1 with heap:=s1.heap.push { cls:=.type "tuple",data:=.seq [u1,u2].toArray } }:=I1.kept (t':=s1.toks) λb o e=>OD _ e;rw[hw];refine OC (ON ?_);show OS (OW X.prog X.w) X.A (do rule "assign.swapped-stores";let items ←unpackItems (.ref s1.heap.objs.size) 2 none;assignInOrder [λv=>bindName X.env y v,λv=>bindName X.env x v] items.reverse;pure Flow.next) _ _ _;refine OC (wpAny_rule (OC (unpackItems_tuple (items:=#[u1,u2]) (I.ok.hd hc) (IsTup.new s1.heap _) λh' hx'=>?_)));have I3:=I2.kept (h':=h') (t':=s1.toks) λb o e=>hx' b o (Pj (OT e)) e;show OS _ _ (assignInOrder [λv=>bindName X.env y v,λv=>bindName X.env x v] [u2,u1] >>= λ_=>pure Flow.next) _ _ _;refine OC (assignInOrder_cons (wpAny_bindName (kD I3 hN hj (.inl hy) rw' (λs2 I4=>?_) (.inr hy))));refine assignInOrder_cons (wpAny_bindName (kD I4 hN hi (.inl hx) rv (λs3 I5=>assignInOrder_nil (ON ?_)) (.inr hx)));rw[List.set_comm _ _ (Px hij)]at I5;exact⟨_,H1,I5,q1⟩
end
section
variable {X:Cx}{pos:Pos}
def HX(c:TT)(tb:TS):TS:=λD σ H=>∃W:Nat->St->Hp->Prop,(∃m,W m σ H)/\∀m σ H,W m σ H ->
 c σ H λb H1=>if b=true then ∃N:St->Hp->Prop,(∀σ' H',N σ' H'->∃m',m' < m/\W m' σ' H')/\tb { D with nx:=N,ct:=N,bk:=D.nx } σ H1 else D.nx σ H1
def BU{c:Pd}{body:List Qt}{tc:TT}{tb:TS}(hp:PassesOwn (OW X.prog X.w) X.A X.env X.xe)(hc:PT X c tc)(hb:ql X body tb):PS X (.While c body [] pos) (HX tc tb):=by
 intro π s σ H D I h;obtain⟨W,⟨m0,w0⟩,turn⟩:=h;refine wpAny_While (codeAny_whileLoop (λn s'=>∃σ' H',Inv X π σ' H' s'/\W n σ' H') ?_ m0 ⟨σ,H,I,w0⟩);rintro n s1 ⟨σ1,H1,I1,w1⟩;refine wpAny_passesOwn hp (cM (hc π s1 σ1 H1 _ I1 (turn n σ1 H1 w1)) λb s2 z9=>?_);obtain⟨H2,I2,q2⟩:=z9;cases b with
 |true=>
  obtain⟨N,hN,q2⟩:=q2;rw[if_pos rfl];refine wpAny_passesOwn hp (cM (hb π s2 σ1 H2 _ I2 q2) λf s3 q3=>?_);cases f with
  |next=>
   obtain⟨σ3,H3,I3,n3⟩:=q3;obtain⟨m',hm,w3⟩:=hN σ3 H3 n3;exact⟨m',hm,σ3,H3,I3,w3⟩
  |cont=>
   obtain⟨σ3,H3,I3,n3⟩:=q3;obtain⟨m',hm,w3⟩:=hN σ3 H3 n3;exact⟨m',hm,σ3,H3,I3,w3⟩
  |brk|ret v=>exact q3
 |false=>
  rw[if_neg Qj];exact wpAny_execs_nil ⟨σ1,H2,I2,q2⟩
end
structure It where
 go:Nat->Hp->Prop
 yld:Nat->Hp->V->Hp->Prop
 stop:Nat->Hp->Prop
def mv(X:Cx)(π:List (OG×Obj))(H:Hp)(b:OG):Prop :=
 H b=none/\b≠X.env.locals/\b∉X.fs/\(b∈X.ex∨X.sf.heap.objs.size<=b)/\(∀x c,X.env.cells.lookup x=some c->c≠b)/\∀p∈X.pn++π,p.1≠b
def Inv.fpOk{X:Cx}{π:List (OG×Obj)}{σ:St}{H H':Hp}{s:OE}{b:OG}(I:Inv X π σ H s)(hb:s.heap.objs.size<=b)(hn:H' b=none):mv X π H' b:=by
 refine⟨hn,Qd (OR I.lt hb),I.nofs hb,.inr (Pe I.sz hb),λx c e z=>?_,λp hp z=>?_⟩
 .obtain⟨v,q⟩:=I.cell x c e
  exact absurd (OR q.lt (by rw[z];exact hb)) (RC _)
 .exact absurd (OR (OT (I.pin p hp).1) (by rw[z];exact hb)) (RC _)
structure vS (P:O5) (w:Pt) (K:OF) (tg:Pd) (J:It) (fp:List OG) (it:OG) (tn:Nat->OL->Prop):Prop where
 mem:it∈fp
 obj:∀i h,tn i h->∀b∈fp,∃o,h.get? b=some o/\∀v,o.data≠.cell v
 keep:∀i h h',tn i h->(∀b∈fp,∀o,h.get? b=some o->h'.get? b=some o)->tn i h'
 item:∀(X:Cx),X.prog=P->X.w=w->X.K=K->X.calm=true->∀(i:Nat) (π:List (OG×Obj)) (s:OE) (σ:St) (H:Hp) (E:OB->OE->Prop),Inv X π σ H s->(∀b∈fp,mv X π H b)->tn i s.heap->J.go i H ->
  OS (OW P w) X.A (RQ (.ref it)) (λr s1=>∃u,r=some u /\
   OS (OW P w) X.A (letOwnedTupleGo tg (.ref it) u) (λ_ s2=>∃x H',Inv X π σ H' s2/\bA x u/\J.yld i H x H'/\tn (i+1) s2.heap/\∀b∈fp,H' b=none) E s1) E s
 done:∀(X:Cx),X.prog=P->X.w=w->X.K=K->X.calm=true->∀(i:Nat) (π:List (OG×Obj)) (s:OE) (σ:St) (H:Hp) (E:OB->OE->Prop),Inv X π σ H s->(∀b∈fp,mv X π H b)->tn i s.heap->J.stop i H ->
  OS (OW P w) X.A (RQ (.ref it)) (λr s1=>r=none/\Inv X π σ H s1) E s
 self:∀(A:Pu) (i:Nat) (s:OE) (Q:OB->OE->Prop) (E:OB->OE->Prop),tn i s.heap->Q (.ref it) s->OS (OW P w) A (pyIter (.ref it)) Q E s
abbrev TI:=St->Hp->(It->Hp->Prop)->Prop
noncomputable def NI(X:Cx) (π:List (OG×Obj)) (σ:St) (tg:Pd) (R:It->Hp->Prop) (itv:OB) (s2:OE):Prop :=
 ∃(it:OG) (fp:List OG) (tn:Nat->OL->Prop) (J:It) (H':Hp),itv=.ref it/\Inv X π σ H' s2/\vS X.prog X.w X.K tg J fp it tn/\tn 0 s2.heap/\(∀b∈fp,mv X π H' b)/\R J H'
noncomputable def PI(X:Cx) (tg iter:Pd) (wi:TI):Prop :=
 ∀(π:List (OG×Obj)) (s:OE) (σ:St) (H:Hp) (R:It->Hp->Prop),Inv X π σ H s->wi σ H R ->
  OS (OW X.prog X.w) X.A (eval iter X.env) (λv s1=>OS (OW X.prog X.w) X.A (pyIter v) (NI X π σ tg R) X.xe s1) X.xe s
def yU{M:Model}{A:Pu}{E:OB->OE->Prop}{s:OE}{tg:Pd}{it:OG}{u:OB}{o:Obj}{n:String}{vs:Array OB}{Q:Unit->OE->Prop}(ho:s.heap.get? it=some o)(hc:o.cls=.type n)(hd:o.data=.fields vs)
  (hn:["enumerate","zip","dict_itemiterator","dict_reverseitemiterator","odict_iterator","itertools.zip_longest","itertools.pairwise"].contains n=false)(hQ:Q () s):OS M A (letOwnedTupleGo tg (.ref it) u) Q E s:=by
 unfold letOwnedTupleGo;cases tg<;>first
  |exact ON hQ
  |(cases u<;>first
    |exact ON hQ
    |(refine OC (wpAny_load ho ?_);rw[hc,hd];show OS M A (if(["enumerate","zip","dict_itemiterator","dict_reverseitemiterator","odict_iterator","itertools.zip_longest","itertools.pairwise"].contains n&&vs[0]?==some (rawInt _))=true then _ else _) Q E s;rw[if_neg (by intro h;rw[hn,Rr]at h;cases h)];exact ON hQ))
def Mx(K:OF)(a:OG):It :=
 ⟨λi H=>∃xs x,df K H a xs/\xs[i]?=some x,λi H x H'=>H'=H/\∀xs,df K H a xs->xs[i]?=some x,λi H=>∃xs,df K H a xs/\xs.length<=i⟩
def jU(lo:Int)(n:Nat):It:=⟨λi _=>i<n,λi H x H'=>H'=H/\x=.int (lo+i),λi _=>n<=i⟩
def zJ{P:O5}{w:Pt}{K:OF}{tg:Pd}(a it:OG):vS P w K tg (Mx K a) [it] it (λi h=>h.IsListIter it a i) where
 mem:=by simp
 obj:=λi h st b hb=>by
  have e:b=it:=by simpa using hb
  subst e;obtain⟨o,e,c,d⟩:=st;exact⟨o,e,λv z=>by rw[d]at z;cases z⟩
 keep:=λi h h' st k=>st.at λo e=>k it (by simp) o e
 item:=by
  intro X hP hw hK hc i π s σ H E I hf st hg;subst hP hw hK;obtain⟨xs,x,hq,hx⟩:=hg;obtain⟨its,rv,p,hz⟩:=I.list hq;obtain⟨u,hu,ru⟩:=rv.get hx;obtain⟨f0,f1,f2,f3,f4,f5⟩:=hf it (by simp);refine wpAny_pyNext_list_item st p.isList (x:=u) (by simpa using hu) λh' st' sb=>?_;have I1:Inv X π σ H { s with heap:=h' }:=I.turned (t':=s.toks) (λb o hb e=>(sb.2 b hb).trans e) f0 f1 f3 f4 f5;obtain⟨o,e,c,d⟩:=id st';exact⟨u,rfl,yU (s:={ s with heap:=h' }) e c d (by decide) ⟨x,H,I1,ru,⟨rfl,λys hy=>by rw[I.list_inj hy hq];exact hx⟩,st',λb hb=>(hf b hb).1⟩⟩
 done:=by
  intro X hP hw hK hc i π s σ H E I hf st hg;subst hP hw hK;obtain⟨xs,hq,hx⟩:=hg;obtain⟨its,rv,p,hz⟩:=I.list hq;obtain⟨f0,f1,f2,f3,f4,f5⟩:=hf it (by simp);have hl:=rv.length;exact wpAny_pyNext_list_end (I.ok.hd hc) st p.isList (by simp;omega) λh' eb=>⟨rfl,I.turned (t':=s.toks) (λb o hb e=>eb b o hb e) f0 f1 f3 f4 f5⟩
 self:=λ_ _ _ _ _ st h=>wpAny_pyIter_listiter st h
def wj{P:O5}{w:Pt}{K:OF}{tg:Pd}(it:OG)(lo:Int)(n:Nat):vS P w K tg (jU lo n) [it] it (λi h=>IsRangeIter h it (lo+(i:Nat)*1) ((n:Int)-(i:Nat)) 1) where
 mem:=by simp
 obj:=λi h st b hb=>by
  have e:b=it:=by simpa using hb
  subst e;exact⟨_,st,λv z=>by
   have z':Data.fields _=Data.cell v:=z;cases z'⟩
 keep:=λi h h' st k=>k it (by simp) _ st
 item:=by
  intro X hP hw hK hc i π s σ H E I hf st hg;subst hP hw hK;obtain⟨f0,f1,f2,f3,f4,f5⟩:=hf it (by simp);have W:=Walks.range (prog:=X.prog) (w:=X.w) (I.ok.hd hc) it lo 1 n;refine W.item i s _ _ hg st λv h' tk hv st' kk=>?_;obtain⟨t,rfl⟩:=hv;have I1:Inv X π σ H { s with heap:=h',toks:=tk }:=I.turned (λb o hb e=>kk b o (by simpa using hb) e) f0 f1 f3 f4 f5;refine⟨_,rfl,yU (s:={ s with heap:=h',toks:=tk }) (n:="range_iterator") st' rfl rfl (by decide) ⟨.int (lo+i),H,I1,⟨t,?_⟩,⟨rfl,rfl⟩,st',λb hb=>(hf b hb).1⟩⟩;rw[Int.mul_one]
 done:=by
  intro X hP hw hK hc i π s σ H E I hf st hg;subst hP hw hK;obtain⟨f0,f1,f2,f3,f4,f5⟩:=hf it (by simp);exact wpAny_pyNext_range_end (I.ok.hd hc) st (by have:n<=i:=hg;omega) λh' eb=>⟨rfl,I.turned (t':=s.toks) (λb o hb e=>eb b o hb e) f0 f1 f3 f4 f5⟩
 self:=λ_ _ _ _ _ st h=>wpAny_pyIter_rangeiter st h
section
variable {X:Cx}{tg:Pd}
def LN(K:OF)(tl:TE):TI:=λσ H R=>tl σ H λx H1=>∃a,x=.ref a/\(∃xs,df K H1 a xs)/\R (Mx K a) H1
def yr{l:Pd}{tl:TE}(hl:PE X l tl):PI X tg l (LN X.K tl):=by
 intro π s σ H R I h;refine cM (hl π s σ H _ I h) λv s1 ⟨x,H1,I1,r1,q1⟩=>?_;obtain⟨a,e,⟨xs,hq⟩,q⟩:=q1;subst e;cases r1;obtain⟨its,rv,p,hz⟩:=I1.list hq;refine wpAny_pyIter_list p.isList ?_;refine⟨s1.heap.objs.size,[s1.heap.objs.size],_,_,H1,rfl,I1.kept (t':=s1.toks) λb o e=>OD _ e,zJ a _,⟨_,Pf _ rfl,rfl,rfl⟩,λb hb=>?_,q⟩;have e:b=s1.heap.objs.size:=by simpa using hb
 subst e;exact I1.fpOk (O0 _) (I1.hok.fresh (O0 _))
def BI{π:List (OG×Obj)}{σ:St}{H:Hp}{s:OE}{R:It->Hp->Prop}{E:OB->OE->Prop}{lo hi:Int}{t u v:Tok}{tk:Nat}(I:Inv X π σ H s)(h1:-(2 ^ 62)<=lo)(h2:lo<2 ^ 62)(h3:-(2 ^ 62)<=hi)(h4:hi<2 ^ 62)
  (q:R (jU lo (hi-lo).toNat) H):OS (OW X.prog X.w) X.A (pyIter (.ref s.heap.objs.size)) (NI X π σ tg R) E { s with heap:=s.heap.push { cls:=.type "range",data:=.fields #[.int lo t,.int hi u,.int 1 v] },toks:=tk }:=by
 refine wpAny_pyIter_range (IsRange.new ..) (small_one h1 h2 h3 h4) ?_;have I1:Inv X π σ H { s with heap:=s.heap.push { cls:=.type "range",data:=.fields #[.int lo t,.int hi u,.int 1 v] },toks:=tk }:=I.kept λb o e=>OD _ e;refine⟨(s.heap.push { cls:=.type "range",data:=.fields #[.int lo t,.int hi u,.int 1 v] }).objs.size,[(s.heap.push { cls:=.type "range",data:=.fields #[.int lo t,.int hi u,.int 1 v] }).objs.size],_,_,H,rfl,
  I1.kept (t':=tk) λb o e=>OD _ e,wj _ lo (hi-lo).toNat,?_,λb hb=>?_,q⟩
 .have e1:lo+((0:Nat):Int)*1=lo:=by simp
  have e2:(((hi-lo).toNat:Nat):Int)-((0:Nat):Int)=Builtin.Range.rangeSize lo hi 1:=by rw[rangeSize_one];split<;>omega
  show IsRangeIter _ _ (lo+((0:Nat):Int)*1) ((((hi-lo).toNat:Nat):Int)-((0:Nat):Int)) 1;rw[e1,e2];exact Pf _ rfl
 .have e:b=(s.heap.push { cls:=.type "range",data:=.fields #[.int lo t,.int hi u,.int 1 v] }).objs.size:=by simpa using hb
  subst e;exact I1.fpOk (O0 _) (I1.hok.fresh (O0 _))
def LM(ta:TA):TI:=λσ H R=>ta σ H λvs H1=>∃j:Int,vs=[.int j]/\-(2 ^ 62)<=j/\j<2 ^ 62/\R (jU 0 j.toNat) H1
def qY{a:Pd}{ta:TA}{p pos:Pos}(hg:Gl X "range")(hm:X.mg "range"=none)(ha:PA X [a] ta)(hs:OJ [a] X.env=[(false,eval a X.env)]:=by rfl):PI X tg (.Call (.Name "range" p) [a] [] pos) (LM ta):=by
 intro π s σ H R I h;refine Call_ (iE I hg hm boot_range (Qc (cM (ha pos π s σ H _ I h) λus s1 z9=>?_) hs rfl));obtain⟨vs,H1,I1,r1,q1⟩:=z9;obtain⟨j,e,q1,q2,q⟩:=q1;subst e;cases r1 with
 |cons r rr=>
  cases rr;obtain⟨t,rfl⟩:=r;exact call_range_1 (BI I1 (by omega) (by omega) q1 q2 (by simpa using q))
noncomputable def M8(wi:TI) (g:TG) (tb:TS):TS:=λD σ H=>wi σ H λJ H1=>∃W:Nat->Nat->St->Hp->Prop,(∃m,W 0 m σ H1)/\∀i m σ H,W i m σ H ->
 (J.stop i H/\D.nx σ H)∨(J.go i H/\∃N:St->Hp->Prop,(∀σ' H',N σ' H'->∃m',m' < m/\W (i+1) m' σ' H')/\∀x H',J.yld i H x H'->g x σ H' λσ2 H2=>tb { D with nx:=N,ct:=N,bk:=D.nx } σ2 H2)
def oM(fp:List OG)(h:OL):List (OG×Obj):=fp.filterMap λb=>(h.get? b).map λo=>(b,o)
def iC{fp:List OG}{h:OL}{b:OG}{o:Obj}(hb:b∈fp)(e:h.get? b=some o):(b,o)∈oM fp h:=S3.mpr ⟨b,hb,by rw[e];rfl⟩
def Ag{fp:List OG}{h:OL}{p:OG×Obj}(hp:p∈oM fp h):p.1∈fp/\h.get? p.1=some p.2:=by
 obtain⟨b,hb,e⟩:=S3.mp hp;cases q:h.get? b with
 |none=>rw[q]at e;cases e
 |some o=>
  rw[q]at e;have e':(b,o)=p:=PK e;subst e';exact⟨hb,q⟩
def Inv.pinned{π:List (OG×Obj)}{σ:St}{H:Hp}{s:OE}{fp:List OG}(I:Inv X π σ H s)(hf:∀b∈fp,mv X π H b)(ho:∀b∈fp,∃o,s.heap.get? b=some o/\∀v,o.data≠.cell v):Inv X (π++oM fp s.heap) σ H s :=
 I.pins_of λp hp=>(Ql.mp hp).elim (λz=>I.pin p (P0 _ z)) λz=>by
  obtain⟨hb,e⟩:=Ag z;obtain⟨f0,f1,f2,_⟩:=hf p.1 hb;obtain⟨o,e',d⟩:=ho p.1 hb;rw[e]at e';cases e';exact⟨e,f0,f1,f2,d⟩
def Inv.unpinned{π pl:List (OG×Obj)}{σ:St}{H:Hp}{s:OE}(I:Inv X (π++pl) σ H s):Inv X π σ H s:=I.pins_of λp hp=>I.pin p (P0 _ (UW _ hp))
def wG{iter:Pd}{body:List Qt}{wi:TI}{g:TG}{tb:TS}{pos:Pos}(hp:PassesOwn (OW X.prog X.w) X.A X.env X.xe)(hc:X.calm=true)(hi:PI X tg iter wi)(hg:PG X tg g)(hb:ql X body tb)
  (hs:∀x,foldedSetIterable iter X.env x=pure x:=by intro _;rfl):PS X (.For tg iter body [] pos) (M8 wi g tb):=by
 intro π s σ H D I h;refine wpAny_For (cM (hi π s σ H _ I h) λv s1 h1=>cM h1 λitv s2 h2=>?_) hs;obtain⟨it,fp,tn,J,H2,e,I2,T,st2,f2,W,⟨m0,w0⟩,turn⟩:=h2;subst e;have stat:∀{H':Hp},(∀b∈fp,H' b=none)->∀b∈fp,mv X π H' b:=λhn b hb=>⟨hn b hb,(f2 b hb).2⟩
 refine codeAny_forLoop_any (λn s'=>∃i σ' H',Inv X π σ' H' s'/\tn i s'.heap/\(∀b∈fp,H' b=none)/\W i n σ' H') ?_ m0 ⟨0,σ,H2,I2,st2,λb hb=>(f2 b hb).1,w0⟩;rintro n s3 ⟨i,σ3,H3,I3,st3,fr3,w3⟩;rcases turn i n σ3 H3 w3 with⟨stop,qn⟩|⟨go,N,hN,step⟩
 .refine wpAny_passesOwn hp (cM (T.done X rfl rfl rfl hc i π s3 σ3 H3 X.xe I3 (stat fr3) st3 stop) λr s4 ⟨hr,I4⟩=>?_)
  subst hr;exact wpAny_execs_nil ⟨σ3,H3,I4,qn⟩
 .refine wpAny_passesOwn hp (cM (T.item X rfl rfl rfl hc i π s3 σ3 H3 X.xe I3 (stat fr3) st3 go) λr s4 ⟨u,hr,h4⟩=>?_)
  subst hr;refine wpAny_passesOwn hp (cM h4 λ_ s5 ⟨x,H5,I5,r5,y5,st5,fr5⟩=>?_);have I5':=I5.pinned (stat fr5) (T.obj _ _ st5);refine wpAny_passesOwn hp (cM (hg _ s5 σ3 H5 x u _ I5' r5 (step x H5 y5)) λ_ s6 ⟨σ6,H6,I6,q6⟩=>?_);refine wpAny_passesOwn hp (cM (hb _ s6 σ6 H6 _ I6 q6) λf s7 q7=>?_);have again:∀{σ7:St}{H7:Hp},Inv X (π++oM fp s5.heap) σ7 H7 s7->N σ7 H7->∃m,m<n/\∃i σ' H',Inv X π σ' H' s7/\tn i s7.heap/\(∀b∈fp,H' b=none)/\W i m σ' H':=λ{σ7 H7} I7 n7=>by
   obtain⟨m',hm,w7⟩:=hN σ7 H7 n7;refine⟨m',hm,i+1,σ7,H7,I7.unpinned,T.keep _ _ _ st5 λb hb o e=>(I7.pin (b,o) (P0 _ (P0 _ (iC hb e)))).1,λb hb=>?_,w7⟩;obtain⟨o,e,d⟩:=T.obj _ _ st5 b hb;exact(I7.pin (b,o) (P0 _ (P0 _ (iC hb e)))).2.1
  cases f with|next|cont=>obtain⟨σ7,H7,I7,n7⟩:=q7;exact again I7 n7|brk=>obtain⟨σ7,H7,I7,q7⟩:=q7;exact⟨σ7,H7,I7.unpinned,q7⟩|ret v=>obtain⟨x7,σ7,H7,I7,r7,q7⟩:=q7;exact⟨x7,σ7,H7,I7.unpinned,r7,q7⟩
end
def C1{K:OF}{a:OG}{xs:ad}{g:TG}{tb:TS}{D:gr}{σ:St}{H:Hp}(Pv:Nat->St->Hp->Prop)(h0:Pv 0 σ H)(hl:∀i σ H,i<=xs.length->Pv i σ H->df K H a xs)
  (hs:∀i x σ H,xs[i]?=some x->Pv i σ H->g x σ H λσ2 H2=>tb { D with nx:=Pv (i+1),ct:=Pv (i+1),bk:=D.nx } σ2 H2)(hd:∀σ H,Pv xs.length σ H->D.nx σ H) :
  ∃W:Nat->Nat->St->Hp->Prop,(∃m,W 0 m σ H)/\∀i m σ H,W i m σ H ->
   ((Mx K a).stop i H/\D.nx σ H)∨((Mx K a).go i H/\∃N:St->Hp->Prop,(∀σ' H',N σ' H'->∃m',m' < m/\W (i+1) m' σ' H')/\∀x H',(Mx K a).yld i H x H'->g x σ H' λσ2 H2=>tb { D with nx:=N,ct:=N,bk:=D.nx } σ2 H2):=by
 refine⟨λi m σ H=>m=xs.length-i/\i<=xs.length/\Pv i σ H,⟨xs.length,by simp,RP _,h0⟩,?_⟩;rintro i m σ H ⟨rfl,hi,p⟩;have q:=hl i σ H hi p
 by_cases hlt:i<xs.length
 .refine .inr ⟨⟨xs,xs[i],q,by simp[hlt]⟩,Pv (i+1),λσ' H' p'=>⟨xs.length-(i+1),by omega,rfl,hlt,p'⟩,λx H' y=>?_⟩
  obtain⟨e,y⟩:=y;subst e;exact hs i x σ _ (y xs q) p
 .have e:i=xs.length:=by omega
  subst e;exact .inl ⟨⟨xs,q,O0 _⟩,hd σ H p⟩
def Ax{lo:Int}{n:Nat}{g:TG}{tb:TS}{D:gr}{σ:St}{H:Hp}(Pv:Nat->St->Hp->Prop)(h0:Pv 0 σ H)
  (hs:∀i σ H,i<n->Pv i σ H->g (.int (lo+i)) σ H λσ2 H2=>tb { D with nx:=Pv (i+1),ct:=Pv (i+1),bk:=D.nx } σ2 H2)(hd:∀σ H,Pv n σ H->D.nx σ H) :
  ∃W:Nat->Nat->St->Hp->Prop,(∃m,W 0 m σ H)/\∀i m σ H,W i m σ H ->
   ((jU lo n).stop i H/\D.nx σ H)∨((jU lo n).go i H/\∃N:St->Hp->Prop,(∀σ' H',N σ' H'->∃m',m' < m/\W (i+1) m' σ' H')/\∀x H',(jU lo n).yld i H x H'->g x σ H' λσ2 H2=>tb { D with nx:=N,ct:=N,bk:=D.nx } σ2 H2):=by
 refine⟨λi m σ H=>m=n-i/\i<=n/\Pv i σ H,⟨n,by simp,RP _,h0⟩,?_⟩;rintro i m σ H ⟨rfl,hi,p⟩
 by_cases hlt:i<n
 .refine .inr ⟨hlt,Pv (i+1),λσ' H' p'=>⟨n-(i+1),by omega,rfl,hlt,p'⟩,λx H' y=>?_⟩
  obtain⟨e,y⟩:=y;subst e y;exact hs i σ _ hlt p
 .have e:i=n:=by omega
  subst e;exact .inl ⟨O0 _,hd σ H p⟩
abbrev R2:=V->V->Hp->VK->Prop
def fN(X:Cx)(f:OB->OB->Sem OB)(r:R2):Prop :=
 ∀(π:List (OG×Obj)) (s:OE) (σ:St) (H:Hp) (x y:V) (v u:OB) (Q:VK),Inv X π σ H s->bA x v->bA y u->r x y H Q ->
  OS (OW X.prog X.w) X.A (f v u) (EP X π σ Q) X.xe s
def MJ(X:Cx)(f:OB->Sem OB)(r:V->Hp->VK->Prop):Prop :=
 ∀(π:List (OG×Obj)) (s:OE) (σ:St) (H:Hp) (x:V) (v:OB) (Q:VK),Inv X π σ H s->bA x v->r x H Q ->
  OS (OW X.prog X.w) X.A (f v) (EP X π σ Q) X.xe s
def gK(X:Cx)(f:OB)(r:ad->Hp->VK->Prop):Prop :=
 ∀(π:List (OG×Obj)) (s:OE) (σ:St) (H:Hp) (xs:ad) (us:List OB) (Q:VK),Inv X π σ H s->bq xs us->r xs H Q ->
  OS (OW X.prog X.w) X.A (call f us) (EP X π σ Q) X.xe s
def Oz(X:Cx)(r:V->Hp->(Bool->Hp->Prop)->Prop):Prop :=
 ∀(π:List (OG×Obj)) (s:OE) (σ:St) (H:Hp) (x:V) (v:OB) (Q:Bool->Hp->Prop),Inv X π σ H s->bA x v->r x H Q ->
  OS (OW X.prog X.w) X.A (truthy v) (TP X π σ Q) X.xe s
def KH(r:R2)(ta tb:TE):TE:=λσ H Q=>ta σ H λx H1=>tb σ H1 λy H2=>r x y H2 Q
def N9(r:V->Hp->VK->Prop)(ta:TE):TE:=λσ H Q=>ta σ H λx H1=>r x H1 Q
def rI(C:Int->Int->Prop)(g:Int->Int->V):R2:=λx y H Q=>∃i j,x=.int i/\y=.int j/\C i j/\Q (g i j) H
def BL(g:Int->Int->V):R2:=λx y H Q=>∃i j,x=.int i/\y=.int j/\Q (g i j) H
def rU(g:Int->V):V->Hp->VK->Prop:=λx H Q=>∃i,x=.int i/\Q (g i) H
section
variable {X:Cx}{a b c:Pd}{ta tb tc:TE}{pos:Pos}
def Kf(ha:PE X a ta)(hb:PE X b tb){π:List (OG×Obj)}{s:OE}{σ:St}{H:Hp}{R:V->V->Hp->Prop}(I:Inv X π σ H s)
  (h:ta σ H λx H1=>tb σ H1 λy H2=>R x y H2){Q:OB->OE->Prop}{f:OB->OB->Sem OB}
  (hf:∀v u s2 x y H2,Inv X π σ H2 s2->bA x v->bA y u->R x y H2->OS (OW X.prog X.w) X.A (f v u) Q X.xe s2) :
  OS (OW X.prog X.w) X.A (eval a X.env) (λv sg=>OS (OW X.prog X.w) X.A (eval b X.env) (λu si=>OS (OW X.prog X.w) X.A (f v u) Q X.xe si) X.xe sg) X.xe s:=by
 refine cM (ha π s σ H _ I h) λv s1 ⟨x,H1,I1,r1,q1⟩=>?_;refine cM (hb π s1 σ H1 _ I1 q1) λu s2 ⟨y,H2,I2,r2,q2⟩=>?_;exact hf v u s2 x y H2 I2 r1 r2 q2
def B5{op:Operator}{r:R2}(ho:fN X (binaryOp op) r)(ha:PE X a ta)(hb:PE X b tb):PE X (.BinOp a op b pos) (KH r ta tb):=by
 intro π s σ H Q I h;exact wpAny_BinOp (Kf ha hb I h λv u s2 x y H2 I2 rx ry q=>ho π s2 σ H2 x y v u Q I2 rx ry q)
def Hk{op:UnaryOp}{r:V->Hp->VK->Prop}(ho:MJ X (unaryOp op) r)(ha:PE X a ta):PE X (.UnaryOp op a pos) (N9 r ta):=by
 intro π s σ H Q I h;exact UnaryOp_ (cM (ha π s σ H _ I h) λv s1 ⟨x,H1,I1,r1,q1⟩=>ho π s1 σ H1 x v Q I1 r1 q1)
def Lq{f:OB->OB->Sem OB}{C:Int->Int->Prop}{g:Int->Int->Int}
  (rule:∀(i j:Int) (t u:Tok) (s:OE) (Q:OB->OE->Prop) (E:OB->OE->Prop),C i j->Q (.int (g i j) s.toks) { s with toks:=s.toks+1 }->OS (OW X.prog X.w) X.A (f (.int i t) (.int j u)) Q E s) :
  fN X f (rI C λi j=>.int (g i j)):=by
 intro π s σ H x y v u Q I rx ry h;obtain⟨i,j,rfl,rfl,hc,q⟩:=h;obtain⟨t,rfl⟩:=rx;obtain⟨t',rfl⟩:=ry;exact rule i j t t' s _ _ hc ⟨.int (g i j),H,I.tok _,⟨_,rfl⟩,q⟩
def IY{f:OB->OB->Sem OB}{g:Int->Int->Int}
  (rule:∀(i j:Int) (t u:Tok) (s:OE) (Q:OB->OE->Prop) (E:OB->OE->Prop),Q (.int (g i j) s.toks) { s with toks:=s.toks+1 }->OS (OW X.prog X.w) X.A (f (.int i t) (.int j u)) Q E s) :
  fN X f (BL λi j=>.int (g i j)):=by
 intro π s σ H x y v u Q I rx ry h;obtain⟨i,j,rfl,rfl,q⟩:=h;obtain⟨t,rfl⟩:=rx;obtain⟨t',rfl⟩:=ry;exact rule i j t t' s _ _ ⟨.int (g i j),H,I.tok _,⟨_,rfl⟩,q⟩
def Fj{f:OB->OB->Sem OB}{g:Int->Int->Bool}
  (rule:∀(i j:Int) (t u:Tok) (s:OE) (Q:OB->OE->Prop) (E:OB->OE->Prop),Q (.bool (g i j)) s->OS (OW X.prog X.w) X.A (f (.int i t) (.int j u)) Q E s) :
  fN X f (BL λi j=>.bl (g i j)):=by
 intro π s σ H x y v u Q I rx ry h;obtain⟨i,j,rfl,rfl,q⟩:=h;obtain⟨t,rfl⟩:=rx;obtain⟨t',rfl⟩:=ry;exact rule i j t t' s _ _ ⟨.bl (g i j),H,I,rfl,q⟩
def NQ(i j:Int):Prop:=0<=j/\j<=1000000/\i.natAbs<2 ^ 64
def MB(i j:Int):Prop:=(-(2 ^ 64)<i/\i<2 ^ 64)∨(-(2 ^ 64)<j/\j<2 ^ 64)
def MB.ok{i j:Int}(h:MB i j):IntMulOk i j:=by
 rcases h with⟨h1,h2⟩|⟨h1,h2⟩
 .exact .of_left (intBits_le_64 h1 h2)
 .exact .of_right (intBits_le_64 h1 h2)
def wg(k:Nat):(0:Int)<=2 ^ k:=by
 rw[two_pow_cast];exact S5 _
def IW:fN X (binaryOp .Add) (BL λi j=>.int (i+j)):=IY λ_ _ _ _ _ _ _ q=>add_int q
def IP:fN X (binaryOp .Sub) (BL λi j=>.int (i-j)):=IY λ_ _ _ _ _ _ _ q=>sub_int q
def Fg:fN X (binaryOp .Mod) (rI (λ_ j=>j≠0) λi j=>.int (i.fmod j)):=Lq λ_ _ _ _ _ _ _ hc q=>mod_int' hc q
def IT:fN X (binaryOp .Pow) (rI NQ λi j=>.int (i ^ j.toNat)):=Lq λ_ _ _ _ _ _ _ hc q=>pow_int_small hc.1 hc.2.1 hc.2.2 q
def IQ:fN X (binaryOp .RShift) (rI (λ_ j=>0<=j) λi j=>.int (i / 2 ^ j.toNat)):=Lq λi j _ _ _ _ _ hc q=>
 rshift_int hc (by rw[T9 i (wg _)];exact q)
def IV:fN X (binaryOp .BitAnd) (BL λi j=>.int (Sj i j)):=IY λ_ _ _ _ _ _ _ q=>and_int q
def N6{f:OB->Sem OB}{g:Int->Int}
  (rule:∀(i:Int) (t:Tok) (s:OE) (Q:OB->OE->Prop) (E:OB->OE->Prop),Q (.int (g i) s.toks) { s with toks:=s.toks+1 }->OS (OW X.prog X.w) X.A (f (.int i t)) Q E s) :
  MJ X f (rU λi=>.int (g i)):=by
 intro π s σ H x v Q I rx h;obtain⟨i,rfl,q⟩:=h;obtain⟨t,rfl⟩:=rx;exact rule i t s _ _ ⟨.int (g i),H,I.tok _,⟨_,rfl⟩,q⟩
def Bj:MJ X (unaryOp .USub) (rU λi=>.int (-i)):=N6 λ_ _ _ _ _ q=>neg_int q
end
section
variable {X:Cx}{a b c:Pd}{ta tb tc:TE}{pos:Pos}
def xi{π:List (OG×Obj)}{σ:St}{H:Hp}{s:OE}{Q:VK}{k k':Bool}(I:Inv X π σ H s)(q:Q (.bl k) H)(e:k=k'):EP X π σ Q (.bool k') s:=by
 subst e;exact⟨.bl k,H,I,rfl,q⟩
def Ho:fN X (PX .Lt) (BL λi j=>.bl (decide (i<j))):=Fj λ_ _ _ _ _ _ _ q=>lt_int q
def yB:fN X (PX .LtE) (BL λi j=>.bl (decide (i<=j))):=Fj λ_ _ _ _ _ _ _ q=>le_int q
def yD:fN X (PX .Gt) (BL λi j=>.bl (decide (j<i))):=Fj λ_ _ _ _ _ _ _ q=>gt_int q
def Cg:fN X (PX .GtE) (BL λi j=>.bl (decide (j<=i))):=Fj λ_ _ _ _ _ _ _ q=>ge_int q
def Ad:fN X (PX .In) (λx y H Q=>∃i j,x=.str i/\y=.str j/\Q (.bl (!(SG j i 0 j.length 1).isEmpty)) H):=by
 intro π s σ H x y v u Q I rx ry h;obtain⟨i,j,rfl,rfl,q⟩:=h;obtain⟨t,rfl⟩:=rx;obtain⟨t',rfl⟩:=ry;exact in_str (xi I q rfl)
def Cf:fN X (PX .Is) (λx y H Q=>y=.non/\Q (.bl (decide (x=.non))) H):=by
 intro π s σ H x y v u Q I rx ry h;obtain⟨rfl,q⟩:=h;cases ry;refine is_none_gen (xi I q ?_);cases x<;>first
  |(cases rx;rfl)
  |(obtain⟨t,rfl⟩:=rx;rfl)
def Fe:fN X (PX .IsNot) (λx y H Q=>y=.non/\Q (.bl (!decide (x=.non))) H):=by
 intro π s σ H x y v u Q I rx ry h;obtain⟨rfl,q⟩:=h;cases ry;refine isnot_none_gen (xi I q ?_);cases x<;>first
  |(cases rx;rfl)
  |(obtain⟨t,rfl⟩:=rx;rfl)
def fN.or{f:OB->OB->Sem OB}{r r':R2}(h:fN X f r)(h':fN X f r'):fN X f (λx y H Q=>r x y H Q∨r' x y H Q):=by
 intro π s σ H x y v u Q I rx ry q;rcases q with q|q
 .exact h π s σ H x y v u Q I rx ry q
 .exact h' π s σ H x y v u Q I rx ry q
def Fd{op:CmpOp}{r:R2}(ho:fN X (PX op) r)(ha:PE X a ta)(hb:PE X b tb)(hm:behindInMarks op b=false):PE X (.Compare a [op] [b] pos) (KH r ta tb):=by
 intro π s σ H Q I h;exact wpAny_Compare1 (Kf ha hb I h λv u s2 x y H2 I2 rx ry q=>ho π s2 σ H2 x y v u Q I2 rx ry q) hm
def G8(t:TE):TT:=λσ H Q=>t σ H λx H'=>∃k,x=.bl k/\Q k H'
def EW{op:CmpOp}{r:R2}(ho:fN X (PX op) r)(ha:PE X a ta)(hb:PE X b tb)(hm:behindInMarks op b=false):PT X (.Compare a [op] [b] pos) (G8 (KH r ta tb)):=by
 intro π s σ H Q I h;refine wpAny_isTrue_Compare1 (cM (ha π s σ H _ I h) λv s1 ⟨x,H1,I1,r1,q1⟩=>cM (hb π s1 σ H1 _ I1 q1) λu s2 ⟨y,H2,I2,r2,q2⟩ =>
  cM (ho π s2 σ H2 x y v u _ I2 r1 r2 q2) λc s3 ⟨z,H3,I3,r3,k,e,q3⟩=>?_) hm
 subst e;cases r3;exact QK ⟨H3,I3,q3⟩
def Bv(r r':R2)(ta tb tc:TE):TE:=λσ H Q=>ta σ H λx H1=>tb σ H1 λy H2=>r x y H2 λz H3=>∃k,z=.bl k /\
 (if k=true then tc σ H3 λw' H4=>r' y w' H4 Q else Q (.bl false) H3)
def BR{op op':CmpOp}{r r':R2}(ho:fN X (PX op) r)(ho':fN X (PX op') r')(ha:PE X a ta)(hb:PE X b tb)(hc:PE X c tc)
  (hm:lastMarks [op,op'] [b,c]=false:=by with_unfolding_all rfl):PT X (.Compare a [op,op'] [b,c] pos) (G8 (Bv r r' ta tb tc)):=by
 intro π s σ H Q I h;refine isTrue_chain (cM (ha π s σ H _ I h) λv s1 ⟨x,H1,I1,r1,q1⟩=>test_link (cM (hb π s1 σ H1 _ I1 q1) λu s2 ⟨y,H2,I2,r2,q2⟩ =>
  cM (ho π s2 σ H2 x y v u _ I2 r1 r2 q2) λd s3 ⟨z,H3,I3,r3,k,e,q3⟩=>?_)) hm
 subst e;cases r3;refine QK ?_;cases k with
 |false=>
  obtain⟨k',e',q'⟩:=q3;cases e';exact ite_ff ⟨H3,I3,q'⟩
 |true=>
  refine ite_tt (test_last (cM (hc π s3 σ H3 _ I3 q3) λw' s4 ⟨z',H4,I4,r4,q4⟩=>cM (ho' π s4 σ H4 y z' u w' _ I4 r2 r4 q4) λd' s5 z9=>?_));obtain⟨z2,H5,I5,r5,k2,e2,q5⟩:=z9;subst e2;cases r5;exact QK ⟨H5,I5,q5⟩
noncomputable def Oy(K:OF) (x:V) (H:Hp) (k:Bool):Prop :=
 match x with
 |.non=>k=false
 |.bl b=>k=b
 |.int i=>k=(i != 0)
 |.str y=>y.length<=sizeLine/\k=((y.length:Int) != 0)
 |.byt y=>y.size<=sizeLine/\k=((y.size:Int) != 0)
 |.ref p=>(∃xs,df K H p xs/\k=!xs.isEmpty)∨(∃xs,gT K H p xs/\k=!xs.isEmpty)∨∃kvs,H p=some (.dK kvs)/\k=!kvs.isEmpty
 |_=>False
def Jm{κ:Type}{kvs:List (κ×V)}{vs:List (κ×OB)}(r:KV kvs vs):(!vs.isEmpty)=!kvs.isEmpty:=by
 cases r<;>rfl
def Jl{xs:ad}{its:List OB}(r:bq xs its):(!its.toArray.isEmpty)=!xs.isEmpty:=by
 cases r<;>simp
def sV:(sizeLine:Nat)<2 ^ 63:=by rw[sizeLine_eq];decide
def wN:fN X (binaryOp .Add) (λx y H Q=>∃i j,x=.str i/\y=.str j/\i.length+j.length<=sizeLine/\Q (.str (i++j)) H):=by
 intro π s σ H x y v u Q I rx ry h;obtain⟨i,j,rfl,rfl,hz,q⟩:=h;obtain⟨t,rfl⟩:=rx;obtain⟨t',rfl⟩:=ry;exact add_str (λt' tk=>⟨.str (i++j),H,I.tok _,⟨_,rfl⟩,q⟩) hz
def mz{x:V}{us:List OB}(r:bq [x] us):∃u,us=[u]/\bA x u:=by
 cases r with|cons r1 r2=>cases r2;exact⟨_,rfl,r1⟩
def Kx{x y:V}{us:List OB}(r:bq [x,y] us):∃u w',us=[u,w']/\bA x u/\bA y w':=by
 cases r with
 |cons r1 r2=>
  cases r2 with|cons r3 r4=>cases r4;exact⟨_,_,rfl,r1,r3⟩
def jx:gK X (.builtin "abs") (λxs H Q=>∃i,xs=[.int i]/\Q (.int (if i<0 then -i else i)) H):=by
 intro π s σ H xs us Q I r h;obtain⟨i,rfl,q⟩:=h;obtain⟨u,rfl,t,rfl⟩:=mz r;exact call_abs_int λu tk=>⟨.int (if i<0 then -i else i),H,I.tok _,⟨_,rfl⟩,q⟩
def AR(hc:X.calm=true):gK X (.builtin "min") (λxs H Q=>∃i j,xs=[.int i,.int j]/\Q (.int (if j<i then j else i)) H):=by
 intro π s σ H xs us Q I r h;obtain⟨i,j,rfl,q⟩:=h;obtain⟨u,w',rfl,⟨t,rfl⟩,⟨t',rfl⟩⟩:=Kx r;refine min_two_ints (I.ok.hd hc) λh' tk k=>⟨_,H,I.kept k,?_,q⟩
 by_cases hj:j<i
 .rw[if_pos hj,if_pos hj];exact⟨_,rfl⟩
 .rw[if_neg hj,if_neg hj];exact⟨_,rfl⟩
def AS:gK X (.type "int") (λxs H Q=>(∃i,xs=[.int i]/\Q (.int i) H)∨∃k,xs=[.bl k]/\Q (.int (if k then 1 else 0)) H):=by
 intro π s σ H xs us Q I r h;rcases h with⟨i,rfl,q⟩|⟨k,rfl,q⟩
 .obtain⟨u,rfl,t,rfl⟩:=mz r
  exact call_int_int ⟨.int i,H,I,⟨_,rfl⟩,q⟩
 .obtain⟨u,rfl,r1⟩:=mz r
  cases r1;exact call_int_bool ⟨.int (if k then 1 else 0),H,I.tok _,⟨_,rfl⟩,q⟩
def Mw(K:OF)(x:V)(H:Hp)(n:Nat):Prop :=
 match x with
 |.str y=>y.length<=sizeLine/\n=y.length
 |.byt y=>y.size<=sizeLine/\n=y.size
 |.ref p=>(∃xs,df K H p xs/\n=xs.length)∨∃xs,gT K H p xs/\n=xs.length
 |_=>False
def bE:gK X (.builtin "len") (λxs H Q=>∃x n,xs=[x]/\Mw X.K x H n/\Q (.int n) H):=by
 intro π s σ H xs us Q I r h;obtain⟨x,n,rfl,e,q⟩:=h;obtain⟨u,rfl,rx⟩:=mz r;have hl:=sV;have hs:sizeLine=16777216:=sizeLine_eq;cases x with
 |str y=>
  obtain⟨t,rfl⟩:=rx;obtain⟨hy,e'⟩:y.length<=sizeLine/\n=y.length:=e;subst e';exact len_str (by omega) ⟨.int _,H,I.tok _,⟨_,rfl⟩,q⟩
 |byt y=>
  obtain⟨t,rfl⟩:=rx;obtain⟨hy,e'⟩:y.size<=sizeLine/\n=y.size:=e;subst e';exact W.len_bytes (by omega) ⟨.int _,H,I.tok _,⟨_,rfl⟩,q⟩
 |ref p=>
  cases rx;have e':(∃xs,df X.K H p xs/\n=xs.length)∨∃xs,gT X.K H p xs/\n=xs.length:=e;rcases e' with⟨xs,hx,e'⟩|⟨xs,hx,e'⟩
  .subst e'
   obtain⟨its,r',pl,hz⟩:=I.list hx;have hlen:=r'.length;exact Calls.call_len_list pl.isList (by simp only[O3];omega) ⟨.int xs.length,H,I.tok _,⟨_,by simp only[O3];rw[hlen]⟩,q⟩
  .subst e'
   obtain⟨its,r',pl,hz⟩:=I.tuple hx;have hlen:=r'.length;exact len_tuple pl (by simp only[O3];omega) ⟨.int xs.length,H,I.tok _,⟨_,by simp only[O3];rw[hlen]⟩,q⟩
 |_=>exact(show False from e).elim
end
structure Ki (h:OL) (x dx C:OG) (mA:OO->Option OB):Prop where
 obj:h.get? x=some (W.instObj C dx)
 ns:h.Ns1 dx mA
 ne:dx≠x
def rg{h:OL}{dx:OG}{mA:OO->Option OB}(n:h.Ns1 dx mA):∃od,h.get? dx=some od/\∀name,W.lookIn name od=some (mA name):=by
 obtain⟨o,es,ep,ho,hd,hk,_,hm⟩:=n;refine⟨o,ho,λname=>?_⟩;have e:=hm name;unfold nsFind findBy at e;rw[←Array.find?_toList]at e;unfold W.lookIn;rw[hd];dsimp only;split
 .rename_i y q
  rw[q]at e;exact congrArg some e
 .rename_i q
  rw[q]at e;have a:es.toList.any (·.refKey)=false:=by
   rw[List.any_eq_false];intro y hy;obtain⟨z,t,hkey⟩:=hk y (Array.mem_toList_iff.mp hy);simp[DictEntry.refKey,hkey]
  have a':¬es.toList.any (·.refKey)=true:=by rw[a];exact Qj
  rw[if_neg a'];exact congrArg some e
def Ki.look{h:OL}{x dx C:OG}{mA:OO->Option OB}(I:Ki h x dx C mA):∃od,UQ h x (W.instObj C dx) C (some od)/\∀name,W.lookIn name od=some (mA name) :=
 let ⟨od,ho,hl⟩:=rg I.ns
 ⟨od,⟨I.obj,rfl,rfl,ho⟩,hl⟩
def iY(f:OO)(v:V):List (OO×V)->List (OO×V)
 |[]=>[(f,v)]
 |(g,x)::r=>if g=f then(g,v)::r else(g,x)::iY f v r
theorem mK(f g:OO)(v:V):∀fs:List (OO×V),(iY f v fs).lookup g=if g=f then some v else fs.lookup g
 |[]=>by
  show R9 g [(f,v)]=_
  by_cases h:g=f
  .have hb:(g==f)=true:=beq_iff_eq.mpr h
   simp only[R9,hb,if_pos h]
  .have hb:(g==f)=false:=beq_eq_false_iff_ne.mpr h
   simp only[R9,hb,if_neg h]
 |(k,x)::r=>by
  have ih:=mK f g v r;rw[show iY f v ((k,x)::r)=(if k=f then(k,v)::r else(k,x)::iY f v r) from rfl]
  by_cases hk:k=f
  .rw[if_pos hk]
   by_cases h:g=k
   .have hb:(g==k)=true:=beq_iff_eq.mpr h
    simp only[R9,hb,if_pos (h.trans hk)]
   .have hb:(g==k)=false:=beq_eq_false_iff_ne.mpr h
    simp only[R9,hb,if_neg (λe:g=f=>h (e.trans hk.symm))]
  .rw[if_neg hk]
   by_cases h:g=k
   .have hb:(g==k)=true:=beq_iff_eq.mpr h
    simp only[R9,hb,if_neg (λe:g=f=>hk (h.symm.trans e))]
   .have hb:(g==k)=false:=beq_eq_false_iff_ne.mpr h
    simp only[R9,hb];exact ih
theorem lZ(f:OO)(v:V):∀fs:List (OO×V),f∈(iY f v fs).map (·.1)/\∀g,g∈fs.map (·.1)->g∈(iY f v fs).map (·.1)
 |[]=>⟨by simp[iY],λg h=>by simp at h⟩
 |(k,x)::r=>by
  obtain⟨i1,i2⟩:=lZ f v r;rw[show iY f v ((k,x)::r)=(if k=f then(k,v)::r else(k,x)::iY f v r) from rfl]
  by_cases hk:k=f
  .rw[if_pos hk]
   subst hk;exact⟨by simp,λg h=>by simpa using h⟩
  .rw[if_neg hk]
   refine⟨?_,λg h=>?_⟩
   .rw[OY]
    exact OZ _ i1
   .rw[OY]at h ⊢
    rcases OU.mp h with e|e
    .exact OU.mpr (.inl e)
    .exact OZ _ (i2 g e)
def mn.some_of{v:V}{o:Option OB}(r:mn (some v) o):∃u,o=some u/\bA v u:=by
 cases o with|none=>exact(show False from r).elim|some u=>exact⟨u,rfl,r⟩
section
variable {P:O5}{w:Pt}{H H':Hp}{h h':OL}{a C dx:OG}{fs fs':List (OO×V)}
def yQ(hok:fv P w H h)(e:H a=some (.ins C dx fs)):∃mA,Ki h a dx C mA/\(∀f,mn (fs.lookup f) (mA f))/\Ru mA (fs.map (·.1))/\fs.length<=1000/\H dx=some (.own a):=by
 obtain⟨d,z,ne,ob,mA,n,r,q⟩:=(show bB P w H h a (.ins C dx fs) from hok a _ e)
 exact⟨mA,⟨ob,n,ne⟩,r,q,z,d⟩
end
structure MQ (K:OF) (C:OG):Prop where
 pg:W.plainGet K C Str.empty=true
 hd:TJ K C=true
 po:W.plainOver K C=true
 sa:Rn K (.ref C) "__setattr__"=some (some (.builtin "object.__setattr__"))
def MQ.get{K:OF}{C:OG}(c:MQ K C)(f:OO):W.plainGet K C f=true:=c.pg
def mq(K:OF)(C:OG)(f:OO):Prop:=Rn K (.ref C) f=some none
section
variable {X:Cx}{π:List (OG×Obj)}{σ:St}{H:Hp}{s:OE}{A:Pu}{E:OB->OE->Prop}{Q:OB->OE->Prop}{c:OB}{b:Bool}
inductive nA (K:OF) (H:Hp):V->OB->Prop where
 |non:nA K H .non (.type "NoneType")
 |bl (x:Bool):nA K H (.bl x) (.type "bool")
 |int (i:Int):nA K H (.int i) (.type "int")
 |str (x:OO):nA K H (.str x) (.type "str")
 |flt (x:UInt64):nA K H (.flt x) (.type "float")
 |lst {a:OG}{xs:ad}(e:H a=some (.lst xs)):nA K H (.ref a) (.type "list")
 |frz {a:OG}{o:Obj}{xs:ad}(e:H a=some (.frz o (.lst xs))):nA K H (.ref a) (.type "list")
 |tup {a:OG}{xs:ad}(e:H a=some (.tup xs)):nA K H (.ref a) (.type "tuple")
 |dK {a:OG}{kvs:List (Key×V)}(e:H a=some (.dK kvs)):nA K H (.ref a) (.type "dict")
 |dT {a:OG}{kvs:List (List Key×V)}(e:H a=some (.dT kvs)):nA K H (.ref a) (.type "dict")
 |ins {a C dx:OG}{fs:List (OO×V)}(e:H a=some (.ins C dx fs)) (cl:MQ K C) (ha:Rn K (.ref C) "__class__"=some (some (.builtin "object.__class__")))
   (hn:TF K (.builtin "object.__class__") "__get__"=some (some (.builtin "getset_descriptor.__get__"))) (htk:W.takesIn K (.builtin "object.__class__")=some true)
   (hm:W.mroIn K C (.type "object")=some true):nA K H (.ref a) (.ref C)
def ie{x:V}{u t:OB}(I:Inv X π σ H s)(rx:bA x u)(ty:nA X.K H x t)(e:W.kitOne X.K t c=some b)(h:∀tk,Q (.bool b) { s with toks:=tk }) :
  OS (OW X.prog X.w) A (call (.builtin "isinstance") [u,c]) Q E s:=by
 cases ty with
 |non=>cases (show u=PZ from rx);exact Qz W.kitx_none I.kIn Qa e (λz=>nomatch z) h|bl y=>cases (show u=P5 y from rx);exact Qz W.kitx_bool I.kIn Qa e (λz=>nomatch z) h|int i=>obtain⟨t,q⟩:=(show ∃t,u=QF i t from rx);cases q;exact Qz W.kitx_int I.kIn Qa e (λz=>nomatch z) h|str y=>obtain⟨t,q⟩:=(show ∃t,u=QE y t from rx);cases q;exact Qz W.kitx_str I.kIn Qa e (λz=>nomatch z) h|flt y=>obtain⟨t,q⟩:=(show ∃t,u=Value.float y t from rx);cases q;exact Qz W.kitx_float I.kIn Qa e (λz=>nomatch z) h
 |@lst a xs ea=>
  cases (show u=Ph a from rx);obtain⟨_,_,n,_,h1⟩:=(show bB X.prog X.w H s.heap a (.lst xs) from I.hok a _ ea)
  exact Qz TH I.kIn ⟨_,h1,rfl⟩ e (λz=>nomatch z) h
 |@frz a ob xs ea=>
  cases (show u=Ph a from rx);obtain⟨_,_,_,n,_,h1⟩:=(show bB X.prog X.w H s.heap a (.frz ob (.lst xs)) from I.hok a _ ea)
  exact Qz TH I.kIn ⟨_,h1,rfl⟩ e (λz=>nomatch z) h
 |@tup a xs ea=>
  cases (show u=Ph a from rx);obtain⟨_,_,_,p⟩:=(show bB X.prog X.w H s.heap a (.tup xs) from I.hok a _ ea)
  obtain⟨o,h1,h2,_⟩:=p;exact Qz Ut I.kIn ⟨o,h1,h2⟩ e (λz=>nomatch z) h
 |@dK a kvs ea=>
  cases (show u=Ph a from rx);obtain⟨_,_,vs,_,p⟩:=(show bB X.prog X.w H s.heap a (.dK kvs) from I.hok a _ ea)
  obtain⟨o,es,ep,h1,h2,_⟩:=p;exact Qz SK I.kIn ⟨o,h1,h2.1⟩ e (λz=>nomatch z) h
 |@dT a kvs ea=>
  cases (show u=Ph a from rx);obtain⟨_,_,xs,_,o,es,ep,h1,h2,_⟩:=(show bB X.prog X.w H s.heap a (.dT kvs) from I.hok a _ ea)
  exact Qz SK I.kIn ⟨o,h1,h2.1⟩ e (λz=>nomatch z) h
 |@ins a C dx fs ea cl ha hn htk hm=>
  cases (show u=Ph a from rx);obtain⟨mA,O,_⟩:=yQ I.hok ea;obtain⟨od,J,_⟩:=O.look;exact Qz (W.kitx_own (cl.get _) cl.hd ha hn htk hm) I.kIn J e (λz=>nomatch z) h
end
structure c5 (k:Nat) (A:Pu):Prop where
 hd:A.handled=none
 dp:A.depth+3*k+5<recursionLimit
 un:A.units+16*k+200<QU
 gd:A.guards=some []
def c5.mono{j k:Nat}{A:Pu}(r:c5 k A)(h:j<=k):c5 j A:=⟨r.hd,by have:=r.dp;omega,by have:=r.un;omega,r.gd⟩
def c5.deeper{k:Nat}{A:Pu}(r:c5 (k+1) A)(env:Env):c5 k (A.deeper env) :=
 ⟨r.hd,by have:=r.dp;show A.depth+1+3*k+5<_;omega,by have:=r.un;show A.units+3+16*k+200<_;omega,r.gd⟩
def wW{A:Pu}{C:OG}{us:List OB}{kw:List (OO×OB)}:(A.under (.builtin "type.__call__" ⟨.ref C::us,kw⟩)).depth=A.depth+1:=by
 first|rfl|simp[Tr,Code.weight,Code.isCreation,Code.isGuard,Code.isCaller,Code.frames,UG,guardIds]
def wV{A:Pu}{C:OG}{us:List OB}{kw:List (OO×OB)}:(A.under (.builtin "type.__call__" ⟨.ref C::us,kw⟩)).units=A.units+1:=by
 first|rfl|simp[Tr,Code.cUnits,Code.frames,UG]
def c5.make{k:Nat}{A:Pu}(r:c5 (k+1) A)(C:OG)(us:List OB)(kw:List (OO×OB)):c5 k (A.under (.builtin "type.__call__" ⟨.ref C::us,kw⟩)) :=
 ⟨r.hd,by have:=r.dp;rw[wW];omega,by have:=r.un;rw[wV];omega,by have:=r.gd;simp[Tr,Code.guards,Code.isGuard,guardIds,pushGuards,this]⟩
def c5.depth{k:Nat}{A:Pu}(r:c5 k A):A.depth<recursionLimit:=by have:=r.dp;omega
def c5.units{k:Nat}{A:Pu}(r:c5 k A):A.units+64<QU:=by have:=r.un;omega
def M5:TA:=λ_ H Q=>Q [] H
def KP(ta:TE)(tr:TA):TA:=λσ H Q=>ta σ H λx H1=>tr σ H1 λxs H2=>Q (x::xs) H2
section
variable {X:Cx}{e:Pd}{es:List Pd}{te:TE}{t:TA}{pos:Pos}
def eF:PA X [] M5:=λ_ _ _ _ H Q I h=>Calls.spliced_nil ⟨[],H,I,.nil,h⟩
def cw(ha:PE X e te)(hr:PA X es t)(hs:OJ (e::es) X.env=(false,eval e X.env)::OJ es X.env:=by rfl):PA X (e::es) (KP te t):=by
 intro pos π s σ H Q I h;rw[hs];show OS _ _ (spliced ((false,eval e X.env)::PN pos (OJ es X.env))) _ _ s;refine Calls.spliced_cons (cM (ha π s σ H _ I h) λu s1 ⟨x,H1,I1,r1,q1⟩=>?_);exact cM (hr pos π s1 σ H1 _ I1 q1) λus s2 ⟨xs,H2,I2,r2,q2⟩=>⟨x::xs,H2,I2,.cons r1 r2,q2⟩
def MV(t:TA):TE:=λσ H Q=>t σ H λxs H1=>xs.length<=sizeLine/\∀p,H1 p=none->Q (.ref p) (upd H1 p (.tup xs))
def M6(t:TA):TE:=λσ H Q=>t σ H λxs H1=>xs.length<=sizeLine/\∀p,H1 p=none->Q (.ref p) (upd H1 p (.lst xs))
def B3{x1}(h:PA X es t):PE X (.Tuple es x1 pos) (MV t):=by
 intro π s σ H Q I hq;refine wpAny_Tuple_spliced (cM (h pos π s σ H _ I hq) λus s1 ⟨xs,H1,I1,r,z,q⟩=>⟨by rw[←r.length];exact z,?_⟩);have hf:H1 s1.heap.objs.size=none:=I1.hok.fresh (O0 _);refine⟨.ref s1.heap.objs.size,upd H1 s1.heap.objs.size (.tup xs),I1.laid (t':=s1.toks) (λb u e=>OD _ e) (O0 _) ?_,rfl,q _ hf⟩;exact⟨z,us,r,⟨_,Pf _ rfl,rfl,_,rfl⟩⟩
def B7(h:PA X es t):PE X (.List es pos) (M6 t):=by
 intro π s σ H Q I hq;refine wpAny_List_spliced (cM (h pos π s σ H _ I hq) λus s1 ⟨xs,H1,I1,r,z,q⟩=>⟨by rw[←r.length];exact z,?_⟩);have hf:H1 s1.heap.objs.size=none:=I1.hok.fresh (O0 _);refine⟨.ref s1.heap.objs.size,upd H1 s1.heap.objs.size (.lst xs),I1.laid (t':=s1.toks) (λb u e=>OD _ e) (O0 _) ?_,rfl,q _ hf⟩;exact⟨z,us,0,r,Pf _ rfl⟩
end
abbrev Sp:=ad->Hp->VK->XK->Prop
abbrev qp:=List Env->Hp->OE->XK->OB->OE->Prop
structure vZ (P:O5) (w:Pt) (K:OF) (mg:OO->Option OB) (base:OL) (A:Pu) (outer:List Env) (s:OE) (H:Hp):Prop where
 frames:A.frames=some outer
 mod:Mod K mg base
 bs:∀b o,base.get? b=some o->s.heap.get? b=some o/\H b=none
 bsz:base.objs.size<=s.heap.objs.size
 funs:s.heap.FunFrames base outer
 frf:∀b∈fH outer,H b=none
 hok:fv P w H s.heap
 bare:AllBare s.gens
def CE(outer:List Env)(P:O5)(w:Pt)(H:Hp)(s:OE)(Q:VK)(u:OB)(s':OE):Prop :=
 ∃v H',s'.os=s.os/\AllBare s'.gens/\Un (fH outer) [] H H' s.heap s'.heap/\fv P w H' s'.heap/\bA v u/\Q v H'
def CR(CX:qp)(outer:List Env)(P:O5)(w:Pt)(H:Hp)(s:OE)(Q:VK)(E:XK)(r:Tv)(s':OE):Prop :=
 match r with
 |.ok (.ret u)=>CE outer P w H s Q u s'
 |.ok _=>False
 |.error e=>CX outer H s E e s'
structure FnOk (P:O5) (w:Pt) (K:OF) (mg:OO->Option OB) (base:OL) (CX:qp) (k:Nat) (f:OG) (fd:Pz) (ps:bv) (sp:Sp):Prop where
 len:∀vs H Q E,sp vs H Q E->vs.length=ps.length
 run:∀(A:Pu) (outer:List Env) (s:OE) (H:Hp) (args:Args) (us:List OB) (vs:ad) (Q:VK) (E:XK),c5 k A->vZ P w K mg base A outer s H->BindsTo s fd args (ps.zip us)->bq vs us->sp vs H Q E ->
  Rt (OW P w) A (.call (.ref f) args) (CR CX outer P w H s Q E) s
def FnOk.mono{P:O5}{w:Pt}{K:OF}{mg:OO->Option OB}{base:OL}{CX:qp}{j k:Nat}{f:OG}{fd:Pz}{ps:bv}{sp:Sp}(F:FnOk P w K mg base CX j f fd ps sp)(h:j<=k) :
  FnOk P w K mg base CX k f fd ps sp:=⟨F.len,λA outer s H args us vs Q E hr=>F.run A outer s H args us vs Q E (hr.mono h)⟩
def vZ.make{P:O5}{w:Pt}{K:OF}{mg:OO->Option OB}{base:OL}{A:Pu}{outer:List Env}{s:OE}{H:Hp}(e:vZ P w K mg base A outer s H)(C:OG)(us:List OB)(kw:List (OO×OB)) :
  vZ P w K mg base (A.under (.builtin "type.__call__" ⟨.ref C::us,kw⟩)) outer s H:=⟨by first|exact e.frames|(simpa[Tr,Code.envs,UG,pushEnvs] using e.frames),e.mod,e.bs,e.bsz,e.funs,e.frf,e.hok,e.bare⟩
section
variable {X:Cx}{π:List (OG×Obj)}{σ:St}{H:Hp}{s s':OE}
def Inv.env0(I:Inv X π σ H s):vZ X.prog X.w X.K X.mg X.base X.A X.stack s H :=
 ⟨I.ok.frames,I.ok.mod,I.bs,Pe I.ok.bsz I.sz,I.stack,I.stkFree,I.hok,I.bare⟩
def Inv.after{Q:VK}{u:OB}(I:Inv X π σ H s)(h:CE X.stack X.prog X.w H s Q u s'):EP X π σ Q u s':=by
 obtain⟨v,H',os,bare,un,hok,r,q⟩:=h;obtain⟨hh,g,d,t,os'⟩:=s';obtain rfl:os'=s.os:=os;exact⟨v,H',I.call (h':=hh) (g':=g) (d':=d) (t':=t) (ch:=[]) un hok bare (λb z=>absurd z (by simp)),r,q⟩
end
def KQ(sp:Sp)(dvs:ad)(E:XK)(t:TA):TE:=λσ H Q=>t σ H λvs H1=>sp (vs++dvs) H1 Q E
def iX(K:OF)(fd:Pz)(ps:bv)(ds:List OB):Prop :=
 ∀(s:OE) (us:List OB),K.In s.heap->(us++ds).length=ps.length->BindsTo s fd ⟨us,[]⟩ (ps.zip (us++ds))
def iX.all{K:OF}{fd:Pz}{ps:bv}(h:∀us:List OB,us.length=ps.length->bindArgs fd ⟨us,[]⟩=pure (ps.zip us)):iX K fd ps []:=λs us _ hl=>by
 rw[QM]at hl ⊢;exact .of_eq (h us hl)
def jD(CX:qp)(X:Cx)(E:XK):Prop:=∀(π:List (OG×Obj)) (σ:St) (H:Hp) (s:OE) (e:OB) (s':OE),Inv X π σ H s->CX X.stack H s E e s'->X.xe e s'
section
variable {X:Cx}{CX:qp}{k:Nat}{f C:OG}{fd:Pz}{ps:bv}{sp:Sp}{dvs:ad}{ds:List OB}{E:XK}{x m:OO}{p pos apos:Pos}{e o:Pd}{es:List Pd}{ta:TE}{t:TA}
def Il{π:List (OG×Obj)}{σ:St}{H:Hp}{s:OE}{Q:VK}{us:List OB}{vs:ad}(F:FnOk X.prog X.w X.K X.mg X.base CX k f fd ps sp)(hr:c5 k X.A)(hb:iX X.K fd ps ds)(hd:bq dvs ds)(hx:jD CX X E)
  (I:Inv X π σ H s)(r:bq vs us)(h:sp (vs++dvs) H Q E):OS (OW X.prog X.w) X.A (call (.ref f) us) (EP X π σ Q) X.xe s:=by
 have r2:bq (vs++dvs) (us++ds):=r.append hd;have hl:(us++ds).length=ps.length:=by rw[←r2.length];exact F.len _ _ _ _ h
 refine wpAny_call (codeAny_mono (F.run X.A X.stack s H ⟨us,[]⟩ (us++ds) (vs++dvs) Q E hr I.env0 (hb s us I.kIn hl) r2 h) λr s' hq=>?_);cases r with
 |error e=>exact hx π σ H s e s' I hq
 |ok fl=>
  cases fl with|ret u=>exact I.after hq|next|brk|cont=>exact Qi hq
def yu(F:FnOk X.prog X.w X.K X.mg X.base CX k f fd ps sp)(hr:c5 k X.A)(hg:Gl X x)(hm:X.mg x=some (.ref f))(hk:Sh X.K (.ref f)=true)(hb:iX X.K fd ps ds)(hd:bq dvs ds)(hx:jD CX X E)
  (ha:PA X (e::es) t)(hdb:(x==("__debug__" : OO))=false:=by decide)(he:OJ (e::es) X.env=(false,eval e X.env)::OJ es X.env:=by rfl)(hpl:(PN pos (OJ es X.env)).any (·.1)=false:=by rfl) :
  PE X (.Call (.Name x p) (e::es) [] pos) (KQ sp dvs E t):=by
 intro π s σ H Q I h;refine wpAny_Call_Name_kw (gC I hg hm ?_ hdb);refine W.callWith_K (h₀:=X.base) I.ok.mod.kin hk (cM (ha pos π s σ H _ I h) λus s1 z9=>?_) he hpl;obtain⟨vs,H1,I1,r,q⟩:=z9;refine⟨I1.kIn,?_⟩;exact Il F hr hb hd hx I1 r q
end
structure fw (N P:bv) (sc:RA):Prop where
 kind:sc.kind=.function
 co:sc.isCoroutine=false
 gen:sc.isGenerator=false
 nd:N.Nodup
 pre:N.take P.length=P
 par:∀x∈P,sc.names.lookup x=some .local ∨ sc.names.lookup x=some .cell
 nofree:∀y∈sc.names,y.2≠.free
theorem rL{kindOf:OO->Option Qy}{x:OO}:∀{binds:List (OO×OB)}{m:OO->Option OB},(∀v,(x,v)∉binds)->bindL kindOf binds m x=m x
 |[],_,_=>rfl
 |(n,v)::r,m,h=>by
  unfold bindL;rw[rL λw hw=>h w (OZ _ hw)];split
  .have:x≠n:=by rintro rfl;exact h v Pc
   simp[this]
  .rfl
theorem rN{kindOf:OO->Option Qy}{x:OO}:∀{binds:List (OO×OB)}{m:OO->Option OB},(∀v,(x,v)∉binds)->bindC kindOf binds m x=m x
 |[],_,_=>rfl
 |(n,v)::r,m,h=>by
  unfold bindC;rw[rN λw hw=>h w (OZ _ hw)];split
  .rfl
  .have:x≠n:=by rintro rfl;exact h v Pc
   simp[this]
theorem rM{kindOf:OO->Option Qy}{x:OO}{v:OB}:∀{P:bv}{vs:List OB}{i:Nat}{m:OO->Option OB},P.Nodup->P[i]?=some x->vs[i]?=some v->kindOf x=some .local ->
  bindL kindOf (P.zip vs) m x=some v
 |[],_,_,_,_,h,_,_=>by simp at h
 |_::_,[],_,_,_,_,h,_=>by simp at h
 |p::P,w::vs,0,m,nd,h1,h2,hk=>by
  simp at h1 h2;subst h1;subst h2;show bindL kindOf ((p,w)::P.zip vs) m p=_;unfold bindL;rw[rL λv hv=>(Qk.mp nd).1 (TR hv).1,if_pos hk];simp
 |p::P,w::vs,i+1,m,nd,h1,h2,hk=>by
  show bindL kindOf ((p,w)::P.zip vs) m x=_;unfold bindL;exact rM (i:=i) (Qk.mp nd).2 (by simpa using h1) (by simpa using h2) hk
theorem rO{kindOf:OO->Option Qy}{x:OO}{v:OB}:∀{P:bv}{vs:List OB}{i:Nat}{m:OO->Option OB},P.Nodup->P[i]?=some x->vs[i]?=some v->kindOf x≠some .local ->
  bindC kindOf (P.zip vs) m x=some v
 |[],_,_,_,_,h,_,_=>by simp at h
 |_::_,[],_,_,_,_,h,_=>by simp at h
 |p::P,w::vs,0,m,nd,h1,h2,hk=>by
  simp at h1 h2;subst h1;subst h2;show bindC kindOf ((p,w)::P.zip vs) m p=_;unfold bindC;rw[rN λv hv=>(Qk.mp nd).1 (TR hv).1,if_neg hk];simp
 |p::P,w::vs,i+1,m,nd,h1,h2,hk=>by
  show bindC kindOf ((p,w)::P.zip vs) m x=_;unfold bindC;exact rO (i:=i) (Qk.mp nd).2 (by simpa using h1) (by simpa using h2) hk
def start(N:bv)(vs:ad):St:=vs.map some++O7 (N.length-vs.length) none
noncomputable def bV(CX:qp) (P:O5) (w:Pt) (K:OF) (mg:OO->Option OB) (base:OL) (N:bv) (qual:OO) (scope:RA) (f:OG) (cd:OB) (A:Pu) (outer:List Env) (s:OE) (H:Hp) (E:XK):Cx where
 prog:=P
 w:=w
 K:=K
 mg:=mg
 base:=base
 A:=A.deeper (envOfC qual scope s.heap.objs.size f cd)
 N:=N
 sf:=s
 Ha:=H
 env:=envOfC qual scope s.heap.objs.size f cd
 outer:=outer
 stack:=envOfC qual scope s.heap.objs.size f cd::outer
 ex:=[]
 calm:=true
 fn:=λ_=>true
 pn:=[]
 xe:=λe s'=>OS (OW P w) (A.deeper (envOfC qual scope s.heap.objs.size f cd)) (leaving (envOfC qual scope s.heap.objs.size f cd) e) (λ_ s''=>CX outer H s E e s'') (λe' s''=>CX outer H s E e' s'') s'
def vL{sc:RA}{n:Nat}{x:OO}(h:sc.names.lookup x=some .cell):∃c,(cellsFrom n sc.names []).lookup x=some c:=by
 have q:=W.cellsFrom_some sc.names n [] (.inl h);exact Sr.mp q
def Au{CX:qp}{P:O5}{w:Pt}{K:OF}{mg:OO->Option OB}{base:OL}{N ps:bv}{qual:OO}{scope:RA}{f:OG}{cd:OB}{A:Pu}{outer:List Env}{s s1:OE}{H:Hp}{E:XK}{us:List OB}{vs:ad}
  (S:fw N ps scope)(hd:A.handled=none)(e0:vZ P w K mg base A outer s H)(hl:vs.length=ps.length)(r:bq vs us)
  (x:InCallC s s.heap.objs.size (bindL (envOfC qual scope s.heap.objs.size f cd).kindOf (ps.zip us) λ_=>none) (cellsFrom (s.heap.objs.size+1) scope.names []) (bindC (envOfC qual scope s.heap.objs.size f cd).kindOf (ps.zip us) λ_=>none) s1) :
  Inv (bV CX P w K mg base N qual scope f cd A outer s H E) [] (start N vs) H s1:=by
 have hpl:ps.length<=N.length:=by have:=congrArg TM S.pre;rw[PJ]at this;omega
 obtain⟨h1,tk,rfl,hk⟩:=x.done;have noA:∀b:OG,b∉(bV CX P w K mg base N qual scope f cd A outer s H E).ex:=λb z=>absurd (show b∈([]:List OG) from z) (by simp);refine⟨⟨e0.mod,S.kind,rfl,rfl,O0 _,λy z c h1 h2=>?_,λy hy=>?_,λy c _ h=>?_,λ_=>hd,Around.frames_deeper e0.frames,.inr ⟨rfl,rfl⟩,λb z=>absurd z (noA b),e0.bs,e0.bsz,λb _ _=>noA b,λb z=>absurd z (noA b),e0.funs,e0.frf⟩,
  rfl,e0.bare,Un.kept hk,⟨_,x.toInCall.ns,λi y v h1 h2 h3=>?_⟩,λy c h=>⟨_,x.cell y c h⟩,e0.hok.fresh (O0 _),λy c h=>?_,λp hp=>absurd (show p∈([]:List (OG×Obj)) from hp) (by simp),e0.hok.kept hk,?_⟩
 .exact name_of_addr x.apart (QN h1) (QN h2)
 .have hy:scope.names.lookup y=some .cell∨scope.names.lookup y=some .free:=hy
  rcases hy with hy|hy
  .exact vL hy
  .exact absurd rfl (S.nofree _ (QN hy))
 .exact RW (x.above y c (QN h))
 .have hi:i<vs.length:=by
   unfold start at h2
   by_cases hi:i<vs.length
   .exact hi
   .rw[O9 (by simpa using hi)]at h2
    rw[Pm]at h2;split at h2<;>cases h2
  have ha:vs[i]?=some v:=by
   unfold start at h2;rw[O8 (by simpa using hi),OM]at h2;cases e:vs[i]? with|none=>rw[e]at h2;cases h2|some a=>rw[e]at h2;cases h2;rfl
  obtain⟨u,hu,rv⟩:=r.get ha;have hp:ps[i]?=some y:=by
   rw[←S.pre,QH (by omega)];exact h1
  have ndP:ps.Nodup:=by rw[←S.pre];exact S.nd.sublist (List.take_sublist _ _)
  refine⟨u,rv,?_⟩;rcases S.par y (O1 hp) with k|k
  .exact .inl ⟨k,rM ndP hp hu k⟩
  .obtain⟨c,e⟩:=vL (n:=s.heap.objs.size+1) k
   refine .inr ⟨.inl k,c,e,?_⟩;have q:=x.cell y c e;rw[rO ndP hp hu (by show scope.names.lookup y≠_;rw[k];decide)]at q;exact q
 .exact e0.hok.fresh (RW (x.above y c (QN h)))
 .unfold start
  show _=N.length;rw[PU,OH,QD];omega
def C4{CX:qp}{P:O5}{w:Pt}{K:OF}{mg:OO->Option OB}{base:OL}{k:Nat}{f:OG}{name qual:OO}{params:Arguments}{body:List Qt}{scope:RA}{dV kV doc pm cdv ct oc:OB}{an od:Option OG}
  {osl:Array (Option OB)}{N ps:bv}{sp:Sp}(lk:K.lookup f=some ⟨oc,od,.func (RJ name qual params body scope dV kV doc pm an cdv ct),osl⟩) (hcd:T5 K cdv qual=true) (S:fw N ps scope)
  (len:∀vs H Q E,sp vs H Q E->vs.length=ps.length)
  (hbody:∀(A:Pu) (outer:List Env) (s:OE) (H:Hp) (vs:ad) (Q:VK) (E:XK),c5 k (A.deeper (envOfC qual scope s.heap.objs.size f cdv))->sp vs H Q E ->
   ∃t,ql (bV CX P w K mg base N qual scope f cdv A outer s H E) body t/\t { nx:=λ_ H'=>Q .non H',rt:=Q } (start N vs) H) :
  FnOk P w K mg base CX (k+1) f (RJ name qual params body scope dV kV doc pm an cdv ct) ps sp:=by
 refine⟨len,λA outer s H args us vs Q E hr e0 hb r hsp=>?_⟩;have hl:=len _ _ _ _ hsp;have KX:K.In s.heap:=e0.mod.kin.keeps λb o e=>(e0.bs b o e).1;have lim:s.heap.NoLimit:=e0.mod.nolimit.keeps λb o e=>(e0.bs b o e).1;have hkind:∀y∈ps.zip us,scope.names.lookup y.1=some .local ∨ (scope.names.lookup y.1=some .cell/\((cellsFrom (s.heap.objs.size+1) scope.names []).lookup y.1).isSome=true):=λ⟨n,v⟩ hy=>by
  rcases S.par n (TR hy).1 with q|q
  .exact .inl q
  .exact .inr ⟨q,W.cellsFrom_some _ _ _ (.inl q)⟩
 refine codeAny_call_function hr.depth (KX _ _ lk) rfl S.co S.gen rfl (W.codeRec_of KX hcd) (hb _ _ _ _ ?_);refine wpAny_newFunctionEnv_cells S.kind hkind λenv he s1 x=>?_;subst he;refine⟨lim.keeps x.toInCall.keep,codeAny_func ?_⟩;obtain⟨t,ht,hq⟩:=hbody A outer s H vs Q E (hr.deeper _) hsp;have I:Inv (bV CX P w K mg base N qual scope f cdv A outer s H E) [] (start N vs) H s1:=Au S hr.hd e0 hl r x;refine PH (ht [] s1 (start N vs) H _ I hq) (λfl s' hs=>?_) λe s' hs=>hs;have fin:∀{σ':St}{H':Hp}{v:V}{u:OB},Inv (bV CX P w K mg base N qual scope f cdv A outer s H E) [] σ' H' s'->bA v u->Q v H'->CE outer P w H s Q u s' :=
  λ{σ' H' v u} J rv q=>⟨v,H',J.os,J.bare,J.base,J.hok,rv,q⟩
 cases fl with
 |ret u=>
  obtain⟨v,σ',H',J,rv,q⟩:=hs;exact fin J rv q
 |next=>
  obtain⟨σ',H',J,q⟩:=hs;exact fin (v:=V.non) (u:=PZ) J rfl q
 |brk=>
  obtain⟨_,_,_,q⟩:=hs;exact Qi q
 |cont=>
  obtain⟨_,_,_,q⟩:=hs;exact Qi q
section
variable {X:Cx}{x:OO}{p pos:Pos}{e:Pd}{es:List Pd}{t:TA}{id T:String}{r:ad->Hp->VK->Prop}
def NT(r:ad->Hp->VK->Prop)(t:TA):TE:=λσ H Q=>t σ H λvs H1=>r vs H1 Q
def oN(hc:gK X (.builtin id) r)(hg:Gl X x)(hm:X.mg x=none)(hv:bootBuiltins x=some (.builtin id))(ha:PA X (e::es) t)(hn:x≠"__name__":=by decide)(hdb:(x==("__debug__" : OO))=false:=by decide)
  (he:OJ (e::es) X.env=(false,eval e X.env)::OJ es X.env:=by rfl)(hpl:(PN pos (OJ es X.env)).any (·.1)=false:=by rfl):PE X (.Call (.Name x p) (e::es) [] pos) (NT r t):=by
 intro π s σ H Q I h;refine wpAny_Call_Name_kw (iE I hg hm hv ?_ hn hdb);exact PyProof.Rows.callWith_builtin1 (cM (ha pos π s σ H _ I h) λus s1 ⟨vs,H1,I1,r1,q1⟩=>hc π s1 σ H1 vs us Q I1 r1 q1) he hpl
def qZ(hc:gK X (.type T) r)(hg:Gl X x)(hm:X.mg x=none)(hv:bootBuiltins x=some (.type T))(ha:PA X (e::es) t)(hn:x≠"__name__":=by decide)(hdb:(x==("__debug__" : OO))=false:=by decide)
  (he:OJ (e::es) X.env=(false,eval e X.env)::OJ es X.env:=by rfl)(hpl:(PN pos (OJ es X.env)).any (·.1)=false:=by rfl):PE X (.Call (.Name x p) (e::es) [] pos) (NT r t):=by
 intro π s σ H Q I h;refine wpAny_Call_Name_kw (iE I hg hm hv ?_ hn hdb);exact Qc (cM (ha pos π s σ H _ I h) λus s1 ⟨vs,H1,I1,r1,q1⟩=>hc π s1 σ H1 vs us Q I1 r1 q1) he hpl
end
end L2
namespace HT
open PySem PyProof.Rows
section
variable {prog:O5}{w:Pt}{A:Pu}{E:OB->OE->Prop}{s:OE}
def cat_tup{t b:OG}{vs ws:List OB}{Q:OB->OE->Prop}(ht:IsTup s.heap t vs.toArray)(hb:IsTup s.heap b ws.toArray)(hv:vs≠[])
  (h1:ws=[]->Q (.ref t) s)(h2:ws≠[]->Q (.ref s.heap.objs.size) { s with heap:=s.heap.push { cls:=.type "tuple",data:=.seq (vs++ws).toArray } })
  (hsz:vs.length+ws.length<=sizeLine):OS (OW prog w) A (binaryOp .Add (.ref t) (.ref b)) Q E s:=by
 obtain⟨⟨cls,dd,data,sl⟩,ho,hc,n,hd⟩:=id ht;obtain⟨⟨cls2,dd2,data2,sl2⟩,ho2,hc2,n2,hd2⟩:=id hb;simp only at hc hd hc2 hd2;subst hc hd hc2 hd2;have e:vs.toArray++ws.toArray=(vs++ws).toArray:=by simp
 by_cases hw:ws=[]
 .exact concat_meets ⟨_,ho,rfl⟩ ⟨_,ho2,rfl⟩ noFill_tuple_add seq_tuple_add Uw Uq (Ul _ _)
   (tuple_addW1 t b vs.toArray ws.toArray n n2 dd dd2 sl sl2 (by simpa using hv) (by simp[hw])) ⟨ho,ho2,h1 hw⟩
 .refine concat_meets ⟨_,ho,rfl⟩ ⟨_,ho2,rfl⟩ noFill_tuple_add seq_tuple_add Uw Uq (Ul _ _)
   (tuple_addW2 t b vs.toArray ws.toArray n n2 dd dd2 sl sl2 (by simpa using hv) (by simpa using hw) (by rw[O3,O3];exact hsz)) ⟨ho,ho2,?_⟩
  rw[e];exact h2 hw
def sIx(n d:Nat):Option Int->Nat
 |none=>d
 |some v=>if v<0 then(v+(n:Int)).toNat else min v.toNat n
def sIx_none(n d:Nat):sIx n d none=d:=rfl
def sIx_nat(n d k:Nat):sIx n d (some (k:Int))=min k n:=by
 show(if(k:Int)<0 then((k:Int)+(n:Int)).toNat else min (k:Int).toNat n)=min k n;rw[if_neg (by omega),Qs]
def Ik(n d:Nat)(hd:d<=n)(o:Option Int):sIx n d o<=n:=by
 cases o with
 |none=>exact hd
 |some v=>
  show(if v<0 then(v+(n:Int)).toNat else min v.toNat n)<=n
  by_cases hv:v<0
  .rw[if_pos hv];omega
  .rw[if_neg hv];exact Nat.min_le_right _ _
def zk(v:Int)(n d:Nat):(if v<0 then max (v+(n:Int)) 0 else min v (n:Int))=((sIx n d (some v):Nat):Int):=by
 show(if v<0 then max (v+(n:Int)) 0 else min v (n:Int))=(((if v<0 then(v+(n:Int)).toNat else min v.toNat n):Nat):Int)
 by_cases hv:v<0
 .simp only[if_pos hv];omega
 .simp only[if_neg hv];omega
def xP(lo hi:Option Int)(n:Nat):Sk lo hi 1 (n:Int)=(((sIx n 0 lo:Nat):Int),((sIx n n hi:Nat):Int)):=by
 have h1:¬((1:Int)<0):=by omega
 unfold Sk;simp only[h1,if_false];refine Prod.ext ?_ ?_
 .cases lo with
  |none=>rfl
  |some v=>exact zk v n 0
 .cases hi with
  |none=>rfl
  |some v=>exact zk v n n
def wJ(i j:Nat):Rz (i:Int) (j:Int) 1=j-i:=by
 unfold Rz;have h1:(1:Int) > 0:=by omega
 simp only[h1,if_true,UC];split<;>omega
def oq{v:OB}{o:Option Int}{Q:Option Int->OE->Prop}(p:IsPart v o)(h:Q o s):OS (OW prog w) A (Builtin.Slice.slicePartIndex v) Q E s:=by
 cases p with|none=>exact slicePart_none h|int i t=>exact slicePart_int h
def lT{sl:OG}{vl vu:OB}{lo hi:Option Int}{n:Nat}{Q:Int×Int×Nat->OE->Prop}(hs:s.heap.IsSliceOf sl vl vu .none)(pl:IsPart vl lo)(pu:IsPart vu hi)
  (h:Q (((sIx n 0 lo:Nat):Int),1,sIx n n hi-sIx n 0 lo) s):OS (OW prog w) A (Uc (.ref sl) (pure (n:Int))) Q E s:=by
 obtain⟨os,hos,hcs,hds⟩:=id hs;unfold Uc Builtin.Slice.sliceFields;refine OC (OC (wpAny_field hos hds (x:=vl) rfl (OC (wpAny_field hos hds (x:=vu) rfl (OC (wpAny_field hos hds (x:=.none) rfl (ON ?_)))))));refine OC (slicePart_none ?_);show OS _ _ (if((1:Int)==0)=true then _ else _) _ _ s;rw[if_neg (by decide)];refine OC (oq pl (OC (oq pu (OC (ON ?_)))));show OS _ _ (match Sk lo hi 1 (n:Int) with|(lo,hi)=>pure (lo,(1:Int),Rz lo hi 1)) _ _ s;rw[xP lo hi n];show OS _ _ (pure (((sIx n 0 lo:Nat):Int),(1:Int),Rz ((sIx n 0 lo:Nat):Int) ((sIx n n hi:Nat):Int) 1)) _ _ s;rw[wJ];exact ON h
def BZ(xs:Array OB)(i k:Nat):((PL k).filterMap λ(m:Nat)=>xs[((i:Int)+(m:Int)*1).toNat]?).toArray=((xs.toList.drop i).take k).toArray:=by
 have e:(λ(m:Nat)=>xs[((i:Int)+(m:Int)*1).toNat]?)=λm=>xs[i+m]?:=by
  funext m;have:((i:Int)+(m:Int)*1).toNat=i+m:=by omega
  rw[this]
 rw[e];have:=pick_run xs i k;rw[RK]at this;have e2:((λx=>xs[x]?)∘λx=>i+x)=λm=>xs[i+m]?:=rfl;rw[e2]at this;rw[this]
def getItem_tuple_cut{t sl:OG}{items:Array OB}{vl vu:OB}{lo hi:Option Int}{Q:OB->OE->Prop}(ht:IsTup s.heap t items)(hs:s.heap.IsSliceOf sl vl vu .none)(pl:IsPart vl lo)(pu:IsPart vu hi)
  (hw:¬(sIx items.size 0 lo=0/\sIx items.size items.size hi=items.size))
  (h:Q (.ref s.heap.objs.size) { s with heap:=s.heap.push { cls:=.type "tuple",data:=.seq ((items.toList.drop (sIx items.size 0 lo)).take (sIx items.size items.size hi-sIx items.size 0 lo)).toArray } })
  (hsz:items.size<=sizeLine):OS (OW prog w) A (getItem (.ref t) (.ref sl)) Q E s:=by
 have htake:sizeOk (.seq ((items.toList.drop (sIx items.size 0 lo)).take (sIx items.size items.size hi-sIx items.size 0 lo)).toArray):=by
  show((items.toList.drop (sIx items.size 0 lo)).take (sIx items.size items.size hi-sIx items.size 0 lo)).toArray.size<=sizeLine;rw[O3,PJ,Qn,Se];omega
 have hj:sIx items.size items.size hi<=items.size:=Ik _ _ (O0 _) hi;obtain⟨os,hos,hcs,hds⟩:=id hs;have hTs:s.TypeIs (.ref sl) "slice":=⟨os,hos,hcs⟩
 unfold getItem
 try with_reducible refine PY ?_
 first|refine OC (ON ?_)|skip
 refine OC (wpAny_sequenceKey ht.typeIs (by decide) ?_);refine OC (wpAny_callSpecial?_slot (name:=RV "__getitem__") ht.typeIs R1
  (wpAny_call_entry R1 ht.typeIs entry_tuple_getitem ?_ (args_tuple_getitem _ _)))
 show OS _ _ (Builtin.Tuple.tupleItemsOf (.ref t) >>= _) _ _ s;refine OC (tupleItemsOf_ ht ?_);refine OC (wpAny_typeOf hTs ?_);rw[if_pos (by decide)];refine OC (lT hs pl pu ?_);have hno:¬((((sIx items.size 0 lo:Nat):Int)==0&&(1:Int)==1&&(sIx items.size items.size hi-sIx items.size 0 lo)==items.size)=true):=by
  intro q;rw[O4,O4]at q;have q1:((sIx items.size 0 lo:Nat):Int)=0:=eq_of_beq q.1.1;have q2:sIx items.size items.size hi-sIx items.size 0 lo=items.size:=eq_of_beq q.2;exact hw ⟨by omega,by omega⟩
 show OS _ _ (if(((sIx items.size 0 lo:Nat):Int)==0&&(1:Int)==1&&(sIx items.size items.size hi-sIx items.size 0 lo)==items.size)=true then _ else _) _ _ s;rw[if_neg hno,BZ]
 first
  |exact OC (m:=RE _) (wpAny_newObj_type (ON ⟨_,rfl,ON h⟩) htake)
  |exact OC (m:=RE _) (wpAny_newObj_type (OC (ON (ON ⟨_,rfl,ON h⟩))) htake)
  |exact OC (OC (m:=RE _) (wpAny_newObj_type (ON (ON ⟨_,rfl,ON h⟩)) htake))
  |exact OC (OC (m:=RE _) (wpAny_newObj_type (ON ⟨_,rfl,ON h⟩) htake))
end
end HT
namespace L2
open PySem PySem.Spec PyProof.Rows
abbrev TO:=St->Hp->(Option Int->Hp->Prop)->Prop
def PO(X:Cx)(e:Option Pd)(t:TO):Prop :=
 ∀(π:List (OG×Obj)) (s:OE) (σ:St) (H:Hp) (Q:Option Int->Hp->Prop),Inv X π σ H s->t σ H Q ->
  OS (OW X.prog X.w) X.A (evalPart e X.env) (λu s'=>∃o H',Inv X π σ H' s'/\IsPart u o/\Q o H') X.xe s
def EE:TO:=λ_ H Q=>Q none H
def KG(t:TE):TO:=λσ H Q=>t σ H λx H1=>∃i,x=.int i/\Q (some i) H1
section
variable {X:Cx}{e:Pd}{te:TE}{lo hi:Option Pd}{tl th:TO}{pos p2:Pos}
def E1:PO X none EE:=by
 intro π s σ H Q I h;rw[evalPart_none];exact ON ⟨none,H,I,.none,h⟩
def EZ(h:PE X e te):PO X (some e) (KG te):=by
 intro π s σ H Q I hw;rw[evalPart_some];refine cM (h π s σ H _ I hw) λu s1 ⟨x,H1,I1,r1,q1⟩=>?_;obtain⟨i,rfl,q⟩:=q1;obtain⟨t,rfl⟩:=r1;exact⟨some i,H1,I1,.int i t,q⟩
noncomputable def Ea(X:Cx) (r:V->Option Int->Option Int->Hp->VK->Prop):Prop :=
 ∀(π:List (OG×Obj)) (s:OE) (σ:St) (H:Hp) (x:V) (v vl vu:OB) (lo hi:Option Int) (sl:OG) (Q:VK),Inv X π σ H s->bA x v->s.heap.IsSliceOf sl vl vu .none->IsPart vl lo->IsPart vu hi->r x lo hi H Q ->
  ∃T id,RI (.type T) "__getitem__"=pure (some (.builtin id))/\s.TypeIs v T/\OS (OW X.prog X.w) X.A (getItem v (.ref sl)) (EP X π σ Q) X.xe s
def Ea.or{r r':V->Option Int->Option Int->Hp->VK->Prop}(h:Ea X r)(h':Ea X r'):Ea X (λx lo hi H Q=>r x lo hi H Q∨r' x lo hi H Q):=by
 intro π s σ H x v vl vu lo hi sl Q I rx hs pl pu q;rcases q with q|q
 .exact h π s σ H x v vl vu lo hi sl Q I rx hs pl pu q
 .exact h' π s σ H x v vl vu lo hi sl Q I rx hs pl pu q
def NR(r:V->Option Int->Option Int->Hp->VK->Prop)(te:TE)(tl th:TO):TE:=λσ H Q=>te σ H λx H1=>tl σ H1 λl H2=>th σ H2 λu H3=>r x l u H3 Q
def B4{r:V->Option Int->Option Int->Hp->VK->Prop}(hr:Ea X r)(he:PE X e te)(hl:PO X lo tl)(hu:PO X hi th):PE X (.Subscript e (.Slice lo hi none p2) pos) (NR r te tl th):=by
 intro π s σ H Q I h;refine Subscript_ (cM (he π s σ H _ I h) λv s1 ⟨x,H1,I1,r1,q1⟩=>?_);refine wpAny_Slice (cM (hl π s1 σ H1 _ I1 q1) λvl s2 ⟨l,H2,I2,pl,q2⟩=>cM (hu π s2 σ H2 _ I2 q2) λvu s3 ⟨u,H3,I3,pu,q3⟩=>?_);rw[evalPart_none];refine ON ?_;have I4:Inv X π σ H3 { s3 with heap:=s3.heap.push { cls:=.type "slice",data:=.fields #[vl,vu,.none] } }:=I3.kept (t':=s3.toks) λb ob q=>OD _ q;obtain⟨T,id,hT,ht,hg⟩:=hr π { s3 with heap:=s3.heap.push { cls:=.type "slice",data:=.fields #[vl,vu,.none] } } σ H3 x v vl vu l u s3.heap.objs.size Q I4 r1 (S7 ..) pl pu q3;show OS (OW X.prog X.w) X.A (subscriptTail e (.Slice lo hi none p2) v (.ref s3.heap.objs.size)) (EP X π σ Q) X.xe { s3 with heap:=s3.heap.push { cls:=.type "slice",data:=.fields #[vl,vu,.none] } };exact tail_any (ops:=[.ref s3.heap.objs.size,v]) ht hT hg (by with_unfolding_all rfl)
def vJ(xs:ad)(lo hi:Option Int):ad:=(xs.drop (HT.sIx xs.length 0 lo)).take (HT.sIx xs.length xs.length hi-HT.sIx xs.length 0 lo)
def mU(xs:ad)(lo hi:Option Int):(vJ xs lo hi).length<=xs.length:=by
 unfold vJ;rw[PJ,Qn];omega
def Ng(K:OF):V->Option Int->Option Int->Hp->VK->Prop:=λx lo hi H Q=>∃a xs,x=.ref a/\gT K H a xs /\
 ¬(HT.sIx xs.length 0 lo=0/\HT.sIx xs.length xs.length hi=xs.length)/\∀p,H p=none->Q (.ref p) (upd H p (.tup (vJ xs lo hi)))
def Ic:Ea X (Ng X.K):=by
 intro π s σ H x v vl vu lo hi sl Q I rx hs pl pu h;obtain⟨a,xs,rfl,hx,hw,q⟩:=h;cases rx;obtain⟨its,r,ht,hz⟩:=I.tuple hx;have hlen:its.toArray.size=xs.length:=by rw[O3];exact r.length.symm
 refine⟨"tuple",_,R1.lookup,ht.typeIs,?_⟩;refine HT.getItem_tuple_cut ht hs pl pu (by rw[hlen];exact hw) ?_ (by rw[hlen];exact hz);rw[hlen];refine⟨.ref s.heap.objs.size,_,I.laid (t':=s.toks) (o:=.tup (vJ xs lo hi)) (λb ob q=>OD _ q) (O0 _) ?_,rfl,q _ (I.hok.fresh (O0 _))⟩;exact⟨Pe (mU xs lo hi) hz,_,(r.drop (HT.sIx xs.length 0 lo)).take (HT.sIx xs.length xs.length hi-HT.sIx xs.length 0 lo),IsTup.new _ _⟩
def Ld(K:OF):R2:=λx y H Q=>∃a b xs ys,x=.ref a/\y=.ref b/\gT K H a xs/\gT K H b ys/\xs≠[]/\xs.length+ys.length<=sizeLine /\
 (ys=[]->Q (.ref a) H)/\(ys≠[]->∀p,H p=none->Q (.ref p) (upd H p (.tup (xs++ys))))
def bq.nil_iff{xs:ad}{us:List OB}(r:bq xs us):us=[]↔xs=[]:=by
 cases r with|nil|cons _ _=>simp
def Fi:fN X (binaryOp .Add) (Ld X.K):=by
 intro π s σ H x y v u Q I rx ry h;obtain⟨a,b,xs,ys,rfl,rfl,ha,hb,hx,hz,q1,q2⟩:=h;cases rx;cases ry;obtain⟨its,r1,p1,_⟩:=I.tuple ha;obtain⟨its2,r2,p2,_⟩:=I.tuple hb;refine HT.cat_tup p1 p2 (λz=>hx (r1.nil_iff.mp z)) (λz=>⟨.ref a,H,I,rfl,q1 (r2.nil_iff.mp z)⟩) (λz=>?_) (by rw[←r1.length,←r2.length];exact hz);refine⟨.ref s.heap.objs.size,_,I.laid (t':=s.toks) (o:=.tup (xs++ys)) (λb ob q=>OD _ q) (O0 _) ?_,rfl,q2 (λw=>z (r2.nil_iff.mpr w)) _ (I.hok.fresh (O0 _))⟩;exact⟨by rw[PU];exact hz,_,r1.append r2,IsTup.new _ _⟩
end
def Ht(n:Nat)(i:Int):Option Nat:=if 0<=i then(if i<n then some i.toNat else none) else if -(n:Int)<=i then some (i+n).toNat else none
def atI{α:Type}(xs:List α)(i:Int):Option α:=(Ht xs.length i).bind λj=>xs[j]?
def Fz{n:Nat}{i:Int}{j:Nat}(h:Ht n i=some j):seqIndex? i n=some j/\j<n/\-(n:Int)<=i/\i<n:=by
 unfold Ht at h
 by_cases h0:0<=i
 .rw[if_pos h0]at h
  by_cases h1:i<n
  .rw[if_pos h1]at h
   have e:i.toNat=j:=PK h;exact⟨by rw[seqIndex_of h0 h1,e],by omega,by omega,h1⟩
  .rw[if_neg h1]at h;cases h
 .rw[if_neg h0]at h
  by_cases h1:-(n:Int)<=i
  .rw[if_pos h1]at h
   have e:(i+n).toNat=j:=PK h;exact⟨by rw[seqIndex_neg (by omega) h1,e],by omega,h1,by omega⟩
  .rw[if_neg h1]at h;cases h
def tT{α:Type}{xs:List α}{i:Int}{v:α}(h:atI xs i=some v):∃j,seqIndex? i xs.length=some j/\xs[j]?=some v/\j<xs.length/\-(xs.length:Int)<=i/\i<xs.length:=by
 unfold atI at h;cases e:Ht xs.length i with
 |none=>rw[e]at h;cases h
 |some j=>
  rw[e]at h;obtain⟨h1,h2,h3,h4⟩:=Fz e;exact⟨j,h1,h,h2,h3,h4⟩
def eg{α:Type}{xs:List α}{j:Nat}{v:α}(h:xs[j]?=some v):atI xs (j:Int)=some v:=by
 have hj:j<xs.length:=(OP.mp h).1;have e:Ht xs.length (j:Int)=some j:=by
  unfold Ht;rw[if_pos (by omega),if_pos (by omega)];simp
 unfold atI;rw[e];exact h
def lH(b:Pd):Prop:=∀o i,subscripted b false o i=operate [o,i] (getItem o i)
noncomputable def Eb(X:Cx) (r:R2):Prop :=
 ∀(value slice:Pd) (π:List (OG×Obj)) (s:OE) (σ:St) (H:Hp) (x y:V) (v u:OB) (Q:VK),Inv X π σ H s->bA x v->bA y u->r x y H Q ->
  subscripted slice false v u=operate [v,u] (getItem v u)->OS (OW X.prog X.w) X.A (subscriptTail value slice v u) (EP X π σ Q) X.xe s
noncomputable def MN(X:Cx) (id:String) (r:V->ad->Hp->VK->Prop):Prop :=
 ∀(π:List (OG×Obj)) (s:OE) (σ:St) (H:Hp) (x:V) (xs:ad) (v:OB) (us:List OB) (Q:VK),Inv X π σ H s->bA x v->bq xs us->r x xs H Q ->
  OS (OW X.prog X.w) X.A (call (.builtin id) (v::us)) (EP X π σ Q) X.xe s
section
variable {X:Cx}{a b:Pd}{ta tb:TE}{pos:Pos}
def Eb.or{r r':R2}(h:Eb X r)(h':Eb X r'):Eb X (λx y H Q=>r x y H Q∨r' x y H Q):=by
 intro value slice π s σ H x y v u Q I rx ry q hs;rcases q with q|q
 .exact h value slice π s σ H x y v u Q I rx ry q hs
 .exact h' value slice π s σ H x y v u Q I rx ry q hs
def B8{r:R2}(hr:Eb X r)(ha:PE X a ta)(hb:PE X b tb)(hs:lH b):PE X (.Subscript a b pos) (KH r ta tb):=by
 intro π s σ H Q I h;exact Subscript_ (Kf ha hb I h λv u s2 x y H2 I2 rx ry q=>hr a b π s2 σ H2 x y v u Q I2 rx ry q (hs _ _))
def K8(K:OF):R2:=λx y H Q=>∃p xs i v,x=.ref p/\y=.int i/\df K H p xs/\atI xs i=some v/\Q v H
def K6(K:OF):R2:=λx y H Q=>∃p xs i v,x=.ref p/\y=.int i/\gT K H p xs/\atI xs i=some v/\Q v H
def K7:R2:=λx y H Q=>∃z i c,x=.str z/\y=.int i/\z.length<=sizeLine/\atI z.cps.toList i=some c/\Q (.str ⟨#[c]⟩) H
def Fy:Eb X (K8 X.K):=by
 intro value slice π s σ H x y v u Q I rx ry h hs;obtain⟨p,xs,i,z,rfl,rfl,hq,he,q⟩:=h;cases rx;obtain⟨t,rfl⟩:=ry;obtain⟨its,r,pl,hz⟩:=I.list hq;obtain⟨j,h1,h2,h3,h4,h5⟩:=tT he;obtain⟨w,ew,rw'⟩:=r.get h2;have hl:=r.length;have hn:=sV;have fin:EP X π σ Q w s:=⟨z,H,I,rw',q⟩
 by_cases h0:0<=i
 .have hj:i.toNat=j:=by
   rw[seqIndex_of h0 h5]at h1;exact PK h1
  exact item_listR pl.isList h0 (by omega) (by rw[hj];simpa using ew) fin hs
 .have hj:(i+(its.toArray.size:Int)).toNat=j:=by
   rw[seqIndex_neg (by omega) h4]at h1;rw[O3,←hl];exact PK h1
  exact subscriptTail_builtinR (x:=w) pl.isList.typeIs slot_list_getitem.lookup
   (wpAny_getItem_list_neg (Q:=λr s'=>r=w/\EP X π σ Q r s') pl.isList (by omega) (by rw[O3]<;>omega) (by omega) (by rw[hj];simpa using ew) ⟨rfl,fin⟩) hs
def w4:Eb X (K6 X.K):=by
 intro value slice π s σ H x y v u Q I rx ry h hs;obtain⟨p,xs,i,z,rfl,rfl,hq,he,q⟩:=h;cases rx;obtain⟨t,rfl⟩:=ry;obtain⟨its,r,pl,hz⟩:=I.tuple hq;obtain⟨j,h1,h2,h3,h4,h5⟩:=tT he;obtain⟨w,ew,rw'⟩:=r.get h2;have hl:=r.length;have hn:=sV;have fin:EP X π σ Q w s:=⟨z,H,I,rw',q⟩
 exact subscriptTail_builtinR (x:=w) pl.typeIs slot_tuple_getitem.lookup
  (getItem_tuple (j:=j) (Q:=λr s'=>r=w/\EP X π σ Q r s') pl (by omega) (by omega) (by rw[O3,←hl];exact h1) (by simpa using ew) ⟨rfl,fin⟩) hs
def Jj:Eb X K7:=by
 intro value slice π s σ H x y v u Q I rx ry h hs;obtain⟨z,i,c,rfl,rfl,hz,he,q⟩:=h;obtain⟨t,rfl⟩:=rx;obtain⟨t',rfl⟩:=ry;obtain⟨j,h1,h2,h3,h4,h5⟩:=tT he;have hl:z.cps.toList.length=z.length:=by simp[Str.length]
 rw[hl]at h1 h4 h5;have hn:=sV;exact tail_any (typeIs_str s z t) slot_str_getitem.lookup (getItem_str (c:=c) (by
  have e1:decide (i < -(2 ^ 63:Int))=false:=decide_eq_false (by omega);have e2:decide (i≥2 ^ 63)=false:=decide_eq_false (by omega);rw[e1,e2,Bool.or_false]) (by rw[h1];simpa using h2) ⟨.str ⟨#[c]⟩,H,I.tok _,⟨_,rfl⟩,q⟩) hs
def NW(K:OF):R2:=λx y H Q=>K8 K x y H Q∨K6 K x y H Q∨K7 x y H Q
def Jk:Eb X (NW X.K):=Fy.or (w4.or Jj)
def sv(lo hi:Option Int)(n:Nat):(sliceBounds lo hi none n).1=((HT.sIx n 0 lo:Nat):Int)/\(sliceBounds lo hi none n).2.1=((HT.sIx n n hi:Nat):Int)/\(sliceBounds lo hi none n).2.2=1:=by
 refine⟨?_,?_,rfl⟩
 .cases lo with
  |none=>simp[sliceBounds,HT.sIx]
  |some i=>
   simp only[sliceBounds,HT.sIx,Option.getD_none,show(1:Int) > 0 by decide,if_true]
   by_cases h:i<0
   .simp only[h,if_true]<;>omega
   .simp only[h,if_false]<;>omega
 .cases hi with
  |none=>simp[sliceBounds,HT.sIx]
  |some i=>
   simp only[sliceBounds,HT.sIx,Option.getD_none,show(1:Int) > 0 by decide,if_true]
   by_cases h:i<0
   .simp only[h,if_true]<;>omega
   .simp only[h,if_false]<;>omega
def qw(its:List OB)(lo hi:Option Int):slicePick its.toArray lo hi none=((its.drop (HT.sIx its.length 0 lo)).take (HT.sIx its.length its.length hi-HT.sIx its.length 0 lo)).toArray:=by
 obtain⟨h1,h2,h3⟩:=sv lo hi its.toArray.size;unfold slicePick;rw[h1,h2,h3];simp only[sliceRange_one,pick_run,O3]<;>rfl
def Ni(K:OF):V->Option Int->Option Int->Hp->VK->Prop:=λx lo hi H Q=>∃a xs,x=.ref a/\df K H a xs/\∀p,H p=none->Q (.ref p) (upd H p (.lst (vJ xs lo hi)))
def EJ:Ea X (Ni X.K):=by
 intro π s σ H x v vl vu lo hi sl Q I rx hs pl pu h;obtain⟨a,xs,rfl,hx,q⟩:=h;cases rx;obtain⟨its,r,ht,hz⟩:=I.list hx;have hlen:=r.length;refine⟨"list",_,slot_list_getitem.lookup,ht.isList.typeIs,?_⟩;refine wpAny_getItem_list_slice ht.isList hs pl pu .none (by simp) ?_ (by rw[O3]<;>omega);rw[qw,←hlen];refine⟨.ref s.heap.objs.size,_,I.laid (t':=s.toks) (o:=.lst (vJ xs lo hi)) (λb ob q=>OD _ q) (O0 _) ?_,rfl,q _ (I.hok.fresh (O0 _))⟩;exact⟨Pe (mU xs lo hi) hz,_,0,(r.drop (HT.sIx xs.length 0 lo)).take (HT.sIx xs.length xs.length hi-HT.sIx xs.length 0 lo),Pf _ rfl⟩
def sN:fN X (PX .NotIn) (λx y H Q=>∃i j,x=.str i/\y=.str j/\Q (.bl (!(!(SG j i 0 j.length 1).isEmpty))) H):=by
 intro π s σ H x y v u Q I rx ry h;obtain⟨i,j,rfl,rfl,q⟩:=h;obtain⟨t,rfl⟩:=rx;obtain⟨t',rfl⟩:=ry;exact notIn_str ⟨.bl _,H,I,rfl,q⟩
def lh:gK X (.type "list") (λxs H Q=>∃p ys,xs=[.ref p]/\(df X.K H p ys∨gT X.K H p ys)/\∀l,H l=none->Q (.ref l) (upd H l (.lst ys))):=by
 intro π s σ H xs us Q I r h;obtain⟨p,ys,rfl,hq,q⟩:=h;obtain⟨u,rfl,rx⟩:=mz r;cases rx;have fin:∀(its:List OB),bq ys its->ys.length<=sizeLine->∀(h':OL) (c':Nat),(∀b o',s.heap.get? b=some o'->h'.get? b=some o') ->
   h'.get? s.heap.objs.size=some { cls:=.type "list",dict:=none,data:=.seq its.toArray c',slots:=#[] }->EP X π σ Q (.ref s.heap.objs.size) { s with heap:=h' }:=λits r' hz h' c' kp e=>
  ⟨.ref s.heap.objs.size,_,I.laid (t':=s.toks) kp (O0 _) (show bB X.prog X.w _ h' _ (.lst ys) from⟨hz,its,c',r',e⟩),rfl,q _ (I.hok.fresh (O0 _))⟩
 rcases hq with hq|hq
 .obtain⟨its,r',pl,hz⟩:=I.list hq
  have hlen:=r'.length;obtain⟨o,ho,hc,n,hd⟩:=pl.isList;exact call_list_seq p (.inl rfl) ho hc hd (λh' c' kp e=>fin its r' hz h' c' kp e) (by simp only[O3]<;>omega)
 .obtain⟨its,r',pl,hz⟩:=I.tuple hq
  have hlen:=r'.length;obtain⟨o,ho,hc,n,hd⟩:=pl;exact call_list_seq p (.inr rfl) ho hc hd (λh' c' kp e=>fin its r' hz h' c' kp e) (by simp only[O3]<;>omega)
noncomputable def MR(K:OF) (T:String) (x:V) (H:Hp):Prop:=match x with
 |.str _=>T="str"
 |.int _=>T="int"
 |.ref p=>(T="list"/\∃xs,df K H p xs)∨(T="tuple"/\∃o,K.lookup p=some o/\o.cls=.type "tuple"/\o.dict=none) ∨
   (T="dict"/\((∃kvs,H p=some (.dK kvs))∨∃kvs,H p=some (.dT kvs)))∨(T="set"/\∃S n,H p=some (.set S n))
 |_=>False
def Bk{π:List (OG×Obj)}{σ:St}{H:Hp}{s:OE}{T:String}{x:V}{v:OB}(I:Inv X π σ H s)(r:bA x v)(ty:MR X.K T x H) :
  s.TypeIs v T/\∀a,v=.ref a->∃ob,s.heap.get? a=some ob/\ob.dict=none:=by
 cases x with
 |str z=>
  obtain⟨t,rfl⟩:=r;cases (show T="str" from ty);exact⟨typeIs_str s z t,λ_ e=>nomatch e⟩
 |int i=>
  obtain⟨t,rfl⟩:=r;cases (show T="int" from ty);exact⟨typeIs_int s i t,λ_ e=>nomatch e⟩
 |ref p=>
  cases r;rcases ty with⟨rfl,xs,hq⟩|⟨rfl,o,hk,hc,hd⟩|⟨rfl,hk⟩|⟨rfl,S,n,hk⟩
  .obtain⟨its,_,pl,_⟩:=I.list hq
   refine⟨pl.isList.typeIs,λa e=>?_⟩;cases e;obtain⟨o,n,e,c,hd,_⟩:=pl;exact⟨o,e,hd⟩
  .refine⟨⟨o,I.kIn p o hk,hc⟩,λa e=>?_⟩
   cases e;exact⟨o,I.kIn _ o hk,hd⟩
  .have z:∃o,s.heap.get? p=some o/\o.ExactDict:=by
    rcases hk with⟨kvs,hk⟩|⟨kvs,hk⟩
    .obtain⟨_,_,_,_,o,_,_,e,ex,_⟩:=I.hok p _ hk
     exact⟨o,e,ex⟩
    .obtain⟨_,_,_,_,o,_,_,e,ex,_⟩:=I.hok p _ hk
     exact⟨o,e,ex⟩
   obtain⟨o,e,ex⟩:=z;refine⟨⟨o,e,ex.1⟩,λa e2=>?_⟩;cases e2;exact⟨o,e,ex.2.1⟩
  .obtain⟨o,_,_,_,e,ex,_⟩:=I.hok p _ hk
   refine⟨⟨o,e,ex.1⟩,λa e2=>?_⟩;cases e2;exact⟨o,e,ex.2.1⟩
 |_=>exact Qi ty
def Na(K:OF)(T:String)(r:V->ad->Hp->VK->Prop)(to:TE):TE:=λσ H Q=>to σ H λx H1=>MR K T x H1/\r x [] H1 Q
def Of(K:OF)(T:String)(r:V->ad->Hp->VK->Prop)(to:TE)(t:TA):TE:=λσ H Q=>to σ H λx H1=>MR K T x H1/\t σ H1 λxs H2=>r x xs H2 Q
variable {o e:Pd}{es:List Pd}{to:TE}{t:TA}{name:OO}{apos cpos:Pos}{T id:String}{r:V->ad->Hp->VK->Prop}
def Cb(pa:PlainAttrs T)(slot:Slot T name id)(hty:typeOf (.builtin id)=pure (.type "method_descriptor"))(hm:MN X id r)(ho:PE X o to)
  (hbase:Ra o name X.env (eval o X.env)=eval o X.env:=by rfl)(hline:(apos.endLine==cpos.line)=true:=by rfl):PE X (.Call (.Attribute o name apos) [] [] cpos) (Na X.K T r to):=by
 intro π s σ H Q I h;refine wpAny_Call_method0_late hbase hline (cM (ho π s σ H _ I h) λv s1 z9=>?_);obtain⟨x,H1,I1,r1,ty,q1⟩:=z9;obtain⟨h1,h2⟩:=Bk I1 r1 ty;exact⟨T,id,pa,slot,hty,h1,h2,SH rfl (PySem.evalArgs_none (hm π s1 σ H1 x [] v [] Q I1 r1 .nil q1))⟩
def yw(pa:PlainAttrs T)(slot:Slot T name id)(hty:typeOf (.builtin id)=pure (.type "method_descriptor"))(hm:MN X id r)(ho:PE X o to)(ha:PA X (e::es) t)
  (hbase:Ra o name X.env (eval o X.env)=eval o X.env:=by rfl)
  (hfew:((PN cpos (OJ (e::es) X.env)).all (λx=>!x.1)&&(Sx cpos (Rm [] X.env)).all (λx=>x.1.isSome)
  &&decide ((e::es).length+([]:List R7).length+(if([]:List R7).isEmpty then 0 else 1)<30))=true:=by rfl)
  (hline:(apos.endLine==cpos.line)=true:=by rfl) (hs:OJ (e::es) X.env=(false,eval e X.env)::OJ es X.env:=by rfl) (hplain:(PN cpos (OJ es X.env)).any (·.1)=false:=by rfl) :
  PE X (.Call (.Attribute o name apos) (e::es) [] cpos) (Of X.K T r to t):=by
 intro π s σ H Q I h;refine wpAny_Call_method_late hbase hfew hline rfl (cM (ho π s σ H _ I h) λv s1 ⟨x,H1,I1,r1,ty,q1⟩=>?_);obtain⟨h1,h2⟩:=Bk I1 r1 ty;refine⟨T,id,pa,slot,hty,h1,h2,?_⟩;have hA:=ha cpos π s1 σ H1 _ I1 q1;rw[hs]at hA ⊢;refine SH (by show(false||(PN cpos (OJ es X.env)).any (·.1))=false;rw[hplain]<;>rfl) (Rq ?_);exact cM hA λus s2 ⟨vs,H2,I2,r2,q2⟩=>hm π s2 σ H2 x vs v us Q I2 r1 r2 q2
end
noncomputable def NJ(X:Cx) (id:String) (r:V->ad->Hp->VK->Prop):Prop :=
 ∀(π:List (OG×Obj)) (s:OE) (σ:St) (H:Hp) (x:V) (xs:ad) (v:OB) (us:List OB) (Q:VK),Inv X π σ H s->bA x v->bq xs us->r x xs H Q ->
  OS (OW X.prog X.w) X.A (call (.builtin id) (v::us)) (EP X π σ Q) X.xe s
theorem bq.one:∀{x:V}{us:List OB},bq [x] us->∃u,us=[u]/\bA x u
 |_,_,.cons r .nil=>⟨_,rfl,r⟩
theorem bq.zero:∀{us:List OB},bq [] us->us=[]
 |_,.nil=>rfl
theorem bq.rep{xs:ad}{us:List OB}(h:bq xs us):∀k:Nat,bq (O7 k xs).flatten (O7 k us).flatten
 |0=>.nil
 |k+1=>by
  rw[Qp,Qp,Rl,Rl];exact bq.append h (bq.rep h k)
theorem ro(its:List OB):∀(k:Nat) (acc:List OB),
  List.foldl (λx1 x2=>x1++x2) acc.toArray (O7 k its.toArray)=(acc++(O7 k its).flatten).toArray
 |0,acc=>by simp
 |k+1,acc=>by
  have e:acc.toArray++its.toArray=(acc++its).toArray:=by simp
  have e2:(acc++its)++(O7 k its).flatten=acc++(O7 (k+1) its).flatten:=by
   rw[Qp,Rl,Sn]
  rw[←e2,←ro its k (acc++its),←e,Qp,List.foldl_cons]
section
variable {X:Cx}{π:List (OG×Obj)}{σ:St}{H:Hp}{s:OE}{l b:OG}{xs ys zs:ad}
def Inv.lset{its its':List OB}{n:Nat}{f:Array OB->Array OB}{t':Nat}(I:Inv X π σ H s)(hH:H l=some (.lst xs))
  (e:s.heap.get? l=some { cls:=.type "list",data:=.seq its.toArray n })(hf:f its.toArray=its'.toArray)(hv:bq ys its')(hz:ys.length<=sizeLine) :
  Inv X π σ (upd H l (.lst ys)) { s with heap:=s.heap.update l (Obj.mapSeq f),toks:=t' }:=by
 have q:=PySem.IsL.update e f;rw[hf]at q;refine I.write (x:=l) (e:=l) (by rw[hH];exact trivial) (.inl rfl) (λb' u hb hu=>(Qo s.heap (Obj.mapSeq f) (Px hb)).trans hu) ⟨_,q⟩ ?_;exact⟨hz,its',_,hv,q⟩
def Inv.lnew{its:List OB}{t':Nat}(I:Inv X π σ H s)(hv:bq ys its)(hz:ys.length<=sizeLine) :
  Inv X π σ (upd H s.heap.objs.size (.lst ys)) { s with heap:=s.heap.push { cls:=.type "list",data:=.seq its.toArray },toks:=t' } :=
 I.laid (λ_ _ q=>OD _ q) (O0 _) ⟨hz,its,0,hv,Pf _ rfl⟩
def Inv.fresh(I:Inv X π σ H s):H s.heap.objs.size=none:=I.hok.fresh (O0 _)
def Inv.lstM(I:Inv X π σ H s)(hH:H l=some (.lst xs)):xs.length<=sizeLine/\∃(its:List OB) (n:Nat),bq xs its/\xs.length=its.length/\s.heap.get? l=some { cls:=.type "list",data:=.seq its.toArray n }:=by
 obtain⟨z,its,n,r,e⟩:=I.hok l _ hH;exact⟨z,its,n,r,r.length,e⟩
def Cn{n:Nat}(h:n<=sizeLine):Sw n=false:=by
 unfold Sw;exact decide_eq_false (by omega)
end
section
variable {X:Cx}
def ER:V->ad->Hp->VK->Prop:=λx vs H Q=>∃l xs y,x=.ref l/\vs=[y]/\H l=some (.lst xs)/\xs.length<sizeLine/\Q .non (upd H l (.lst (xs++[y])))
def lY:NJ X "list.append" ER:=by
 intro π s σ H x vs v us Q I rx rv h;obtain⟨l,xs,y,rfl,rfl,hH,hz,q⟩:=h;cases rx;obtain⟨u,rfl,ru⟩:=rv.one;obtain⟨z,its,n,r,hl,e⟩:=I.lstM hH;refine call_meets F.slot_list_append ⟨_,e,rfl⟩ F.entry_list_append (F.args_list_append_2 _ _) (PySem.list_append l its.toArray n u (by rw[O3];omega)) ⟨e,?_⟩;refine⟨.non,_,I.lset (its':=its++[u]) hH e (by simp) (r.append (.cons ru .nil)) ?_,rfl,q⟩;rw[PU,List.length_singleton];omega
def Ir:V->ad->Hp->VK->Prop:=λx vs H Q=>∃l xs,x=.ref l/\vs=[]/\H l=some (.lst xs)/\Q .non (upd H l (.lst []))
def Cz:NJ X "list.clear" Ir:=by
 intro π s σ H x vs v us Q I rx rv h;obtain⟨l,xs,rfl,rfl,hH,q⟩:=h;cases rx;have hus:=rv.zero;subst hus;obtain⟨z,its,n,r,hl,e⟩:=I.lstM hH;refine call_meets F.slot_list_clear ⟨_,e,rfl⟩ F.entry_list_clear (F.args_list_clear_1 _) (AutoSeq1.list_clear_list_0 l its.toArray n (by rw[O3];omega)) ⟨e,?_⟩;exact⟨.non,_,I.lset (its':=[]) (ys:=[]) hH e rfl .nil (RP _),rfl,q⟩
def Nj:R2:=λx y H Q=>∃l k xs,x=.ref l/\y=.int k/\H l=some (.lst xs)/\-(2 ^ 63)<=k/\k<2 ^ 63/\xs.length*k.toNat<=sizeLine /\
 ∀p,H p=none->Q (.ref p) (upd H p (.lst (O7 k.toNat xs).flatten))
def Fv{α:Type}(xs:List α)(k:Nat):(O7 k xs).flatten.length=k*xs.length:=by
 induction k with|zero=>simp|succ k ih=>rw[Qp,Rl,PU,ih,Nat.succ_mul,Nat.add_comm]
def IS:fN X (binaryOp .Mult) Nj:=by
 intro π s σ H x y v u Q I rx ry h;obtain⟨l,k,xs,rfl,rfl,hH,h1,h2,hz,q⟩:=h;cases rx;obtain⟨t,rfl⟩:=ry;obtain⟨z,its,n,r,hl,e⟩:=I.lstM hH;have hlen:its.toArray.size*k.toNat<=sizeLine:=by rw[O3,←hl];exact hz
 have hcap:¬its.toArray.size*k.toNat > (2 ^ 63-1) / 8:=by
  have:(sizeLine:Nat)<=(2 ^ 63-1) / 8:=by decide
  omega
 have hfit:¬(!Builtin.List.listFitsIndex k)=true:=by
  rw[fitsIndex_both h1 h2];exact Qj
 have hlong:¬Sw (its.toArray.size*k.toNat)=true:=by
  rw[Cn hlen];exact Qj
 have hnew:List.foldl (λx1 x2=>x1++x2) #[] (O7 (if its.toArray.isEmpty=true then 0 else k.toNat) its.toArray)=(O7 k.toNat its).flatten.toArray:=by
  have f0:∀m:Nat,List.foldl (λx1 x2=>x1++x2) #[] (O7 m its.toArray)=(O7 m its).flatten.toArray:=λm=>by
   have:=ro its m [];rw[SJ]at this;exact this
  rw[f0];cases its with|nil=>simp|cons a r'=>rw[if_neg (by simp)]
 refine wpAny_binaryOp_repeat_ref (T:="list") (U:="int") (by decide) ⟨_,e,rfl⟩ (λs'=>typeIs_int s' k t) noFill_list_mul F.fills_int_mul F.slot_int_rmul repeat_list F.slot_int_index.lookup
  (call_meets F.slot_int_rmul (typeIs_int s k t) F.entry_int_rmul (F.args_int_rmul_2 _ _) (int___rmul___int_list k t l its.toArray n)
   ⟨e,rfl,⟨_,e,rfl⟩,call_meets F.slot_list_mul ⟨_,e,rfl⟩ F.entry_list_mul (F.args_list_mul_2 _ _) (AutoListH.list___mul___list_int_3 l its.toArray n k t hfit hcap hlong) ⟨e,?_⟩⟩)
 rw[hnew];exact⟨.ref _,_,I.lnew (t':=s.toks) (r.rep k.toNat) (by rw[Fv,Nat.mul_comm];exact hz),rfl,q _ I.fresh⟩
end
end L2
namespace Att
open PySem PySem.W PySem.Calls PyProof.Rows
def ny{P:Params}{h:OL}:∀(ns:List Int) (vs:List OB),WellAll P h vs (ns.map WData.int)->IntsAre vs ns:=by
 intro ns
 induction ns with
 |nil=>
  intro vs w;rw[Sf]at w;cases w;exact .nil
 |cons n ns ih=>
  intro vs w;rw[OY]at w;cases w with
  |cons a b=>
   cases a;exact .cons _ _ (ih _ b)
def zV{l:OpenLaw}{n:Nat}(hn:l.most=some n){P:Params}{h:OL}{args:List WData}{vals:List OB}
  (hpre:l.row.toRowW.claim.pre args=true)(hwl:WellAll P h vals args) :
  ∃a vs ns,vals=[Ph a]/\args=[WData.list (ns.map WData.int)]/\h.get? a=some { cls:=.type "list",data:=.seq vs.toArray }/\IntsAre vs ns/\ns.length<=n:=by
 have hsh:WShape.hasAll [] args [.list .int]=true:=(pre_splitW hpre).1;have hc:l.pre.holds [] { args:=args }=true:=(pre_splitW hpre).2;obtain⟨d,r,rfl,h1,h2⟩:=hasAllW_cons hsh;obtain rfl:=hasAllW_nil h2;obtain⟨xs,rfl,h3⟩:=hasW_list h1;obtain⟨ns,rfl⟩:=items_int h3;have hlen:ns.length<=n:=by
  unfold OpenLaw.pre at hc;have h4:(WTm.not (.lt (.lit (.int (n:Int))) (.len (.arg 0)))).holds [] { args:=[.list (ns.map .int)] }=true:=by
   have h4:=(holds_andW hc).1;rw[hn]at h4;exact h4
  have h5:=condW_of h4 (w_not (w_lt w_lit (w_len_list (w_arg rfl))));rw[OH]at h5;refine Nat.le_of_not_lt λq=>?_;have q':(n:Int)<((ns.length:Nat):Int):=by omega
  first
   |(rw[decide_eq_true q']at h5;exact absurd h5 (by decide))
   |(simp at h5;omega)
 cases hwl with
 |cons w1 w2=>
  cases w2;cases w1 with|list ho hall=>exact⟨_,_,ns,rfl,rfl,ho,ny ns _ hall,hlen⟩
def zZ(l:OpenLaw)(args:List WData):l.row.toRowW.claim.post args (.bool true) args=true :=
 postW_of (r:=l.row.toRowW) (X:=(true==true))
  (show WShape.has [] (.bool true) .bool=true by first|rfl|decide|simp[WShape.has,WShape.arms,WShape.armsAll])
  (show(WTm.eq .res (.lit (.bool true))).value [] { args:=args,res:=some (.bool true),after:=args }=some (.bool (true==true)) from w_eq_bool (w_res rfl) w_lit) rfl
def attach_call{l:OpenLaw}{n:Nat}{q:O5}{loose:bv}{XP:(OO->Option OB)->OL->Prop}{YP:Pt->OL->Prop}{d:DefRec}
  (hn:l.most=some n)(hdf:d.params.defaults=[])
  (call:∀(w:Pt) (sf sg:OE) (mg mb:OO->Option OB) (fa:OG) (o:Obj) (pm cd doc:OB) (a:OG) (vs:List OB) (ns:List Int),
   Ground q loose [] XP w sf mg mb sg.heap->YP w sg.heap ->
   sg.heap.get? fa=some o->o.data=.func (docDef d.name d.params d.body d.scope pm cd doc)->sg.heap.CodeRec cd d.name->mg d.name=some (.ref fa) ->
   sg.heap.get? a=some { cls:=.type "list",data:=.seq vs.toArray }->IntsAre vs ns->ns.length<=n->sg.gens=#[] ->
   Rt (OW l.prog w) callerA (.call (.ref fa) ⟨[.ref a],[]⟩) (λr s'=>r=.ok (.ret (.bool true))/\OldK sg.heap s'.heap/\s'.os=sg.os/\AllBare s'.gens) sg) :
  WalkO q loose XP YP l.row.toRowW d [] (λf vs=>PySem.call f vs):=by
 intro w sf sg mg mb G Y fa o pm cd doc dV kV ho hd hcd hD hmg hg args vals as hpre hlay hrd hwl hlo;obtain rfl:dV=.none:=Dflts.none hD hdf;obtain rfl:kV=.none:=Dflts.noKw hD;obtain⟨a,vs,ns,rfl,rfl,hobj,hints,hlen⟩:=zV hn hpre hwl;refine enter_call (codeAny_mono (call w sf sg mg mb fa o pm cd doc a vs ns G Y ho (fd_plain hd) hcd hmg hobj hints hlen hg) λr s' hq=>?_);obtain⟨rfl,h2,h3,h4⟩:=hq;exact⟨.inl ⟨.bool true,.bool true,[],rfl,λ_=>rfl,.bool true,zZ l _,λ_=>⟨RD.nil,λ_ hm=>(nomatch hm)⟩⟩,h2,h3,h4⟩
end Att
namespace L2
open PySem PySem.Spec PyProof.Rows
theorem qJ:∀{vs:List OB}{ns:List Int},IntsAre vs ns->bq (ns.map V.int) vs
 |_,_,.nil=>.nil
 |_,_,.cons n t h=>.cons ⟨t,rfl⟩ (qJ h)
def G1(H:Hp):Prop:=∀b,H b=none∨∃o xs,H b=some (.frz o (.lst xs))
def CF{P:O5}{w:Pt}{K:OF}{mg mb:OO->Option OB}{CX:qp}{k:Nat}{fa a:OG}{fd:Pz}{x:OO}{sp:Sp}{sg:OE}{vs:List OB}{ns:List Int}
  (KX:K.In sg.heap)(hns:sg.heap.Ns O6 mg)(hb:sg.heap.Ns builtinsNs mb)(hbb:∀x:OO,x≠"__name__"->mb x=bootBuiltins x)(hlim:sg.heap.NoLimit)(hsm:∃mm,sg.heap.Ns Q2 mm)(hg:sg.gens=#[])
  (ha:sg.heap.get? a=some { cls:=.type "list",data:=.seq vs.toArray })(hi:IntsAre vs ns)(hl:ns.length<=sizeLine)(hr:c5 k callerA)
  (F:∀base:OL,K.In base->base.Ns O6 mg->FnOk P w K mg base CX k fa fd [x] sp)(hbind:∀(s:OE) (u:OB),BindsTo s fd ⟨[u],[]⟩ [(x,u)])
  (hsp:∀H:Hp,G1 H->df K H a (ns.map V.int)->sp [.ref a] H (λv _=>v=.bl true) λ_ _ _=>False)
  (hCX:∀H e s',CX [] H sg (λ_ _ _=>False) e s'->False) :
  Rt (OW P w) callerA (.call (.ref fa) ⟨[.ref a],[]⟩) (λr s'=>r=.ok (.ret (.bool true))/\OldK sg.heap s'.heap/\s'.os=sg.os/\AllBare s'.gens) sg:=by
 have rv:=qJ hi;have lenV:=hi.length;have core:∀H:Hp,G1 H->df K H a (ns.map V.int)->fv P w H sg.heap->(∀b,H b≠none->b=a)->(H a≠none->K.lookup a=none) ->
   Rt (OW P w) callerA (.call (.ref fa) ⟨[.ref a],[]⟩) (λr s'=>r=.ok (.ret (.bool true))/\OldK sg.heap s'.heap/\s'.os=sg.os/\AllBare s'.gens) sg:=by
  intro H hO hS hok hA hK;have base_of:∀{b:OG}{o:Obj},sg.heap.get? b=some o->H b=none->(tf sg.heap H).get? b=some o:=λe n=>CW e n;have noA:∀{b:OG}{o:Obj}{es:Array TC}{ep:Nat},sg.heap.get? b=some o->o.data=.dict es ep->H b=none:=λ{b o es ep} e d=>by
   cases q:H b with
   |none=>rfl
   |some u=>
    have e':b=a:=hA b (by rw[q];simp);subst e';rw[ha]at e;cases e;have d':Data.seq vs.toArray _=Data.dict es ep:=d;cases d'
  have nsK:∀{b:OG}{m:OO->Option OB},sg.heap.Ns b m->(tf sg.heap H).Ns b m:=λ{b m} ⟨o,es,ep,e,d,r⟩=>⟨o,es,ep,base_of e (noA e d),d,r⟩
  have hKb:K.In (tf sg.heap H):=λb o e=>base_of (KX b o e) (by
   cases q:H b with
   |none=>rfl
   |some u=>
    have e':b=a:=hA b (by rw[q];simp);subst e';rw[hK (by rw[q];simp)]at e;cases e)
  have hM:Mod K mg (tf sg.heap H):=⟨hKb,nsK hns,⟨mb,nsK hb,hbb⟩,let ⟨mc,h1,h2⟩:=hlim;⟨mc,nsK h1,h2⟩,let ⟨mm,h1⟩:=hsm;⟨mm,nsK h1⟩⟩
  have e0:vZ P w K mg (tf sg.heap H) callerA [] sg H:=⟨rfl,hM,λb o e=>Fm e,Nat.le_of_eq (Aw _ _),trivial,λb hb=>absurd (show b∈([]:List OG) from hb) (by simp),hok,.of_eq hg⟩
  refine codeAny_mono ((F _ hKb (nsK hns)).run callerA [] sg H ⟨[.ref a],[]⟩ [.ref a] [.ref a] _ _ hr e0 (hbind sg (.ref a)) (.cons rfl .nil) (hsp H hO hS)) λr s' h=>?_;cases r with
  |error e=>exact(hCX H e s' h).elim
  |ok fl=>
   cases fl with
   |next|brk|cont=>exact Qi h
   |ret u=>
    obtain⟨v,H',os,bare,un,hok',r',q⟩:=h;have q':v=.bl true:=q;subst q';obtain rfl:u=P5 true:=r';refine⟨rfl,OldK.of_keep λb o e=>?_,os,bare⟩;cases q:H b with
    |none=>exact un.keep b o e q (by intro z;exact absurd (show b∈([]:List OG) from z) (by simp)) (by simp)
    |some u=>
     rcases hO b with z|⟨ob,xs,z⟩
     .rw[q]at z;cases z
     .have z2:=un.frzs b ob _ z
      obtain⟨e1,_⟩:=hok b _ z;obtain⟨e2,_⟩:=hok' b _ z2;rw[e]at e1;cases e1;exact e2
 cases hk:K.lookup a with
 |some o=>
  have e:=KX a o hk;rw[ha]at e;cases e;refine core (λ_=>none) (λ_=>.inl rfl) (.inr ⟨_,vs.toArray,_,hk,rfl,rfl,rfl,by rw[O3,lenV];exact hl,by simpa using rv⟩) (λb u z=>by have z':(none:Option HO)=some u:=z;cases z') (λb z=>absurd rfl z) λz=>absurd rfl z
 |none=>
  refine core (λb=>if b=a then some (.frz { cls:=.type "list",data:=.seq vs.toArray } (.lst (ns.map V.int))) else none) (λb=>?_) (.inl (.inr ⟨{ cls:=.type "list",data:=.seq vs.toArray },if_pos rfl⟩)) (λb u z=>?_) (λb z=>?_) λ_=>hk
  .by_cases hb:b=a
   .exact .inr ⟨_,_,if_pos hb⟩
   .exact .inl (if_neg hb)
  .by_cases hb:b=a
   .have z':=(if_pos hb).symm.trans z
    cases z';subst hb;exact⟨ha,by rw[OH];exact hl,vs,_,rv,ha⟩
   .have z':=(if_neg hb).symm.trans z
    cases z'
  .by_cases hb:b=a
   .exact hb
   .exact absurd (if_neg hb) z
abbrev KOf{K:OF}{h:OL}(_:K.In h):OF:=K
def Et{l:W.OpenLaw}{n k:Nat}{q:O5}{loose:bv}{XP:(OO->Option OB)->OL->Prop}{YP:Pt->OL->Prop}{d:DefRec}{K:Params->OF}{CX:Pt->qp}{sp:Pt->Sp}{x:OO}
  (hi:importsNone q=true)(hn:l.most=some n)(hn2:n<=sizeLine)(hdf:d.params.defaults=[])(hr:c5 k callerA)
  (hY:∀(w:Pt) (h:OL),YP w h->(K w.params).In h)
  (F:∀(w:Pt) (mg:OO->Option OB) (fa:OG) (h:OL),(K w.params).In h->h.Ns O6 mg->mg d.name=some (.ref fa) ->
   ∃fd:Pz,(∀(s:OE) (u:OB),BindsTo s fd ⟨[u],[]⟩ [(x,u)]) /\
    ∀base:OL,(K w.params).In base->base.Ns O6 mg->FnOk l.prog w (K w.params) mg base (CX w) k fa fd [x] (sp w))
  (hsp:∀(w:Pt) (H:Hp) (a:OG) (ns:List Int),ns.length<=n->G1 H->df (K w.params) H a (ns.map V.int)->sp w [.ref a] H (λv _=>v=.bl true) λ_ _ _=>False)
  (hCX:∀(w:Pt) (H:Hp) (s:OE) (e:OB) (s':OE),CX w [] H s (λ_ _ _=>False) e s'->False) :
  W.WalkO q loose XP YP l.row.toRowW d [] (λf vs=>PySem.call f vs):=by
 refine Att.attach_call hn hdf λw sf sg mg mb fa o pm cd doc a vs ns G Y ho hd hcd hmg hobj hints hlen hg=>?_;have KX:=hY w _ Y;obtain⟨fd,hb,hF⟩:=F w mg fa _ KX G.T.g hmg;exact CF KX G.T.g G.T.b G.T.builtins G.T.nolimit (let ⟨mm,h1,_⟩:=(G.T.seer hi).mods;⟨mm,h1⟩) hg hobj hints (Pe hlen hn2) hr hF hb (λH hO hS=>hsp w H a ns hlen hO hS) λH e s'=>hCX w H sg e s'
def walk_ofK{l:W.OpenLaw}{n k:Nat}{q:O5}{loose:bv}{XP:(OO->Option OB)->OL->Prop}{YP:Pt->OL->Prop}{d:DefRec}{K:Params->OF}{CX:qp}{sp:OF->Sp}{x:OO}
  (hi:importsNone q=true)(hn:l.most=some n)(hn2:n<=sizeLine)(hdf:d.params.defaults=[])(hr:c5 k callerA)
  (hY:∀(w:Pt) (h:OL),YP w h->(K w.params).In h)
  (F:∀(w:Pt) (mg:OO->Option OB) (fa:OG) (h:OL),(K w.params).In h->h.Ns O6 mg->mg d.name=some (.ref fa) ->
   ∃fd:Pz,(∀(s:OE) (u:OB),BindsTo s fd ⟨[u],[]⟩ [(x,u)]) /\
    ∀base:OL,(K w.params).In base->base.Ns O6 mg->FnOk l.prog w (K w.params) mg base CX k fa fd [x] (sp (K w.params)))
  (hsp:∀(K:OF) (H:Hp) (a:OG) (ns:List Int),ns.length<=n->G1 H->df K H a (ns.map V.int)->sp K [.ref a] H (λv _=>v=.bl true) λ_ _ _=>False)
  (hCX:∀(H:Hp) (s:OE) (e:OB) (s':OE),CX [] H s (λ_ _ _=>False) e s'->False) :
  W.WalkO q loose XP YP l.row.toRowW d [] (λf vs=>PySem.call f vs) :=
 Et (K:=K) (CX:=λ_=>CX) (sp:=λw=>sp (K w.params)) hi hn hn2 hdf hr hY F (λw H a ns h1 h2 h3=>hsp (K w.params) H a ns h1 h2 h3) λ_ H s e s'=>hCX H s e s'
def FC(s:Qt)(j:Nat):Qt:=match s with
 |.ClassDef _ _ _ body _ _ _ _ _ _ _=>body.getD j (.Pass ⟨0,0,0,0⟩)
 |_=>.Pass ⟨0,0,0,0⟩
def defArgs(s:Qt):Arguments:=match s with
 |.FunctionDef _ a _ _ _ _ _ _ _ _=>a
 |_=>{ posonlyargs:=[],args:=[],vararg:=none,kwonlyargs:=[],kw_defaults:=[],kwarg:=none,defaults:=[] }
def defBody(s:Qt):List Qt:=match s with
 |.FunctionDef _ _ b _ _ _ _ _ _ _=>b
 |_=>[]
def defScope(s:Qt):RA:=match s with
 |.FunctionDef _ _ _ _ _ _ sc _ _ _=>sc
 |_=>{ kind:=.function,names:=[],isGenerator:=false,isCoroutine:=false }
abbrev CX0:qp:=λ_ _ _ _ _ _=>False
abbrev E0:XK:=λ_ _ _=>False
def Hl{X:Cx}:jD CX0 X E0:=λ_ _ _ _ _ _ _ h=>h.elim
structure D1 (K:OF) (x qual:OO) (st:Qt) (f:OG) (fd:Pz):Prop where
 ex:∃(oc:OB) (od:Option OG) (kV doc pm:OB) (an:Option OG) (cdv ct:OB) (osl:Array (Option OB)),
  fd=RJ x qual (defArgs st) (defBody st) (defScope st) .none kV doc pm an cdv ct/\K.lookup f=some ⟨oc,od,.func fd,osl⟩/\T5 K cdv qual=true
 kp:Sh K (.ref f)=true
section
variable {P:O5}{w:Pt}{K:OF}{mg:OO->Option OB}{base:OL}
def D1.ok{x qual:OO}{st:Qt}{f:OG}{fd:Pz}{N ps:bv}{k:Nat}{sp:Sp}(F:D1 K x qual st f fd)(S:fw N ps (defScope st))(len:∀vs H Q E,sp vs H Q E->vs.length=ps.length)
  (hbody:∀(cdv:OB) (A:Pu) (outer:List Env) (s:OE) (H:Hp) (vs:ad) (Q:VK) (E:XK),c5 k (A.deeper (envOfC qual (defScope st) s.heap.objs.size f cdv))->sp vs H Q E ->
   ∃t,ql (bV CX0 P w K mg base N qual (defScope st) f cdv A outer s H E).nox (defBody st) t/\t { nx:=λ_ H'=>Q .non H',rt:=Q } (start N vs) H):FnOk P w K mg base CX0 (k+1) f fd ps sp:=by
 obtain⟨oc,od,kV,doc,pm,an,cdv,ct,osl,rfl,lk,hcd⟩:=F.ex;refine C4 lk hcd S len λA outer s H vs Q E hr hsp=>?_;obtain⟨t,h,q⟩:=hbody cdv A outer s H vs Q E hr hsp;exact⟨t,h.nox,q⟩
def D1.binds{x qual:OO}{st:Qt}{f:OG}{fd:Pz}{ps:bv}(F:D1 K x qual st f fd)
  (h:∀(kV doc pm:OB) (an:Option OG) (cdv ct:OB) (us:List OB),us.length=ps.length->bindArgs (RJ x qual (defArgs st) (defBody st) (defScope st) .none kV doc pm an cdv ct) ⟨us,[]⟩=pure (ps.zip us)):iX K fd ps []:=by
 obtain⟨oc,od,kV,doc,pm,an,cdv,ct,osl,rfl,lk,hcd⟩:=F.ex;exact .all (h kV doc pm an cdv ct)
def tm{x qual:OO}{st:Qt}{f:OG}{oc:OB}{od an:Option OG}{osl:Array (Option OB)}{kV doc pm cdv ct:OB}(l:K.lookup f=some ⟨oc,od,.func (RJ x qual (defArgs st) (defBody st) (defScope st) .none kV doc pm an cdv ct),osl⟩)
  (c:T5 K cdv qual=true)(k:Sh K (.ref f)=true):D1 K x qual st f (RJ x qual (defArgs st) (defBody st) (defScope st) .none kV doc pm an cdv ct):=⟨⟨oc,od,kV,doc,pm,an,cdv,ct,osl,rfl,l,c⟩,k⟩
end
def aF(H H':Hp):Prop:=∀b o,H b=some o->H' b=some o
def aF.refl(H:Hp):aF H H:=λ_ _ h=>h
def aF.trans{H H1 H2:Hp}(a:aF H H1)(b:aF H1 H2):aF H H2:=λc o h=>b c o (a c o h)
def aF.free{H H':Hp}(e:aF H H'){l:OG}(h:H' l=TL):H l=TL:=by
 cases q:H l with
 |none=>rfl
 |some o=>
  rw[e l o q]at h;cases h
end L2
namespace DL
open PySem PySem.Spec PySem.Calls PySem.W PyProof.Rows Builtin Builtin.ObjectAttr Builtin.Getset_descriptor
section
variable {prog:O5}{w:Pt}{A:Pu}{E:OB->OE->Prop}{h:OL}{g:Array GenState}{d:Drawn}{t:Nat}{os:OsState}{a C:OG}{o:Obj}{K:Frag}
structure qI (K:Frag) (C:OG):Prop where
 cls:findIn K (.ref C) "__class__"=some (some (.builtin "object.__class__"))
 ga:findIn K (.ref C) "__getattribute__"=some (some (.builtin "BaseException.__getattribute__"))
 gt:findIn K (.ref C) "__getattr__"=some none
 ob:mroIn K C (.type "object")=some true
 be:subIn K (.ref C) (.type "BaseException")=some true
def HK{R:Tv->OE->Prop}{tp:OB}(X:K.In h)(Z:qI K C)(hx:h.get? a=some o)(hc:o.cls=.ref C)(hq:R (.ok (.ret (.ref C))) ⟨h,g,d,t,os⟩) :
  Rt (OW prog w) A (.call (.builtin "getset_descriptor.__get__") ⟨[.builtin "object.__class__",.ref a,tp],[]⟩) R ⟨h,g,d,t,os⟩:=by
 have L0:Looks (OW prog w) h (typeOf (.ref a)) (.ref C):=hc▸(Looks.ld hx).andThen .now;have L1:=looks_mroIn (M:=OW prog w) X Z.ob;refine codeAny_call_builtin KF.slot_gs.plain KF.entry_gs (KF.slot_gs.check _ _ _ _ _ _ _ _ KF.type_class (KF.args_gs _ _ _) ?_);unfold Builtin.«getset_descriptor.__get__» descrGet;rw[dga_obj];refine OC (ON ?_);unfold descrGetter descrCheckInstance descrNameAndClass isInstance;simp only[KF.owner_class]
 repeat lk
 refine⟨RL _ (by decide +kernel),codeAny_builtin KF.entry_class ?_⟩;unfold Builtin.«object.__class__» shownTypeOf
 repeat lk
 exact hq
def Bg{M:Model}{nameV:OB}{Q:Unit->OE->Prop}(X:K.In h)(Z:qI K C)(hx:h.get? a=some o)(hc:o.cls=.ref C)(hq:Q () ⟨h,g,d,t,os⟩):OS M A (checkBuiltinCall "BaseException.__getattribute__" ⟨[.ref a,nameV],[]⟩) Q E ⟨h,g,d,t,os⟩:=by
 have hk:builtinKind "BaseException.__getattribute__"=some .slot:=by decide +kernel
 have hsplit:splitId "BaseException.__getattribute__"=some ("BaseException","__getattribute__"):=by decide +kernel
 have ha:=F.args_bexc_ga (.ref a) nameV;have LS:Looks M h (isSubtype (.ref C) (.type "BaseException")) true:=looks_subIn X Z.be;simp only[checkBuiltinCall,hk,hsplit];refine OC ?_
 .unfold isInstance
  repeat (first|(with_reducible refine Qr hx ?_;rw[hc])|(with_reducible refine LS.at ?_)|wp_step)
  exact hq
def Bf{tk:Tok}{Q:Fin->OE->Prop}(X:K.In h)(Z:qI K C)(hx:h.get? a=some o)(hc:o.cls=.ref C)(hq:Q (.done (.ret (.ref C))) ⟨h,g,d,t,os⟩) :
  OS (OW prog w) A (Builtin.«object.__getattribute__» ⟨[.ref a,.str "__class__" tk],[]⟩) Q E ⟨h,g,d,t,os⟩:=by
 have hT5:(⟨h,g,d,t,os⟩:OE).TypeIs (.builtin "object.__class__") "getset_descriptor":=UM;have f5:=UM;have f6:=F.slot_gs_get.lookup;have f7:=F.slot_gs_set.lookup;have LC:Looks (OW prog w) h (RI (.ref C) "__class__") (some (.builtin "object.__class__")):=looks_findIn X Z.cls
 repeat (any_goals (first|assumption|(with_reducible refine Qr hx ?_;rw[hc])|(with_reducible refine LC.at ?_)|wp_step))
 refine HK X Z hx hc ?_
 repeat (any_goals (first|assumption|wp_step))
def Eo{tk:Tok}{R:Tv->OE->Prop}(X:K.In h)(Z:qI K C)(hx:h.get? a=some o)(hc:o.cls=.ref C)(hq:R (.ok (.ret (.ref C))) ⟨h,g,d,t,os⟩) :
  Rt (OW prog w) A (.call (.builtin "BaseException.__getattribute__") ⟨[.ref a,.str "__class__" tk],[]⟩) R ⟨h,g,d,t,os⟩ :=
 codeAny_call_builtin F.attr_ValueError.ga.plain F.entry_bexc_ga (Bg X Z hx hc (Bf X Z hx hc hq))
def Ku{tk:Tok}{Q:OB->OE->Prop}(X:K.In h)(Z:qI K C)(hx:h.get? a=some o)(hc:o.cls=.ref C)(hq:Q (.ref C) ⟨h,g,d,t,os⟩) :
  OS (OW prog w) A (getAttrBy (.ref a) (.str "__class__" tk) false) Q E ⟨h,g,d,t,os⟩:=by
 have f3:=F.attr_ValueError.ga.bind (.ref a);have hx2:(Sq "BaseException.__getattribute__"==Sq "object.__getattribute__")=false:=by decide +kernel
 have hx1:(onTheHeap (Ph C)&&Sq "BaseException.__getattribute__"==Sq "object.__getattribute__")=false:=by rw[hx2];rfl
 have L1:Looks (OW prog w) h (RI (.ref C) "__getattribute__") (some (.builtin "BaseException.__getattribute__")):=looks_findIn X Z.ga;have L2:Looks (OW prog w) h (RI (.ref C) "__getattr__") none:=looks_findIn X Z.gt
 repeat (any_goals (first|assumption|(with_reducible refine Qr hx ?_;rw[hc])|(with_reducible refine L1.at ?_)|(with_reducible refine L2.at ?_)|wp_step))
 refine Eo X Z hx hc ?_
 repeat (any_goals (first|assumption|wp_step))
def Ep{Q:Option OB->OE->Prop}(X:K.In h)(Z:qI K C)(hx:h.get? a=some o)(hc:o.cls=.ref C)(hq:Q (some (.ref C)) ⟨h,g,d,t+1,os⟩):OS (OW prog w) A (getAttr? (.ref a) "__class__") Q E ⟨h,g,d,t,os⟩:=by
 unfold getAttr? getAttrBy?
 repeat (any_goals (first|assumption|with_reducible apply Ku X Z hx hc|wp_step))
end
def MO(a C:OG)(dc:Option OG):OL->Prop:=λh=>∃o vs,h.get? a=some o/\o.cls=.ref C/\o.data=.fields vs/\o.dict=dc
def u9{K:Frag}{a C:OG}{dc:Option OG}(Z:qI K C)(hC:(clsIn K C).isSome=true):KitX K (.ref a) (.ref C) (MO a C dc) where
 ty:=λ_ _ _ ⟨o,_,h1,h2,_⟩=>h2▸(Looks.ld h1).andThen .now
 it:=λ_ _ X _=>by
  obtain⟨cd,hcD⟩:=Sr.mp hC;unfold clsIn at hcD;split at hcD
  .rename_i c' d' cd' sl' ho
   intro A' Q' E' s' k q;unfold isType loadHead;exact OC (wpAny_loadPart (k _ _ (X _ _ ho)) (ON q))
  .cases hcD
 ne:=λh tp dd its n sl X htp=>by
  obtain⟨cd,hcD⟩:=Sr.mp hC;refine Bool.eq_false_iff.mpr λq=>?_;have e:C=tp:=Ph.inj (beq_iff_eq.mp q);subst e;unfold clsIn at hcD;split at hcD
  .rename_i c' d' cd' sl' ho
   have z:=(X _ _ ho).symm.trans htp;cases z
  .cases hcD
 ca:=λ{_ _ _ _ _ s} X ⟨o,_,h1,h2,_⟩ k=>by
  obtain⟨h,g,d,t,os⟩:=s;exact Ep X Z h1 h2 k
def qI.isCls{K:Frag}{C:OG}(Z:qI K C):(clsIn K C).isSome=true:=by
 obtain⟨cd,a,b⟩:=Ur.mp Z.ob;rw[a];rfl
def fM:List String:=["NoneType","bool","int","str","tuple","list","dict"]
structure XC (K:Frag) (x:OO) (C:OG):Prop where
 ns:nsIn K O6 x=some (some (.ref C))
 ek:qI K C
 bt:∀T∈fM,kitOne K (.ref C) (.type T)=some false
end DL
namespace DL
open PySem PySem.Spec PyProof.Rows L2
def gj(o:Obj)(f:Array OB->Array OB):(o.mapFields f).dict=o.dict:=by unfold Ss;split<;>rfl
def iQ(h:OL)(e:OG)(dc:Option OG):Prop:=∃o,h.get? e=some o/\o.dict=dc/\(dc≠none->∃vs,o.data=.fields vs/\vs[2]?=some .none)
section
variable {M:Model}{A:Pu}{E:OB->OE->Prop}{s:OE}{base:OL}{env:PQ}{outer l:List PQ}{L e:OG}{cls a0 fl:OB}{dc:Option OG}{Q:Unit->OE->Prop}
def vn{oe:Obj}{vs:Array OB}{head:OB}{b0:Bool}(hfr:A.frames=some (env::outer))(hl:s.heap.FunFrames base (env::outer))(hf:env.frame=some L)(he:s.heap.get? e=some oe)(kb:base.StaysIn s.heap)(hen:base.get? e=none)(hd:oe.data=.fields vs)(hz:1<vs.size)(h0:vs[0]?=some a0)(hx:oe.dict≠none->vs[2]?=some .none)
  (h:∀h',U2 base (env::outer) e oe.cls a0 (rawInt L) s.heap h'->iQ h' e oe.dict->Q () { s with heap:=h' }) :
  OS M A (do
   let a ←frameOf env
   let pl ←entryPlaceOf L b0
   let b ←U7 head a .none (rawInt L) .none pl
   setField (.ref e) 1 b) Q E s:=by
 have nf:e∉(env::outer).filterMap (·.frame):=λhm=>by
  obtain⟨_,o,ho,q⟩:=hl.mem hm;rw[he]at ho;cases ho;exact q vs hd
 refine OC (wpAny_frameOf_fun hfr hl hf λg ⟨_,same,slots⟩=>OC (wpAny_entryPlaceOf λpl hpl=>?_));have ge:g.get? e=some oe:=(same e nf).trans he;have up:∀(N:Obj) (f:Obj->Obj) (b:OG) (o:Obj),b≠e->g.get? b=some o->((g.push N).update e f).get? b=some o:=λN f b o hb q=>(Qo _ _ (Px hb)).trans (OD _ q);have ne:∀b o,s.heap.get? b=some o->(∀vs,o.data≠.fields vs)->b≠e:=λb o q z c=>by subst c;rw[he]at q;cases q;exact z vs hd
 have kg:base.StaysIn g:=λb o q=>(same b λhm=>by rw[(hl.mem hm).1]at q;cases q).trans (kb b o q);unfold U7 newFields;refine OC (wpAny_newObj_type ?_ (hpl.sizeOk5 _ _ _ _ _));have d3:=QG hd (·.setIfInBounds 1 (Ph g.objs.size));have hTe:g.objs.size≠e:=Qd (OT ge);have at_e:∀N:Obj,((g.push N).update e (Ss (·.setIfInBounds 1 (Ph g.objs.size)))).get? e=some (oe.mapFields (·.setIfInBounds 1 (Ph g.objs.size))):=λN=>Qb _ (OD _ ge) (Rg d3);refine wpAny_setField (OD _ ge) hd hz (h _ ⟨λb o q=>up _ _ b o (λc=>by subst c;rw[hen]at q;cases q) (kg b o q),hl.of_keeps λb o q z=>?_,?_,λb o q z=>?_⟩ ⟨_,at_e _,gj _ _,λz=>⟨_,d3,by rw[Tt (by decide)];exact hx z⟩⟩)
 .obtain⟨sl,x⟩:=slots b o q
  exact⟨_,up _ _ b _ (ne b o q z) x,rfl⟩
 .refine⟨_,_,g.objs.size,_,_,at_e _,⟨Tf _ _,?_⟩,d3,?_,kg.fresh,hTe,(Qo _ _ (Px hTe)).trans (Pf g rfl),rfl,?_⟩
  .rw[Tt (by decide)];exact h0
  .simp[hz]
  .first|(simp;done)|(rcases hpl with rfl|⟨_,_,_,_,_,_,_,rfl⟩<;>simp)
 .obtain⟨sl,x⟩:=slots b o q
  exact⟨sl,up _ _ b _ (ne b o q z) x⟩
def vm{oe:Obj}{vs:Array OB}(hfr:A.frames=some (env::outer))(hl:s.heap.FunFrames base (env::outer))(hf:env.frame=some L)(he:s.heap.get? e=some oe)(kb:base.StaysIn s.heap)(hen:base.get? e=none)(hd:oe.data=.fields vs)(h1:vs[1]?=some .none)(h0:vs[0]?=some a0)(hx:oe.dict≠none->vs[2]?=some .none)
  (h:∀h',U2 base (env::outer) e oe.cls a0 (rawInt L) s.heap h'->iQ h' e oe.dict->Q () { s with heap:=h' }):OS M A (noteFrame (.ref e) env) Q E s:=by
 unfold noteFrame;simp only[hf];refine OC (wpAny_field he hd h1 ?_);rw[if_neg (by decide)];exact vn hfr hl hf he kb hen hd (QR.mp h1).1 h0 hx h
def yZ(hfr:A.frames=some (env::outer))(hl:s.heap.FunFrames base (env::outer))(hf:env.frame=some L)(ht:s.heap.TracedW base e cls a0)(hc:iQ s.heap e dc)(kb:base.StaysIn s.heap)(hen:base.get? e=none)
  (h:∀h',U2 base (env::outer) e cls a0 (rawInt L) s.heap h'->iQ h' e dc->Q () { s with heap:=h' }):OS M A (noteFrame (.ref e) env) Q E s:=by
 obtain⟨oe,vs,T,oT,ts,he,⟨rfl,h0⟩,hd,h1,hnT,hTe,hT,dT,h3⟩:=ht;obtain⟨o',q,rfl,cx⟩:=hc;rw[he]at q;cases q;have hx:oe.dict≠none->vs[2]?=some .none:=λz=>by
  obtain⟨vs',d',g⟩:=cx z;rw[hd]at d';cases d';exact g
 have oth:∀(f:Obj->Obj) (b:OG),b≠T->(s.heap.update T f).get? b=s.heap.get? b:=λf b hb=>Qo _ _ (Px hb);have ne:∀b o,s.heap.get? b=some o->(∀vs,o.data≠.fields vs)->b≠T:=λb o q z c=>by subst c;rw[hT]at q;cases q;exact z ts dT
 unfold noteFrame;simp only[hf];refine OC (wpAny_field he hd h1 ?_);rw[if_pos (by simp)];refine OC (wpAny_field hT dT h3 ?_);rw[if_neg (by simp[rawInt])];refine OC (wpAny_setField hT dT (QR.mp h3).1 ?_);refine vn hfr (hl.of_keeps λb o q z=>⟨o,(oth _ b (ne b o q z)).trans q,rfl⟩) hf ((oth _ e (Px hTe)).trans he) (λb o q=>(oth _ b λc=>by subst c;rw[hnT]at q;cases q).trans (kb b o q)) hen hd (QR.mp h1).1 h0 hx λh' ⟨x1,x2,x3,x4⟩ x5=>h h' ⟨x1,x2,x3,λb o q z=>x4 b o ((oth _ b (ne b o q z)).trans q) z⟩ x5
def ij(kb:base.StaysIn s.heap)(hl:s.heap.FunFrames base l)(ht:s.heap.TracedAtW base e cls a0 fl)(hc:iQ s.heap e dc)
  (h:∀h',base.StaysIn h'->h'.FunFrames base l->h'.TracedW base e cls a0->(∀b o,s.heap.get? b=some o->(∀vs,o.data≠.fields vs)->h'.get? b=some o)->iQ h' e dc->Q () { s with heap:=h' }):OS M A (setFlight (.ref e) none) Q E s:=by
 obtain⟨oe,vs,T,oT,ts,he,hcl,hd,h1,hnT,hTe,hT,dT,h3⟩:=ht;have z3:3<ts.size:=(QR.mp h3).1;have oth:∀(f:Obj->Obj) (b:OG),b≠T->(s.heap.update T f).get? b=s.heap.get? b:=λf b hb=>Qo _ _ (Px hb);have ne:∀b o,s.heap.get? b=some o->(∀vs,o.data≠.fields vs)->b≠T:=λb o q z c=>by subst c;rw[hT]at q;cases q;exact z ts dT
 unfold setFlight;refine OC (wpAny_field he hd h1 ?_);rw[if_pos (by simp)];obtain⟨o',q',rfl,cx⟩:=hc;refine wpAny_setField hT dT z3 (h _ (λb o q=>(oth _ b λc=>by subst c;rw[hnT]at q;cases q).trans (kb b o q)) (hl.of_keeps λb o q z=>⟨o,(oth _ b (ne b o q z)).trans q,rfl⟩) ?_ (λb o q z=>(oth _ b (ne b o q z)).trans q) ⟨o',(oth _ e (Px hTe)).trans q',rfl,cx⟩);exact⟨oe,vs,T,_,_,(oth _ e (Px hTe)).trans he,hcl,hd,h1,hnT,hTe,Qb _ hT (Rg (QG dT _)),QG dT _,by simp[z3]⟩
def Mu(h:OL)(e:OG)(ox:Option OG):Prop:=∃dc,iQ h e dc/\(ox=none∨ox=dc)
def pf{oe:Obj}{vs:Array OB}(hfr:A.frames=some (env::outer))(hl:s.heap.FunFrames base (env::outer))(hf:env.frame=some L)(he:s.heap.get? e=some oe)(kb:base.StaysIn s.heap)(hen:base.get? e=none)(hd:oe.data=.fields vs)(h1:vs[1]?=some .none)(h0:vs[0]?=some a0)(hx:oe.dict≠none->vs[2]?=some .none)
  (h:∀h',Q6 base outer e oe.cls a0 h'->s.heap.UpToSlots h'->iQ h' e oe.dict->Q () { s with heap:=h' }):OS M A (leaving env (.ref e)) Q E s:=by
 unfold leaving;refine OC (vm hfr hl hf he kb hen hd h1 h0 hx λg ⟨k1,k2,k3,k4⟩ dg=>?_);refine ij (s:={ s with heap:=g }) k1 k2 k3 dg λh' m1 ⟨_,_,m2⟩ m3 m4 dh=>h h' ⟨m1,hen,m2,m3⟩ (λb o q z=>?_) dh;obtain⟨sl,x⟩:=k4 b o q z;exact⟨sl,m4 b _ x z⟩
def Az(hfr:A.frames=some (env::outer))(hf:env.frame=some L)(hfl:Q6 base (env::outer) e cls a0 s.heap)(hc:iQ s.heap e dc)
  (h:∀h',Q6 base outer e cls a0 h'->s.heap.UpToSlots h'->iQ h' e dc->Q () { s with heap:=h' }):OS M A (leaving env (.ref e)) Q E s:=by
 obtain⟨f1,f2,f3,f4⟩:=hfl;unfold leaving;refine OC (yZ hfr f3 hf f4 hc f1 f2 λg ⟨k1,k2,k3,k4⟩ dg=>?_);refine ij (s:={ s with heap:=g }) k1 k2 k3 dg λh' m1 ⟨_,_,m2⟩ m3 m4 dh=>h h' ⟨m1,f2,m2,m3⟩ (λb o q z=>?_) dh;obtain⟨sl,x⟩:=k4 b o q z;exact⟨sl,m4 b _ x z⟩
def C6(hfr:A.frames=some (env::outer))(hf:env.frame=some L)(hfl:Q6 base (env::outer) e cls a0 s.heap)(hc:iQ s.heap e dc)
  (h:∀h',Heap.HeldW base (env::outer) e cls a0 L h'->s.heap.UpToSlots h'->iQ h' e dc->Q () { s with heap:=h' }):OS M A (noteFrame (.ref e) env) Q E s:=by
 obtain⟨f1,f2,f3,f4⟩:=hfl;exact yZ hfr f3 hf f4 hc f1 f2 λg ⟨k1,k2,k3,k4⟩ dg=>h g ⟨k1,f2,k2,k3⟩ k4 dg
def C7(hh:Heap.HeldW base l e cls a0 L s.heap)(hc:iQ s.heap e dc)(h:∀h',Q6 base l e cls a0 h'->s.heap.UpToSlots h'->iQ h' e dc->Q () { s with heap:=h' }):OS M A (setFlight (.ref e) none) Q E s:=by
 obtain⟨f1,f2,f3,f4⟩:=hh;exact ij f1 f3 f4 hc λh' k1 k2 k3 k4 k5=>h h' ⟨k1,f2,k2,k3⟩ (λb o q z=>⟨o.slots,k4 b o q z⟩) k5
def C8(hh:Q6 base l e cls a0 s.heap)(hc:iQ s.heap e dc)(h:∀h',Q6 base l e cls a0 h'->s.heap.UpToSlots h'->iQ h' e dc->Q () { s with heap:=h' }):OS M A (setFlight (.ref e) none) Q E s:=by
 obtain⟨f1,f2,f3,f4⟩:=hh;exact ij f1 f3 f4.at hc λh' k1 k2 k3 k4 k5=>h h' ⟨k1,f2,k2,k3⟩ (λb o q z=>⟨o.slots,k4 b o q z⟩) k5
end
def D7:Pd->Bool
 |.Starred _ _=>false
 |_=>true
def aM{e:Pd}{es:List Pd}{env:PQ}(h:D7 e=true):OJ (e::es) env=(false,eval e env)::OJ es env:=by
 cases e<;>first|(rw[OJ];intros;contradiction)|rw[OJ]|(cases h)
def cX{e:Pd}{env:PQ}(h:D7 e=true):OJ [e] env=[(false,eval e env)]:=by
 rw[aM h,OJ]
theorem bw{env:PQ}{pos:Pos}:∀{es:List Pd},es.all D7=true->(PN pos (OJ es env)).any (·.1)=false
 |[],_=>by rw[OJ];rfl
 |e::es,h=>by
  rw[Rc,O4]at h;rw[aM h.1];have:=bw (env:=env) (pos:=pos) h.2;show(false||(PN pos (OJ es env)).any (·.1))=false;rw[this];rfl
def kQ{e:Pd}{env:PQ}{pos:Pos}(h:D7 e=true):((PN pos (OJ [e] env)).all (λx=>!x.1)&&(Sx pos (Rm [] env)).all (λx=>x.1.isSome)
  &&decide ([e].length+([]:List R7).length+(if([]:List R7).isEmpty then 0 else 1)<30))=true:=by
 rw[cX h,Rm];rfl
inductive Kd where
 |ins (c:OO) (ks:bv)|dint (ks:List Int)|exf (c:OO) (ks:bv)|pl
inductive D where
 |non|bl (b:Bool)|int (i:Int)|str (x:OO)|tup (xs:List D)|lst (xs:List D)|dic (ks:bv) (xs:List D)|exc (x:OO)|ob (k:Kd) (xs:List D)
abbrev ac:=List D
structure NH (K:OF) (ks:bv) (C:OG):Prop where
 cls:MQ K C
 no:∀f∈ks,mq K C f
 gc:Rn K (.ref C) "__class__"=some (some (.builtin "object.__class__"))
 gn:TF K (.builtin "object.__class__") "__get__"=some (some (.builtin "getset_descriptor.__get__"))
 tk:W.takesIn K (.builtin "object.__class__")=some true
 mo:W.mroIn K C (.type "object")=some true
 bt:∀T∈fM,W.kitOne K (.ref C) (.type T)=some false
noncomputable def vY(K:OF) (H:Hp):Kd->OG->ad->Prop
 |.ins c ks,a,vs=>∃C dx,Qg K O6 c=some (some (.ref C))/\NH K ks C/\H a=some (.ins C dx (ks.zip vs))/\ks.length=vs.length
 |.dint ks,a,vs=>∃kvs,Rd H a (.dK kvs)/\kvs=(ks.map RU).zip vs/\ks.length=vs.length
 |.exf c ks,a,vs=>∃C dx fs,XC K c C/\Rd H a (.ext (MO a C (some dx)))/\H dx=some (.xd fs)/\ks.length=vs.length/\∀(i:Nat) (f:OO) (v:V),ks[i]?=some f->vs[i]?=some v->fs.lookup f=some v
 |.pl,a,vs=>H a=some (.lst vs)
structure NO where
 cls:OO
 flds:List (OO×D)
inductive aj (α:Type) where
 |ok (a:α)|exn (x:NO)|stuck
def aj.bind{α β:Type}(r:aj α)(f:α->aj β):aj β:=match r with
 |.ok a=>f a
 |.exn x=>.exn x
 |.stuck=>.stuck
mutual
def Rep(K:OF)(H:Hp):D->V->Prop
 |.non,v=>v=.non
 |.bl b,v=>v=.bl b
 |.int i,v=>v=.int i
 |.str x,v=>v=.str x
 |.tup ds,v=>∃a vs,v=.ref a/\gT K H a vs/\Reps K H ds vs
 |.lst ds,v=>∃a vs,v=.ref a/\df K H a vs/\Reps K H ds vs
 |.dic ks ds,v=>∃a kvs vs,v=.ref a/\Rd H a (.dK kvs)/\kvs=(ks.map Pn).zip vs/\ks.length=vs.length/\Reps K H ds vs
 |.exc x,v=>∃a C dc,v=.ref a/\XC K x C/\Rd H a (.ext (MO a C dc))
 |.ob k ds,v=>∃a vs,v=.ref a/\vY K H k a vs/\Reps K H ds vs
def Reps(K:OF)(H:Hp):ac->ad->Prop
 |[],vs=>vs=[]
 |d::ds,vs=>∃v r,vs=v::r/\Rep K H d v/\Reps K H ds r
end
def aF.rd{H H':Hp}(e:aF H H'){a:OG}{o:HO}(h:Rd H a o):Rd H' a o:=by
 rcases h with h|⟨o',h⟩
 .exact .inl (e _ _ h)
 .exact .inr ⟨o',e _ _ h⟩
def aF.sqT{K:OF}{H H':Hp}(e:aF H H'){a:OG}{xs:ad}(h:gT K H a xs):gT K H' a xs:=by
 rcases h with h|h
 .exact .inl (aF.rd e h)
 .exact .inr h
def aF.sqL{K:OF}{H H':Hp}(e:aF H H'){a:OG}{xs:ad}(h:df K H a xs):df K H' a xs:=by
 rcases h with h|h
 .exact .inl (aF.rd e h)
 .exact .inr h
theorem vY.mono{K:OF}{H H':Hp}(e:aF H H'):∀{k:Kd}{a:OG}{vs:ad},vY K H k a vs->vY K H' k a vs
 |.ins c ks,a,vs,⟨C,dx,h0,h1,h2,h3⟩=>⟨C,dx,h0,h1,e _ _ h2,h3⟩
 |.dint ks,a,vs,⟨kvs,h1,h2,h3⟩=>⟨kvs,aF.rd e h1,h2,h3⟩
 |.exf c ks,a,vs,⟨C,dx,fs,h1,h2,h3,h4⟩=>⟨C,dx,fs,h1,aF.rd e h2,e _ _ h3,h4⟩
 |.pl,a,vs,h=>e _ _ h
mutual
theorem Rep.mono{K:OF}{H H':Hp}(e:aF H H'):∀{d:D}{v:V},Rep K H d v->Rep K H' d v
 |.non,_,h=>by unfold Rep at h ⊢;exact h
 |.bl _,_,h=>by unfold Rep at h ⊢;exact h
 |.int _,_,h=>by unfold Rep at h ⊢;exact h
 |.str _,_,h=>by unfold Rep at h ⊢;exact h
 |.tup ds,_,h=>by
  unfold Rep at h ⊢;obtain⟨a,vs,e1,e2,e3⟩:=h;exact⟨a,vs,e1,aF.sqT e e2,Reps.mono e e3⟩
 |.lst ds,_,h=>by
  unfold Rep at h ⊢;obtain⟨a,vs,e1,e2,e3⟩:=h;exact⟨a,vs,e1,aF.sqL e e2,Reps.mono e e3⟩
 |.dic ks ds,_,h=>by
  unfold Rep at h ⊢;obtain⟨a,kvs,vs,e1,e2,e3,e4,e5⟩:=h;exact⟨a,kvs,vs,e1,aF.rd e e2,e3,e4,Reps.mono e e5⟩
 |.exc x,_,h=>by
  unfold Rep at h ⊢;obtain⟨a,C,dc,e1,e2,e3⟩:=h;exact⟨a,C,dc,e1,e2,aF.rd e e3⟩
 |.ob k ds,_,h=>by
  unfold Rep at h ⊢;obtain⟨a,vs,e1,e2,e3⟩:=h;exact⟨a,vs,e1,e2.mono e,Reps.mono e e3⟩
theorem Reps.mono{K:OF}{H H':Hp}(e:aF H H'):∀{ds:ac}{vs:ad},Reps K H ds vs->Reps K H' ds vs
 |[],_,h=>by unfold Reps at h ⊢;exact h
 |d::ds,_,h=>by
  unfold Reps at h ⊢;obtain⟨v,r,e1,e2,e3⟩:=h;exact⟨v,r,e1,Rep.mono e e2,Reps.mono e e3⟩
end
section
variable {K:OF}{H:Hp}{v:V}{vs:ad}{d:D}{ds:ac}
def aP:Rep K H .non v↔v=.non:=by unfold Rep;exact UD
def aH{b}:Rep K H (.bl b) v↔v=.bl b:=by unfold Rep;exact UD
def aD{i}:Rep K H (.int i) v↔v=.int i:=by unfold Rep;exact UD
def Rep.str_iff{x}:Rep K H (.str x) v↔v=.str x:=by unfold Rep;exact UD
def aI:Rep K H (.tup ds) v↔∃a vs,v=.ref a/\gT K H a vs/\Reps K H ds vs:=by rw[Rep]
def aA:Rep K H (.lst ds) v↔∃a vs,v=.ref a/\df K H a vs/\Reps K H ds vs:=by rw[Rep]
def m9{x}:Rep K H (.exc x) v↔∃a C dc,v=.ref a/\XC K x C/\Rd H a (.ext (MO a C dc)):=by rw[Rep]
def ck{k}:Rep K H (.ob k ds) v↔∃a vs,v=.ref a/\vY K H k a vs/\Reps K H ds vs:=by rw[Rep]
def Reps.nil_iff:Reps K H [] vs↔vs=[]:=by unfold Reps;exact UD
def aC:Reps K H (d::ds) vs↔∃v r,vs=v::r/\Rep K H d v/\Reps K H ds r:=by rw[Reps]
def Reps.nil:Reps K H [] []:=Reps.nil_iff.mpr rfl
def Reps.cons(h:Rep K H d v)(h':Reps K H ds vs):Reps K H (d::ds) (v::vs):=aC.mpr ⟨_,_,rfl,h,h'⟩
end
theorem Reps.length{K:OF}{H:Hp}:∀{ds:ac}{vs:ad},Reps K H ds vs->ds.length=vs.length
 |[],_,h=>by rw[Reps.nil_iff.mp h];rfl
 |d::ds,_,h=>by
  obtain⟨v,r,rfl,_,h⟩:=aC.mp h;simp[Reps.length h]
theorem Reps.get{K:OF}{H:Hp}:∀{ds:ac}{vs:ad}{i:Nat}{d:D},Reps K H ds vs->ds[i]?=some d->∃v,vs[i]?=some v/\Rep K H d v
 |[],_,_,_,h,e=>by simp at e
 |x::ds,_,0,d,h,e=>by
  obtain⟨v,r,rfl,h1,_⟩:=aC.mp h;simp at e;subst e;exact⟨v,rfl,h1⟩
 |x::ds,_,i+1,d,h,e=>by
  obtain⟨v,r,rfl,_,h2⟩:=aC.mp h;obtain⟨u,e1,e2⟩:=Reps.get (i:=i) h2 (by simpa using e);exact⟨u,by simpa using e1,e2⟩
theorem Reps.app{K:OF}{H:Hp}:∀{ds es:ac}{vs us:ad},Reps K H ds vs->Reps K H es us->Reps K H (ds++es) (vs++us)
 |[],_,_,_,h,h'=>by rw[Reps.nil_iff.mp h];exact h'
 |d::ds,_,_,_,h,h'=>by
  obtain⟨v,r,rfl,h1,h2⟩:=aC.mp h;exact Reps.cons h1 (Reps.app h2 h')
theorem Reps.take{K:OF}{H:Hp}:∀{ds:ac}{vs:ad}(n:Nat),Reps K H ds vs->Reps K H (ds.take n) (vs.take n)
 |_,_,0,_=>by simp;exact Reps.nil
 |[],_,n+1,h=>by rw[Reps.nil_iff.mp h];exact Reps.nil
 |d::ds,_,n+1,h=>by
  obtain⟨v,r,rfl,h1,h2⟩:=aC.mp h;exact Reps.cons h1 (Reps.take n h2)
theorem Reps.drop{K:OF}{H:Hp}:∀{ds:ac}{vs:ad}(n:Nat),Reps K H ds vs->Reps K H (ds.drop n) (vs.drop n)
 |_,_,0,h=>by simpa using h
 |[],_,n+1,h=>by rw[Reps.nil_iff.mp h];exact Reps.nil
 |d::ds,_,n+1,h=>by
  obtain⟨v,r,rfl,h1,h2⟩:=aC.mp h;exact Reps.drop n h2
theorem ml{K:OF}{H:Hp}:∀(ns:List Int),Reps K H (ns.map D.int) (ns.map V.int)
 |[]=>Reps.nil
 |n::r=>Reps.cons (aD.mpr rfl) (ml r)
structure bf (H Ha H' Ha':Hp):Prop where
 s:aF H H'
 z:aF Ha Ha'
 sub:aF Ha' H'
 nw:∀a,Ha' a≠none->Ha a=none->H a=none
def bf.refl{H Ha:Hp}(h:aF Ha H):bf H Ha H Ha:=⟨aF.refl _,aF.refl _,h,λa h1 h2=>absurd h2 h1⟩
theorem bf.trans{H Ha H1 H01 H2 H02:Hp}(a:bf H Ha H1 H01)(b:bf H1 H01 H2 H02):bf H Ha H2 H02 :=
 ⟨a.s.trans b.s,a.z.trans b.z,b.sub,λx h1 h2=>by
  cases q:H01 x with
  |none=>exact a.s.free (b.nw x h1 q)
  |some o=>exact a.nw x (by rw[q];simp) h2⟩
def aL{H Ha:Hp}{p:OG}{o:HO}(hs:aF Ha H)(hp:H p=none):bf H Ha (upd H p o) (upd Ha p o) :=
 ⟨same_new hp o,same_new (hs.free hp) o,λb u e=>by
  by_cases hb:b=p
  .subst hb;rw[aG]at e ⊢;exact e
  .rw[aE hb]at e ⊢;exact hs _ _ e,λa h1 h2=>by
  by_cases hb:a=p
  .subst hb;exact hp
  .rw[aE hb]at h1;exact absurd h2 h1⟩
where
 same_new {H:Hp}{p:OG}(h:H p=none) (o:HO):aF H (upd H p o):=λb u q=>by rw[aE (aR q h)];exact q
inductive Sl where
 |no|sh (d:D)|ow (d:D)|ox (j:Nat) (ds:ac)|pt (a:OG)
abbrev Ev:=List Sl
abbrev al:=Ev->aj D
def eU(K:OF)(Ha:Hp)(σ:L2.St)(ρ:Ev):Prop:=∀(i:Nat) (d:D),ρ[i]?=some (.sh d)->∃v,σ[i]?=some (some v)/\Rep K Ha d v
def eU.mono{K:OF}{H H':Hp}{σ:L2.St}{ρ:Ev}(e:aF H H')(r:eU K H σ ρ):eU K H' σ ρ:=λi d h=>
 let ⟨v,h1,h2⟩:=r i d h
 ⟨v,h1,h2.mono e⟩
def tY(K:OF)(H:Hp)(x:NO)(C:OB)(ox:Option OG):Prop :=
 (∃c,C=.ref c/\XC K x.cls c)/\match ox with
  |none=>x.flds=[]
  |some a=>∃fs,H a=some (.xd fs)/\∀n d,x.flds.lookup n=some d->∃v,fs.lookup n=some v/\Rep K H d v
def post(K:OF)(E:XK)(H Ha:Hp)(r:aj D)(Q:VK):Prop:=match r with
 |.ok d=>∀v H' Ha',bf H Ha H' Ha'->Rep K Ha' d v->Q v H'
 |.exn x=>∀C ox H' Ha',bf H Ha H' Ha'->tY K Ha' x C ox->E C ox H'
 |.stuck=>False
def oG(K:OF)(E:XK)(H Ha:Hp)(r:aj (ac))(Q:ad->Hp->Prop):Prop:=match r with
 |.ok ds=>∀vs H' Ha',bf H Ha H' Ha'->Reps K Ha' ds vs->Q vs H'
 |.exn x=>∀C ox H' Ha',bf H Ha H' Ha'->tY K Ha' x C ox->E C ox H'
 |.stuck=>False
def oH(K:OF)(E:XK)(H Ha:Hp)(r:aj D)(Q:Bool->Hp->Prop):Prop:=match r with
 |.ok (.bl b)=>∀H' Ha',bf H Ha H' Ha'->Q b H'
 |.ok _=>False
 |.exn x=>∀C ox H' Ha',bf H Ha H' Ha'->tY K Ha' x C ox->E C ox H'
 |.stuck=>False
section
variable {K:OF}{E:XK}{H Ha H1 H01:Hp}
def post.grow{r:aj D}{Q:VK}(h:post K E H Ha r Q)(g:bf H Ha H1 H01):post K E H1 H01 r Q:=by
 cases r with|ok d=>exact λv H' Ha' g'=>h v H' Ha' (g.trans g')|exn x=>exact λC ox H' Ha' g'=>h C ox H' Ha' (g.trans g')|stuck=>exact h
def oG.grow{r:aj (ac)}{Q:ad->Hp->Prop}(h:oG K E H Ha r Q)(g:bf H Ha H1 H01):oG K E H1 H01 r Q:=by
 cases r with|ok d=>exact λv H' Ha' g'=>h v H' Ha' (g.trans g')|exn x=>exact λC ox H' Ha' g'=>h C ox H' Ha' (g.trans g')|stuck=>exact h
def oH.grow{r:aj D}{Q:Bool->Hp->Prop}(h:oH K E H Ha r Q)(g:bf H Ha H1 H01):oH K E H1 H01 r Q:=by
 cases r with
 |ok d=>
  cases d with|bl b=>exact λH' Ha' g'=>h H' Ha' (g.trans g')| _=>exact h
 |exn x=>exact λC ox H' Ha' g'=>h C ox H' Ha' (g.trans g')
 |stuck=>exact h
end
def tD(K:OF)(E:XK)(f:al):TE:=λσ H Q=>∃Ha ρ,aF Ha H/\eU K Ha σ ρ/\post K E H Ha (f ρ) Q
def NS(K:OF)(E:XK)(f:Ev->aj (ac)):TA:=λσ H Q=>∃Ha ρ,aF Ha H/\eU K Ha σ ρ/\oG K E H Ha (f ρ) Q
def Kn(K:OF)(E:XK)(f:al):TT:=λσ H Q=>∃Ha ρ,aF Ha H/\eU K Ha σ ρ/\oH K E H Ha (f ρ) Q
structure DE (X:Cx) (E:XK) (e:Pd) (f:al):Prop where
 o:PE X e (tD X.K E f)
structure DA (X:Cx) (E:XK) (es:List Pd) (f:Ev->aj (ac)):Prop where
 o:PA X es (NS X.K E f)
structure DT (X:Cx) (E:XK) (e:Pd) (f:al):Prop where
 o:PT X e (Kn X.K E f)
structure DW (X:Cx) (E:XK) (e:Pd) (f:al):Prop where
 o:PW X e (Kn X.K E f)
section
variable {X:Cx}{E:XK}{e a b:Pd}{es:List Pd}{f g:al}{fa:Ev->aj (ac)}{pos:Pos}
def aX{t t':TE}(h:PE X e t)(w:∀σ H Q,t' σ H Q->t σ H Q):PE X e t':=λπ s σ H Q I q=>h π s σ H Q I (w σ H Q q)
def yz{t t':TA}(h:PA X es t)(w:∀σ H Q,t' σ H Q->t σ H Q):PA X es t':=λpos π s σ H Q I q=>h pos π s σ H Q I (w σ H Q q)
def nG{t t':TT}(h:PT X e t)(w:∀σ H Q,t' σ H Q->t σ H Q):PT X e t':=λπ s σ H Q I q=>h π s σ H Q I (w σ H Q q)
def yp{t t':TT}(h:PW X e t)(w:∀σ H Q,t' σ H Q->t σ H Q):PW X e t':=λwh π s σ H Q I q=>h wh π s σ H Q I (w σ H Q q)
def ae(i:Nat):al:=λρ=>match ρ[i]? with
 |some (.sh d)=>.ok d
 |_=>.stuck
def dC(d:D):al:=λ_=>.ok d
def J3{i:Nat}{x:OO}(hN:X.N[i]?=some x)(hv:zy X.env.scope x)(hd:(x==("__debug__" : OO))=false:=by decide)(hcd:(x==("__classdict__" : OO))=false:=by decide):DE X E (.Name x pos) (ae i):=by
 refine⟨?_⟩;refine aX (fE hN hv hd hcd) λσ H Q ⟨Ha,ρ,hs,hr,q⟩=>?_;unfold ae at q;cases e:ρ[i]? with
 |none=>rw[e]at q;exact q.elim
 |some s=>
  rw[e]at q;cases s with
  |sh d=>
   obtain⟨v,e1,e2⟩:=hr i d e;exact⟨v,e1,q v H Ha (bf.refl hs) e2⟩
  |no|ow d|ox j ds|pt a=>exact q.elim
def ai{i j}:DE X E (.Constant (.int i) j pos) (dC (.int i)):=⟨aX sJ λσ H Q ⟨Ha,ρ,hs,hr,q⟩=>q _ H Ha (bf.refl hs) (aD.mpr rfl)⟩
def fO{i j}:DE X E (.Constant (.bool i) j pos) (dC (.bl i)):=⟨aX Ll λσ H Q ⟨Ha,ρ,hs,hr,q⟩=>q _ H Ha (bf.refl hs) (aH.mpr rfl)⟩
def gP{j}:DE X E (.Constant .none j pos) (dC .non):=⟨aX B6 λσ H Q ⟨Ha,ρ,hs,hr,q⟩=>q _ H Ha (bf.refl hs) (aP.mpr rfl)⟩
def eP{x j}:DE X E (.Constant (.str x) j pos) (dC (.str x)):=⟨aX II λσ H Q ⟨Ha,ρ,hs,hr,q⟩=>q _ H Ha (bf.refl hs) (Rep.str_iff.mpr rfl)⟩
def GB{x:OO}{v:V}{u:OB}{d:D}(hg:Gl X x)(hm:X.mg x=some u)(r:bA v u)(hr:∀H,Rep X.K H d v)(hd:(x==("__debug__" : OO))=false:=by decide):DE X E (.Name x pos) (dC d) :=
 ⟨aX (E9 hg hm r hd) λσ H Q ⟨Ha,ρ,hs,hr',q⟩=>q _ H Ha (bf.refl hs) (hr Ha)⟩
def aa(f g:al)(op:D->D->aj D):al:=λρ=>(f ρ).bind λx=>(g ρ).bind λy=>op x y
def bh(f:al)(op:D->aj D):al:=λρ=>(f ρ).bind op
def ub(K:OF)(E:XK)(r:R2)(op:D->D->aj D):Prop:=∀(x y:D) (v u:V) (H Ha:Hp) (Q:VK),aF Ha H->Rep K Ha x v->Rep K Ha y u->post K E H Ha (op x y) Q->r v u H Q
def gU{r:R2}{op:D->D->aj D}(ho:ub X.K E r op)(σ:L2.St)(H:Hp)(Q:VK)(h:tD X.K E (aa f g op) σ H Q):KH r (tD X.K E f) (tD X.K E g) σ H Q:=by
 obtain⟨Ha,ρ,hs,hr,q⟩:=h;refine⟨Ha,ρ,hs,hr,?_⟩;unfold aa at q;cases e1:f ρ with
 |stuck|exn x=>rw[e1]at q;exact q
 |ok x=>
  rw[e1]at q;intro v H1 H01 g1 r1;refine⟨H01,ρ,g1.sub,hr.mono g1.z,?_⟩;replace q:post X.K E H Ha ((g ρ).bind λy=>op x y) Q:=q;replace q:=q.grow g1;cases e2:g ρ with
  |stuck|exn x=>rw[e2]at q;exact q
  |ok y=>
   rw[e2]at q;intro u H2 H02 g2 r2;exact ho x y v u H2 H02 Q g2.sub (r1.mono g2.z) r2 (post.grow (r:=op x y) q g2)
def mT{op:Operator}{r:R2}{o:D->D->aj D}(h:fN X (binaryOp op) r)(ho:ub X.K E r o)(ha:DE X E a f)(hb:DE X E b g):DE X E (.BinOp a op b pos) (aa f g o) :=
 ⟨aX (B5 h ha.o hb.o) (gU ho)⟩
def fJ{op:CmpOp}{r:R2}{o:D->D->aj D}(h:fN X (PX op) r)(ho:ub X.K E r o)(ha:DE X E a f)(hb:DE X E b g)(hm:behindInMarks op b=false):DE X E (.Compare a [op] [b] pos) (aa f g o) :=
 ⟨aX (Fd h ha.o hb.o hm) (gU ho)⟩
def Mj{r:R2}{o:D->D->aj D}(h:Eb X r)(ho:ub X.K E r o)(ha:DE X E a f)(hb:DE X E b g)(hs:lH b):DE X E (.Subscript a b pos) (aa f g o) :=
 ⟨aX (B8 h ha.o hb.o hs) (gU ho)⟩
def Ox(K:OF)(E:XK)(r:V->Hp->VK->Prop)(op:D->aj D):Prop:=∀(x:D) (v:V) (H Ha:Hp) (Q:VK),aF Ha H->Rep K Ha x v->post K E H Ha (op x) Q->r v H Q
def Mg{op:UnaryOp}{r:V->Hp->VK->Prop}{o:D->aj D}(h:MJ X (unaryOp op) r)(ho:Ox X.K E r o)(ha:DE X E a f):DE X E (.UnaryOp op a pos) (bh f o):=by
 refine⟨?_⟩;refine aX (Hk h ha.o) λσ H Q z9=>?_;obtain⟨Ha,ρ,hs,hr,q⟩:=z9;refine⟨Ha,ρ,hs,hr,?_⟩
 unfold bh at q;cases e1:f ρ with
 |stuck|exn x=>rw[e1]at q;exact q
 |ok x=>
  rw[e1]at q;intro v H1 H01 g1 r1;exact ho x v H1 H01 Q g1.sub r1 (post.grow (r:=o x) q g1)
def aB:Ev->aj (ac):=λ_=>.ok []
def ag(f:al)(fa:Ev->aj (ac)):Ev->aj (ac):=λρ=>(f ρ).bind λx=>(fa ρ).bind λxs=>.ok (x::xs)
def az:DA X E [] aB:=⟨yz eF λσ H Q ⟨Ha,ρ,hs,hr,q⟩=>q [] H Ha (bf.refl hs) Reps.nil⟩
def af(ha:DE X E e f)(hr:DA X E es fa)(hs:OJ (e::es) X.env=(false,eval e X.env)::OJ es X.env:=by exact aM rfl):DA X E (e::es) (ag f fa):=by
 refine⟨?_⟩;refine yz (cw ha.o hr.o hs) λσ H Q z9=>?_;obtain⟨Ha,ρ,hs,hr,q⟩:=z9;refine⟨Ha,ρ,hs,hr,?_⟩
 unfold ag at q;cases e1:f ρ with
 |stuck|exn x=>rw[e1]at q;exact q
 |ok x=>
  rw[e1]at q;intro v H1 H01 g1 r1;refine⟨H01,ρ,g1.sub,hr.mono g1.z,?_⟩;replace q:oG X.K E H Ha ((fa ρ).bind λxs=>.ok (x::xs)) Q:=q;replace q:=q.grow g1;cases e2:fa ρ with
  |stuck|exn x=>rw[e2]at q;exact q
  |ok xs=>
   rw[e2]at q;intro us H2 H02 g2 r2;exact q (v::us) H2 H02 g2 (Reps.cons (r1.mono g2.z) r2)
def line:Nat:=1000000
def cV{n:Nat}(h:n<=line):n<=sizeLine:=Pe h (by decide)
def aq(fa:Ev->aj (ac))(m:ac->aj D):al:=λρ=>(fa ρ).bind m
def gw:ac->aj D:=λds=>if ds.length<=line then .ok (.tup ds) else .stuck
def cI:ac->aj D:=λds=>if ds.length<=line then .ok (.lst ds) else .stuck
def jS{m:ac->aj D}{r:ad->Hp->VK->Prop}(ho:∀(ds:ac) (vs:ad) (H Ha:Hp) (Q:VK),aF Ha H->Reps X.K Ha ds vs->post X.K E H Ha (m ds) Q->r vs H Q)
  (σ:L2.St)(H:Hp)(Q:VK)(h:tD X.K E (aq fa m) σ H Q):NS X.K E fa σ H λvs H1=>r vs H1 Q:=by
 obtain⟨Ha,ρ,hs,hr,q⟩:=h;refine⟨Ha,ρ,hs,hr,?_⟩;unfold aq at q;cases e1:fa ρ with
 |stuck|exn x=>rw[e1]at q;exact q
 |ok x=>
  rw[e1]at q;intro v H1 H01 g1 r1;exact ho x v H1 H01 Q g1.sub r1 (post.grow (r:=m x) q g1)
def fb{x1}(h:DA X E es fa):DE X E (.Tuple es x1 pos) (aq fa gw):=by
 refine⟨?_⟩;refine aX (B3 h.o) (jS (r:=λxs H1 Q=>xs.length<=sizeLine/\∀p,H1 p=none->Q (.ref p) (upd H1 p (.tup xs))) λds vs H Ha Q hs hr q=>?_);unfold gw at q
 by_cases hl:ds.length<=line
 .rw[if_pos hl]at q
  refine⟨by rw[←hr.length];exact cV hl,λp hp=>q _ _ _ (aL hs hp) (aI.mpr ⟨p,vs,rfl,gT.of aG,hr.mono (aL hs hp).z⟩)⟩
 .rw[if_neg hl]at q;exact q.elim
def dA(h:DA X E es fa):DE X E (.List es pos) (aq fa cI):=by
 refine⟨?_⟩;refine aX (B7 h.o) (jS (r:=λxs H1 Q=>xs.length<=sizeLine/\∀p,H1 p=none->Q (.ref p) (upd H1 p (.lst xs))) λds vs H Ha Q hs hr q=>?_);unfold cI at q
 by_cases hl:ds.length<=line
 .rw[if_pos hl]at q
  refine⟨by rw[←hr.length];exact cV hl,λp hp=>q _ _ _ (aL hs hp) (aA.mpr ⟨p,vs,rfl,df.of aG,hr.mono (aL hs hp).z⟩)⟩
 .rw[if_neg hl]at q;exact q.elim
def spD(K:OF)(n:Nat)(m:ac->aj D):Sp:=λvs H Q E=>vs.length=n/\∃Ha ds,aF Ha H/\Reps K Ha ds vs/\post K E H Ha (m ds) Q
def GC{CX:qp}{k n:Nat}{fn:OG}{fd:Pz}{ps:bv}{m:ac->aj D}{x:OO}{p:Pos}(F:FnOk X.prog X.w X.K X.mg X.base CX k fn fd ps (spD X.K n m))(hr:c5 k X.A)(hg:Gl X x)(hm:X.mg x=some (.ref fn))
  (hk:Sh X.K (.ref fn)=true)(hb:iX X.K fd ps [])(hx:jD CX X E)(ha:DA X E (e::es) fa)(hn:(e::es).length=n:=by rfl)(hl:∀ρ ds,fa ρ=.ok ds->ds.length=(e::es).length)
  (hdb:(x==("__debug__" : OO))=false:=by decide)(he:OJ (e::es) X.env=(false,eval e X.env)::OJ es X.env:=by exact aM rfl)(hpl:(PN pos (OJ es X.env)).any (·.1)=false:=by exact bw rfl) :
  DE X E (.Call (.Name x p) (e::es) [] pos) (aq fa m):=by
 refine⟨?_⟩;refine aX (yu F hr hg hm hk hb .nil hx ha.o hdb he hpl) λσ H Q h=>?_;obtain⟨Ha,ρ,hs,hr,q⟩:=h;refine⟨Ha,ρ,hs,hr,?_⟩;unfold aq at q;cases e1:fa ρ with
 |stuck|exn x=>rw[e1]at q;exact q
 |ok ds=>
  rw[e1]at q;intro v H1 H01 g1 r1;refine⟨?_,H01,ds,g1.sub,by simpa using r1,post.grow (r:=m ds) q g1⟩;have:=r1.length;have:=hl ρ ds e1;simp only[QM];omega
def DU{ρ:Ev}{ds:ac}(h:aB ρ=.ok ds):ds.length=0:=by cases h;rfl
def mj{ρ:Ev}{ds:ac}{n:Nat}(hr:∀es,fa ρ=.ok es->es.length=n)(h:ag f fa ρ=.ok ds):ds.length=n+1:=by
 unfold ag at h;cases e1:f ρ with
 |stuck|exn x=>rw[e1]at h;cases h
 |ok x=>
  rw[e1]at h;replace h:((fa ρ).bind λxs=>aj.ok (x::xs))=.ok ds:=h;cases e2:fa ρ with
  |stuck|exn x=>rw[e2]at h;cases h
  |ok xs=>
   rw[e2]at h;cases h;simp[hr xs e2]
def iz(X:Cx)(E:XK)(r:ad->Hp->VK->Prop)(m:ac->aj D):Prop:=∀(ds:ac) (vs:ad) (H Ha:Hp) (Q:VK),aF Ha H->Reps X.K Ha ds vs->post X.K E H Ha (m ds) Q->r vs H Q
def aS{id:String}{r:ad->Hp->VK->Prop}{m:ac->aj D}{x:OO}{p:Pos}(hc:gK X (.builtin id) r)(hd:iz X E r m)(hg:Gl X x)(hm:X.mg x=none)(hv:bootBuiltins x=some (.builtin id))(ha:DA X E (e::es) fa)(hn:x≠"__name__":=by decide)(hdb:(x==("__debug__" : OO))=false:=by decide)
  (he:OJ (e::es) X.env=(false,eval e X.env)::OJ es X.env:=by exact aM rfl)(hpl:(PN pos (OJ es X.env)).any (·.1)=false:=by exact bw rfl):DE X E (.Call (.Name x p) (e::es) [] pos) (aq fa m) :=
 ⟨aX (oN hc hg hm hv ha.o hn hdb he hpl) (jS hd)⟩
def Dq(h:PT X e (tB (tD X.K E f))):DT X E e f:=by
 refine⟨?_⟩;refine nG h λσ H Q z9=>?_;obtain⟨Ha,ρ,hs,hr,q⟩:=z9;refine⟨Ha,ρ,hs,hr,?_⟩
 cases e1:f ρ with
 |stuck|exn x=>rw[e1]at q;exact q
 |ok d=>
  rw[e1]at q;intro v H1 H01 g1 r1;cases d with|bl b=>rw[aH.mp r1];exact⟨b,rfl,q H1 H01 g1⟩| _=>exact q.elim
def cg(h:DE X E e f)(he:∀whole,isTrue e X.env whole=(do let v ←whole;standAt e.pos;TZ [v] (truthy v)):=by intro _;rfl):DT X E e f:=Dq (Iy h.o he)
def bu{op:CmpOp}{r:R2}{o:D->D->aj D}(h:fN X (PX op) r)(ho:ub X.K E r o)(ha:DE X E a f)(hb:DE X E b g)(hm:behindInMarks op b=false):DT X E (.Compare a [op] [b] pos) (aa f g o):=by
 refine⟨?_⟩;refine nG (EW h ha.o hb.o hm) λσ H Q h=>?_;have w:tD X.K E (aa f g o) σ H λx H'=>∃k,x=.bl k/\Q k H':=by
  obtain⟨Ha,ρ,hs,hr,q⟩:=h;refine⟨Ha,ρ,hs,hr,?_⟩;cases e1:aa f g o ρ with
  |stuck|exn x=>rw[e1]at q;exact q
  |ok d=>
   rw[e1]at q;intro v H1 H01 g1 r1;cases d with|bl b=>rw[aH.mp r1];exact⟨b,rfl,q H1 H01 g1⟩| _=>exact q.elim
 exact gU ho σ H _ w
def cj(f:al):al:=bh f λx=>match x with
 |.bl b=>.ok (.bl (!b))
 |_=>.stuck
def fK(f g:al):al:=λρ=>(f ρ).bind λx=>match x with
 |.bl true=>g ρ
 |.bl false=>.ok (.bl false)
 |_=>.stuck
def gs(f g:al):al:=λρ=>(f ρ).bind λx=>match x with
 |.bl true=>.ok (.bl true)
 |.bl false=>g ρ
 |_=>.stuck
def cz(ha:DT X E a f):DT X E (.UnaryOp .Not a pos) (cj f):=by
 refine⟨?_⟩;refine nG (Iz ha.o) λσ H Q z9=>?_;obtain⟨Ha,ρ,hs,hr,q⟩:=z9;refine⟨Ha,ρ,hs,hr,?_⟩
 unfold cj bh at q;cases e1:f ρ with
 |stuck|exn x=>rw[e1]at q;exact q
 |ok d=>
  rw[e1]at q;cases d with|bl b=>exact q| _=>exact q.elim
def Dz(ha:DE X E a f):DE X E (.UnaryOp .Not a pos) (cj f):=by
 refine⟨?_⟩;refine aX (IL ha.o) λσ H Q z9=>?_;obtain⟨Ha,ρ,hs,hr,q⟩:=z9;refine⟨Ha,ρ,hs,hr,?_⟩
 unfold cj bh at q;cases e1:f ρ with
 |stuck|exn x=>rw[e1]at q;exact q
 |ok d=>
  rw[e1]at q;intro v H1 H01 g1 r1;cases d with|bl b=>rw[aH.mp r1];exact⟨b,rfl,q (.bl !b) H1 H01 g1 (aH.mpr rfl)⟩| _=>exact q.elim
variable {rest:List Pd}
def iG(ha:DT X E a f):DW X E (.BoolOp .And [a] pos) f:=⟨ES ha.o⟩
def bF(ha:DT X E a f):DW X E (.BoolOp .Or [a] pos) f:=⟨Iu ha.o⟩
def tJ(ha:DT X E a f)(hb:DW X E (.BoolOp .And (b::rest) pos) g):DW X E (.BoolOp .And (a::b::rest) pos) (fK f g):=by
 refine⟨?_⟩;refine yp (Iv ha.o hb.o) λσ H Q z9=>?_;obtain⟨Ha,ρ,hs,hr,q⟩:=z9;refine⟨Ha,ρ,hs,hr,?_⟩
 unfold fK at q;cases e1:f ρ with
 |stuck|exn x=>rw[e1]at q;exact q
 |ok d=>
  rw[e1]at q;cases d with
  |bl b=>
   cases b with|true=>exact λH1 H01 g1=>⟨H01,ρ,g1.sub,hr.mono g1.z,oH.grow (r:=g ρ) q g1⟩|false=>exact λH1 H01 g1=>q H1 H01 g1
  |_=>exact q.elim
def dI(ha:DT X E a f)(hb:DW X E (.BoolOp .Or (b::rest) pos) g):DW X E (.BoolOp .Or (a::b::rest) pos) (gs f g):=by
 refine⟨?_⟩;refine yp (Lf ha.o hb.o) λσ H Q z9=>?_;obtain⟨Ha,ρ,hs,hr,q⟩:=z9;refine⟨Ha,ρ,hs,hr,?_⟩
 unfold gs at q;cases e1:f ρ with
 |stuck|exn x=>rw[e1]at q;exact q
 |ok d=>
  rw[e1]at q;cases d with
  |bl b=>
   cases b with|false=>exact λH1 H01 g1=>⟨H01,ρ,g1.sub,hr.mono g1.z,oH.grow (r:=g ρ) q g1⟩|true=>exact λH1 H01 g1=>q H1 H01 g1
  |_=>exact q.elim
def DW.dt(h:DW X E e f):DT X E e f:=⟨PW.pt h.o⟩
def iJ{op}(h:DE X E a f):DE X E (.BoolOp op [a] pos) f:=⟨IK h.o⟩
def iK(ha:DE X E a f)(hb:DE X E (.BoolOp .And (b::rest) pos) g):DE X E (.BoolOp .And (a::b::rest) pos) (fK f g):=by
 refine⟨?_⟩;refine aX (IM ha.o hb.o) λσ H Q z9=>?_;obtain⟨Ha,ρ,hs,hr,q⟩:=z9;refine⟨Ha,ρ,hs,hr,?_⟩
 unfold fK at q;cases e1:f ρ with
 |stuck|exn x=>rw[e1]at q;exact q
 |ok d=>
  rw[e1]at q;intro v H1 H01 g1 r1;cases d with
  |bl b=>
   rw[aH.mp r1];cases b with|true=>exact⟨true,rfl,H01,ρ,g1.sub,hr.mono g1.z,post.grow (r:=g ρ) q g1⟩|false=>exact⟨false,rfl,q (.bl false) H1 H01 g1 (aH.mpr rfl)⟩
  |_=>exact q.elim
def Mi(ha:DE X E a f)(hb:DE X E (.BoolOp .Or (b::rest) pos) g):DE X E (.BoolOp .Or (a::b::rest) pos) (gs f g):=by
 refine⟨?_⟩;refine aX (Lk ha.o hb.o) λσ H Q z9=>?_;obtain⟨Ha,ρ,hs,hr,q⟩:=z9;refine⟨Ha,ρ,hs,hr,?_⟩
 unfold gs at q;cases e1:f ρ with
 |stuck|exn x=>rw[e1]at q;exact q
 |ok d=>
  rw[e1]at q;intro v H1 H01 g1 r1;cases d with
  |bl b=>
   rw[aH.mp r1];cases b with|false=>exact⟨false,rfl,H01,ρ,g1.sub,hr.mono g1.z,post.grow (r:=g ρ) q g1⟩|true=>exact⟨true,rfl,q (.bl true) H1 H01 g1 (aH.mpr rfl)⟩
  |_=>exact q.elim
end
noncomputable def G0(K:OF) (Ha H:Hp) (a:OG) (d:D):Prop:=match d with
 |.lst ds=>∃vs,H a=some (.lst vs)/\Reps K Ha ds vs
 |.dic ks ds=>∃vs,H a=some (.dK ((ks.map Pn).zip vs))/\ks.length=vs.length/\Reps K Ha ds vs
 |.ob (.dint ks) ds=>∃vs,H a=some (.dK ((ks.map RU).zip vs))/\ks.length=vs.length/\Reps K Ha ds vs
 |_=>False
def qz(j k:Nat):Bool:=if j=99 then decide (k<=1) else k==j
noncomputable def Mv(K:OF) (He Ha H:Hp) (a:OG) (j:Nat) (ds:ac) (P:Nat->OG):Prop:=∃vs,He a=none/\H a=some (.tup vs)/\ds.length=vs.length /\
 (∀k,qz j k=true->∃es us,He (P k)=none/\Ha (P k)=none/\ds[k]?=some (.lst es)/\vs[k]?=some (.ref (P k))/\H (P k)=some (.lst us)/\Reps K Ha es us) /\
 (∀k l,qz j k=true->qz j l=true->P k=P l->k=l)/\∀k d v,qz j k=false->ds[k]?=some d->vs[k]?=some v->Rep K Ha d v
noncomputable def OX(K:OF) (He Ha:Hp) (σ:L2.St) (H:Hp) (ρ:Ev):Prop:=(∀(i j:Nat) (ds:ac),ρ[i]?=some (.ox j ds)->∃a P,σ[i]?=some (some (.ref a))/\Mv K He Ha H a j ds P/\(∀(k:Nat) (d:D) (l:Nat),qz j l=true->ρ[k]?=some (.ow d)->σ[k]?≠some (some (.ref (P l))))/\∀(k j':Nat) (ds':ac),ρ[k]?=some (.ox j' ds')->k=i)/\∀(i:Nat) (a:OG),ρ[i]?=some (.pt a)->σ[i]?=some (some (.ref a))
def OX.upd{K:OF}{He Ha Ha' H H':Hp}{σ σ':L2.St}{ρ ρ':Ev}(h:OX K He Ha σ H ρ)
  (hk:∀(j:Nat) (s:Sl),ρ'[j]?=some s->(ρ[j]?=some s/\σ'[j]?=σ[j]?)∨(∃d,s=.sh d)∨s=.no∨∃d q,s=.ow d/\σ'[j]?=some (some (.ref q))/\∀(i j:Nat) (ds:ac) (a:OG) (P:Nat->OG),ρ[i]?=some (.ox j ds)->σ[i]?=some (some (.ref a))->Mv K He Ha H a j ds P->∀l,qz j l=true->q≠P l)
  (hz:aF Ha Ha')(ht:∀a vs,He a=none->H a=some (.tup vs)->H' a=some (.tup vs))
  (hl:∀p us,He p=none->Ha p=none->H p=some (.lst us)->(∀(k:Nat) (d:D),ρ[k]?=some (.ow d)->σ[k]?≠some (some (.ref p)))->H' p=some (.lst us)/\Ha' p=none):OX K He Ha' σ' H' ρ':=by
 refine⟨λi j ds e=>?_,λi a e=>?_⟩
 rotate_left
 .rcases hk i _ e with h1|⟨d,h1⟩|h1|⟨d,q,h1,_⟩
  .rw[h1.2];exact h.2 i a h1.1
  .cases h1
  .cases h1
  .cases h1
 have old:ρ[i]?=some (.ox j ds)/\σ'[i]?=σ[i]?:=by
  rcases hk i _ e with h1|⟨d,h1⟩|h1|⟨d,q,h1,_⟩
  .exact h1
  .cases h1
  .cases h1
  .cases h1
 obtain⟨a,P,h1,h2,h3,h4⟩:=h.1 i j ds old.1;have h2':=h2;obtain⟨vs,r1,r2,r3,r4,r5,r6⟩:=h2;refine⟨a,P,old.2.trans h1,⟨vs,r1,ht a vs r1 r2,r3,λk ok=>?_,r5,λk d v hk e1 e2=>(r6 k d v hk e1 e2).mono hz⟩,λk d l ok ek z=>?_,λk j' ds' ek=>?_⟩
 .obtain⟨es,us,q1,q2,q3,q4,q5,q6⟩:=r4 k ok
  obtain⟨l1,l2⟩:=hl (P k) us q1 q2 q5 λm d em=>h3 m d k ok em;exact⟨es,us,q1,l2,q3,q4,l1,q6.mono hz⟩
 .rcases hk k _ ek with h1'|⟨d',h1'⟩|h1'|⟨d',q,h1',h2'',h3'⟩
  .exact h3 k d l ok h1'.1 (by rw[←h1'.2];exact z)
  .cases h1'
  .cases h1'
  .rw[h2'']at z
   cases z;exact h3' i j ds a P old.1 h1 h2' l ok rfl
 .rcases hk k _ ek with h1'|⟨d',h1'⟩|h1'|⟨d',q,h1',_⟩
  .exact h4 k j' ds' h1'.1
  .cases h1'
  .cases h1'
  .cases h1'
def OX.none{K:OF}{He Ha H:Hp}{σ:L2.St}{ρ:Ev}(h:∀(i j:Nat) (ds:ac),ρ[i]?≠some (.ox j ds))(h':∀(i:Nat) (a:OG),ρ[i]?=some (.pt a)->σ[i]?=some (some (.ref a))):OX K He Ha σ H ρ:=⟨λi j ds e=>absurd e (h i j ds),h'⟩
theorem sD{K:OF}{H:Hp}:∀{ds:ac}{vs:ad},ds.length=vs.length->(∀(k:Nat) (d:D) (v:V),ds[k]?=some d->vs[k]?=some v->Rep K H d v)->Reps K H ds vs
 |[],[],_,_=>Reps.nil
 |d::ds,v::vs,hl,h=>Reps.cons (h 0 d v rfl rfl) (sD (by simpa using hl) λk d' v' e1 e2=>h (k+1) d' v' e1 e2)
structure dJ (K:OF) (He η Ha:Hp) (σ:L2.St) (H:Hp) (ρ:Ev):Prop where
 g:bf He η H Ha
 rd:eU K Ha σ ρ
 ow:∀(i:Nat) (d:D),ρ[i]?=some (.ow d)->∃a,σ[i]?=some (some (.ref a))/\He a=none/\Ha a=none/\G0 K Ha H a d
 ap:∀(i j:Nat) (d d':D),i≠j->ρ[i]?=some (.ow d)->ρ[j]?=some (.ow d')->σ[i]?≠σ[j]?
 ln:ρ.length=σ.length
 ex:OX K He Ha σ H ρ
inductive Fl where
 |nx (ρ:Ev)|rt (d:D)|bk (ρ:Ev)|ct (ρ:Ev)
abbrev am:=Ev->aj Fl
noncomputable def bM(K:OF) (E:XK) (He η Ha:Hp) (r:aj Fl) (D:gr):Prop:=match r with
 |.ok (.nx ρ)=>∀σ H Ha',aF Ha Ha'->dJ K He η Ha' σ H ρ->D.nx σ H
 |.ok (.rt d)=>∀v H Ha',bf He η H Ha'->Rep K Ha' d v->D.rt v H
 |.ok (.bk ρ)=>∀σ H Ha',aF Ha Ha'->dJ K He η Ha' σ H ρ->D.bk σ H
 |.ok (.ct ρ)=>∀σ H Ha',aF Ha Ha'->dJ K He η Ha' σ H ρ->D.ct σ H
 |.exn x=>∀C ox H Ha',bf He η H Ha'->tY K Ha' x C ox->E C ox H
 |.stuck=>False
def bM.grow{K:OF}{E:XK}{He η Ha Hb:Hp}{r:aj Fl}{D:gr}(h:bM K E He η Ha r D)(s:aF Ha Hb):bM K E He η Hb r D:=by
 cases r with
 |ok f=>
  cases f with|nx ρ=>exact λσ H Ha' s'=>h σ H Ha' (s.trans s')|rt d=>exact h|bk ρ=>exact λσ H Ha' s'=>h σ H Ha' (s.trans s')|ct ρ=>exact λσ H Ha' s'=>h σ H Ha' (s.trans s')
 |exn x=>exact h
 |stuck=>exact h
def tS(K:OF)(E:XK)(He η:Hp)(g:am):TS:=λD σ H=>∃Ha ρ,dJ K He η Ha σ H ρ/\bM K E He η Ha (g ρ) D
structure DS (X:Cx) (E:XK) (He η:Hp) (st:Qt) (g:am):Prop where
 o:PS X st (tS X.K E He η g)
structure wb (X:Cx) (E:XK) (He η:Hp) (st:List Qt) (g:am):Prop where
 o:ql X st (tS X.K E He η g)
def gu(ρ:Ev):Ev:=ρ.map λs=>match s with
 |.ow d=>.sh d
 |.ox _ ds=>.sh (.tup ds)
 |x=>x
def frz(He Ha H:Hp):Hp:=λa=>match He a with
 |none=>H a
 |some _=>Ha a
section
variable {K:OF}{E:XK}{He η Ha H H1:Hp}{σ:L2.St}{ρ:Ev}
def dJ.same(h:dJ K He η Ha σ H ρ)(s:aF H H1):dJ K He η Ha σ H1 ρ :=
 ⟨⟨h.g.s.trans s,h.g.z,h.g.sub.trans s,h.g.nw⟩,h.rd,λi d e=>by
  obtain⟨a,h1,h2,h3,h4⟩:=h.ow i d e;refine⟨a,h1,h2,h3,?_⟩;cases d with
  |lst ds=>obtain⟨vs,h5,h6⟩:=h4;exact⟨vs,s _ _ h5,h6⟩|dic ks ds=>obtain⟨vs,h5,hl,h6⟩:=h4;exact⟨vs,s _ _ h5,hl,h6⟩
  |ob kk ds=>
   cases kk with|dint ks=>obtain⟨vs,h5,hl,h6⟩:=h4;exact⟨vs,s _ _ h5,hl,h6⟩| _=>exact h4.elim
  |_=>exact h4,h.ap,h.ln,h.ex.upd (λj s' e=>.inl ⟨e,rfl⟩) (aF.refl _) (λa vs _ e=>s _ _ e) λp us _ h0 hp _=>⟨s _ _ hp,h0⟩⟩
def dJ.grow{H01:Hp}(h:dJ K He η Ha σ H ρ)(s:bf H Ha H1 H01):dJ K He η H01 σ H1 ρ :=
 ⟨h.g.trans s,h.rd.mono s.z,λi d e=>by
  obtain⟨a,h1,h2,h3,h4⟩:=h.ow i d e;have ha:H01 a=none:=by
   cases q:H01 a with
   |none=>rfl
   |some o=>
    have:=s.nw a (by rw[q];simp) h3;cases d with
    |lst ds|dic ks ds=>obtain⟨vs,h5,_⟩:=h4;rw[h5]at this;cases this
    |ob kk ds=>
     cases kk with|dint ks=>obtain⟨vs,h5,_⟩:=h4;rw[h5]at this;cases this| _=>exact h4.elim
    |_=>exact h4.elim
  refine⟨a,h1,h2,ha,?_⟩;cases d with
  |lst ds=>obtain⟨vs,h5,h6⟩:=h4;exact⟨vs,s.s _ _ h5,h6.mono s.z⟩|dic ks ds=>obtain⟨vs,h5,hl,h6⟩:=h4;exact⟨vs,s.s _ _ h5,hl,h6.mono s.z⟩
  |ob kk ds=>
   cases kk with|dint ks=>obtain⟨vs,h5,hl,h6⟩:=h4;exact⟨vs,s.s _ _ h5,hl,h6.mono s.z⟩| _=>exact h4.elim
  |_=>exact h4,h.ap,h.ln,h.ex.upd (λj s' e=>.inl ⟨e,rfl⟩) s.z (λa vs _ e=>s.s _ _ e) λp us _ h0 hp _=>⟨s.s _ _ hp,by
   cases q:H01 p with
   |none=>rfl
   |some o=>have:=s.nw p (by rw[q];simp) h0;rw[hp]at this;cases this⟩⟩
def dJ.frz_sub(h:dJ K He η Ha σ H ρ):aF Ha (frz He Ha H):=λb o e=>by
 unfold frz;cases q:He b with|none=>exact h.g.sub _ _ e|some _=>exact e
def dJ.frz_le(h:dJ K He η Ha σ H ρ):aF (frz He Ha H) H:=λb o e=>by
 unfold frz at e;cases q:He b with|none=>rw[q]at e;exact e|some _=>rw[q]at e;exact h.g.sub _ _ e
theorem dJ.frz_grow(h:dJ K He η Ha σ H ρ):bf He η H (frz He Ha H) :=
 ⟨h.g.s,h.g.z.trans h.frz_sub,h.frz_le,λa h1 h2=>by
  cases q:He a with
  |none=>rfl
  |some o=>
   unfold frz at h1;rw[q]at h1;have:=h.g.nw a h1 h2;rw[q]at this;cases this⟩
def dJ.looks(h:dJ K He η Ha σ H ρ):eU K (frz He Ha H) σ (gu ρ):=λi d e=>by
 unfold gu at e;rw[OM]at e;cases q:ρ[i]? with
 |none=>rw[q]at e;cases e
 |some s=>
  rw[q]at e;cases s with
  |no|pt a=>cases e
  |sh d'=>
   cases e;obtain⟨v,h1,h2⟩:=h.rd i d q;exact⟨v,h1,h2.mono h.frz_sub⟩
  |ow d'=>
   cases e;obtain⟨a,h1,h2,h3,h4⟩:=h.ow i d q;refine⟨_,h1,?_⟩;cases d with
   |lst ds=>
    obtain⟨vs,h5,h6⟩:=h4;exact aA.mpr ⟨a,vs,rfl,df.of (by unfold frz;rw[h2];exact h5),h6.mono h.frz_sub⟩
   |dic ks ds=>
    obtain⟨vs,h5,hl,h6⟩:=h4;rw[Rep];exact⟨a,_,vs,rfl,.inl (by unfold frz;rw[h2];exact h5),rfl,hl,h6.mono h.frz_sub⟩
   |ob kk ds=>
    cases kk with
    |dint ks=>
     obtain⟨vs,h5,hl,h6⟩:=h4;exact ck.mpr ⟨a,vs,rfl,⟨_,.inl (by unfold frz;rw[h2];exact h5),rfl,hl⟩,h6.mono h.frz_sub⟩
    |_=>exact h4.elim
   |_=>exact h4.elim
  |ox j ds=>
   cases e;obtain⟨a,P,h1,⟨vs,r1,r2,r3,r4,r5,r6⟩,_⟩:=h.ex.1 i j ds q;refine⟨_,h1,aI.mpr ⟨a,vs,rfl,gT.of (by unfold frz;rw[r1];exact r2),sD r3 λk d v e1 e2=>?_⟩⟩;cases hk:qz j k with
   |true=>
    obtain⟨es,us,q1,q2,q3,q4,q5,q6⟩:=r4 k hk;rw[q3]at e1;cases e1;rw[q4]at e2;cases e2;exact aA.mpr ⟨P k,us,rfl,df.of (by unfold frz;rw[q1];exact q5),q6.mono h.frz_sub⟩
   |false=>exact(r6 k d v hk e1 e2).mono h.frz_sub
def dJ.put(h:dJ K He η Ha σ H ρ){i:Nat}{d:D}{v:V}(r:Rep K Ha d v):dJ K He η Ha (σ.set i (some v)) H (ρ.set i (.sh d)):=by
 have key:∀(j:Nat) (s:Sl),(ρ.set i (.sh d))[j]?=some s->(j=i/\s=.sh d/\i<σ.length)∨(j≠i/\ρ[j]?=some s):=λj s e=>by
  by_cases hj:i=j
  .subst hj
   rw[Q1]at e;cases q:ρ[i]? with
   |none=>rw[q]at e;cases e
   |some s'=>
    rw[q]at e;cases e;refine .inl ⟨rfl,rfl,?_⟩;rw[←h.ln];exact(OP.mp q).1
  .rw[OQ hj]at e
   exact .inr ⟨λz=>hj z.symm,e⟩
 refine⟨h.g,λj d' e=>?_,λj d' e=>?_,λj k d1 d2 hn e1 e2=>?_,by simp[h.ln],h.ex.upd (λj s e=>?_) (aF.refl _) (λa vs _ e=>e) λp us _ h0 hp _=>⟨hp,h0⟩⟩
 rotate_left 3
 .rcases key j _ e with⟨rfl,e',hl⟩|⟨hj,e'⟩
  .exact .inr (.inl ⟨d,e'⟩)
  .exact .inl ⟨e',by rw[OQ (Px hj)]⟩
 .rcases key j _ e with⟨rfl,e',hl⟩|⟨hj,e'⟩
  .cases e'
   exact⟨v,by rw[Pq hl],r⟩
  .obtain⟨v',h1,h2⟩:=h.rd j d' e'
   exact⟨v',by rw[OQ (Px hj)];exact h1,h2⟩
 .rcases key j _ e with⟨rfl,e',hl⟩|⟨hj,e'⟩
  .cases e'
  .obtain⟨a,h1,h2⟩:=h.ow j d' e'
   exact⟨a,by rw[OQ (Px hj)];exact h1,h2⟩
 .rcases key j _ e1 with⟨_,e',_⟩|⟨hj,e1'⟩
  .cases e'
  rcases key k _ e2 with⟨_,e',_⟩|⟨hk,e2'⟩
  .cases e'
  rw[OQ (Px hj),OQ (Px hk)];exact h.ap j k d1 d2 hn e1' e2'
def dJ.putOwn(h:dJ K He η Ha σ H ρ){i:Nat}{ds:ac}{vs:ad}{p:OG}(hp:∀(j:Nat) (a:OG),σ[j]?=some (some (V.ref a))->a=p->∀d:D,ρ[j]?≠some (Sl.ow d))(he:He p=none)(h0:Ha p=none)(hv:H p=some (.lst vs))(r:Reps K Ha ds vs)(hx:∀(i j:Nat) (ds:ac) (a:OG) (P:Nat->OG),ρ[i]?=some (.ox j ds)->σ[i]?=some (some (.ref a))->Mv K He Ha H a j ds P->∀l,qz j l=true->p≠P l) :
  dJ K He η Ha (σ.set i (some (.ref p))) H (ρ.set i (.ow (.lst ds))):=by
 have key:∀(j:Nat) (s:Sl),(ρ.set i (.ow (.lst ds)))[j]?=some s->(j=i/\s=.ow (.lst ds)/\i<σ.length)∨(j≠i/\ρ[j]?=some s):=λj s e=>by
  by_cases hj:i=j
  .subst hj
   rw[Q1]at e;cases q:ρ[i]? with
   |none=>rw[q]at e;cases e
   |some s'=>
    rw[q]at e;cases e;refine .inl ⟨rfl,rfl,?_⟩;rw[←h.ln];exact(OP.mp q).1
  .rw[OQ hj]at e
   exact .inr ⟨λz=>hj z.symm,e⟩
 have other:∀(k:Nat) (d2:D),k≠i->ρ[k]?=some (.ow d2)->some (some (V.ref p))≠σ[k]?:=λk d2 hk e2 z=>by
  obtain⟨a,h1,_⟩:=h.ow k d2 e2;rw[h1]at z;cases z;exact hp k p h1 rfl d2 e2
 refine⟨h.g,λj d' e=>?_,λj d' e=>?_,λj k d1 d2 hn e1 e2=>?_,by simp[h.ln],h.ex.upd (λj s e=>?_) (aF.refl _) (λa vs _ e=>e) λp us _ h0 hp _=>⟨hp,h0⟩⟩
 rotate_left 3
 .rcases key j _ e with⟨rfl,e',hl⟩|⟨hj,e'⟩
  .exact .inr (.inr (.inr ⟨.lst ds,p,e',by rw[Pq hl],hx⟩))
  .exact .inl ⟨e',by rw[OQ (Px hj)]⟩
 .rcases key j _ e with⟨rfl,e',hl⟩|⟨hj,e'⟩
  .cases e'
  .obtain⟨v',h1,h2⟩:=h.rd j d' e'
   exact⟨v',by rw[OQ (Px hj)];exact h1,h2⟩
 .rcases key j _ e with⟨rfl,e',hl⟩|⟨hj,e'⟩
  .cases e'
   exact⟨p,by rw[Pq hl],he,h0,vs,hv,r⟩
  .obtain⟨a,h1,h2⟩:=h.ow j d' e'
   exact⟨a,by rw[OQ (Px hj)];exact h1,h2⟩
 .rcases key j _ e1 with⟨rfl,_,hl⟩|⟨hj,e1'⟩
  .rcases key k _ e2 with⟨rfl,_,_⟩|⟨hk,e2'⟩
   .exact absurd rfl hn
   .rw[Pq hl,OQ (Px hk)]
    exact other k d2 hk e2'
  .rcases key k _ e2 with⟨rfl,_,hl⟩|⟨hk,e2'⟩
   .rw[Pq hl,OQ (Px hj)]
    exact λz=>other j d1 hj e1' z.symm
   .rw[OQ (Px hj),OQ (Px hk)]
    exact h.ap j k d1 d2 hn e1' e2'
def dJ.fresh_x{H01:Hp}{p:OG}(h:dJ K He η Ha σ H ρ)(s:aF H H1)(hp:H p=none):∀(i j:Nat) (ds:ac) (a:OG) (P:Nat->OG),ρ[i]?=some (.ox j ds)->σ[i]?=some (some (.ref a))->Mv K He H01 H1 a j ds P->∀l,qz j l=true->p≠P l:=λi j ds a P x1 x2 x3 l ol=>by
 obtain⟨a2,P2,y1,⟨vs2,_,z3,_,y4,_⟩,_⟩:=h.ex.1 i j ds x1;rw[x2]at y1;cases y1;obtain⟨vs1,_,z1,_,y5,_⟩:=x3;have:=s _ _ z3;rw[z1]at this;cases this;obtain⟨_,us2,_,_,_,z4,z5,_⟩:=y4 l ol;obtain⟨_,_,_,_,_,z2,_⟩:=y5 l ol;rw[z2]at z4;injection z4 with z4;injection z4 with z4;intro z;rw[←z4,←z,hp]at z5;cases z5
def dJ.write(h:dJ K He η Ha σ H ρ){i:Nat}{d:D}{p:OG}{ds:ac}{vs:ad}(e:ρ[i]?=some (.ow d))(es:σ[i]?=some (some (.ref p)))(r:Reps K Ha ds vs) :
  dJ K He η Ha σ (upd H p (.lst vs)) (ρ.set i (.ow (.lst ds))):=by
 obtain⟨a,h1,h2,h3,h4⟩:=h.ow i d e;rw[h1]at es;cases es;have hil:i<ρ.length:=(OP.mp e).1;have key:∀(j:Nat) (s:Sl),(ρ.set i (.ow (.lst ds)))[j]?=some s->(j=i/\s=.ow (.lst ds))∨(j≠i/\ρ[j]?=some s):=λj s e=>by
  by_cases hj:i=j
  .subst hj
   rw[Pq hil]at e;cases e;exact .inl ⟨rfl,rfl⟩
  .rw[OQ hj]at e
   exact .inr ⟨λz=>hj z.symm,e⟩
 refine⟨⟨λb o eb=>?_,h.g.z,λb o eb=>?_,h.g.nw⟩,λj d' e'=>?_,λj d' e'=>?_,λj k d1 d2 hn e1 e2=>?_,by simp[h.ln],h.ex.upd (λj s e'=>?_) (aF.refl _) (λb us _ eb=>?_) λq us _ q0 hq hd=>?_⟩
 rotate_left 5
 .rcases key j _ e' with⟨rfl,e''⟩|⟨hj,e''⟩
  .exact .inr (.inr (.inr ⟨.lst ds,p,e'',h1,λi' j' ds' a' P' x1 x2 x3 l ol=>by
    obtain⟨a2,P2,y1,y2,y3,_⟩:=h.ex.1 i' j' ds' x1;rw[x2]at y1;cases y1;have:P2 l=P' l:=by
     obtain⟨vs1,_,z1,_,y5,_⟩:=x3;obtain⟨vs2,_,z3,_,y4,_⟩:=y2;rw[z1]at z3;cases z3;obtain⟨_,_,_,_,_,z2,_⟩:=y5 l ol;obtain⟨_,_,_,_,_,z4,_⟩:=y4 l ol;rw[z2]at z4;injection z4 with z4;injection z4 with z4;exact z4.symm
    rw[←this];intro zz;rw[zz]at h1;exact y3 j d l ol e h1⟩))
  .exact .inl ⟨e'',rfl⟩
 .rw[aE (by
   intro z;subst z;cases d with
   |lst ds'|dic ks ds'=>obtain⟨vs',h5,_⟩:=h4;rw[h5]at eb;cases eb
   |ob kk ds'=>
    cases kk with|dint ks=>obtain⟨vs',h5,_⟩:=h4;rw[h5]at eb;cases eb| _=>exact h4.elim
   |_=>exact h4)];exact eb
 .have hq':q≠p:=by
   intro z;subst z;exact hd i d e h1
  exact⟨by rw[aE hq'];exact hq,q0⟩
 .rw[aE (by intro z;subst z;rw[h2]at eb;cases eb)];exact h.g.s _ _ eb
 .rw[aE (by intro z;subst z;rw[h3]at eb;cases eb)];exact h.g.sub _ _ eb
 .rcases key j _ e' with⟨rfl,e''⟩|⟨hj,e''⟩
  .cases e''
  .exact h.rd j d' e''
 .rcases key j _ e' with⟨rfl,e''⟩|⟨hj,e''⟩
  .cases e''
   exact⟨p,h1,h2,h3,vs,aG,r⟩
  .obtain⟨b,k1,k2,k3,k4⟩:=h.ow j d' e''
   refine⟨b,k1,k2,k3,?_⟩;have hb:b≠p:=by
    intro z;subst z;exact h.ap j i d' d hj e'' e (by rw[k1,h1])
   cases d' with
   |lst ds'=>
    obtain⟨vs',h5,h6⟩:=k4;exact⟨vs',by rw[aE hb];exact h5,h6⟩
   |dic ks ds'=>
    obtain⟨vs',h5,hl,h6⟩:=k4;exact⟨vs',by rw[aE hb];exact h5,hl,h6⟩
   |ob kk ds'=>
    cases kk with
    |dint ks=>
     obtain⟨vs',h5,hl,h6⟩:=k4;exact⟨vs',by rw[aE hb];exact h5,hl,h6⟩
    |_=>exact k4.elim
   |_=>exact k4.elim
 .rcases key j _ e1 with⟨rfl,e1'⟩|⟨hj,e1'⟩
  .rcases key k _ e2 with⟨rfl,_⟩|⟨hk,e2'⟩
   .exact absurd rfl hn
   .exact h.ap j k d d2 hn e e2'
  .rcases key k _ e2 with⟨rfl,_⟩|⟨hk,e2'⟩
   .exact h.ap j k d1 d hn e1' e
   .exact h.ap j k d1 d2 hn e1' e2'
end
mutual
def qC:D->Bool
 |.lst _=>false
 |.dic _ _=>false
 |.exc _=>false
 |.ob _ _=>false
 |.tup ds=>flats ds
 |_=>true
def flats:ac->Bool
 |[]=>true
 |d::ds=>qC d&&flats ds
end
mutual
theorem Rep.flat_to{K:OF}{H H':Hp}(e:∀a vs,Rd H a (.tup vs)->Rd H' a (.tup vs)):∀{d:D}{v:V},qC d=true->Rep K H d v->Rep K H' d v
 |.non,_,_,h=>by unfold Rep at h ⊢;exact h
 |.bl _,_,_,h=>by unfold Rep at h ⊢;exact h
 |.int _,_,_,h=>by unfold Rep at h ⊢;exact h
 |.str _,_,_,h=>by unfold Rep at h ⊢;exact h
 |.tup ds,_,f,h=>by
  unfold qC at f;obtain⟨a,vs,e1,e2,e3⟩:=aI.mp h;refine aI.mpr ⟨a,vs,e1,?_,Reps.flat_to e f e3⟩;rcases e2 with e2|e2
  .exact .inl (e _ _ e2)
  .exact .inr e2
 |.lst ds,_,f,h=>by unfold qC at f;cases f
 |.dic ks ds,_,f,h=>by unfold qC at f;cases f
 |.exc x,_,f,h=>by unfold qC at f;cases f
 |.ob k ds,_,f,h=>by unfold qC at f;cases f
theorem Reps.flat_to{K:OF}{H H':Hp}(e:∀a vs,Rd H a (.tup vs)->Rd H' a (.tup vs)):∀{ds:ac}{vs:ad},flats ds=true->Reps K H ds vs->Reps K H' ds vs
 |[],_,_,h=>by unfold Reps at h ⊢;exact h
 |d::ds,_,f,h=>by
  unfold flats at f;rw[O4]at f;obtain⟨v,r,e1,e2,e3⟩:=aC.mp h;exact aC.mpr ⟨v,r,e1,Rep.flat_to e f.1 e2,Reps.flat_to e f.2 e3⟩
end
def kr(Ha J:Hp):Hp:=λa=>match Ha a with
 |some o=>some o
 |none=>match J a with
  |some (.tup vs)=>some (.tup vs)
  |some (.frz o (.tup vs))=>some (.frz o (.tup vs))
  |_=>none
section
variable {K:OF}{E:XK}{He η Ha H H1 J:Hp}{σ:L2.St}{ρ:Ev}
def GW(h:aF Ha J):∀a o,kr Ha J a=some o->J a=some o:=λa o e=>by
 unfold kr at e;cases q:Ha a with
 |some u=>rw[q]at e;cases e;exact h _ _ q
 |none=>
  rw[q]at e;cases q2:J a with
  |none=>rw[q2]at e;cases e
  |some u=>
   rw[q2]at e;cases u with
   |tup vs=>cases e;rfl
   |frz o u'=>
    cases u' with|tup vs=>cases e;rfl| _=>cases e
   |_=>cases e
def GV(h:aF Ha J)(a:OG)(vs:ad)(e:Rd J a (.tup vs)):Rd (kr Ha J) a (.tup vs):=by
 rcases e with e|⟨o,e⟩
 .refine .inl ?_
  unfold kr;cases q:Ha a with|some u=>have:=h _ _ q;rw[e]at this;cases this;rfl|none=>rw[e]
 .refine .inr ⟨o,?_⟩
  unfold kr;cases q:Ha a with|some u=>have:=h _ _ q;rw[e]at this;cases this;rfl|none=>rw[e]
def dJ.behind(h:dJ K He η Ha σ H ρ)(g:bf H (frz He Ha H) H1 J):dJ K He η (kr Ha J) σ H1 ρ:=by
 have hJ:aF Ha J:=h.frz_sub.trans g.z;have le:=GW (Ha:=Ha) (J:=J) hJ;have z:aF Ha (kr Ha J):=λb o e=>by unfold kr;rw[e]
 refine⟨⟨h.g.s.trans g.s,h.g.z.trans z,λb o e=>g.sub _ _ (le b o e),λa h1 h2=>?_⟩,h.rd.mono z,λi d e=>?_,h.ap,h.ln,h.ex.upd (λj s e=>.inl ⟨e,rfl⟩) z (λa vs _ e=>g.s _ _ e) λp us hp h0 hl _=>⟨g.s _ _ hl,by
  have:frz He Ha H p=some (.lst us):=by unfold frz;rw[hp];exact hl
  have:=g.z _ _ this;unfold kr;rw[h0,this]⟩⟩
 .cases q:kr Ha J a with
  |none=>exact absurd q h1
  |some o=>
   have hj:=le a o q;exact(h.frz_grow.trans g).nw a (by rw[hj];simp) h2
 .obtain⟨a,k1,k2,k3,k4⟩:=h.ow i d e
  refine⟨a,k1,k2,?_,?_⟩
  .cases d with
   |lst ds=>
    obtain⟨vs,h5,_⟩:=k4;have:frz He Ha H a=some (.lst vs):=by unfold frz;rw[k2];exact h5
    have:=g.z _ _ this;unfold kr;rw[k3,this]
   |dic ks ds=>
    obtain⟨vs,h5,_⟩:=k4;have:frz He Ha H a=some (.dK ((ks.map Pn).zip vs)):=by unfold frz;rw[k2];exact h5
    have:=g.z _ _ this;unfold kr;rw[k3,this]
   |ob kk ds=>
    cases kk with
    |dint ks=>
     obtain⟨vs,h5,_⟩:=k4;have:frz He Ha H a=some (.dK ((ks.map RU).zip vs)):=by unfold frz;rw[k2];exact h5
     have:=g.z _ _ this;unfold kr;rw[k3,this]
    |_=>exact k4.elim
   |_=>exact k4.elim
  .cases d with
   |lst ds=>obtain⟨vs,h5,h6⟩:=k4;exact⟨vs,g.s _ _ h5,h6.mono z⟩
   |dic ks ds=>obtain⟨vs,h5,hl,h6⟩:=k4;exact⟨vs,g.s _ _ h5,hl,h6.mono z⟩
   |ob kk ds=>
    cases kk with|dint ks=>obtain⟨vs,h5,hl,h6⟩:=k4;exact⟨vs,g.s _ _ h5,hl,h6.mono z⟩| _=>exact k4.elim
   |_=>exact k4.elim
end
section
variable {X:Cx}{E:XK}{He η:Hp}{st:Qt}{rest:List Qt}{e a b:Pd}{es:List Pd}{f g:al}{fa:Ev->aj (ac)}{s t:am}{pos:Pos}
def cu{t t':TS}(h:PS X st t)(w:∀D σ H,t' D σ H->t D σ H):PS X st t':=λπ s σ H D I q=>h π s σ H D I (w D σ H q)
def dP{t t':TS}(h:ql X rest t)(w:∀D σ H,t' D σ H->t D σ H):ql X rest t':=λπ s σ H D I q=>h π s σ H D I (w D σ H q)
def av:am:=λρ=>.ok (.nx ρ)
def ar(s t:am):am:=λρ=>(s ρ).bind λr=>match r with
 |.nx ρ'=>t ρ'
 |r=>.ok r
def ay:wb X E He η [] av:=⟨dP nH λD σ H ⟨Ha,ρ,h,q⟩=>q σ H Ha (aF.refl _) h⟩
def ah(h1:DS X E He η st s)(h2:wb X E He η rest t):wb X E He η (st::rest) (ar s t):=by
 refine⟨?_⟩;refine dP (dQ h1.o h2.o) λD σ H z9=>?_;obtain⟨Ha,ρ,h,q⟩:=z9;refine⟨Ha,ρ,h,?_⟩
 unfold ar at q;cases e1:s ρ with
 |stuck|exn x=>rw[e1]at q;exact q
 |ok r=>
  rw[e1]at q;cases r with|nx ρ'=>exact λσ' H' Ha' s' h'=>⟨Ha',ρ',h',bM.grow (r:=t ρ') q s'⟩|rt d|bk ρ'|ct ρ'=>exact q
def gM:am:=λ_=>.stuck
def plain{K:OF}{Ha H:Hp}{σ:L2.St}{ρ:Ev}{k:D->aj Fl}{D':gr}(h:dJ K He η Ha σ H ρ){r:aj D}{Q:VK}
  (q:bM K E He η Ha (r.bind k) D')(hk:∀d v H' Ha',r=.ok d->bf H Ha H' Ha'->Rep K Ha' d v->bM K E He η Ha' (k d) D'->Q v H'):post K E H Ha r Q:=by
 cases r with|stuck=>exact q|exn x=>exact λC ox H' Ha' g ex=>q C ox H' Ha' (h.g.trans g) ex|ok d=>exact λv H' Ha' g rp=>hk d v H' Ha' rfl g rp (bM.grow (r:=k d) q g.z)
def look{K:OF}{Ha H:Hp}{σ:L2.St}{ρ:Ev}{k:D->aj Fl}{D':gr}(h:dJ K He η Ha σ H ρ){r:aj D}{Q:VK}
  (q:bM K E He η Ha (r.bind k) D')(hk:∀d v H' J,r=.ok d->bf H (frz He Ha H) H' J->Rep K J d v->bM K E He η Ha (k d) D'->Q v H'):post K E H (frz He Ha H) r Q:=by
 cases r with|stuck=>exact q|exn x=>exact λC ox H' Ha' g ex=>q C ox H' Ha' (h.frz_grow.trans g) ex|ok d=>exact λv H' J g rp=>hk d v H' J rfl g rp q
def Hr{K:OF}{Ha H:Hp}{σ:L2.St}{ρ:Ev}{k:Bool->aj Fl}{D':gr}(h:dJ K He η Ha σ H ρ){r:aj D}{Q:Bool->Hp->Prop}
  (q:bM K E He η Ha (r.bind λx=>match x with|.bl b=>k b|_=>.stuck) D')(hk:∀b H',aF H H'->bM K E He η Ha (k b) D'->Q b H'):oH K E H (frz He Ha H) r Q:=by
 cases r with
 |stuck=>exact q|exn x=>exact λC ox H' Ha' g ex=>q C ox H' Ha' (h.frz_grow.trans g) ex
 |ok d=>
  cases d with|bl b=>exact λH' J g=>hk b H' g.s q| _=>exact q.elim
def aV(i:Nat)(f:al):am:=λρ=>(f ρ).bind λd=>.ok (.nx (ρ.set i (.sh d)))
def yj(i:Nat)(f:al):am:=λρ=>(f (gu ρ)).bind λd=>if qC d=true then .ok (.nx (ρ.set i (.sh d))) else .stuck
def bC(f:al):am:=λρ=>(f (gu ρ)).bind λd=>.ok (.rt d)
def kH(f:al):am:=λρ=>(f (gu ρ)).bind λ_=>.ok (.nx ρ)
def dX(c:al)(s t:am):am:=λρ=>(c (gu ρ)).bind λx=>match x with
 |.bl b=>if b=true then s ρ else t ρ
 |_=>.stuck
def aT{i:Nat}{x:OO}{pos':Pos}(hN:X.N.Nodup)(hi:X.N[i]?=some x)(hx:A6 X.env.scope x)(he:DE X E e f)(hs:P1 e (some (.Name x pos')) pos.line X.env=pure false:=by rfl)
  (hf:X.fn x=true∨X.env.scope.names.lookup x=some .local := by first|exact .inl rfl|exact .inr rfl|assumption):DS X E He η (.Assign [.Name x pos'] e pos) (aV i f):=by
 refine⟨?_⟩;refine cu (lX hN hi hx he.o hs hf) λD σ H z9=>?_;obtain⟨Ha,ρ,h,q⟩:=z9;refine⟨Ha,ρ,h.g.sub,h.rd,?_⟩
 refine plain h q λd v H' Ha' _ g rp q'=>?_;exact q' _ H' Ha' (aF.refl _) ((h.grow g).put rp)
def Gs{i:Nat}{x:OO}{pos':Pos}(hN:X.N.Nodup)(hi:X.N[i]?=some x)(hx:A6 X.env.scope x)(he:DE X E e f)(hs:P1 e (some (.Name x pos')) pos.line X.env=pure false:=by rfl)
  (hf:X.fn x=true∨X.env.scope.names.lookup x=some .local := by first|exact .inl rfl|exact .inr rfl|assumption):DS X E He η (.Assign [.Name x pos'] e pos) (yj i f):=by
 refine⟨?_⟩;refine cu (lX hN hi hx he.o hs hf) λD σ H z9=>?_;obtain⟨Ha,ρ,h,q⟩:=z9;refine⟨frz He Ha H,gu ρ,h.frz_le,h.looks,?_⟩
 refine look h q λd v H' J _ g rp q'=>?_
 by_cases fl:qC d=true
 .rw[if_pos fl]at q'
  have hJ:aF Ha J:=h.frz_sub.trans g.z;refine q' _ H' (kr Ha J) (λb o e=>by unfold kr;rw[e]) ((h.behind g).put (rp.flat_to (GV hJ) fl))
 .rw[if_neg fl]at q';exact q'.elim
def aY(he:DE X E e f):DS X E He η (.Return (some e) pos) (bC f):=by
 refine⟨?_⟩;refine cu (BV he.o) λD σ H z9=>?_;obtain⟨Ha,ρ,h,q⟩:=z9;refine⟨frz He Ha H,gu ρ,h.frz_le,h.looks,?_⟩
 exact look h q λd v H' J _ g rp q'=>q' v H' J (h.frz_grow.trans g) rp
def tL(he:DE X E e f)(hs:P1 e none pos.line X.env=pure false:=by rfl):DS X E He η (.Expr e pos) (kH f):=by
 refine⟨?_⟩;refine cu (jJ he.o hs) λD σ H z9=>?_;obtain⟨Ha,ρ,h,q⟩:=z9;refine⟨frz He Ha H,gu ρ,h.frz_le,h.looks,?_⟩
 exact look h q λd v H' J _ g rp q'=>q' σ H' Ha (aF.refl _) (h.same g.s)
def bZ{c:Pd}{fc:al}{sa sb:List Qt}(hc:DT X E c fc)(ha:wb X E He η sa s)(hb:wb X E He η sb t):DS X E He η (.If c sa sb pos) (dX fc s t):=by
 refine⟨?_⟩;refine cu (Hj hc.o ha.o hb.o) λD σ H z9=>?_;obtain⟨Ha,ρ,h,q⟩:=z9;refine⟨frz He Ha H,gu ρ,h.frz_le,h.looks,?_⟩
 refine Hr (k:=λb=>if b=true then s ρ else t ρ) h q λb H' hs q'=>?_;cases b with|true=>rw[if_pos rfl]at q' ⊢;exact⟨Ha,ρ,h.same hs,q'⟩|false=>rw[if_neg Qj]at q' ⊢;exact⟨Ha,ρ,h.same hs,q'⟩
noncomputable def tF(K:OF) (E:XK) (f:al):TE:=λσ H Q=>∃Ha ρ,aF Ha H/\eU K Ha σ ρ/\match f ρ with
 |.ok (.lst ds)=>∀p vs H' Ha',bf H Ha H' Ha'->H p=none->Ha' p=none->H' p=some (.lst vs)->Reps K Ha' ds vs->Q (.ref p) H'
 |.ok _=>False
 |.exn x=>∀C ox H' Ha',bf H Ha H' Ha'->tY K Ha' x C ox->E C ox H'
 |.stuck=>False
structure DF (X:Cx) (E:XK) (e:Pd) (f:al):Prop where
 o:PE X e (tF X.K E f)
def sC(i:Nat)(f:al):am:=λρ=>(f ρ).bind λd=>match d with
 |.lst ds=>.ok (.nx (ρ.set i (.ow (.lst ds))))
 |_=>.stuck
def tK{i:Nat}{x:OO}{pos':Pos}(hN:X.N.Nodup)(hi:X.N[i]?=some x)(hx:A6 X.env.scope x)(he:DF X E e f)(hs:P1 e (some (.Name x pos')) pos.line X.env=pure false:=by rfl)
  (hf:X.fn x=true∨X.env.scope.names.lookup x=some .local := by first|exact .inl rfl|exact .inr rfl|assumption):DS X E He η (.Assign [.Name x pos'] e pos) (sC i f):=by
 refine⟨?_⟩;refine cu (lX hN hi hx he.o hs hf) λD σ H z9=>?_;obtain⟨Ha,ρ,h,q⟩:=z9;refine⟨Ha,ρ,h.g.sub,h.rd,?_⟩
 unfold sC at q;cases e1:f ρ with
 |stuck=>rw[e1]at q;exact q|exn x=>rw[e1]at q;exact λC ox H' Ha' g ex=>q C ox H' Ha' (h.g.trans g) ex
 |ok d=>
  rw[e1]at q;cases d with
  |lst ds=>
   intro p vs H' Ha' g hp h0 hv rp;refine q _ H' Ha' g.z ((h.grow g).putOwn (λj a ej ea d ed=>?_) (h.g.s.free hp) h0 hv rp (h.fresh_x g.s hp));subst ea;obtain⟨a',k1,_,_,k4⟩:=h.ow j d ed;rw[ej]at k1;cases k1;cases d with
   |lst ds'|dic ks ds'=>obtain⟨vs',h5,_⟩:=k4;rw[hp]at h5;cases h5
   |ob kk ds'=>
    cases kk with|dint ks=>obtain⟨vs',h5,_⟩:=k4;rw[hp]at h5;cases h5| _=>exact k4.elim
   |_=>exact k4.elim
  |_=>exact q.elim
def kq(h:DA X E es fa):DF X E (.List es pos) (aq fa cI):=by
 refine⟨?_⟩;refine aX (B7 h.o) λσ H Q h=>?_;obtain⟨Ha,ρ,hs,hr,q⟩:=h;refine⟨Ha,ρ,hs,hr,?_⟩;unfold aq at q;cases e1:fa ρ with
 |stuck|exn x=>rw[e1]at q;exact q
 |ok ds=>
  rw[e1]at q;intro vs H1 H01 g1 r1;replace q:match cI ds with
   |.ok (.lst ds)=>∀p vs H' Ha',bf H Ha H' Ha'->H p=none->Ha' p=none->H' p=some (.lst vs)->Reps X.K Ha' ds vs->Q (.ref p) H'
   |.ok _=>False
   |.exn x=>∀C ox H' Ha',bf H Ha H' Ha'->tY X.K Ha' x C ox->E C ox H'
   |.stuck=>False:=q
  unfold cI at q
  by_cases hl:ds.length<=line
  .rw[if_pos hl]at q
   refine⟨by rw[←r1.length];exact cV hl,λp hp=>?_⟩;have h0:H01 p=none:=g1.sub.free hp;refine q p vs _ H01 (g1.trans ⟨λb o q=>by rw[aE (aR q hp)];exact q,aF.refl _,λb o q=>?_,λa h1 h2=>absurd h2 h1⟩) (g1.s.free hp) h0 aG r1;rw[aE (by intro z;subst z;rw[h0]at q;cases q)];exact g1.sub _ _ q
  .rw[if_neg hl]at q;exact q.elim
def Cd(ρ:Ev)(i:Nat)(k:ac->aj Fl):aj Fl:=match ρ[i]? with
 |some (.ow (.lst ds))=>k ds
 |_=>.stuck
def dY(i:Nat)(f:al):am:=λρ=>Cd ρ i λds=>(f ρ).bind λd=>if ds.length<line then .ok (.nx (ρ.set i (.ow (.lst (ds++[d]))))) else .stuck
def Cc{K:OF}{Ha H:Hp}{σ:L2.St}{ρ:Ev}{i:Nat}{k:ac->aj Fl}{D':gr}(h:dJ K He η Ha σ H ρ)(q:bM K E He η Ha (Cd ρ i k) D') :
  ∃ds p vs,ρ[i]?=some (.ow (.lst ds))/\σ[i]?=some (some (.ref p))/\He p=none/\Ha p=none/\H p=some (.lst vs)/\Reps K Ha ds vs/\bM K E He η Ha (k ds) D':=by
 unfold Cd at q;cases e:ρ[i]? with
 |none=>rw[e]at q;exact q.elim
 |some s=>
  rw[e]at q;cases s with
  |no|sh d|ox j ds|pt a=>exact q.elim
  |ow d=>
   cases d with
   |lst ds=>
    obtain⟨p,h1,h2,h3,vs,h4,h5⟩:=h.ow i _ e;exact⟨ds,p,vs,rfl,h1,h2,h3,h4,h5,q⟩
   |_=>exact q.elim
def ip{i:Nat}{x:OO}{p1 p2 p3:Pos}(hN:X.N[i]?=some x)(hv:zy X.env.scope x)(he:DE X E e f)
  (hd:(x==("__debug__" : OO))=false:=by decide)(hcd:(x==("__classdict__" : OO))=false:=by decide)
  (hbase:Ra (.Name x p1) "append" X.env (eval (.Name x p1) X.env)=eval (.Name x p1) X.env:=by rfl)
  (hfew:((PN p3 (OJ [e] X.env)).all (λx=>!x.1)&&(Sx p3 (Rm [] X.env)).all (λx=>x.1.isSome)
  &&decide ([e].length+([]:List R7).length+(if([]:List R7).isEmpty then 0 else 1)<30))=true:=by exact kQ rfl)
  (hline:(p2.endLine==p3.line)=true:=by rfl) (hs:OJ [e] X.env=(false,eval e X.env)::OJ [] X.env:=by exact aM rfl) (hplain:(PN p3 (OJ [] X.env)).any (·.1)=false:=by exact bw rfl)
  (hw:P1 (.Call (.Attribute (.Name x p1) "append" p2) [e] [] p3) none pos.line X.env=pure false:=by rfl) :
  DS X E He η (.Expr (.Call (.Attribute (.Name x p1) "append" p2) [e] [] p3) pos) (dY i f):=by
 refine⟨?_⟩;refine cu (jJ (yw RO Uk Uj lY (fE hN hv hd hcd) (cw he.o eF hs) hbase hfew hline hs hplain) hw) λD σ H ⟨Ha,ρ,h,q⟩=>?_;obtain⟨ds,p,vs,e1,e2,e3,e4,e5,e6,q⟩:=Cc h q;refine⟨.ref p,e2,.inl ⟨rfl,vs,df.of e5⟩,?_⟩;refine⟨Ha,ρ,h.g.sub,h.rd,plain h q λd v H' Ha' _ g rp q'=>?_⟩
 by_cases hl:ds.length<line
 .rw[if_pos hl]at q'
  have e5':H' p=some (.lst vs):=g.s _ _ e5;refine⟨p,vs,v,rfl,rfl,e5',by rw[←e6.length];exact OR hl (by decide),?_⟩;exact q' σ _ Ha' (aF.refl _) ((h.grow g).write e1 e2 ((e6.mono g.z).app (Reps.cons rp Reps.nil)))
 .rw[if_neg hl]at q';exact q'.elim
def putAt(ρ:Ev)(i:Nat)(ds:ac)(d:D)(j:D):aj Fl:=match j with
 |.int j=>match Ht ds.length j with
  |some n=>.ok (.nx (ρ.set i (.ow (.lst (ds.set n d)))))
  |none=>.stuck
 |_=>.stuck
noncomputable def cW(tg:Ev->D->aj Ev) (body:am):ac->am
 |[],ρ=>.ok (.nx ρ)
 |d::r,ρ=>(tg ρ d).bind λρ1=>(body ρ1).bind λx=>match x with
  |.nx ρ2=>cW tg body r ρ2
  |.ct ρ2=>cW tg body r ρ2
  |.bk ρ2=>.ok (.nx ρ2)
  |.rt d=>.ok (.rt d)
def tG(K:OF)(He η:Hp)(tg:Ev->D->aj Ev):TG:=λv σ H Q=>∃Ha ρ d,dJ K He η Ha σ H ρ/\Rep K Ha d v/\match tg ρ d with
  |.ok ρ'=>∀σ' H' Ha',aF Ha Ha'->dJ K He η Ha' σ' H' ρ'->Q σ' H'
  |_=>False
structure DG (X:Cx) (E:XK) (He η:Hp) (target:Pd) (tg:Ev->D->aj Ev):Prop where
 o:PG X target (tG X.K He η tg)
def eM(i:Nat):Ev->D->aj Ev:=λρ d=>.ok (ρ.set i (.sh d))
def sI{tgt:Pd}{t t':TG}(h:PG X tgt t)(w:∀v σ H Q,t' v σ H Q->t v σ H Q):PG X tgt t':=λπ s σ H v u Q I r q=>h π s σ H v u Q I r (w v σ H Q q)
def ft{i:Nat}{x:OO}(hN:X.N.Nodup)(hi:X.N[i]?=some x)(hx:A6 X.env.scope x)(hf:X.fn x=true∨X.env.scope.names.lookup x=some .local := by first|exact .inl rfl|exact .inr rfl|assumption):DG X E He η (.Name x pos) (eM i) :=
 ⟨sI (yt hN hi hx hf) λv σ H Q ⟨Ha,ρ,d,h,rp,q⟩=>q _ H Ha (aF.refl _) (h.put rp)⟩
def gJ(K:OF)(E:XK)(He η Hb:Hp)(tg:Ev->D->aj Ev)(s:am)(ds:ac)(D':gr)(i:Nat)(σ:L2.St)(H:Hp):Prop :=
 ∃Ha ρ,aF Hb Ha/\dJ K He η Ha σ H ρ/\bM K E He η Ha (cW tg s (ds.drop i) ρ) D'
def gJ.step{K:OF}{Hb:Hp}{tg:Ev->D->aj Ev}{ds:ac}{D':gr}{i:Nat}{σ:L2.St}{H:Hp}{d:D}{v:V}(h:gJ K E He η Hb tg s ds D' i σ H)(hd:ds[i]?=some d)(rv:Rep K Hb d v)
  (he:∀ρ,tg ρ d=.stuck∨∃ρ',tg ρ d=.ok ρ') :
  tG K He η tg v σ H λσ2 H2=>tS K E He η s { D' with nx:=gJ K E He η Hb tg s ds D' (i+1),ct:=gJ K E He η Hb tg s ds D' (i+1),bk:=D'.nx } σ2 H2:=by
 obtain⟨Ha,ρ,z,h,q⟩:=h;have hi:i<ds.length:=(OP.mp hd).1;have hdr:ds.drop i=d::ds.drop (i+1):=by
  rw[QC hi];rw[OI hi]at hd;cases hd;rfl
 rw[hdr]at q;refine⟨Ha,ρ,d,h,rv.mono z,?_⟩;unfold cW at q;rcases he ρ with e1|⟨ρ1,e1⟩
 .rw[e1]at q;exact q.elim
 .rw[e1]at q ⊢
  intro σ' H' Ha' z' h';refine⟨Ha',ρ1,h',?_⟩;replace q:=bM.grow (r:=(s ρ1).bind λx=>match x with
   |.nx ρ2=>cW tg s (ds.drop (i+1)) ρ2
   |.ct ρ2=>cW tg s (ds.drop (i+1)) ρ2
   |.bk ρ2=>.ok (.nx ρ2)
   |.rt d=>.ok (.rt d)) q z'
  cases e2:s ρ1 with
  |stuck|exn x=>rw[e2]at q;exact q
  |ok r=>
   rw[e2]at q;cases r with|nx ρ2=>exact λσ3 H3 H03 z3 h3=>⟨H03,ρ2,(z.trans z').trans z3,h3,bM.grow (r:=cW tg s (ds.drop (i+1)) ρ2) q z3⟩|ct ρ2=>exact λσ3 H3 H03 z3 h3=>⟨H03,ρ2,(z.trans z').trans z3,h3,bM.grow (r:=cW tg s (ds.drop (i+1)) ρ2) q z3⟩|bk ρ2|rt d=>exact q
def gJ.done{K:OF}{Hb:Hp}{tg:Ev->D->aj Ev}{ds:ac}{D':gr}{σ:L2.St}{H:Hp}(h:gJ K E He η Hb tg s ds D' ds.length σ H):D'.nx σ H:=by
 obtain⟨Ha,ρ,z,h,q⟩:=h;rw[List.drop_length]at q;unfold cW at q;exact q σ H Ha (aF.refl _) h
def vT(tg:Ev->D->aj Ev):Prop:=∀ρ d,tg ρ d=.stuck∨∃ρ',tg ρ d=.ok ρ'
def eW{i:Nat}:vT (eM i):=λρ d=>.inr ⟨_,rfl⟩
def kG(f:al)(tg:Ev->D->aj Ev)(s:am):am:=λρ=>(f ρ).bind λd=>match d with
 |.lst ds=>cW tg s ds ρ
 |_=>.stuck
def pE{tgt iter:Pd}{body:List Qt}{tg:Ev->D->aj Ev}(hp:PassesOwn (OW X.prog X.w) X.A X.env X.xe)(hc:X.calm=true)(hi:DE X E iter f)(hg:DG X E He η tgt tg)(ht:vT tg)(hb:wb X E He η body s)
  (hs:∀x,foldedSetIterable iter X.env x=pure x:=by intro _;rfl):DS X E He η (.For tgt iter body [] pos) (kG f tg s):=by
 refine⟨?_⟩;refine cu (wG hp hc (yr hi.o) hg.o hb.o hs) λD' σ H z9=>?_;obtain⟨Ha,ρ,h,q⟩:=z9;refine⟨Ha,ρ,h.g.sub,h.rd,?_⟩
 refine plain h q λd v H1 H01 _ g rp q1=>?_;cases d with
 |lst ds=>
  obtain⟨a,vs,rfl,hv,hr⟩:=aA.mp rp;refine⟨a,rfl,⟨vs,aF.sqL g.sub hv⟩,?_⟩;refine C1 (K:=X.K) (a:=a) (g:=tG X.K He η tg) (tb:=tS X.K E He η s) (D:=D') (xs:=vs) (gJ X.K E He η H01 tg s ds D') ⟨H01,ρ,aF.refl _,h.grow g,q1⟩ ?_ ?_ ?_
  .rintro i σ' H' _ ⟨Ha',ρ',z,h',_⟩
   exact aF.sqL (z.trans h'.g.sub) hv
  .intro i x σ' H' hx hI
   have hil:i<ds.length:=by rw[hr.length];exact(OP.mp hx).1
   obtain⟨u,e1,e2⟩:=hr.get (OI hil);rw[hx]at e1;cases e1;exact hI.step (OI hil) e2 λρ=>ht ρ _
  .intro σ' H' hI
   rw[←hr.length]at hI;exact hI.done
 |_=>exact q1.elim
def intsFrom(lo:Int)(n:Nat):ac:=(PL n).map λ(k:Nat)=>D.int (lo+(k:Int))
def mD(f:al)(tg:Ev->D->aj Ev)(s:am):am:=λρ=>(f (gu ρ)).bind λd=>match d with
 |.int j=>if -4611686018427387904<=j/\j<4611686018427387904 then cW tg s (intsFrom 0 j.toNat) ρ else .stuck
 |_=>.stuck
def nS{tgt iter:Pd}{p pos2:Pos}{body:List Qt}{tg:Ev->D->aj Ev}(hp:PassesOwn (OW X.prog X.w) X.A X.env X.xe)(hc:X.calm=true)(hgl:Gl X "range")(hm:X.mg "range"=none)(hi:DE X E iter f)(hg:DG X E He η tgt tg)(ht:vT tg)(hb:wb X E He η body s)
  (hst:OJ [iter] X.env=[(false,eval iter X.env)]:=by exact cX rfl)(hs:∀x,foldedSetIterable (.Call (.Name "range" p) [iter] [] pos2) X.env x=pure x:=by intro _;rfl):DS X E He η (.For tgt (.Call (.Name "range" p) [iter] [] pos2) body [] pos) (mD f tg s):=by
 refine⟨?_⟩;refine cu (wG hp hc (qY hgl hm (cw hi.o eF hst) hst) hg.o hb.o hs) λD' σ H ⟨Ha,ρ,h,q⟩=>?_;refine⟨frz He Ha H,gu ρ,h.frz_le,h.looks,look h q λd v H1 J _ g rp q1=>?_⟩;cases d with
 |int j=>
  rw[aD.mp rp];replace q1:bM X.K E He η Ha (if -4611686018427387904<=j/\j<4611686018427387904 then cW tg s (intsFrom 0 j.toNat) ρ else .stuck) D':=q1
  by_cases hj:-4611686018427387904<=j/\j<4611686018427387904
  .rw[if_pos hj]at q1
   refine⟨j,rfl,by omega,by omega,?_⟩;have hlen:(intsFrom 0 j.toNat).length=j.toNat:=by unfold intsFrom;simp
   refine Ax (lo:=0) (n:=j.toNat) (g:=tG X.K He η tg) (tb:=tS X.K E He η s) (D:=D') (gJ X.K E He η Ha tg s (intsFrom 0 j.toNat) D') ⟨Ha,ρ,aF.refl _,h.same g.s,q1⟩ ?_ ?_
   .intro i σ' H' hlt hI
    refine hI.step (d:=.int (0+i)) ?_ (aD.mpr rfl) λρ=>ht ρ _;unfold intsFrom;simp[hlt]
   .intro σ' H' hI
    exact gJ.done (ds:=intsFrom 0 j.toNat) (by rw[hlen];exact hI)
  .rw[if_neg hj]at q1;exact q1.elim
 |_=>exact q1.elim
noncomputable def cG(c:al) (s:am):Nat->am
 |0,_=>.stuck
 |n+1,ρ=>(c (gu ρ)).bind λx=>match x with
  |.bl b=>if b=true then(s ρ).bind λx=>match x with
    |.nx ρ2=>cG c s n ρ2
    |.ct ρ2=>cG c s n ρ2
    |.bk ρ2=>.ok (.nx ρ2)
    |.rt d=>.ok (.rt d)
   else .ok (.nx ρ)
  |_=>.stuck
def je(fuel:Ev->Nat)(c:al)(s:am):am:=λρ=>cG c s (fuel ρ) ρ
def pD(fuel:Ev->Nat){c:Pd}{body:List Qt}{fc:al}(hp:PassesOwn (OW X.prog X.w) X.A X.env X.xe)(hc:DT X E c fc)(hb:wb X E He η body s):DS X E He η (.While c body [] pos) (je fuel fc s):=by
 refine⟨?_⟩;refine cu (BU hp hc.o hb.o) λD' σ H ⟨Ha,ρ,h,q⟩=>?_;refine⟨λm σ H=>∃Ha ρ,dJ X.K He η Ha σ H ρ/\bM X.K E He η Ha (cG fc s m ρ) D',⟨fuel ρ,Ha,ρ,h,q⟩,?_⟩;rintro m σ1 H1 ⟨H01,ρ1,h1,q1⟩;cases m with
 |zero=>exact q1.elim
 |succ m=>
  refine⟨frz He H01 H1,gu ρ1,h1.frz_le,h1.looks,?_⟩;unfold cG at q1;refine Hr (k:=λb=>if b=true then(s ρ1).bind λx=>match x with
    |.nx ρ2=>cG fc s m ρ2
    |.ct ρ2=>cG fc s m ρ2
    |.bk ρ2=>.ok (.nx ρ2)
    |.rt d=>.ok (.rt d)
   else .ok (.nx ρ1)) h1 q1 λb H2 hs q2=>?_
  cases b with
  |false=>
   rw[if_neg Qj]at q2 ⊢;exact q2 σ1 H2 H01 (aF.refl _) (h1.same hs)
  |true=>
   rw[if_pos rfl]at q2 ⊢;refine⟨λσ' H'=>∃m',m' < m+1/\∃Ha ρ,dJ X.K He η Ha σ' H' ρ/\bM X.K E He η Ha (cG fc s m' ρ) D',λσ' H' z=>z,H01,ρ1,h1.same hs,?_⟩;cases e2:s ρ1 with
   |stuck|exn x=>rw[e2]at q2;exact q2
   |ok r=>
    rw[e2]at q2;cases r with|nx ρ2=>exact λσ3 H3 H03 z3 h3=>⟨m,Rv _,H03,ρ2,h3,bM.grow (r:=cG fc s m ρ2) q2 z3⟩|ct ρ2=>exact λσ3 H3 H03 z3 h3=>⟨m,Rv _,H03,ρ2,h3,bM.grow (r:=cG fc s m ρ2) q2 z3⟩|bk ρ2|rt d=>exact q2
end
def cm(n:Nat)(s:am)(ds:ac):aj D:=(s (ds.map Sl.sh++O7 (n-ds.length) .no)).bind λr=>match r with
 |.nx _=>.ok .non
 |.rt d=>.ok d
 |_=>.stuck
def jc{K:OF}{Ha:Hp}{N:bv}{ds:ac}{vs:ad}(h:Reps K Ha ds vs):eU K Ha (start N vs) (ds.map Sl.sh++O7 (N.length-ds.length) .no):=by
 intro i d e;have hl:=h.length
 by_cases hi:i<ds.length
 .rw[O8 (by simpa using hi),OM]at e
  cases q:ds[i]? with
  |none=>rw[q]at e;cases e
  |some d'=>
   rw[q]at e;cases e;obtain⟨v,h1,h2⟩:=h.get q;refine⟨v,?_,h2⟩;unfold L2.start;rw[O8 (by simp;omega),OM,h1];rfl
 .rw[O9 (by simpa using hi),Pm]at e
  split at e<;>cases e
def lS{ds:ac}{n:Nat}(i j:Nat)(es:ac):(ds.map Sl.sh++O7 n Sl.no)[i]?≠some (.ox j es):=λe=>by
 have:=O1 e;rw[Ql]at this;rcases this with h|h
 .obtain⟨_,_,h⟩:=Pp.mp h;cases h
 .have:=Um h;cases this
def ki{ds:ac}{n:Nat}{σ:L2.St}(i:Nat)(a:OG)(e:(ds.map Sl.sh++O7 n Sl.no)[i]?=some (.pt a)):σ[i]?=some (some (.ref a)):=by
 have:=O1 e;rw[Ql]at this;rcases this with h|h
 .obtain⟨_,_,h⟩:=Pp.mp h;cases h
 .have:=Um h;cases this
def Ay{P:O5}{w:Pt}{K:OF}{mg:OO->Option OB}{base:OL}{x qual:OO}{st:Qt}{f:OG}{fd:Pz}{N ps:bv}{k:Nat}{s:am}(F:D1 K x qual st f fd)(S:fw N ps (defScope st))
  (hbody:∀(cdv:OB) (A:Pu) (outer:List PQ) (s0:OE) (H Ha:Hp) (E:XK),c5 k (A.deeper (envOfC qual (defScope st) s0.heap.objs.size f cdv)) ->
   wb (bV CX0 P w K mg base N qual (defScope st) f cdv A outer s0 H E).nox E H Ha (defBody st) s):FnOk P w K mg base CX0 (k+1) f fd ps (spD K ps.length (cm N.length s)):=by
 have hpl:ps.length<=N.length:=by have:=congrArg TM S.pre;rw[PJ]at this;omega
 refine F.ok S (λvs H Q E h=>h.1) λcdv A outer s0 H vs Q E hr h=>?_;obtain⟨hn,Ha,ds,hs,hv,q⟩:=h;refine⟨_,(hbody cdv A outer s0 H Ha E hr).o,Ha,ds.map Sl.sh++O7 (N.length-ds.length) .no,?_,?_⟩
 .refine⟨bf.refl hs,jc hv,λi d e=>?_,λi j d d' hij e=>?_,?_,OX.none lS ki⟩
  .by_cases hi:i<ds.length
   .rw[O8 (by simpa using hi),OM]at e
    cases q:ds[i]? with|none|some d'=>rw[q]at e;cases e
   .rw[O9 (by simpa using hi),Pm]at e
    split at e<;>cases e
  .by_cases hi:i<ds.length
   .rw[O8 (by simpa using hi),OM]at e
    cases q:ds[i]? with|none|some d'=>rw[q]at e;cases e
   .rw[O9 (by simpa using hi),Pm]at e
    split at e<;>cases e
  .unfold L2.start
   have:=hv.length;simp only[PU,OH,QD];omega
 .unfold cm at q
  cases e1:s (ds.map Sl.sh++O7 (N.length-ds.length) .no) with
  |stuck|exn x=>rw[e1]at q;exact q
  |ok r=>
   rw[e1]at q;cases r with|nx ρ'=>exact λσ' H' Ha' _ h'=>q .non H' Ha' h'.g (aP.mpr rfl)|rt d=>exact λv H' Ha' g rp=>q v H' Ha' g rp|bk ρ'|ct ρ'=>exact q.elim
mutual
def cO:D->D->Bool
 |.non,.non=>true
 |.bl a,.bl b=>a==b
 |.bl a,.int b=>(if a then 1 else 0)==b
 |.int a,.bl b=>a==(if b then 1 else 0)
 |.int a,.int b=>a==b
 |.str a,.str b=>a==b
 |.tup xs,.tup ys=>eqDs xs ys
 |.lst xs,.lst ys=>eqDs xs ys
 |_,_=>false
def eqDs:ac->ac->Bool
 |[],[]=>true
 |x::xs,y::ys=>cO x y&&eqDs xs ys
 |_,_=>false
end
def aW:Nat->D->Bool
 |_,.non=>true
 |_,.bl _=>true
 |_,.int _=>true
 |_,.str _=>true
 |n+1,.tup ds=>ds.all (aW n)
 |n+1,.lst ds=>ds.all (aW n)
 |_,_=>false
def ik{ds:ac}(h:∀d∈ds,cO d d=true):eqDs ds ds=true:=by
 induction ds with
 |nil=>simp[eqDs]
 |cons d r ih=>
  unfold eqDs;rw[h d Pc,ih λx hx=>h x (OZ _ hx)];rfl
theorem il:∀(n:Nat) (d:D),aW n d=true->cO d d=true
 |_,.non,_=>by simp[cO]
 |_,.bl b,_=>by simp[cO]
 |_,.int b,_=>by simp[cO]
 |_,.str b,_=>by simp[cO]
 |n+1,.tup ds,h=>by
  unfold aW at h;unfold cO;exact ik λd hd=>il n d (Pr.mp h d hd)
 |n+1,.lst ds,h=>by
  unfold aW at h;unfold cO;exact ik λd hd=>il n d (Pr.mp h d hd)
 |0,.tup ds,h=>by unfold aW at h;cases h
 |0,.lst ds,h=>by unfold aW at h;cases h
 |0,.dic ks ds,h=>by unfold aW at h;cases h
 |n+1,.dic ks ds,h=>by unfold aW at h;cases h
 |0,.exc x,h=>by unfold aW at h;cases h
 |0,.ob k x,h=>by unfold aW at h;cases h
 |n+1,.ob k x,h=>by unfold aW at h;cases h
 |n+1,.exc x,h=>by unfold aW at h;cases h
def Gm{xs ys:ac}:cO (.tup xs) (.tup ys)=eqDs xs ys:=by rw[cO]
def zd{xs ys:ac}:cO (.lst xs) (.lst ys)=eqDs xs ys:=by rw[cO]
theorem kn:∀(xs ys:ac),xs.length=ys.length->eqDs xs ys=(PL xs.length).all λj=>cO (xs.getD j .non) (ys.getD j .non)
 |[],[],_=>by simp[eqDs]
 |x::xs,y::ys,h=>by
  have ih:=kn xs ys (by simpa using h);unfold eqDs;rw[ih,Pw,RX,Rc,UA];rfl
 |[],_::_,h=>by simp at h
 |_::_,[],h=>by simp at h
theorem pB:∀(xs ys:ac),xs.length≠ys.length->eqDs xs ys=false
 |[],[],h=>absurd rfl h
 |x::xs,y::ys,h=>by
  unfold eqDs;rw[pB xs ys (by simpa using h),Ue]
 |[],_::_,h=>by simp[eqDs]
 |_::_,[],h=>by simp[eqDs]
section
variable {X:Cx}{π:List (OG×Obj)}{σ:L2.St}{H:Hp}{s:OE}
def bo(I:Inv X π σ H s){ds:ac}{v:V}{u:OB}(r:Rep X.K H (.tup ds) v)(rv:bA v u):∃a vs its,v=.ref a/\u=.ref a/\gT X.K H a vs/\Reps X.K H ds vs/\bq vs its/\IsTup s.heap a its.toArray/\ds.length=its.length:=by
 obtain⟨a,vs,rfl,h1,h2⟩:=aI.mp r;obtain rfl:u=Ph a:=rv;obtain⟨its,h3,h4,_⟩:=I.tuple h1;exact⟨a,vs,its,rfl,rfl,h1,h2,h3,h4,h2.length.trans h3.length⟩
def aU(I:Inv X π σ H s){ds:ac}{v:V}{u:OB}(r:Rep X.K H (.lst ds) v)(rv:bA v u):∃a vs its,v=.ref a/\u=.ref a/\df X.K H a vs/\Reps X.K H ds vs/\bq vs its/\s.heap.IsList a its.toArray/\ds.length=its.length:=by
 obtain⟨a,vs,rfl,h1,h2⟩:=aA.mp r;obtain rfl:u=Ph a:=rv;obtain⟨its,h3,h4,_⟩:=I.list h1;exact⟨a,vs,its,rfl,rfl,h1,h2,h3,h4.isList,h2.length.trans h3.length⟩
theorem oz{n:Nat}(ih:∀(d d':D) (v:V),aW n d=true->aW n d'=true->Rep X.K H d v->Rep X.K H d' v->d=d'):∀(ds ds':ac) (vs:ad),ds.all (aW n)=true->ds'.all (aW n)=true->Reps X.K H ds vs->Reps X.K H ds' vs->ds=ds'
 |[],ds',vs,_,_,h,h'=>by
  rw[Reps.nil_iff.mp h]at h';cases ds' with|nil=>rfl|cons d r=>obtain⟨_,_,e,_⟩:=aC.mp h';cases e
 |d::ds,ds',vs,a,a',h,h'=>by
  obtain⟨v,r,rfl,h1,h2⟩:=aC.mp h;cases ds' with
  |nil=>cases Reps.nil_iff.mp h'
  |cons d' ds'=>
   obtain⟨v',r',e,h1',h2'⟩:=aC.mp h';cases e;rw[Rc,O4]at a a';rw[ih d d' v a.1 a'.1 h1 h1',oz ih ds ds' r a.2 a'.2 h2 h2']
def Rep.inj(I:Inv X π σ H s):∀(n:Nat) (d d':D) (v:V),aW n d=true->aW n d'=true->Rep X.K H d v->Rep X.K H d' v->d=d':=by
 have atom:∀(n:Nat) (d d':D) (v:V),(∀ds,d≠.tup ds)->(∀ds,d≠.lst ds)->aW n d=true->aW n d'=true->Rep X.K H d v->Rep X.K H d' v->d=d':=by
  intro n d d' v n1 n2 s1 s2 h h';have nd:∀m ks ds,aW m (.dic ks ds)=true->False:=λm ks ds h=>by cases m<;>(unfold aW at h;cases h)
  have nx:∀m x,aW m (.exc x)=true->False:=λm x h=>by cases m<;>(unfold aW at h;cases h)
  have nb:∀m k x,aW m (.ob k x)=true->False:=λm k x h=>by cases m<;>(unfold aW at h;cases h)
  cases d with
  |tup ds=>exact absurd rfl (n1 ds)|lst ds=>exact absurd rfl (n2 ds)|dic ks ds=>exact(nd _ _ _ s1).elim|exc x=>exact(nx _ _ s1).elim|ob k x=>exact(nb _ _ _ s1).elim
  |non=>
   rw[aP.mp h]at h';cases d' with|non=>rfl|bl b=>cases aH.mp h'|int b=>cases aD.mp h'|str b=>cases Rep.str_iff.mp h'|tup ds=>obtain⟨_,_,e,_⟩:=aI.mp h';cases e|lst ds=>obtain⟨_,_,e,_⟩:=aA.mp h';cases e|dic ks ds=>exact(nd _ _ _ s2).elim|exc x=>exact(nx _ _ s2).elim|ob k x=>exact(nb _ _ _ s2).elim
  |bl x=>
   rw[aH.mp h]at h';cases d' with|non=>cases aP.mp h'|bl b=>cases aH.mp h';rfl|int b=>cases aD.mp h'|str b=>cases Rep.str_iff.mp h'|tup ds=>obtain⟨_,_,e,_⟩:=aI.mp h';cases e|lst ds=>obtain⟨_,_,e,_⟩:=aA.mp h';cases e|dic ks ds=>exact(nd _ _ _ s2).elim|exc x=>exact(nx _ _ s2).elim|ob k x=>exact(nb _ _ _ s2).elim
  |int x=>
   rw[aD.mp h]at h';cases d' with|non=>cases aP.mp h'|bl b=>cases aH.mp h'|int b=>cases aD.mp h';rfl|str b=>cases Rep.str_iff.mp h'|tup ds=>obtain⟨_,_,e,_⟩:=aI.mp h';cases e|lst ds=>obtain⟨_,_,e,_⟩:=aA.mp h';cases e|dic ks ds=>exact(nd _ _ _ s2).elim|exc x=>exact(nx _ _ s2).elim|ob k x=>exact(nb _ _ _ s2).elim
  |str x=>
   rw[Rep.str_iff.mp h]at h';cases d' with|non=>cases aP.mp h'|bl b=>cases aH.mp h'|int b=>cases aD.mp h'|str b=>cases Rep.str_iff.mp h';rfl|tup ds=>obtain⟨_,_,e,_⟩:=aI.mp h';cases e|lst ds=>obtain⟨_,_,e,_⟩:=aA.mp h';cases e|dic ks ds=>exact(nd _ _ _ s2).elim|exc x=>exact(nx _ _ s2).elim|ob k x=>exact(nb _ _ _ s2).elim
 intro n
 induction n with
 |zero=>
  intro d d' v s1 s2 h h';exact atom 0 d d' v (λds e=>by subst e;unfold aW at s1;cases s1) (λds e=>by subst e;unfold aW at s1;cases s1) s1 s2 h h'
 |succ n ih=>
  intro d d' v s1 s2 h h'
  by_cases t1:∃ds,d=.tup ds
  .obtain⟨ds,rfl⟩:=t1
   by_cases t2:∃ds',d'=.tup ds'
   .obtain⟨ds',rfl⟩:=t2
    obtain⟨a,vs,rfl,h1,h2⟩:=aI.mp h;obtain⟨a',vs',e,h1',h2'⟩:=aI.mp h';cases e;rw[I.tuple_inj h1' h1]at h2';unfold aW at s1 s2;rw[oz ih ds ds' vs s1 s2 h2 h2']
   .by_cases t3:∃ds',d'=.lst ds'
    .obtain⟨ds',rfl⟩:=t3
     obtain⟨a0,_,ev,_,_⟩:=aI.mp h;subst ev;obtain⟨a,vs,its,ea,_,h1,h2,h3,h4,_⟩:=bo I h rfl;cases ea;obtain⟨a',vs',its',e,_,h1',h2',h3',h4',_⟩:=aU I h' rfl;cases e;exact absurd rfl (Uu h4' h4)
    .exact(atom (n+1) d' _ v (λds e=>t2 ⟨ds,e⟩) (λds e=>t3 ⟨ds,e⟩) s2 s1 h' h).symm
  .by_cases t1':∃ds,d=.lst ds
   .obtain⟨ds,rfl⟩:=t1'
    by_cases t2:∃ds',d'=.lst ds'
    .obtain⟨ds',rfl⟩:=t2
     obtain⟨a,vs,rfl,h1,h2⟩:=aA.mp h;obtain⟨a',vs',e,h1',h2'⟩:=aA.mp h';cases e;rw[I.list_inj h1' h1]at h2';unfold aW at s1 s2;rw[oz ih ds ds' vs s1 s2 h2 h2']
    .by_cases t3:∃ds',d'=.tup ds'
     .obtain⟨ds',rfl⟩:=t3
      obtain⟨a0,_,ev,_,_⟩:=aA.mp h;subst ev;obtain⟨a,vs,its,ea,_,h1,h2,h3,h4,_⟩:=aU I h rfl;cases ea;obtain⟨a',vs',its',e,_,h1',h2',h3',h4',_⟩:=bo I h' rfl;cases e;exact absurd rfl (Uu h4 h4')
     .exact(atom (n+1) d' _ v (λds e=>t3 ⟨ds,e⟩) (λds e=>t2 ⟨ds,e⟩) s2 s1 h' h).symm
   .exact atom (n+1) d d' v (λds e=>t1 ⟨ds,e⟩) (λds e=>t1' ⟨ds,e⟩) s1 s2 h h'
def vb{n:Nat}{A:Pu}{xs ys:ac}{vs us:ad}{is js:List OB}
  (ih:∀(x y:D) (v u:V) (a b:OB),aW n x=true->aW n y=true->Rep X.K H x v->Rep X.K H y u->bA v a->bA u b->Pb A.in1 s a b (cO x y))
  (sx:xs.all (aW n)=true)(sy:ys.all (aW n)=true)(rx:Reps X.K H xs vs)(ry:Reps X.K H ys us)(qx:bq vs is)(qy:bq us js) :
  ∀j (h1:j<is.toArray.size) (h2:j<js.toArray.size),Pb A.in1 s is.toArray[j] js.toArray[j] (cO (xs.getD j .non) (ys.getD j .non)):=by
 intro j h1 h2;have lx:=rx.length;have ly:=ry.length;have kx:=qx.length;have ky:=qy.length;have h1':j<is.length:=by simpa using h1
 have h2':j<js.length:=by simpa using h2
 have hx:j<xs.length:=by omega
 have hy:j<ys.length:=by omega
 obtain⟨v,e1,r1⟩:=rx.get (OI hx);obtain⟨u,e2,r2⟩:=ry.get (OI hy);obtain⟨a,e3,r3⟩:=qx.get e1;obtain⟨b,e4,r4⟩:=qy.get e2;have ea:is.toArray[j]=a:=by
  rw[OI h1']at e3;simpa using PK e3
 have eb:js.toArray[j]=b:=by
  rw[OI h2']at e4;simpa using PK e4
 rw[ea,eb];have gx:xs.getD j .non=xs[j]:=by simp[List.getD,OI hx]
 have gy:ys.getD j .non=ys[j]:=by simp[List.getD,OI hy]
 rw[gx,gy];exact ih _ _ v u a b (Pr.mp sx _ (P9 hx)) (Pr.mp sy _ (P9 hy)) r1 r2 r3 r4
def uH(I:Inv X π σ H s){A:Pu}(hu:A.units<QU){x y:D}{v u:V}{a b:OB}(rx:Rep X.K H x v)(ry:Rep X.K H y u)(qx:bA v a)(qy:bA u b)
  (n1:∀ds ds',¬(x=.lst ds/\y=.lst ds'))(n2:∀ds ds',¬(x=.tup ds/\y=.tup ds'))(d1:∀ks ds,x≠.dic ks ds)(d2:∀ks ds,y≠.dic ks ds)(x1:∀c,x≠.exc c)(x2:∀c,y≠.exc c)(o1:∀k c,x≠.ob k c)(o2:∀k c,y≠.ob k c) :
  Pg A s a b (cO x y)/\Pb A s a b (cO x y)/\Pa A s a b (!(cO x y)):=by
 cases x with
 |non=>
  cases y with
  |non=>
   obtain rfl:=aP.mp rx;obtain rfl:a=PZ:=qx;obtain rfl:=aP.mp ry;obtain rfl:b=PZ:=qy;unfold cO;exact⟨Pg.none_none ,TQ _,Pa.none_none ⟩
  |bl y=>
   obtain rfl:=aP.mp rx;obtain rfl:a=PZ:=qx;obtain rfl:=aH.mp ry;obtain rfl:b=P5 _:=qy;unfold cO;exact⟨Pg.none_bool _,Pb.none_bool _,Pa.none_bool _⟩
  |int y=>
   obtain rfl:=aP.mp rx;obtain rfl:a=PZ:=qx;obtain rfl:=aD.mp ry;obtain⟨ty,rfl⟩:∃t,b=QF _ t:=qy;unfold cO;exact⟨Pg.none_int _ _,Pb.none_int _ _,Pa.none_int _ _⟩
  |str y=>
   obtain rfl:=aP.mp rx;obtain rfl:a=PZ:=qx;obtain rfl:=Rep.str_iff.mp ry;obtain⟨ty,rfl⟩:∃t,b=QE _ t:=qy;unfold cO;exact⟨Pg.none_str _ _,Pb.none_str _ _,Pa.none_str _ _⟩
  |lst y=>
   obtain rfl:=aP.mp rx;obtain rfl:a=PZ:=qx;obtain⟨ly,_,_,rfl,rfl,_,_,_,hy,_⟩:=aU I ry qy;unfold cO;exact⟨Pg.none_list  hy hu,Pb.none_list  hy hu,Pa.none_list  hy hu⟩
  |tup y=>
   obtain rfl:=aP.mp rx;obtain rfl:a=PZ:=qx;obtain⟨ly,_,_,rfl,rfl,_,_,_,hy,_⟩:=bo I ry qy;unfold cO;exact⟨Pg.none_tuple  hy hu,Pb.none_tuple  hy hu,Pa.none_tuple  hy hu⟩
  |dic ks ds=>exact absurd rfl (d2 ks ds)|exc c=>exact absurd rfl (x2 c)|ob k c=>exact absurd rfl (o2 k c)
 |bl x=>
  cases y with
  |non=>
   obtain rfl:=aH.mp rx;obtain rfl:a=P5 _:=qx;obtain rfl:=aP.mp ry;obtain rfl:b=PZ:=qy;unfold cO;exact⟨Pg.bool_none _,Pb.bool_none _,Pa.bool_none _⟩
  |bl y=>
   obtain rfl:=aH.mp rx;obtain rfl:a=P5 _:=qx;obtain rfl:=aH.mp ry;obtain rfl:b=P5 _:=qy;unfold cO;exact⟨Pg.bool_bool _ _,Pb.bool_bool _ _,Pa.bool_bool _ _⟩
  |int y=>
   obtain rfl:=aH.mp rx;obtain rfl:a=P5 _:=qx;obtain rfl:=aD.mp ry;obtain⟨ty,rfl⟩:∃t,b=QF _ t:=qy;unfold cO;exact⟨Pg.bool_int _ _ _,Pb.bool_int _ _ _,Pa.bool_int _ _ _⟩
  |str y=>
   obtain rfl:=aH.mp rx;obtain rfl:a=P5 _:=qx;obtain rfl:=Rep.str_iff.mp ry;obtain⟨ty,rfl⟩:∃t,b=QE _ t:=qy;unfold cO;exact⟨Pg.bool_str _ _ _,Pb.bool_str _ _ _,Pa.bool_str _ _ _⟩
  |lst y=>
   obtain rfl:=aH.mp rx;obtain rfl:a=P5 _:=qx;obtain⟨ly,_,_,rfl,rfl,_,_,_,hy,_⟩:=aU I ry qy;unfold cO;exact⟨Pg.bool_list _ hy hu,Pb.bool_list _ hy hu,Pa.bool_list _ hy hu⟩
  |tup y=>
   obtain rfl:=aH.mp rx;obtain rfl:a=P5 _:=qx;obtain⟨ly,_,_,rfl,rfl,_,_,_,hy,_⟩:=bo I ry qy;unfold cO;exact⟨Pg.bool_tuple _ hy hu,Pb.bool_tuple _ hy hu,Pa.bool_tuple _ hy hu⟩
  |dic ks ds=>exact absurd rfl (d2 ks ds)|exc c=>exact absurd rfl (x2 c)|ob k c=>exact absurd rfl (o2 k c)
 |int x=>
  cases y with
  |non=>
   obtain rfl:=aD.mp rx;obtain⟨tx,rfl⟩:∃t,a=QF _ t:=qx;obtain rfl:=aP.mp ry;obtain rfl:b=PZ:=qy;unfold cO;exact⟨Pg.int_none _ _,Pb.int_none _ _,Pa.int_none _ _⟩
  |bl y=>
   obtain rfl:=aD.mp rx;obtain⟨tx,rfl⟩:∃t,a=QF _ t:=qx;obtain rfl:=aH.mp ry;obtain rfl:b=P5 _:=qy;unfold cO;exact⟨Pg.int_bool _ _ _,Pb.int_bool _ _ _,Pa.int_bool _ _ _⟩
  |int y=>
   obtain rfl:=aD.mp rx;obtain⟨tx,rfl⟩:∃t,a=QF _ t:=qx;obtain rfl:=aD.mp ry;obtain⟨ty,rfl⟩:∃t,b=QF _ t:=qy;unfold cO;exact⟨Pg.int_int _ _ _ _,Pb.int_int _ _ _ _,Pa.int_int _ _ _ _⟩
  |str y=>
   obtain rfl:=aD.mp rx;obtain⟨tx,rfl⟩:∃t,a=QF _ t:=qx;obtain rfl:=Rep.str_iff.mp ry;obtain⟨ty,rfl⟩:∃t,b=QE _ t:=qy;unfold cO;exact⟨Pg.int_str _ _ _ _,Pb.int_str _ _ _ _,Pa.int_str _ _ _ _⟩
  |lst y=>
   obtain rfl:=aD.mp rx;obtain⟨tx,rfl⟩:∃t,a=QF _ t:=qx;obtain⟨ly,_,_,rfl,rfl,_,_,_,hy,_⟩:=aU I ry qy;unfold cO;exact⟨Pg.int_list _ _ hy hu,Pb.int_list _ _ hy hu,Pa.int_list _ _ hy hu⟩
  |tup y=>
   obtain rfl:=aD.mp rx;obtain⟨tx,rfl⟩:∃t,a=QF _ t:=qx;obtain⟨ly,_,_,rfl,rfl,_,_,_,hy,_⟩:=bo I ry qy;unfold cO;exact⟨Pg.int_tuple _ _ hy hu,Pb.int_tuple _ _ hy hu,Pa.int_tuple _ _ hy hu⟩
  |dic ks ds=>exact absurd rfl (d2 ks ds)|exc c=>exact absurd rfl (x2 c)|ob k c=>exact absurd rfl (o2 k c)
 |str x=>
  cases y with
  |non=>
   obtain rfl:=Rep.str_iff.mp rx;obtain⟨tx,rfl⟩:∃t,a=QE _ t:=qx;obtain rfl:=aP.mp ry;obtain rfl:b=PZ:=qy;unfold cO;exact⟨Pg.str_none _ _,Pb.str_none _ _,Pa.str_none _ _⟩
  |bl y=>
   obtain rfl:=Rep.str_iff.mp rx;obtain⟨tx,rfl⟩:∃t,a=QE _ t:=qx;obtain rfl:=aH.mp ry;obtain rfl:b=P5 _:=qy;unfold cO;exact⟨Pg.str_bool _ _ _,Pb.str_bool _ _ _,Pa.str_bool _ _ _⟩
  |int y=>
   obtain rfl:=Rep.str_iff.mp rx;obtain⟨tx,rfl⟩:∃t,a=QE _ t:=qx;obtain rfl:=aD.mp ry;obtain⟨ty,rfl⟩:∃t,b=QF _ t:=qy;unfold cO;exact⟨Pg.str_int _ _ _ _,Pb.str_int _ _ _ _,Pa.str_int _ _ _ _⟩
  |str y=>
   obtain rfl:=Rep.str_iff.mp rx;obtain⟨tx,rfl⟩:∃t,a=QE _ t:=qx;obtain rfl:=Rep.str_iff.mp ry;obtain⟨ty,rfl⟩:∃t,b=QE _ t:=qy;unfold cO;exact⟨Pg.str_str _ _ _ _,Pb.str_str _ _ _ _,Pa.str_str _ _ _ _⟩
  |lst y=>
   obtain rfl:=Rep.str_iff.mp rx;obtain⟨tx,rfl⟩:∃t,a=QE _ t:=qx;obtain⟨ly,_,_,rfl,rfl,_,_,_,hy,_⟩:=aU I ry qy;unfold cO;exact⟨Pg.str_list _ _ hy hu,Pb.str_list _ _ hy hu,Pa.str_list _ _ hy hu⟩
  |tup y=>
   obtain rfl:=Rep.str_iff.mp rx;obtain⟨tx,rfl⟩:∃t,a=QE _ t:=qx;obtain⟨ly,_,_,rfl,rfl,_,_,_,hy,_⟩:=bo I ry qy;unfold cO;exact⟨Pg.str_tuple _ _ hy hu,Pb.str_tuple _ _ hy hu,Pa.str_tuple _ _ hy hu⟩
  |dic ks ds=>exact absurd rfl (d2 ks ds)|exc c=>exact absurd rfl (x2 c)|ob k c=>exact absurd rfl (o2 k c)
 |lst x=>
  cases y with
  |non=>
   obtain⟨lx,_,_,rfl,rfl,_,_,_,hx,_⟩:=aU I rx qx;obtain rfl:=aP.mp ry;obtain rfl:b=PZ:=qy;unfold cO;exact⟨Pg.list_none  hx hu,Pb.list_none  hx hu,Pa.list_none  hx hu⟩
  |bl y=>
   obtain⟨lx,_,_,rfl,rfl,_,_,_,hx,_⟩:=aU I rx qx;obtain rfl:=aH.mp ry;obtain rfl:b=P5 _:=qy;unfold cO;exact⟨Pg.list_bool _ hx hu,Pb.list_bool _ hx hu,Pa.list_bool _ hx hu⟩
  |int y=>
   obtain⟨lx,_,_,rfl,rfl,_,_,_,hx,_⟩:=aU I rx qx;obtain rfl:=aD.mp ry;obtain⟨ty,rfl⟩:∃t,b=QF _ t:=qy;unfold cO;exact⟨Pg.list_int _ _ hx hu,Pb.list_int _ _ hx hu,Pa.list_int _ _ hx hu⟩
  |str y=>
   obtain⟨lx,_,_,rfl,rfl,_,_,_,hx,_⟩:=aU I rx qx;obtain rfl:=Rep.str_iff.mp ry;obtain⟨ty,rfl⟩:∃t,b=QE _ t:=qy;unfold cO;exact⟨Pg.list_str _ _ hx hu,Pb.list_str _ _ hx hu,Pa.list_str _ _ hx hu⟩
  |lst y=>
   exact absurd ⟨rfl,rfl⟩ (n1 x y)
  |tup y=>
   obtain⟨lx,_,_,rfl,rfl,_,_,_,hx,_⟩:=aU I rx qx;obtain⟨ly,_,_,rfl,rfl,_,_,_,hy,_⟩:=bo I ry qy;unfold cO;exact⟨Pg.list_tuple  hx hy hu,Pb.list_tuple  hx hy hu,Pa.list_tuple  hx hy hu⟩
  |dic ks ds=>exact absurd rfl (d2 ks ds)|exc c=>exact absurd rfl (x2 c)|ob k c=>exact absurd rfl (o2 k c)
 |tup x=>
  cases y with
  |non=>
   obtain⟨lx,_,_,rfl,rfl,_,_,_,hx,_⟩:=bo I rx qx;obtain rfl:=aP.mp ry;obtain rfl:b=PZ:=qy;unfold cO;exact⟨Pg.tuple_none  hx hu,Pb.tuple_none  hx hu,Pa.tuple_none  hx hu⟩
  |bl y=>
   obtain⟨lx,_,_,rfl,rfl,_,_,_,hx,_⟩:=bo I rx qx;obtain rfl:=aH.mp ry;obtain rfl:b=P5 _:=qy;unfold cO;exact⟨Pg.tuple_bool _ hx hu,Pb.tuple_bool _ hx hu,Pa.tuple_bool _ hx hu⟩
  |int y=>
   obtain⟨lx,_,_,rfl,rfl,_,_,_,hx,_⟩:=bo I rx qx;obtain rfl:=aD.mp ry;obtain⟨ty,rfl⟩:∃t,b=QF _ t:=qy;unfold cO;exact⟨Pg.tuple_int _ _ hx hu,Pb.tuple_int _ _ hx hu,Pa.tuple_int _ _ hx hu⟩
  |str y=>
   obtain⟨lx,_,_,rfl,rfl,_,_,_,hx,_⟩:=bo I rx qx;obtain rfl:=Rep.str_iff.mp ry;obtain⟨ty,rfl⟩:∃t,b=QE _ t:=qy;unfold cO;exact⟨Pg.tuple_str _ _ hx hu,Pb.tuple_str _ _ hx hu,Pa.tuple_str _ _ hx hu⟩
  |lst y=>
   obtain⟨lx,_,_,rfl,rfl,_,_,_,hx,_⟩:=bo I rx qx;obtain⟨ly,_,_,rfl,rfl,_,_,_,hy,_⟩:=aU I ry qy;unfold cO;exact⟨Pg.tuple_list  hx hy hu,Pb.tuple_list  hx hy hu,Pa.tuple_list  hx hy hu⟩
  |tup y=>
   exact absurd ⟨rfl,rfl⟩ (n2 x y)
  |dic ks ds=>exact absurd rfl (d2 ks ds)|exc c=>exact absurd rfl (x2 c)|ob k c=>exact absurd rfl (o2 k c)
 |dic ks ds=>exact absurd rfl (d1 ks ds)
 |exc c=>exact absurd rfl (x1 c)
 |ob k c=>exact absurd rfl (o1 k c)
def EN(I:Inv X π σ H s):∀(n:Nat) (A:Pu),A.units+n<QU->∀(x y:D) (v u:V) (a b:OB),aW n x=true->aW n y=true->Rep X.K H x v->Rep X.K H y u->bA v a->bA u b ->
  Pg A s a b (cO x y)/\Pb A s a b (cO x y)/\Pa A s a b (!(cO x y)):=by
 have nd:∀m ks ds,aW m (.dic ks ds)=true->False:=λm ks ds h=>by cases m<;>(unfold aW at h;cases h)
 have nx:∀m x,aW m (.exc x)=true->False:=λm x h=>by cases m<;>(unfold aW at h;cases h)
 have nb:∀m k x,aW m (.ob k x)=true->False:=λm k x h=>by cases m<;>(unfold aW at h;cases h)
 intro n
 induction n with
 |zero=>
  intro A hu x y v u a b sx sy rx ry qa qb;refine uH I (by omega) rx ry qa qb (λds ds' z=>?_) (λds ds' z=>?_) (λks ds z=>?_) (λks ds z=>?_) (λc z=>nx _ _ (z▸sx)) (λc z=>nx _ _ (z▸sy)) (λk c z=>nb _ _ _ (z▸sx)) (λk c z=>nb _ _ _ (z▸sy))
  .rw[z.1]at sx;unfold aW at sx;cases sx
  .rw[z.1]at sx;unfold aW at sx;cases sx
  .rw[z]at sx;exact nd _ _ _ sx
  .rw[z]at sy;exact nd _ _ _ sy
 |succ n ih=>
  intro A hu x y v u a b sx sy rx ry qa qb;have ih':∀(x y:D) (v u:V) (a b:OB),aW n x=true->aW n y=true->Rep X.K H x v->Rep X.K H y u->bA v a->bA u b->Pb A.in1 s a b (cO x y) :=
   λx y v u a b s1 s2 r1 r2 q1 q2=>(ih A.in1 (by show A.units+1+n<QU;omega) x y v u a b s1 s2 r1 r2 q1 q2).2.1
  by_cases t1:∃ds ds',x=.tup ds/\y=.tup ds'
  .obtain⟨xs,ys,rfl,rfl⟩:=t1
   obtain⟨l,vs,is,rfl,rfl,h1,h2,h3,h4,h5⟩:=bo I rx qa;obtain⟨m,us,js,rfl,rfl,k1,k2,k3,k4,k5⟩:=bo I ry qb;have hsx:=sx;have hsy:=sy;unfold aW at sx sy;have each:=vb (A:=A) ih' sx sy h2 k2 h3 k3;have eall:cO (.tup xs) (.tup ys)=((PL (min is.toArray.size js.toArray.size)).all (λj=>cO (xs.getD j .non) (ys.getD j .non))&&is.toArray.size==js.toArray.size):=by
    rw[Gm];simp only[O3,←h5,←k5]
    by_cases hl:xs.length=ys.length
    .rw[kn xs ys hl,←hl,Nat.min_self,beq_self_eq_true,Bool.and_true]
    .rw[pB xs ys hl,beq_eq_false_iff_ne.mpr hl,Ue]
   refine⟨?_,?_,?_⟩
   .rw[eall];exact Pg.tuples h4 k4 (by omega) each
   .by_cases hlm:l=m
    .subst hlm
     rw[Rep.inj I (n+1) _ _ _ hsx hsy rx ry,il (n+1) _ hsy];exact TQ _
    .refine SY hlm ?_
     rw[eall];exact Pg.tuples h4 k4 (by omega) each
   .rw[eall];exact Pa.tuples h4 k4 (by omega) each
  .by_cases t2:∃ds ds',x=.lst ds/\y=.lst ds'
   .obtain⟨xs,ys,rfl,rfl⟩:=t2
    obtain⟨l,vs,is,rfl,rfl,h1,h2,h3,h4,h5⟩:=aU I rx qa;obtain⟨m,us,js,rfl,rfl,k1,k2,k3,k4,k5⟩:=aU I ry qb;have hsx:=sx;have hsy:=sy;unfold aW at sx sy;have each:=vb (A:=A) ih' sx sy h2 k2 h3 k3
    by_cases hl:xs.length=ys.length
    .have hsz:is.toArray.size=js.toArray.size:=by simp only[O3];omega
     have eall:cO (.lst xs) (.lst ys)=(PL is.toArray.size).all (λj=>cO (xs.getD j .non) (ys.getD j .non)):=by
      rw[zd];simp only[O3,←h5];exact kn xs ys hl
     refine⟨?_,?_,?_⟩
     .rw[eall];exact Pg.lists h4 k4 hsz (by omega) each
     .by_cases hlm:l=m
      .subst hlm
       rw[Rep.inj I (n+1) _ _ _ hsx hsy rx ry,il (n+1) _ hsy];exact TQ _
      .refine SY hlm ?_
       rw[eall];exact Pg.lists h4 k4 hsz (by omega) each
     .rw[eall];exact Pa.lists h4 k4 hsz (by omega) each
    .have hsz:(is.toArray.size != js.toArray.size)=true:=by simp only[O3,bne_iff_ne,ne_eq];omega
     have eall:cO (.lst xs) (.lst ys)=false:=by rw[zd];exact pB xs ys hl
     rw[eall];refine⟨Ui h4 k4 hsz (by omega),?_,Pa.lists_lengths h4 k4 hsz (by omega)⟩;refine SY (λe=>?_) (Ui h4 k4 hsz (by omega));subst e;have:=Rep.inj I (n+1) _ _ _ hsx hsy rx ry;cases this;exact hl rfl
   .exact uH I (by omega) rx ry qa qb (λds ds' z=>t2 ⟨ds,ds',z⟩) (λds ds' z=>t1 ⟨ds,ds',z⟩) (λks ds z=>by rw[z]at sx;exact nd _ _ _ sx) (λks ds z=>by rw[z]at sy;exact nd _ _ _ sy) (λc z=>nx _ _ (z▸sx)) (λc z=>nx _ _ (z▸sy)) (λk c z=>nb _ _ _ (z▸sx)) (λk c z=>nb _ _ _ (z▸sy))
end
section
variable {X:Cx}{E:XK}
def jW(x y:D):aj D:=if aW 40 x=true/\aW 40 y=true then .ok (.bl (cO x y)) else .stuck
def jt(x y:D):aj D:=if aW 40 x=true/\aW 40 y=true then .ok (.bl (!(cO x y))) else .stuck
def K9(K:OF):R2:=λv u H Q=>∃x y,Rep K H x v/\Rep K H y u/\aW 40 x=true/\aW 40 y=true/\Q (.bl (cO x y)) H
def K4(K:OF):R2:=λv u H Q=>∃x y,Rep K H x v/\Rep K H y u/\aW 40 x=true/\aW 40 y=true/\Q (.bl (!(cO x y))) H
def eY(hu:X.A.units+64<QU):fN X (PX .Eq) (K9 X.K):=by
 intro π s σ H x y v u Q I rx ry h;obtain⟨d,d',h1,h2,s1,s2,q⟩:=h;exact(EN I 40 X.A (by omega) d d' x y v u s1 s2 h1 h2 rx ry).1 _ _ _ _ ⟨.bl _,H,I,rfl,q⟩
def fF(hu:X.A.units+64<QU):fN X (PX .NotEq) (K4 X.K):=by
 intro π s σ H x y v u Q I rx ry h;obtain⟨d,d',h1,h2,s1,s2,q⟩:=h;exact(EN I 40 X.A (by omega) d d' x y v u s1 s2 h1 h2 rx ry).2.2 _ _ _ _ ⟨.bl _,H,I,rfl,q⟩
def ia:ub X.K E (K9 X.K) jW:=by
 intro x y v u H Ha Q hs r1 r2 q;unfold jW at q
 by_cases c:aW 40 x=true/\aW 40 y=true
 .rw[if_pos c]at q
  exact⟨x,y,r1.mono hs,r2.mono hs,c.1,c.2,q _ H Ha (bf.refl hs) (aH.mpr rfl)⟩
 .rw[if_neg c]at q;exact q.elim
def iT:ub X.K E (K4 X.K) jt:=by
 intro x y v u H Ha Q hs r1 r2 q;unfold jt at q
 by_cases c:aW 40 x=true/\aW 40 y=true
 .rw[if_pos c]at q
  exact⟨x,y,r1.mono hs,r2.mono hs,c.1,c.2,q _ H Ha (bf.refl hs) (aH.mpr rfl)⟩
 .rw[if_neg c]at q;exact q.elim
open Classical in
noncomputable def iZ(K:OF) (H:Hp) (ds:ac) (x:D) (u:OB):Bool :=
 if h:∃d,d∈ds/\∃v,Rep K H d v/\bA v u then cO h.choose x else false
def tE{π:List (OG×Obj)}{σ:L2.St}{H:Hp}{s:OE}(I:Inv X π σ H s){ds:ac}{x d:D}{v:V}{u:OB}(sd:ds.all (aW 40)=true)(hd:d∈ds)(r:Rep X.K H d v)(q:bA v u):iZ X.K H ds x u=cO d x:=by
 have h:∃d,d∈ds/\∃v,Rep X.K H d v/\bA v u:=⟨d,hd,v,r,q⟩
 unfold iZ;rw[dif_pos h];obtain⟨h1,v',h2,h3⟩:=h.choose_spec;have e:v'=v:=h3.inj q;subst e;rw[Rep.inj I 40 _ _ _ (Pr.mp sd _ h1) (Pr.mp sd _ hd) h2 r]
def wD(K:OF)(neg:Bool):R2:=λv u H Q=>∃x ds,Rep K H x v/\(Rep K H (.lst ds) u∨Rep K H (.tup ds) u)/\aW 40 x=true/\ds.all (aW 40)=true/\Q (.bl (if neg then !(ds.any λd=>cO d x) else ds.any λd=>cO d x)) H
theorem jB{π:List (OG×Obj)}{σ:L2.St}{H:Hp}{s:OE}(I:Inv X π σ H s){x:D}{es:ac}(se:es.all (aW 40)=true):∀{ds:ac}{vs:ad}{us:List OB},(∀d∈ds,d∈es)->Reps X.K H ds vs->bq vs us->us.any (iZ X.K H es x)=ds.any λd=>cO d x
 |[],_,_,_,h,q=>by
  rw[Reps.nil_iff.mp h]at q;cases q;rfl
 |d::ds,_,_,hm,h,q=>by
  obtain⟨v,r,rfl,h1,h2⟩:=aC.mp h;cases q with
  |cons q1 q2=>
   rw[QX,QX,tE I se (hm d Pc) h1 q1,jB I se (λx hx=>hm x (OZ _ hx)) h2 q2]
theorem fW{π:List (OG×Obj)}{σ:L2.St}{H:Hp}{s:OE}(I:Inv X π σ H s)(hu:X.A.units+64<QU){x:D}{v:V}{u:OB}(sx:aW 40 x=true)(rx:Rep X.K H x v)(qx:bA v u){es:ac}(se:es.all (aW 40)=true):∀{ds:ac}{vs:ad}{us:List OB},(∀d∈ds,d∈es)->Reps X.K H ds vs->bq vs us->∀y∈us,Pb X.A.in1 s y u (iZ X.K H es x y)
 |[],_,_,_,h,q=>λy hy=>by
  rw[Reps.nil_iff.mp h]at q;cases q;cases hy
 |d::ds,_,_,hm,h,q=>λy hy=>by
  obtain⟨w,r,rfl,h1,h2⟩:=aC.mp h;cases q with
  |cons q1 q2=>
   rcases OU.mp hy with rfl|hy
   .rw[tE I se (hm d Pc) h1 q1]
    exact(EN I 40 X.A.in1 (by show X.A.units+1+40<QU;omega) d x w v _ u (Pr.mp se _ (hm d Pc)) sx h1 rx q1 qx).2.1
   .exact fW I hu sx rx qx se (λx hx=>hm x (OZ _ hx)) h2 q2 y hy
def IU(hu:X.A.units+64<QU):fN X (PX .In) (wD X.K false):=by
 intro π s σ H x y v u Q I rx ry h;obtain⟨d,ds,h1,h2,s1,s2,q⟩:=h;rcases h2 with h2|h2
 .obtain⟨a,vs,its,rfl,rfl,k1,k2,k3,k4,k5⟩:=aU I h2 ry
  refine SeqAt.in_listAt (iZ X.K H ds d) k4 (λw hw=>fW I hu s1 h1 rx s2 (λ_ z=>z) k2 k3 w (by simpa using hw)) ⟨.bl _,H,I,rfl,?_⟩;rw[show its.toArray.any (iZ X.K H ds d)=its.any (iZ X.K H ds d) by simp,jB I s2 (λ_ z=>z) k2 k3];exact q
 .obtain⟨a,vs,its,rfl,rfl,k1,k2,k3,k4,k5⟩:=bo I h2 ry
  refine SeqAt.in_tupleAt (iZ X.K H ds d) k4 (λw hw=>fW I hu s1 h1 rx s2 (λ_ z=>z) k2 k3 w (by simpa using hw)) ⟨.bl _,H,I,rfl,?_⟩;rw[show its.toArray.any (iZ X.K H ds d)=its.any (iZ X.K H ds d) by simp,jB I s2 (λ_ z=>z) k2 k3];exact q
def Ac(hu:X.A.units+64<QU):fN X (PX .NotIn) (wD X.K true):=by
 intro π s σ H x y v u Q I rx ry h;obtain⟨d,ds,h1,h2,s1,s2,q⟩:=h;rcases h2 with h2|h2
 .obtain⟨a,vs,its,rfl,rfl,k1,k2,k3,k4,k5⟩:=aU I h2 ry
  refine SeqAt.notIn_listAt (iZ X.K H ds d) k4 (λw hw=>fW I hu s1 h1 rx s2 (λ_ z=>z) k2 k3 w (by simpa using hw)) ⟨.bl _,H,I,rfl,?_⟩;rw[show its.toArray.any (iZ X.K H ds d)=its.any (iZ X.K H ds d) by simp,jB I s2 (λ_ z=>z) k2 k3];exact q
 .obtain⟨a,vs,its,rfl,rfl,k1,k2,k3,k4,k5⟩:=bo I h2 ry
  refine SeqAt.notIn_tupleAt (iZ X.K H ds d) k4 (λw hw=>fW I hu s1 h1 rx s2 (λ_ z=>z) k2 k3 w (by simpa using hw)) ⟨.bl _,H,I,rfl,?_⟩;rw[show its.toArray.any (iZ X.K H ds d)=its.any (iZ X.K H ds d) by simp,jB I s2 (λ_ z=>z) k2 k3];exact q
def ME(i j:OO):Bool:=!(SG j i 0 j.length 1).isEmpty
noncomputable def A5(x y:D):Option Bool:=match y with
 |.lst ds=>if aW 40 x=true/\ds.all (aW 40)=true then some (ds.any λd=>cO d x) else none
 |.tup ds=>if aW 40 x=true/\ds.all (aW 40)=true then some (ds.any λd=>cO d x) else none
 |.str j=>match x with
  |.str i=>some (ME i j)
  |_=>none
 |_=>none
def v9(x y:D):aj D:=match A5 x y with
 |some b=>.ok (.bl b)
 |none=>.stuck
def cE(x y:D):aj D:=match A5 x y with
 |some b=>.ok (.bl (!b))
 |none=>.stuck
def BK(neg:Bool):R2:=λx y H Q=>∃i j,x=.str i/\y=.str j/\Q (.bl (if neg then !(ME i j) else ME i j)) H
def yC(hu:X.A.units+64<QU):fN X (PX .In) (λv u H Q=>wD X.K false v u H Q∨BK false v u H Q):=fN.or (IU hu) (by
 intro π s σ H x y v u Q I rx ry h;obtain⟨i,j,rfl,rfl,q⟩:=h;exact Ad π s σ H _ _ v u Q I rx ry ⟨i,j,rfl,rfl,q⟩)
def gX(hu:X.A.units+64<QU):fN X (PX .NotIn) (λv u H Q=>wD X.K true v u H Q∨BK true v u H Q):=fN.or (Ac hu) (by
 intro π s σ H x y v u Q I rx ry h;obtain⟨i,j,rfl,rfl,q⟩:=h;exact sN π s σ H _ _ v u Q I rx ry ⟨i,j,rfl,rfl,q⟩)
def uT{neg:Bool}{x y:D}{v u:V}{H Ha:Hp}{Q:VK}(hs:aF Ha H)(r1:Rep X.K Ha x v)(r2:Rep X.K Ha y u)
  (q:post X.K E H Ha (match A5 x y with|some b=>.ok (.bl (if neg then !b else b))|none=>.stuck) Q):wD X.K neg v u H Q∨BK neg v u H Q:=by
 cases y with
 |lst ds=>
  simp only[A5]at q
  by_cases c:aW 40 x=true/\ds.all (aW 40)=true
  .rw[if_pos c]at q
   exact .inl ⟨x,ds,r1.mono hs,.inl (r2.mono hs),c.1,c.2,q _ H Ha (bf.refl hs) (aH.mpr rfl)⟩
  .rw[if_neg c]at q;exact q.elim
 |tup ds=>
  simp only[A5]at q
  by_cases c:aW 40 x=true/\ds.all (aW 40)=true
  .rw[if_pos c]at q
   exact .inl ⟨x,ds,r1.mono hs,.inr (r2.mono hs),c.1,c.2,q _ H Ha (bf.refl hs) (aH.mpr rfl)⟩
  .rw[if_neg c]at q;exact q.elim
 |str j=>
  cases x with|str i=>exact .inr ⟨i,j,Rep.str_iff.mp r1,Rep.str_iff.mp r2,q _ H Ha (bf.refl hs) (aH.mpr rfl)⟩| _=>exact q.elim
 |_=>exact q.elim
def yF:ub X.K E (λv u H Q=>wD X.K false v u H Q∨BK false v u H Q) v9:=λx y v u H Ha Q hs r1 r2 q=>uT (neg:=false) (E:=E) hs r1 r2 (by
 unfold v9 at q;cases e:A5 x y with
 |none=>rw[e]at q;exact q
 |some b=>rw[e]at q;exact q)
def gZ:ub X.K E (λv u H Q=>wD X.K true v u H Q∨BK true v u H Q) cE:=λx y v u H Ha Q hs r1 r2 q=>uT (neg:=true) (E:=E) hs r1 r2 (by
 unfold cE at q;cases e:A5 x y with
 |none=>rw[e]at q;exact q
 |some b=>rw[e]at q;exact q)
end
@[irreducible] def B9:Nat:=2 ^ 9000
@[irreducible] def A3:Nat:=2 ^ 13500
@[irreducible] def D5:Nat:=2 ^ 60000
theorem D4:B9=2 ^ 9000:=by unfold B9;rfl
def t9:A3=2 ^ 13500:=by unfold A3;rfl
def xU:D5=2 ^ 60000:=by unfold D5;rfl
def oX{n k:Nat}(h:n<2 ^ k)(hk:0<k):n.log2<k:=by
 by_cases h0:n=0
 .rw[h0]
  have:Nat.log2 0=0:=by decide
  omega
 .exact(Nat.log2_lt h0).mpr h
def Lv{x y:Int}(h:y.natAbs<B9):Q9 x y=false:=by
 rw[D4]at h;exact PyProof.noPylong_of_log2 (oX h (by omega))
def IZ{x y:Int}(h:x.natAbs<A3):Q9 x y=false:=by
 rw[t9]at h;have hx:x.natAbs.log2<13500:=oX h (by omega);show(decide ((if y==0 then 0 else y.natAbs.log2 / 30+1) > 300)&&decide ((if x==0 then 0 else x.natAbs.log2 / 30+1) > (if y==0 then 0 else y.natAbs.log2 / 30+1)+150))=false;have k:(if x==0 then 0 else x.natAbs.log2 / 30+1)<=450:=by
  by_cases hx0:(x==0)=true
  .rw[if_pos hx0];omega
  .rw[if_neg hx0];omega
 by_cases c:(if y==0 then 0 else y.natAbs.log2 / 30+1) > 300
 .rw[UN];right;exact decide_eq_false (by omega)
 .rw[UN];left;exact decide_eq_false c
def iq(i j:Int):Bool:=decide (j≠0)&&(decide (j.natAbs<B9)||decide (i.natAbs<A3))
def fz(i j:Int):Bool:=decide (i.natAbs<D5)&&decide (j.natAbs<D5)
def iq.ok{i j:Int}(h:iq i j=true):j≠0/\Q9 i j=false:=by
 unfold iq at h;rw[O4,TY]at h;refine⟨of_decide_eq_true h.1,?_⟩;rcases h.2 with h|h
 .exact Lv (of_decide_eq_true h)
 .exact IZ (of_decide_eq_true h)
def fz.ok{i j:Int}(h:fz i j=true):IntMulOk i j:=by
 unfold fz at h;rw[O4]at h;have h1:=of_decide_eq_true h.1;have h2:=of_decide_eq_true h.2;rw[xU]at h1 h2;exact PyProof.Rows.mulOk_of_bits (m:=60000) (n:=60000) (US.mpr h1) (US.mpr h2) (by decide)
section
variable {X:Cx}{E:XK}{e a b c:Pd}{es:List Pd}{f g k:al}{fa:Ev->aj (ac)}{pos:Pos}
def bG{K:OF}{H Ha:Hp}{d:D}{v:V}{Q:VK}(hs:aF Ha H)(q:post K E H Ha (.ok d) Q)(r:Rep K Ha d v):Q v H:=q v H Ha (bf.refl hs) r
def sX(c:Int->Int->Bool)(g:Int->Int->D)(x y:D):aj D:=match x,y with
 |.int i,.int j=>if c i j=true then .ok (g i j) else .stuck
 |_,_=>.stuck
def sS{C:Int->Int->Prop}{c:Int->Int->Bool}{gv:Int->Int->V}{g:Int->Int->D}(hc:∀i j,c i j=true->C i j)(hg:∀K H i j,Rep K H (g i j) (gv i j)):ub X.K E (rI C gv) (sX c g):=by
 intro x y v u H Ha Q hs r1 r2 q;unfold sX at q;cases x with
 |int i=>
  cases y with
  |int j=>
   by_cases h:c i j=true
   .simp only[if_pos h]at q
    exact⟨i,j,aD.mp r1,aD.mp r2,hc i j h,bG hs q (hg _ _ i j)⟩
   .simp only[if_neg h]at q;exact q.elim
  |_=>exact q.elim
 |_=>exact q.elim
def eI{gv:Int->Int->V}{g:Int->Int->D}(hg:∀K H i j,Rep K H (g i j) (gv i j)):ub X.K E (BL gv) (sX (λ_ _=>true) g):=by
 intro x y v u H Ha Q hs r1 r2 q;unfold sX at q;cases x with
 |int i=>
  cases y with|int j=>simp only[if_pos]at q;exact⟨i,j,aD.mp r1,aD.mp r2,bG hs q (hg _ _ i j)⟩| _=>exact q.elim
 |_=>exact q.elim
def ri{K:OF}{H:Hp}(n:Int):Rep K H (.int n) (.int n):=aD.mpr rfl
def rb{K:OF}{H:Hp}(n:Bool):Rep K H (.bl n) (.bl n):=aH.mpr rfl
abbrev i7:=sX (λ_ _=>true) λi j=>.int (i-j)
abbrev AJ:=sX iq λi j=>.int (i.fdiv j)
abbrev cP:=sX (λ_ j=>decide (j≠0)) λi j=>.int (i.fmod j)
abbrev AI:=sX (λi j=>decide (0<=j)&&decide (j<=1000000)&&decide (i.natAbs<18446744073709551616)) λi j=>.int (i ^ j.toNat)
abbrev Mk:=sX (λ_ _=>true) λi j=>.bl (decide (i<j))
abbrev Kp:=sX (λ_ _=>true) λi j=>.bl (decide (i<=j))
abbrev Kq:=sX (λ_ _=>true) λi j=>.bl (decide (j<i))
abbrev MG:=sX (λ_ _=>true) λi j=>.bl (decide (j<=i))
def Ff:fN X (binaryOp .Mult) (rI IntMulOk λi j=>.int (i*j)):=Lq λ_ _ _ _ _ _ _ hc q=>mul_int q hc
def Fh:fN X (binaryOp .FloorDiv) (rI (λi j=>j≠0/\Q9 i j=false) λi j=>.int (i.fdiv j)):=Lq λ_ _ _ _ _ _ _ hc q=>floordiv_int hc.1 q (.inl hc.2)
def pG(ha:DE X E a f)(hb:DE X E b g):DE X E (.BinOp a .Sub b pos) (aa f g i7):=mT IP (eI λ_ _ _ _=>ri _) ha hb
def xD(ha:DE X E a f)(hb:DE X E b g):DE X E (.BinOp a .FloorDiv b pos) (aa f g AJ):=mT Fh (sS (λ_ _ h=>iq.ok h) λ_ _ _ _=>ri _) ha hb
def cJ(ha:DE X E a f)(hb:DE X E b g):DE X E (.BinOp a .Mod b pos) (aa f g cP):=mT Fg (sS (λ_ _ h=>of_decide_eq_true h) λ_ _ _ _=>ri _) ha hb
def xC(ha:DE X E a f)(hb:DE X E b g):DE X E (.BinOp a .Pow b pos) (aa f g AI):=mT IT (sS (λi j h=>by
 rw[O4,O4]at h;exact⟨of_decide_eq_true h.1.1,of_decide_eq_true h.1.2,of_decide_eq_true h.2⟩) λ_ _ _ _=>ri _) ha hb
def nm{op:CmpOp}{b:Pd}(h1:op≠.In:=by decide)(h2:op≠.NotIn:=by decide):behindInMarks op b=false:=Co _ h1 h2
def xG(x:D):aj D:=match x with
 |.int i=>.ok (.int (-i))
 |_=>.stuck
def J6(ha:DE X E a f):DE X E (.UnaryOp .USub a pos) (bh f xG):=Mg Bj (by
 intro x v H Ha Q hs r q;cases x with
 |int i=>exact⟨i,aD.mp r,bG hs q (ri _)⟩
 |_=>exact q.elim) ha
def yE:fN X (binaryOp .Add) (λx y H Q=>∃l b xs zs,x=.ref l/\y=.ref b/\df X.K H l xs/\df X.K H b zs/\xs.length+zs.length<=sizeLine/\∀p,H p=none->Q (.ref p) (upd H p (.lst (xs++zs)))):=by
 intro π s σ H x y v u Q I rx ry h;obtain⟨l,b,xs,zs,rfl,rfl,hH,hB,hz,q⟩:=h;cases rx;cases ry;obtain⟨its,r,pl,z⟩:=I.list hH;obtain⟨its2,r2,pl2,z2⟩:=I.list hB;obtain⟨⟨cls,dd,data,sl⟩,ho,hc,n,hd⟩:=pl.isList;obtain⟨⟨cls2,dd2,data2,sl2⟩,ho2,hc2,n2,hd2⟩:=pl2.isList;simp only at hc hd hc2 hd2;subst hc hd hc2 hd2;have e:its.toArray++its2.toArray=(its++its2).toArray:=by simp
 have l1:=r.length;have l2:=r2.length;refine concat_meets ⟨_,ho,rfl⟩ ⟨_,ho2,rfl⟩ noFill_list_add seq_list_add PySem.F.slot_list_add PySem.F.entry_list_add (PySem.F.args_list_add_2 _ _) (list_addW l b its.toArray its2.toArray n n2 dd dd2 sl sl2 (by simp only[O3];omega)) ⟨ho,ho2,?_⟩;rw[e];exact⟨.ref _,_,I.lnew (t':=s.toks) (r.append r2) (by rw[PU];omega),rfl,q _ I.fresh⟩
noncomputable def bI(x y:D):aj D:=match x,y with
 |.int i,.int j=>.ok (.int (i+j))
 |.str i,.str j=>if i.length+j.length<=line then .ok (.str (i++j)) else .stuck
 |.lst ds,.lst es=>if ds.length+es.length<=line then .ok (.lst (ds++es)) else .stuck
 |.tup ds,.tup es=>if ds.isEmpty=false/\ds.length+es.length<=line then .ok (.tup (ds++es)) else .stuck
 |_,_=>.stuck
def bN(ha:DE X E a f)(hb:DE X E b g):DE X E (.BinOp a .Add b pos) (aa f g bI):=mT (fN.or IW (fN.or wN (fN.or yE Fi))) (by
 intro x y v u H Ha Q hs r1 r2 q;unfold bI at q;cases x with
 |int i=>
  cases y with|int j=>exact .inl ⟨i,j,aD.mp r1,aD.mp r2,bG hs q (ri _)⟩| _=>exact q.elim
 |str i=>
  cases y with
  |str j=>
   by_cases h:i.length+j.length<=line
   .simp only[if_pos h]at q
    exact .inr (.inl ⟨i,j,Rep.str_iff.mp r1,Rep.str_iff.mp r2,cV h,bG hs q (Rep.str_iff.mpr rfl)⟩)
   .simp only[if_neg h]at q;exact q.elim
  |_=>exact q.elim
 |lst ds=>
  cases y with
  |lst es=>
   by_cases h:ds.length+es.length<=line
   .simp only[if_pos h]at q
    obtain⟨l,vs,rfl,h1,h2⟩:=aA.mp r1;obtain⟨m,us,rfl,k1,k2⟩:=aA.mp r2;refine .inr (.inr (.inl ⟨l,m,vs,us,rfl,rfl,aF.sqL hs h1,aF.sqL hs k1,by rw[←h2.length,←k2.length];exact cV h,λp hp=>?_⟩));exact q _ _ _ (aL hs hp) (aA.mpr ⟨p,_,rfl,df.of aG,(h2.app k2).mono (aL hs hp).z⟩)
   .simp only[if_neg h]at q;exact q.elim
  |_=>exact q.elim
 |tup ds=>
  cases y with
  |tup es=>
   by_cases h:ds.isEmpty=false/\ds.length+es.length<=line
   .simp only[if_pos h]at q
    obtain⟨l,vs,rfl,h1,h2⟩:=aI.mp r1;obtain⟨m,us,rfl,k1,k2⟩:=aI.mp r2;refine .inr (.inr (.inr ⟨l,m,vs,us,rfl,rfl,aF.sqT hs h1,aF.sqT hs k1,λz=>?_,by rw[←h2.length,←k2.length];exact cV h.2,λz=>?_,λz p hp=>?_⟩))
    .have:=h2.length
     rw[z]at this;have e:ds=[]:=SA.mp this;rw[e]at h;exact absurd h.1 (by decide)
    .have:=k2.length
     rw[z]at this;have e:es=[]:=SA.mp this;rw[e,QM]at q;exact bG hs q r1
    .exact q _ _ _ (aL hs hp) (aI.mpr ⟨p,_,rfl,gT.of aG,(h2.app k2).mono (aL hs hp).z⟩)
   .simp only[if_neg h]at q;exact q.elim
  |_=>exact q.elim
 |_=>exact q.elim) ha hb
noncomputable def aK(x y:D):aj D:=match y with
 |.int i=>match x with
  |.lst ds=>match atI ds i with
   |some d=>.ok d
   |none=>.stuck
  |.tup ds=>match atI ds i with
   |some d=>.ok d
   |none=>.stuck
  |.str z=>if z.length<=line then match atI z.cps.toList i with
   |some c=>.ok (.str ⟨#[c]⟩)
   |none=>.stuck else .stuck
  |_=>.stuck
 |_=>.stuck
def Reps.atI{K:OF}{H:Hp}{ds:ac}{vs:ad}{i:Int}{d:D}(h:Reps K H ds vs)(e:atI ds i=some d):∃v,L2.atI vs i=some v/\Rep K H d v:=by
 unfold L2.atI at e ⊢;rw[←h.length];cases q:Ht ds.length i with
 |none=>rw[q]at e;cases e
 |some j=>
  rw[q]at e;exact h.get e
def Ls:ub X.K E (NW X.K) aK:=by
 intro x y v u H Ha Q hs r1 r2 q;unfold aK at q;cases y with
 |int i=>
  cases x with
  |lst ds=>
   obtain⟨l,vs,rfl,h1,h2⟩:=aA.mp r1;cases e:atI ds i with
   |none=>simp only[e]at q;exact q.elim
   |some d=>
    simp only[e]at q;obtain⟨w,e1,e2⟩:=h2.atI e;exact .inl ⟨l,vs,i,w,rfl,aD.mp r2,aF.sqL hs h1,e1,bG hs q e2⟩
  |tup ds=>
   obtain⟨l,vs,rfl,h1,h2⟩:=aI.mp r1;cases e:atI ds i with
   |none=>simp only[e]at q;exact q.elim
   |some d=>
    simp only[e]at q;obtain⟨w,e1,e2⟩:=h2.atI e;exact .inr (.inl ⟨l,vs,i,w,rfl,aD.mp r2,aF.sqT hs h1,e1,bG hs q e2⟩)
  |str z=>
   by_cases hz:z.length<=line
   .simp only[if_pos hz]at q
    cases e:atI z.cps.toList i with
    |none=>simp only[e]at q;exact q.elim
    |some c=>
     simp only[e]at q;exact .inr (.inr ⟨z,i,c,Rep.str_iff.mp r1,aD.mp r2,cV hz,e,bG hs q (Rep.str_iff.mpr rfl)⟩)
   .simp only[if_neg hz]at q;exact q.elim
  |_=>exact q.elim
 |_=>exact q.elim
def ax(ha:DE X E a f)(hb:DE X E b g)(hs:lH b:=by intro _ _;rfl):DE X E (.Subscript a b pos) (aa f g aK):=Mj Jk Ls ha hb hs
def dw:Ev->aj (Option Int):=λ_=>.ok none
def bW(f:al):Ev->aj (Option Int):=λρ=>(f ρ).bind λx=>match x with
 |.int i=>.ok (some i)
 |_=>.stuck
def M9(K:OF)(E:XK)(f:Ev->aj (Option Int)):TO:=λσ H Q=>∃Ha ρ,aF Ha H/\eU K Ha σ ρ/\match f ρ with
 |.ok o=>∀H' Ha',bf H Ha H' Ha'->Q o H'
 |.exn x=>∀C ox H' Ha',bf H Ha H' Ha'->tY K Ha' x C ox->E C ox H'
 |.stuck=>False
structure DO (X:Cx) (E:XK) (e:Option Pd) (f:Ev->aj (Option Int)):Prop where
 o:PO X e (M9 X.K E f)
def yq{eo:Option Pd}{t t':TO}(h:PO X eo t)(w:∀σ H Q,t' σ H Q->t σ H Q):PO X eo t':=λπ s σ H Q I q=>h π s σ H Q I (w σ H Q q)
def fT:DO X E none dw:=⟨yq E1 λσ H Q ⟨Ha,ρ,hs,hr,q⟩=>q H Ha (bf.refl hs)⟩
def cA(ha:DE X E a f):DO X E (some a) (bW f):=by
 refine⟨?_⟩;refine yq (EZ ha.o) λσ H Q z9=>?_;obtain⟨Ha,ρ,hs,hr,q⟩:=z9;refine⟨Ha,ρ,hs,hr,?_⟩
 unfold bW at q;cases e1:f ρ with
 |stuck|exn x=>rw[e1]at q;exact q
 |ok d=>
  rw[e1]at q;intro v H1 H01 g1 r1;cases d with|int i=>exact⟨i,aD.mp r1,q H1 H01 g1⟩| _=>exact q.elim
def jv(xs:ac)(lo hi:Option Int):ac:=(xs.drop (HT.sIx xs.length 0 lo)).take (HT.sIx xs.length xs.length hi-HT.sIx xs.length 0 lo)
def Reps.cut{K:OF}{H:Hp}{ds:ac}{vs:ad}(h:Reps K H ds vs)(lo hi:Option Int):Reps K H (jv ds lo hi) (vJ vs lo hi):=by
 unfold jv vJ;rw[←h.length];exact(h.drop _).take _
def uE{r:V->Option Int->Option Int->Hp->VK->Prop}{lo hi:Ev->aj (Option Int)}{m:D->Option Int->Option Int->aj D}
  (ho:∀x v l h H Ha Q,aF Ha H->Rep X.K Ha x v->post X.K E H Ha (m x l h) Q->r v l h H Q)(σ:L2.St)(H:Hp)(Q:VK)
  (h:tD X.K E (λρ=>(f ρ).bind λx=>(lo ρ).bind λl=>(hi ρ).bind λh=>m x l h) σ H Q):NR r (tD X.K E f) (M9 X.K E lo) (M9 X.K E hi) σ H Q:=by
 obtain⟨Ha,ρ,hs,hr,q⟩:=h;refine⟨Ha,ρ,hs,hr,?_⟩;replace q:post X.K E H Ha ((f ρ).bind λx=>(lo ρ).bind λl=>(hi ρ).bind λh=>m x l h) Q:=q;cases e1:f ρ with
 |stuck|exn x=>rw[e1]at q;exact q
 |ok x=>
  rw[e1]at q;intro v H1 H01 g1 r1;refine⟨H01,ρ,g1.sub,hr.mono g1.z,?_⟩;replace q:post X.K E H Ha ((lo ρ).bind λl=>(hi ρ).bind λh=>m x l h) Q:=q;replace q:=q.grow g1;cases e2:lo ρ with
  |stuck|exn x=>rw[e2]at q;exact q
  |ok l=>
   rw[e2]at q;intro H2 H02 g2;refine⟨H02,ρ,g2.sub,(hr.mono g1.z).mono g2.z,?_⟩;replace q:post X.K E H1 H01 ((hi ρ).bind λh=>m x l h) Q:=q;replace q:=q.grow g2;cases e3:hi ρ with
   |stuck|exn x=>rw[e3]at q;exact q
   |ok h=>
    rw[e3]at q;intro H3 H03 g3;exact ho x v l h H3 H03 Q g3.sub ((r1.mono g2.z).mono g3.z) (post.grow (r:=m x l h) q g3)
def m1(m:D->aj D)(ds:ac):aj D:=match ds with
 |[x]=>m x
 |_=>.stuck
def m2(m:D->D->aj D)(ds:ac):aj D:=match ds with
 |[x,y]=>m x y
 |_=>.stuck
def pY{r:ad->Hp->VK->Prop}{m:D->aj D}(h:∀x v H Ha Q,aF Ha H->Rep X.K Ha x v->post X.K E H Ha (m x) Q->r [v] H Q):iz X E r (m1 m):=by
 intro ds vs H Ha Q hs hr q;unfold m1 at q
 match ds,hr,q with
 |[x],hr,q=>
  obtain⟨v,r',rfl,h1,h2⟩:=aC.mp hr;rw[Reps.nil_iff.mp h2];exact h x v H Ha Q hs h1 q
 |[],_,q=>exact q.elim
 |_::_::_,_,q=>exact q.elim
def Mo{r:ad->Hp->VK->Prop}{m:D->D->aj D}(h:∀x y v u H Ha Q,aF Ha H->Rep X.K Ha x v->Rep X.K Ha y u->post X.K E H Ha (m x y) Q->r [v,u] H Q):iz X E r (m2 m):=by
 intro ds vs H Ha Q hs hr q;unfold m2 at q
 match ds,hr,q with
 |[x,y],hr,q=>
  obtain⟨v,r',rfl,h1,h2⟩:=aC.mp hr;obtain⟨u,r'',rfl,h3,h4⟩:=aC.mp h2;rw[Reps.nil_iff.mp h4];exact h x y v u H Ha Q hs h1 h3 q
 |[],_,q=>exact q.elim
 |[_],_,q=>exact q.elim
 |_::_::_::_,_,q=>exact q.elim
def vH(x:D):aj D:=match x with
 |.int i=>.ok (.int (if i<0 then -i else i))
 |_=>.stuck
def cY(x:D):aj D:=match x with
 |.lst ds=>.ok (.int ds.length)
 |.tup ds=>.ok (.int ds.length)
 |.str z=>if z.length<=line then .ok (.int z.length) else .stuck
 |_=>.stuck
def pI(x:D):aj D:=match x with
 |.int i=>.ok (.int i)
 |.bl b=>.ok (.int (if b then 1 else 0))
 |_=>.stuck
def j7(x:D):aj D:=match x with
 |.lst ds=>.ok (.lst ds)
 |.tup ds=>.ok (.lst ds)
 |_=>.stuck
def pT:iz X E (λxs H Q=>∃i,xs=[.int i]/\Q (.int (if i<0 then -i else i)) H) (m1 vH):=pY λx v H Ha Q hs r q=>by
 cases x with|int i=>exact⟨i,by rw[aD.mp r],bG hs q (ri _)⟩| _=>exact q.elim
def cF:iz X E (λxs H Q=>∃x n,xs=[x]/\Mw X.K x H n/\Q (.int n) H) (m1 cY):=pY λx v H Ha Q hs r q=>by
 cases x with
 |lst ds=>
  obtain⟨p,vs,rfl,h1,h2⟩:=aA.mp r;refine⟨_,vs.length,rfl,.inl ⟨vs,aF.sqL hs h1,rfl⟩,?_⟩;rw[←h2.length];exact bG hs q (ri _)
 |tup ds=>
  obtain⟨p,vs,rfl,h1,h2⟩:=aI.mp r;refine⟨_,vs.length,rfl,.inr ⟨vs,aF.sqT hs h1,rfl⟩,?_⟩;rw[←h2.length];exact bG hs q (ri _)
 |str z=>
  unfold cY at q
  by_cases hz:z.length<=line
  .simp only[if_pos hz]at q
   rw[Rep.str_iff.mp r];exact⟨_,z.length,rfl,⟨cV hz,rfl⟩,bG hs q (ri _)⟩
  .simp only[if_neg hz]at q;exact q.elim
 |_=>exact q.elim
def Kb:iz X E (λxs H Q=>(∃i,xs=[.int i]/\Q (.int i) H)∨∃k,xs=[.bl k]/\Q (.int (if k then 1 else 0)) H) (m1 pI):=pY λx v H Ha Q hs r q=>by
 cases x with|int i=>exact .inl ⟨i,by rw[aD.mp r],bG hs q (ri _)⟩|bl i=>exact .inr ⟨i,by rw[aH.mp r],bG hs q (ri _)⟩| _=>exact q.elim
def GN:iz X E (λxs H Q=>∃p ys,xs=[.ref p]/\(df X.K H p ys∨gT X.K H p ys)/\∀l,H l=none->Q (.ref l) (upd H l (.lst ys))) (m1 j7):=pY λx v H Ha Q hs r q=>by
 cases x with
 |lst ds=>
  obtain⟨p,vs,rfl,h1,h2⟩:=aA.mp r;exact⟨p,vs,rfl,.inl (aF.sqL hs h1),λn hn=>q _ _ _ (aL hs hn) (aA.mpr ⟨n,_,rfl,df.of aG,h2.mono (aL hs hn).z⟩)⟩
 |tup ds=>
  obtain⟨p,vs,rfl,h1,h2⟩:=aI.mp r;exact⟨p,vs,rfl,.inr (aF.sqT hs h1),λn hn=>q _ _ _ (aL hs hn) (aA.mpr ⟨n,_,rfl,df.of aG,h2.mono (aL hs hn).z⟩)⟩
 |_=>exact q.elim
def kY{T:String}{r:ad->Hp->VK->Prop}{m:ac->aj D}{x:OO}{p:Pos}(hc:gK X (.type T) r)(hd:iz X E r m)(hg:Gl X x)(hm:X.mg x=none)(hv:bootBuiltins x=some (.type T))(ha:DA X E (e::es) fa)(hn:x≠"__name__":=by decide)(hdb:(x==("__debug__" : OO))=false:=by decide)
  (he:OJ (e::es) X.env=(false,eval e X.env)::OJ es X.env:=by exact aM rfl)(hpl:(PN pos (OJ es X.env)).any (·.1)=false:=by exact bw rfl):DE X E (.Call (.Name x p) (e::es) [] pos) (aq fa m) :=
 ⟨aX (qZ hc hg hm hv ha.o hn hdb he hpl) (jS hd)⟩
def Gx{x:Pd}{p:Pos}(hg:Gl X "list")(hm:X.mg "list"=none)(ha:DA X E [x] fa)(he:OJ [x] X.env=(false,eval x X.env)::OJ [] X.env:=by exact aM rfl)(hpl:(PN pos (OJ [] X.env)).any (·.1)=false:=by exact bw rfl) :
  DF X E (.Call (.Name "list" p) [x] [] pos) (aq fa (m1 j7)):=by
 refine⟨?_⟩;refine aX (qZ lh hg hm PyProof.Rows.Boot.«list» ha.o (by decide) (by decide) he hpl) λσ H Q h=>?_;obtain⟨Ha,ρ,hs,hr,q⟩:=h;refine⟨Ha,ρ,hs,hr,?_⟩;unfold aq at q;cases e1:fa ρ with
 |stuck|exn x=>rw[e1]at q;exact q
 |ok ds=>
  rw[e1]at q;intro vs H1 H01 g1 r1;have fin:∀(es:ac) (us:ad) (p:OG),m1 j7 ds=.ok (.lst es)->H1 p=none->Reps X.K H01 es us->Q (.ref p) (upd H1 p (.lst us)):=λes us p hm hp hu=>by
   have h0:H01 p=none:=g1.sub.free hp;have q':∀p vs H' Ha',bf H Ha H' Ha'->H p=none->Ha' p=none->H' p=some (.lst vs)->Reps X.K Ha' es vs->Q (.ref p) H':=by
    have q2:match m1 j7 ds with
     |.ok (.lst ds)=>∀p vs H' Ha',bf H Ha H' Ha'->H p=none->Ha' p=none->H' p=some (.lst vs)->Reps X.K Ha' ds vs->Q (.ref p) H'
     |.ok _=>False
     |.exn x=>∀C ox H' Ha',bf H Ha H' Ha'->tY X.K Ha' x C ox->E C ox H'
     |.stuck=>False:=q
    rw[hm]at q2;exact q2
   refine q' p us _ H01 (g1.trans ⟨λb o q=>by rw[aE (aR q hp)];exact q,aF.refl _,λb o q=>?_,λa h1 h2=>absurd h2 h1⟩) (g1.s.free hp) h0 aG hu;rw[aE (by intro z;subst z;rw[h0]at q;cases q)];exact g1.sub _ _ q
  have q2:match m1 j7 ds with
     |.ok (.lst ds)=>∀p vs H' Ha',bf H Ha H' Ha'->H p=none->Ha' p=none->H' p=some (.lst vs)->Reps X.K Ha' ds vs->Q (.ref p) H'
     |.ok _=>False
     |.exn x=>∀C ox H' Ha',bf H Ha H' Ha'->tY X.K Ha' x C ox->E C ox H'
     |.stuck=>False:=q
  match ds,r1,q2,fin with
  |[],_,q2,_=>exact q2.elim
  |_::_::_,_,q2,_=>exact q2.elim
  |[x],r1,q2,fin=>
   obtain⟨v,r',rfl,h1,h2⟩:=aC.mp r1;rw[Reps.nil_iff.mp h2];cases x with
   |lst ds=>
    obtain⟨p,vs,rfl,k1,k2⟩:=aA.mp h1;exact⟨p,vs,rfl,.inl (aF.sqL g1.sub k1),λn hn=>fin ds vs n rfl hn k2⟩
   |tup ds=>
    obtain⟨p,vs,rfl,k1,k2⟩:=aI.mp h1;exact⟨p,vs,rfl,.inr (aF.sqT g1.sub k1),λn hn=>fin ds vs n rfl hn k2⟩
   |_=>exact q2.elim
def CP:D->Bool
 |.non=>true
 |_=>false
def vE(x y:D):aj D:=match y with
 |.non=>.ok (.bl (CP x))
 |_=>.stuck
def rB(x y:D):aj D:=match y with
 |.non=>.ok (.bl (!(CP x)))
 |_=>.stuck
def Rep.is_non{K:OF}{H:Hp}{x:D}{v:V}(r:Rep K H x v):decide (v=.non)=CP x:=by
 cases x with|non=>rw[aP.mp r];rfl|bl b=>rw[aH.mp r];rfl|int b=>rw[aD.mp r];rfl|str b=>rw[Rep.str_iff.mp r];rfl|tup ds=>obtain⟨_,_,e,_⟩:=aI.mp r;rw[e];rfl|lst ds=>obtain⟨_,_,e,_⟩:=aA.mp r;rw[e];rfl|dic ks ds=>rw[Rep]at r;obtain⟨_,_,_,e,_⟩:=r;rw[e];rfl|exc x=>obtain⟨_,_,_,e,_⟩:=m9.mp r;rw[e];rfl|ob k x=>obtain⟨_,_,e,_⟩:=ck.mp r;rw[e];rfl
def Ck:ub X.K E (λx y H Q=>y=.non/\Q (.bl (decide (x=.non))) H) vE:=by
 intro x y v u H Ha Q hs r1 r2 q;unfold vE at q;cases y with|non=>exact⟨aP.mp r2,by rw[r1.is_non];exact bG hs q (rb _)⟩| _=>exact q.elim
def Fn:ub X.K E (λx y H Q=>y=.non/\Q (.bl (!decide (x=.non))) H) rB:=by
 intro x y v u H Ha Q hs r1 r2 q;unfold rB at q;cases y with
 |non=>
  refine⟨aP.mp r2,?_⟩;rw[r1.is_non];exact bG hs q (rb _)
 |_=>exact q.elim
noncomputable def ua:D->String
 |.non=>"NoneType"
 |.bl _=>"bool"
 |.int _=>"int"
 |.str _=>"str"
 |.tup _=>"tuple"
 |.lst _=>"list"
 |.dic _ _=>"dict"
 |.exc _=>"<exc>"
 |.ob (.ins _ _) _=>"<exc>"
 |.ob (.dint _) _=>"dict"
 |.ob (.exf _ _) _=>"<exc>"
 |.ob .pl _=>"list"
def cK(T:String)(x:D):aj D:=.ok (.bl (ua x==T||(ua x=="bool"&&T=="int")))
def iW(K:OF)(T:String):Prop:=∀S,S∈["NoneType","bool","int","str","tuple","list","dict"]->W.kitOne K (.type S) (.type T)=some (S==T||(S=="bool"&&T=="int"))
def CO{π:List (OG×Obj)}{σ:L2.St}{H:Hp}{s:OE}{A:Pu}{Q:OB->OE->Prop}{x:D}{v:V}{u:OB}{T:String}(I:Inv X π σ H s)(r:Rep X.K H x v)(q:bA v u)(hk:iW X.K T)(hT:T∈fM)(h:∀tk,Q (.bool (ua x==T||(ua x=="bool"&&T=="int"))) { s with toks:=tk }) :
  OS (OW X.prog X.w) A (call (.builtin "isinstance") [u,.type T]) Q X.xe s:=by
 cases x with
 |non=>rw[aP.mp r]at q;exact ie I q .non (hk _ (by simp)) h|bl b=>rw[aH.mp r]at q;exact ie I q (.bl b) (hk _ (by simp)) h|int b=>rw[aD.mp r]at q;exact ie I q (.int b) (hk _ (by simp)) h|str b=>rw[Rep.str_iff.mp r]at q;exact ie I q (.str b) (hk _ (by simp)) h
 |tup ds=>
  obtain⟨a,vs,its,rfl,rfl,h1,h2,h3,h4,_⟩:=bo I r q;obtain⟨o,k1,k2,_⟩:=h4;exact Qz Ut I.kIn ⟨o,k1,k2⟩ (hk _ (by simp)) (λz=>nomatch z) h
 |lst ds=>
  obtain⟨a,vs,its,rfl,rfl,h1,h2,h3,h4,_⟩:=aU I r q;obtain⟨o,k1,k2,_⟩:=h4;exact Qz TH I.kIn ⟨o,k1,k2⟩ (hk _ (by simp)) (λz=>nomatch z) h
 |dic ks ds=>
  rw[Rep]at r;obtain⟨a,kvs,vs,rfl,h1,h2,_⟩:=r;cases (show u=Ph a from q);obtain⟨_,_,vs',_,p⟩:=h1.ok I.hok;obtain⟨o,es,ep,k1,k2,_⟩:=p;exact Qz SK I.kIn ⟨o,k1,k2.1⟩ (hk _ (by simp)) (λz=>nomatch z) h
 |exc x=>
  obtain⟨a,C,dc,rfl,hc,h1⟩:=m9.mp r;cases (show u=Ph a from q);obtain⟨p,_,_⟩:=h1.ok I.hok;have e:(ua (.exc x)==T||(ua (.exc x)=="bool"&&T=="int"))=false:=by
   have:∀T∈fM,(ua (.exc x)==T||(ua (.exc x)=="bool"&&T=="int"))=false:=by show ∀T∈fM,("<exc>"==T||("<exc>"=="bool"&&T=="int"))=false;decide
   exact this T hT
  rw[e]at h;exact Qz (u9 hc.ek hc.ek.isCls) I.kIn p (hc.bt T hT) (λz=>nomatch z) h
 |ob k xs=>
  obtain⟨a,vs,rfl,h1,_⟩:=ck.mp r;cases (show u=Ph a from q);cases k with
  |exf c ks=>
   obtain⟨C,dx,fs,hc,h2,_⟩:=h1;obtain⟨p,_,_⟩:=h2.ok I.hok;have e:(ua (.ob (.exf c ks) xs)==T||(ua (.ob (.exf c ks) xs)=="bool"&&T=="int"))=false:=by
    have:∀T∈fM,("<exc>"==T||("<exc>"=="bool"&&T=="int"))=false:=by decide
    exact this T hT
   rw[e]at h;exact Qz (u9 hc.ek hc.ek.isCls) I.kIn p (hc.bt T hT) (λz=>nomatch z) h
  |ins c ks=>
   obtain⟨C,dx,_,hc,h2,_⟩:=h1;obtain⟨mA,O,_⟩:=yQ I.hok h2;obtain⟨od,O',_⟩:=O.look;have e:(ua (.ob (.ins c ks) xs)==T||(ua (.ob (.ins c ks) xs)=="bool"&&T=="int"))=false:=by
    have:∀T∈fM,(ua (.ob (.ins c ks) xs)==T||(ua (.ob (.ins c ks) xs)=="bool"&&T=="int"))=false:=by show ∀T∈fM,("<exc>"==T||("<exc>"=="bool"&&T=="int"))=false;decide
    exact this T hT
   rw[e]at h;exact Qz (W.kitx_own (hc.cls.get _) hc.cls.hd hc.gc hc.gn hc.tk hc.mo) I.kIn O' (hc.bt T hT) (λz=>nomatch z) h
  |dint ks=>
   obtain⟨kvs,h2,_⟩:=h1;obtain⟨_,_,vs',_,p⟩:=h2.ok I.hok;obtain⟨o,es,ep,k1,k2,_⟩:=p;exact Qz SK I.kIn ⟨o,k1,k2.1⟩ (hk _ (by simp)) (λz=>nomatch z) h
  |pl=>exact ie I (show bA (.ref a) (Ph a) from rfl) (.lst h1) (hk _ (by simp)) h
def bH{T:String}{x:OO}{p1 p2:Pos}(hk:iW X.K T)(hgi:Gl X "isinstance")(hmi:X.mg "isinstance"=none)(hg:Gl X x)(hm:X.mg x=none)(hv:bootBuiltins x=some (.type T))(ha:DE X E a f)
  (hn:x≠"__name__":=by decide)(hdb:(x==("__debug__" : OO))=false:=by decide)(hT:T∈fM:=by decide)
  (he:OJ [a,.Name x p2] X.env=(false,eval a X.env)::OJ [.Name x p2] X.env:=by exact aM rfl)(he2:OJ [.Name x p2] X.env=(false,eval (.Name x p2) X.env)::OJ [] X.env:=by exact aM rfl)(hpl:(PN pos (OJ [.Name x p2] X.env)).any (·.1)=false:=by exact bw rfl) :
  DE X E (.Call (.Name "isinstance" p1) [a,.Name x p2] [] pos) (bh f (cK T)):=by
 refine⟨?_⟩;refine aX (oN (r:=λvs H Q=>∃d v,vs=[v,.ty T]/\Rep X.K H d v/\Q (.bl (ua d==T||(ua d=="bool"&&T=="int"))) H) ?_ hgi hmi PyProof.Rows.Boot.«isinstance» (cw ha.o (cw (yx (v:=.ty T) hg hm hv rfl hn hdb) eF he2) he) (by decide) (by decide) he hpl) λσ H Q ⟨Ha,ρ,hs,hr,q⟩=>⟨Ha,ρ,hs,hr,?_⟩
 .intro π s σ H xs us Q I r h
  obtain⟨d,v,rfl,h1,q⟩:=h;cases r with
  |cons r1 r2=>
   cases r2 with
   |cons r3 r4=>
    cases r4;rename_i u1 u2;obtain rfl:u2=SX T:=r3;exact CO I h1 r1 hk hT λtk=>⟨.bl _,H,I.tok _,rfl,q⟩
 .unfold bh at q
  cases e1:f ρ with
  |stuck|exn x=>rw[e1]at q;exact q
  |ok d=>
   rw[e1]at q;intro v H1 H01 g1 r1;exact⟨d,v,rfl,r1.mono g1.sub,q _ H1 H01 g1 (rb _)⟩
end
theorem rq{prog:O5}{w:Pt}{A:Pu}{E:OB->OE->Prop}{it t:OG}{items:Array OB}(hne:t≠it):∀(n i:Nat) (s:OE) (Q:List OB->OE->Prop),s.heap.IsListIter it t i->s.heap.IsList t items->i+n<=items.size ->
  (∀h',h'.IsListIter it t (i+n)->QI it s.heap h'->Q ((items.toList.drop i).take n) { s with heap:=h' })->OS (OW prog w) A (draw (.ref it) n) Q E s
 |0,i,s,Q,hit,_,_,hQ=>by
  show OS _ _ (pure []) Q E s;exact ON (by simpa using hQ s.heap hit (QI.refl ..))
 |n+1,i,s,Q,hit,ht,hle,hQ=>by
  have hlt:i<items.size:=by omega
  show OS _ _ (RQ (.ref it) >>= _) Q E s;refine OC (wpAny_pyNext_list_item hit ht (x:=items[i]) (by simp[hlt]) λh₁ hit₁ hs₁=>?_);have ht₁:h₁.IsList t items:=by
   obtain⟨o,k1,k2⟩:=ht;exact⟨o,(hs₁.2 t hne).trans k1,k2⟩
  refine OC (PY (rq hne n (i+1) _ _ hit₁ ht₁ (by omega) λhV hit₂ hs₂=>ON ?_));have hd:items.toList.drop i=items[i]::items.toList.drop (i+1):=by simp[QC,hlt]
  have:=hQ hV (by rw[show i+(n+1)=i+1+n by omega];exact hit₂) (hs₁.trans hs₂);rw[hd,List.take_succ_cons]at this;exact this
def lQ{prog:O5}{w:Pt}{A:Pu}{E:OB->OE->Prop}{s:OE}{t:OG}{items:Array OB}{Q:List OB->OE->Prop}(hh:A.handled=none)(ht:s.heap.IsList t items)
  (hQ:∀h',QW s.heap.objs.size s.heap h'->Q items.toList { s with heap:=h' }):OS (OW prog w) A (unpackItems (.ref t) items.size none) Q E s:=by
 have hlt:t≠s.heap.objs.size:=by obtain⟨o,ho,_⟩:=ht;exact Pj (OT ho)
 unfold unpackItems;refine OC ?_
 .unfold notIterableAtAll
  refine OC (wpAny_specialOf ht.typeIs slot_list_iter.lookup ?_);refine ON ?_;simp only[RM,if_false];refine OC (PY (wpAny_pyIter_list ht ?_));have ht0:(s.heap.push { cls:=.type "list_iterator",data:=.fields #[.ref t,.int 0 0] }).IsList t items:=by
   obtain⟨o,k1,k2⟩:=ht;exact⟨o,OD _ k1,k2⟩
  refine OC (PY (rq hlt items.size 0 _ _ ⟨_,Pf _ rfl,rfl,rfl⟩ ht0 (by omega) λh₁ hit₁ hs₁=>?_));have hall:List.take items.size (List.drop 0 items.toList)=items.toList:=by
   rw[List.drop_zero];exact Q3 (by simp)
  rw[hall];rw[if_neg (by simp)];have ht₁:h₁.IsList t items:=by
   obtain⟨o,k1,k2⟩:=ht0;exact⟨o,(hs₁.2 t hlt).trans k1,k2⟩
  refine OC (PY (wpAny_pyNext_list_end hh hit₁ ht₁ (by simp) λhV he₂=>?_));simp only[Option.isSome_none,RM,if_false];refine ON (hQ hV λb o hb e=>he₂ b o hb (hs₁.extBut b o hb (OD _ e)))
def wx(σ:L2.St):cr->ad->L2.St
 |i::is,v::vs=>wx (σ.set i (some v)) is vs
 |_,_=>σ
def cH(ρ:Ev):cr->ac->Ev
 |i::is,d::ds=>cH (ρ.set i (.sh d)) is ds
 |_,_=>ρ
theorem dJ.putAll{K:OF}{He η Ha H:Hp}:∀{is:cr}{ds:ac}{vs:ad}{σ:L2.St}{ρ:Ev},dJ K He η Ha σ H ρ->Reps K Ha ds vs->dJ K He η Ha (wx σ is vs) H (cH ρ is ds)
 |[],_,_,_,_,h,_=>by unfold wx cH;exact h
 |_::_,[],_,_,_,h,r=>by rw[Reps.nil_iff.mp r];unfold wx cH;exact h
 |i::is,d::ds,_,_,_,h,r=>by
  obtain⟨v,vs,rfl,h1,h2⟩:=aC.mp r;unfold wx cH;exact dJ.putAll (h.put h1) h2
section
variable {X:Cx}{E:XK}{He η:Hp}{e a b:Pd}{es:List Pd}{f g:al}{fa:Ev->aj (ac)}{pos:Pos}{is:cr}
def Km(is:cr):D9:=λvs σ H Q=>vs.length=is.length/\Q (wx σ is vs) H
def uP{t t':D9}(h:A0 X es t)(w:∀vs σ H Q,t' vs σ H Q->t vs σ H Q):A0 X es t':=λπ s σ H vs us Q I r q=>h π s σ H vs us Q I r (w vs σ H Q q)
def eO:A0 X [] (Km []):=uP E6 λvs σ H Q z9=>by
 obtain⟨h,q⟩:=z9;have e:vs=[]:=SA.mp h;subst e;exact⟨rfl,q⟩
def br{i:Nat}{x:OO}{p:Pos}(hN:X.N.Nodup)(hi:X.N[i]?=some x)(hx:A6 X.env.scope x)(h:A0 X es (Km is))(hf:X.fn x=true∨X.env.scope.names.lookup x=some .local := by first|exact .inl rfl|exact .inr rfl|assumption)
  (hs:(assignEach (.Name x p::es) X.env).map (·.2)=assign (.Name x p) X.env::(assignEach es X.env).map (·.2):=by rfl):A0 X (.Name x p::es) (Km (i::is)) :=
 uP (B1 (yt hN hi hx hf) h hs) λvs σ H Q z9=>by
  obtain⟨h,q⟩:=z9;cases vs with|nil=>simp at h|cons v vs=>exact⟨v,vs,rfl,by simpa using h,q⟩
def E7{k:Nat}{t:D9}{n:Nat}(hc:X.calm=true)(h:A0 X es t)
  (hn:(assignEach es X.env).length=n:=by rfl)(hst:(assignEach es X.env).findIdx? (·.1)=none:=by rfl):PG X (.Tuple es k pos) (λv σ H Q=>∃a xs,v=.ref a/\df X.K H a xs/\xs.length=n/\t xs σ H Q):=by
 intro π s σ H v u Q I r hw;obtain⟨a,xs,e1,hq,hl,hw⟩:=hw;subst e1;cases r;obtain⟨its,rv,ht,hz⟩:=I.list hq;rw[assign_Tuple];refine OC (wpAny_standAt ?_);unfold unpack;rw[hn,hst];have hsz:n=its.toArray.size:=by rw[O3,←rv.length,hl]
 rw[hsz];refine OC (PY (lQ (I.ok.hd hc) ht.isList λh' hx=>?_));have I1:Inv X π σ H { s with heap:=h' }:=I.kept (t':=s.toks) λb o e=>hx b o (Pj (OT e)) e;exact h π _ σ H xs _ Q I1 (by simpa using rv) hw
def Li{tgt:Pd}{t t':TG}(h:PG X tgt t)(h':PG X tgt t'):PG X tgt (λv σ H Q=>t v σ H Q∨t' v σ H Q):=λπ s σ H v u Q I r q=>q.elim (h π s σ H v u Q I r) (h' π s σ H v u Q I r)
def B2{k:Nat}(hc:X.calm=true)(h:A0 X es (Km is))(hn:(assignEach es X.env).length=is.length:=by rfl)(hst:(assignEach es X.env).findIdx? (·.1)=none:=by rfl) :
  PG X (.Tuple es k pos) (λv σ H Q=>∃a xs,v=.ref a/\(gT X.K H a xs∨df X.K H a xs)/\xs.length=is.length/\Q (wx σ is xs) H) :=
 sI (Li (IH hc h hn hst) (E7 hc h hn hst)) λv σ H Q ⟨a,xs,e,hq,hl,q⟩=>hq.elim (λz=>.inl ⟨a,xs,e,z,hl,hl,q⟩) λz=>.inr ⟨a,xs,e,z,hl,hl,q⟩
def fj(n:Nat)(d:D):Option (ac):=match d with
 |.tup ds=>if ds.length=n then some ds else none
 |.lst ds=>if ds.length=n then some ds else none
 |_=>none
def mE{K:OF}{H:Hp}{n:Nat}{d:D}{ds:ac}{v:V}(h:fj n d=some ds)(r:Rep K H d v):∃a vs,v=.ref a/\(gT K H a vs∨df K H a vs)/\vs.length=n/\Reps K H ds vs:=by
 unfold fj at h;cases d with
 |tup es=>
  by_cases c:es.length=n
  .simp only[if_pos c]at h;cases h
   obtain⟨a,vs,rfl,h1,h2⟩:=aI.mp r;exact⟨a,vs,rfl,.inl h1,by rw[←h2.length];exact c,h2⟩
  .simp only[if_neg c]at h;cases h
 |lst es=>
  by_cases c:es.length=n
  .simp only[if_pos c]at h;cases h
   obtain⟨a,vs,rfl,h1,h2⟩:=aA.mp r;exact⟨a,vs,rfl,.inr h1,by rw[←h2.length];exact c,h2⟩
  .simp only[if_neg c]at h;cases h
 |_=>cases h
def uF{K:OF}{H H':Hp}{a:OG}{vs:ad}(hs:aF H H')(h:gT K H a vs∨df K H a vs):gT K H' a vs∨df K H' a vs:=h.elim (λz=>.inl (aF.sqT hs z)) λz=>.inr (aF.sqL hs z)
def EK(is:cr)(f:al):am:=λρ=>(f ρ).bind λd=>match fj is.length d with
 |some ds=>.ok (.nx (cH ρ is ds))
 |none=>.stuck
def JY{k:Nat}{tp:Pos}(hc:X.calm=true)(he:DE X E e f)(h:A0 X es (Km is))(hs:swapsWithSole [.Tuple es k tp] e pos.line X.env=pure false:=by rfl)(hw:swappedStores [.Tuple es k tp] e X.env=pure none:=by rfl)
  (h1:(assignEach [.Tuple es k tp] X.env).map (·.2)=[assign (.Tuple es k tp) X.env]:=by rfl)(hn:(assignEach es X.env).length=is.length:=by rfl)(hst:(assignEach es X.env).findIdx? (·.1)=none:=by rfl) :
  DS X E He η (.Assign [.Tuple es k tp] e pos) (EK is f):=by
 refine⟨?_⟩;refine cu (IC he.o (B2 hc h hn hst) hs hw h1) λD σ H z9=>?_;obtain⟨Ha,ρ,h,q⟩:=z9;refine⟨Ha,ρ,h.g.sub,h.rd,?_⟩
 refine plain (k:=λd=>match fj is.length d with
  |some ds=>.ok (.nx (cH ρ is ds))
  |none=>.stuck) h q λd v H' Ha' _ g rp q'=>?_
 cases e1:fj is.length d with
 |none=>rw[e1]at q';exact q'.elim
 |some ds=>
  rw[e1]at q';obtain⟨a,vs,rfl,k1,k2,k3⟩:=mE e1 rp;exact⟨a,vs,rfl,uF g.sub k1,k2,q' _ H' Ha' (aF.refl _) ((h.grow g).putAll k3)⟩
def dy(is:cr):Ev->D->aj Ev:=λρ d=>match fj is.length d with
 |some ds=>.ok (cH ρ is ds)
 |none=>.stuck
def fU:vT (dy is):=λρ d=>by
 unfold dy;cases fj is.length d with|none=>exact .inl rfl|some ds=>exact .inr ⟨_,rfl⟩
def gO{k:Nat}(hc:X.calm=true)(h:A0 X es (Km is))(hn:(assignEach es X.env).length=is.length:=by rfl)(hst:(assignEach es X.env).findIdx? (·.1)=none:=by rfl):DG X E He η (.Tuple es k pos) (dy is) :=
 ⟨sI (B2 hc h hn hst) λv σ H Q z9=>by
  obtain⟨Ha,ρ,d,h,rp,q⟩:=z9;unfold dy at q;cases e1:fj is.length d with
  |none=>rw[e1]at q;exact q.elim
  |some ds=>
   rw[e1]at q;obtain⟨a,vs,rfl,k1,k2,k3⟩:=mE e1 rp;exact⟨a,vs,rfl,uF h.g.sub k1,k2,q _ H Ha (aF.refl _) (h.putAll k3)⟩⟩
def BD(i j:Nat)(fa:Ev->aj (ac)):am:=λρ=>(fa ρ).bind λds=>match ds with
 |[x,y]=>.ok (.nx ((ρ.set i (.sh x)).set j (.sh y)))
 |_=>.stuck
def JZ{i j:Nat}{x y:OO}{px py pt pt2:Pos}{kt k2}(hc:X.calm=true)(hN:X.N.Nodup)(hi:X.N[i]?=some x)(hj:X.N[j]?=some y)(hij:i≠j)
  (hx:X.env.scope.names.lookup x=some .local)(hy:X.env.scope.names.lookup y=some .local)(ha:DA X E [a,b] fa)
  (hw:swappedStores [.Tuple [.Name x px,.Name y py] kt pt] (.Tuple [a,b] k2 pt2) X.env=pure (some [x,y]))
  (hs:swapsWithSole [.Tuple [.Name x px,.Name y py] kt pt] (.Tuple [a,b] k2 pt2) pos.line X.env=pure false:=by rfl) :
  DS X E He η (.Assign [.Tuple [.Name x px,.Name y py] kt pt] (.Tuple [a,b] k2 pt2) pos) (BD i j fa):=by
 refine⟨?_⟩;refine cu (IA hc hN hi hj hij hx hy ha.o hw hs) λD σ H z9=>?_;obtain⟨Ha,ρ,h,q⟩:=z9;refine⟨Ha,ρ,h.g.sub,h.rd,?_⟩
 unfold BD at q;cases e1:fa ρ with
 |stuck=>rw[e1]at q;exact q|exn x=>rw[e1]at q;exact λC ox H' Ha' g ex=>q C ox H' Ha' (h.g.trans g) ex
 |ok ds=>
  rw[e1]at q;intro vs H1 H01 g1 r1
  match ds,r1,q with
  |[x,y],r1,q=>
   obtain⟨v,r',rfl,h1,h2⟩:=aC.mp r1;obtain⟨u,r'',rfl,h3,h4⟩:=aC.mp h2;rw[Reps.nil_iff.mp h4];exact⟨v,u,rfl,q _ H1 H01 g1.z (((h.grow g1).put h1).put h3)⟩
  |[],_,q=>exact q.elim
  |[_],_,q=>exact q.elim
  |_::_::_::_,_,q=>exact q.elim
end
def oY{K:OF}:iW K "int":=by
 intro S hS;simp only[OU,Rx,or_false]at hS;rcases hS with rfl|rfl|rfl|rfl|rfl|rfl|rfl<;>first|rfl|decide +kernel
def mM{K:OF}:iW K "bool":=by
 intro S hS;simp only[OU,Rx,or_false]at hS;rcases hS with rfl|rfl|rfl|rfl|rfl|rfl|rfl<;>first|rfl|decide +kernel
def gf{K:OF}:iW K "str":=by
 intro S hS;simp only[OU,Rx,or_false]at hS;rcases hS with rfl|rfl|rfl|rfl|rfl|rfl|rfl<;>first|rfl|decide +kernel
def dG{K:OF}:iW K "tuple":=by
 intro S hS;simp only[OU,Rx,or_false]at hS;rcases hS with rfl|rfl|rfl|rfl|rfl|rfl|rfl<;>first|rfl|decide +kernel
def fD{K:OF}:iW K "list":=by
 intro S hS;simp only[OU,Rx,or_false]at hS;rcases hS with rfl|rfl|rfl|rfl|rfl|rfl|rfl<;>first|rfl|decide +kernel
def va{K:OF}:iW K "dict":=by
 intro S hS;simp only[OU,Rx,or_false]at hS;rcases hS with rfl|rfl|rfl|rfl|rfl|rfl|rfl<;>first|rfl|decide +kernel
section
variable {X:Cx}{E:XK}{He η:Hp}{e a b c:Pd}{f g h:al}{pos:Pos}
def dv(i:Nat){x:OO}(hN:X.N[i]?=some x:=by rfl)(hv:zy X.env.scope x:=by first|exact O2 rfl|exact S0 (O2 rfl)|exact S0 (S0 rfl))(hd:(x==("__debug__" : OO))=false:=by decide)
  (hcd:(x==("__classdict__" : OO))=false:=by decide):DE X E (.Name x pos) (ae i):=J3 hN hv hd hcd
def tX(K:OF)(mg:OO->Option OB)(x:OO)(d:D):Prop:=∃v u,mg x=some u/\bA v u/\∀H,Rep K H d v
def bD{x:OO}{d:D}(k:tX X.K X.mg x d)(hg:Gl X x)(hd:(x==("__debug__" : OO))=false:=by decide):DE X E (.Name x pos) (dC d):=by
 obtain⟨v,u,h1,h2,h3⟩:=k;exact GB hg h1 h2 h3 hd
def dF{K:OF}{mg:OO->Option OB}{x:OO}{i:Int}{t:Tok}(h:mg x=some (.int i t)):tX K mg x (.int i):=⟨.int i,_,h,⟨t,rfl⟩,λ_=>ri _⟩
def Fx{K:OF}{mg:OO->Option OB}{x:OO}{i:OO}{t:Tok}(h:mg x=some (.str i t)):tX K mg x (.str i):=⟨.str i,_,h,⟨t,rfl⟩,λ_=>Rep.str_iff.mpr rfl⟩
def Fw{K:OF}{mg:OO->Option OB}{x:OO}{a:OG}{od:Option OG}{its:Array OB}{n:Nat}{sl:Array (Option OB)}{ds:ac}{vs:ad}(h:mg x=some (.ref a))(l:K.lookup a=some ⟨.type "tuple",od,.seq its n,sl⟩)
  (hv:bq vs its.toList)(hz:its.size<=sizeLine)(hd:∀H,Reps K H ds vs):tX K mg x (.tup ds):=⟨.ref a,_,h,rfl,λH=>aI.mpr ⟨a,vs,rfl,.inr ⟨_,its,n,l,rfl,rfl,hz,hv⟩,hd H⟩⟩
def iL(op op':D->D->aj D)(f g h:al):al:=λρ=>(f ρ).bind λx=>(g ρ).bind λy=>(op x y).bind λz=>match z with
 |.bl true=>(h ρ).bind λw=>op' y w
 |.bl false=>.ok (.bl false)
 |_=>.stuck
def vU(r:R2)(o:D->D->aj D):Prop:=∀(K:OF) (x y:D) (v u:V) (H Ha:Hp) (Q:VK) (d:D),aF Ha H->Rep K Ha x v->Rep K Ha y u->o x y=.ok d->(∀w,Rep K Ha d w->Q w H)->r v u H Q
def jI{gv:Int->Int->V}{g:Int->Int->D}(hg:∀K H i j,Rep K H (g i j) (gv i j)):vU (BL gv) (sX (λ_ _=>true) g):=by
 intro K x y v u H Ha Q d hs r1 r2 e q;unfold sX at e;cases x with
 |int i=>
  cases y with|int j=>simp only[if_pos]at e;cases e;exact⟨i,j,aD.mp r1,aD.mp r2,q _ (hg _ _ i j)⟩| _=>cases e
 |_=>cases e
def vV(o:D->D->aj D):Prop:=∀x y,∀z,o x y≠.exn z
def vK{r r':R2}{o o':D->D->aj D}(p:vU r o)(p':vU r' o')(n:vV o)(n':vV o')(σ:L2.St)(H:Hp)(Q:VK)(q:tD X.K E (iL o o' f g h) σ H Q) :
  Bv r r' (tD X.K E f) (tD X.K E g) (tD X.K E h) σ H Q:=by
 obtain⟨Ha,ρ,hs,hr,q⟩:=q;refine⟨Ha,ρ,hs,hr,?_⟩;unfold iL at q;cases e1:f ρ with
 |stuck|exn x=>rw[e1]at q;exact q
 |ok x=>
  rw[e1]at q;intro v H1 H01 g1 r1;refine⟨H01,ρ,g1.sub,hr.mono g1.z,?_⟩;replace q:=post.grow (r:=(g ρ).bind λy=>(o x y).bind λz=>match z with
   |.bl true=>(h ρ).bind λw=>o' y w
   |.bl false=>.ok (.bl false)
   |_=>.stuck) q g1
  cases e2:g ρ with
  |stuck|exn x=>rw[e2]at q;exact q
  |ok y=>
   rw[e2]at q;intro u H2 H02 g2 r2;replace q:=post.grow (r:=(o x y).bind λz=>match z with
    |.bl true=>(h ρ).bind λw=>o' y w
    |.bl false=>.ok (.bl false)
    |_=>.stuck) q g2
   cases e3:o x y with
   |stuck=>rw[e3]at q;exact q.elim|exn z=>exact absurd e3 (n x y z)
   |ok z=>
    rw[e3]at q;refine p X.K x y v u H2 H02 _ z g2.sub (r1.mono g2.z) r2 e3 λw rw'=>?_;cases z with
    |bl b=>
     rw[aH.mp rw'];refine⟨b,rfl,?_⟩;cases b with
     |false=>rw[if_neg Qj];exact q _ H2 H02 (bf.refl g2.sub) (rb _)
     |true=>
      rw[if_pos rfl];refine⟨H02,ρ,g2.sub,(hr.mono g1.z).mono g2.z,?_⟩;replace q:post X.K E H2 H02 ((h ρ).bind λw=>o' y w) Q:=q;cases e4:h ρ with
      |stuck|exn x=>rw[e4]at q;exact q
      |ok w2=>
       rw[e4]at q;intro v3 H3 H03 g3 r3;replace q:=post.grow (r:=o' y w2) q g3;cases e5:o' y w2 with
       |stuck=>rw[e5]at q;exact q.elim|exn z=>exact absurd e5 (n' y w2 z)
       |ok d=>
        rw[e5]at q;exact p' X.K y w2 u v3 H3 H03 Q d g3.sub (r2.mono g3.z) r3 e5 λw3 r5=>q w3 H3 H03 (bf.refl g3.sub) r5
    |_=>exact q.elim
def vz{op op':CmpOp}{r r':R2}{o o':D->D->aj D}(ho:fN X (PX op) r)(ho':fN X (PX op') r')(p:vU r o)(p':vU r' o')(n:vV o)(n':vV o')(ha:DE X E a f)(hb:DE X E b g)(hc:DE X E c h)
  (hm:lastMarks [op,op'] [b,c]=false:=by with_unfolding_all rfl):DT X E (.Compare a [op,op'] [b,c] pos) (iL o o' f g h):=by
 refine⟨?_⟩;refine nG (BR ho ho' ha.o hb.o hc.o hm) λσ H Q q=>?_;have w:tD X.K E (iL o o' f g h) σ H λx H'=>∃k,x=.bl k/\Q k H':=by
  obtain⟨Ha,ρ,hs,hr,q⟩:=q;refine⟨Ha,ρ,hs,hr,?_⟩;cases e1:iL o o' f g h ρ with
  |stuck|exn x=>rw[e1]at q;exact q
  |ok d=>
   rw[e1]at q;intro v H1 H01 g1 r1;cases d with|bl b=>rw[aH.mp r1];exact⟨b,rfl,q H1 H01 g1⟩| _=>exact q.elim
 exact vK p p' n n' σ H _ w
def jL{c:Int->Int->Bool}{g:Int->Int->D}:vV (sX c g):=by
 intro x y z;unfold sX;cases x<;>cases y<;>simp<;>split<;>simp
end
def nM(i:Nat):Ev->Nat:=λρ=>match ρ[i]? with
 |some (.sh (.int j))=>j.natAbs+1
 |_=>0
section
variable {X:Cx}{E:XK}{a b:Pd}{f g:al}{pos:Pos}
def cq(x y:D):aj D:=match x,y with
 |.int i,.int j=>if fz i j=true then .ok (.int (i*j)) else .stuck
 |_,_=>.stuck
def dM(ha:DE X E a f)(hb:DE X E b g):DE X E (.BinOp a .Mult b pos) (aa f g cq):=mT Ff (by
 intro x y v u H Ha Q hs r1 r2 q;unfold cq at q;cases x with
 |int i=>
  cases y with
  |int j=>
   by_cases h:fz i j=true
   .simp only[if_pos h]at q
    exact⟨i,j,aD.mp r1,aD.mp r2,fz.ok h,bG hs q (ri _)⟩
   .simp only[if_neg h]at q;exact q.elim
  |_=>exact q.elim
 |_=>exact q.elim) ha hb
end
def Jo(K:OF)(tg:Ev->D->aj Ev):TG:=λv σ H Q=>∃He η,tG K He η tg v σ H Q
theorem Reps.rep{K:OF}{H:Hp}{ds:ac}{vs:ad}(h:Reps K H ds vs):∀k:Nat,Reps K H (O7 k ds).flatten (O7 k vs).flatten
 |0=>by simp;exact Reps.nil
 |k+1=>by
  rw[Qp,Qp,Rl,Rl];exact h.app (Reps.rep h k)
section
variable {X:Cx}{E:XK}{a b:Pd}{f g:al}{pos:Pos}
def GJ(x y:D):aj D:=match x,y with
 |.lst ds,.int k=>if ds.length*k.toNat<=line/\-9223372036854775808<=k/\k<9223372036854775808 then .ok (.lst (O7 k.toNat ds).flatten) else .stuck
 |_,_=>.stuck
def kI(f g:al):al:=λρ=>(f ρ).bind λx=>match x with
 |.lst ds=>(g ρ).bind λy=>GJ (.lst ds) y
 |_=>.stuck
def l6(ha:DF X E a f)(hb:DE X E b g):DE X E (.BinOp a .Mult b pos) (kI f g):=by
 refine⟨?_⟩;refine aX (B5 IS ha.o hb.o) λσ H Q z9=>?_;obtain⟨Ha,ρ,hs,hr,q⟩:=z9;refine⟨Ha,ρ,hs,hr,?_⟩
 unfold kI at q;cases e1:f ρ with
 |stuck|exn x=>rw[e1]at q;exact q
 |ok x=>
  rw[e1]at q;cases x with
  |lst ds=>
   replace q:post X.K E H Ha ((g ρ).bind λy=>GJ (.lst ds) y) Q:=q;intro p vs H1 H01 g1 hp h0 hv rp;refine⟨H01,ρ,g1.sub,hr.mono g1.z,?_⟩;replace q:=q.grow g1;cases e2:g ρ with
   |stuck|exn x=>rw[e2]at q;exact q
   |ok y=>
    rw[e2]at q;intro u H2 H02 g2 r2;replace q:=post.grow (r:=GJ (.lst ds) y) q g2;cases y with
    |int k=>
     unfold GJ at q
     by_cases c:ds.length*k.toNat<=line/\-9223372036854775808<=k/\k<9223372036854775808
     .simp only[if_pos c]at q
      refine⟨p,k,vs,rfl,aD.mp r2,g2.s _ _ hv,by omega,by omega,by rw[←rp.length];exact cV c.1,λn hn=>?_⟩;exact q _ _ _ (aL g2.sub hn) (aA.mpr ⟨n,_,rfl,df.of aG,((rp.mono g2.z).rep _).mono (aL g2.sub hn).z⟩)
     .simp only[if_neg c]at q;exact q.elim
    |_=>exact q.elim
  |_=>exact q.elim
end
def gL:ac->Option (bv)
 |[]=>some []
 |.str x::r=>(gL r).map (x::·)
 |_=>none
theorem uA{K:OF}{H:Hp}:∀{ds:ac}{ys:bv}{vs:ad}{us:List OB},gL ds=some ys->Reps K H ds vs->bq vs us->StrsAre us ys
 |[],ys,vs,us,h,r,q=>by
  cases h;rw[Reps.nil_iff.mp r]at q;cases q;exact .nil
 |d::ds,ys,vs,us,h,r,q=>by
  obtain⟨v,r',rfl,h1,h2⟩:=aC.mp r;cases q with
  |cons q1 q2=>
   cases d with
   |str x=>
    unfold gL at h;cases e:gL ds with
    |none=>rw[e]at h;cases h
    |some zs=>
     rw[e]at h;cases h;rw[Rep.str_iff.mp h1]at q1;obtain⟨t,rfl⟩:=q1;exact .cons _ _ (uA e h2 q2)
   |_=>cases h
section
variable {X:Cx}{E:XK}{o e:Pd}{fo:al}{fa:Ev->aj (ac)}
def gD(z:OO)(ys:bv):Bool:=decide (z.length<=16)&&decide ((ys.map (·.length)).sum+ys.length<=1048576)
def K5(K:OF):V->ad->Hp->VK->Prop:=λx xs H Q=>∃z p ds ys,x=.str z/\xs=[.ref p]/\Rep K H (.lst ds) (.ref p)/\gL ds=some ys/\gD z ys=true/\Q (.str (T6 z ys)) H
def Fs:MN X "str.join" (K5 X.K):=by
 intro π s σ H x xs v us Q I rx rs h;obtain⟨z,p,ds,ys,rfl,rfl,hr,hy,hf,q⟩:=h;obtain⟨t,rfl⟩:=rx;obtain⟨u,rfl,ru⟩:=rs.one;obtain⟨a,vs,its,ea,rfl,h1,h2,h3,h4,_⟩:=aU I hr ru;unfold gD at hf;rw[O4]at hf;exact join_listW h4 (by simpa using uA hy h2 h3) (of_decide_eq_true hf.1) (of_decide_eq_true hf.2) λt' k=>⟨.str (T6 z ys),H,I.tok _,⟨_,rfl⟩,q⟩
def o6(z:OO)(xs:ac):aj D:=match xs with
 |[.lst ds]=>match gL ds with
  |some ys=>if gD z ys=true then .ok (.str (T6 z ys)) else .stuck
  |none=>.stuck
 |_=>.stuck
def vD(fo:al)(fa:Ev->aj (ac)):al:=λρ=>(fo ρ).bind λx=>match x with
 |.str z=>(fa ρ).bind λxs=>o6 z xs
 |_=>.stuck
def Gz{apos cpos:Pos}(ho:DE X E o fo)(ha:DA X E [e] fa)
  (hbase:Ra o "join" X.env (eval o X.env)=eval o X.env:=by rfl)
  (hfew:((PN cpos (OJ [e] X.env)).all (λx=>!x.1)&&(Sx cpos (Rm [] X.env)).all (λx=>x.1.isSome)
  &&decide ([e].length+([]:List R7).length+(if([]:List R7).isEmpty then 0 else 1)<30))=true:=by exact kQ rfl)
  (hline:(apos.endLine==cpos.line)=true:=by rfl) (hs:OJ [e] X.env=(false,eval e X.env)::OJ [] X.env:=by exact aM rfl) (hplain:(PN cpos (OJ [] X.env)).any (·.1)=false:=by exact bw rfl) :
  DE X E (.Call (.Attribute o "join" apos) [e] [] cpos) (vD fo fa):=by
 refine⟨?_⟩;refine aX (yw PySem.F.plainAttrs_str PySem.F.slot_str_join PySem.F.type_str_join Fs ho.o ha.o hbase hfew hline hs hplain) λσ H Q z9=>?_;obtain⟨Ha,ρ,hs,hr,q⟩:=z9;refine⟨Ha,ρ,hs,hr,?_⟩
 unfold vD at q;cases e1:fo ρ with
 |stuck|exn x=>rw[e1]at q;exact q
 |ok x=>
  rw[e1]at q;intro v H1 H01 g1 r1;cases x with
  |str z=>
   rw[Rep.str_iff.mp r1];refine⟨rfl,H01,ρ,g1.sub,hr.mono g1.z,?_⟩;replace q:=post.grow (r:=(fa ρ).bind λxs=>o6 z xs) q g1;cases e2:fa ρ with
   |stuck|exn x=>rw[e2]at q;exact q
   |ok xs=>
    rw[e2]at q;intro us H2 H02 g2 r2;replace q:=post.grow (r:=o6 z xs) q g2;unfold o6 at q
    match xs,r2,q with
    |[.lst ds],r2,q=>
     obtain⟨w,r',rfl,k1,k2⟩:=aC.mp r2;rw[Reps.nil_iff.mp k2];obtain⟨p,vs,rfl,k3,k4⟩:=aA.mp k1;cases e3:gL ds with
     |none=>simp only[e3]at q;exact q.elim
     |some ys=>
      simp only[e3]at q
      by_cases c:gD z ys=true
      .rw[if_pos c]at q
       exact⟨z,p,ds,ys,rfl,rfl,k1.mono g2.sub,e3,c,bG g2.sub q (Rep.str_iff.mpr rfl)⟩
      .rw[if_neg c]at q;exact q.elim
    |[],_,q=>exact q.elim
    |d1::_::_,_,q=>cases d1<;>exact Qi q
    |[.non],_,q=>exact q.elim
    |[.bl _],_,q=>exact q.elim
    |[.int _],_,q=>exact q.elim
    |[.str _],_,q=>exact q.elim
    |[.tup _],_,q=>exact q.elim
    |[.dic _ _],_,q=>exact q.elim
    |[.exc _],_,q=>exact q.elim
    |[.ob _ _],_,q=>exact q.elim
  |_=>exact q.elim
end
section
variable {X:Cx}{E:XK}{a:Pd}{f:al}{pos:Pos}
def Nh:V->Option Int->Option Int->Hp->VK->Prop:=λx lo hi H Q=>∃z,x=.str z/\z.length<=sizeLine/\Q (.str (RN z lo hi)) H
def Ie:Ea X Nh:=by
 intro π s σ H x v vl vu lo hi sl Q I rx hs pl pu h;obtain⟨z,rfl,hz,q⟩:=h;obtain⟨t,rfl⟩:=rx;have fin:∀t' k,EP X π σ Q (.str (RN z lo hi) t') { s with toks:=k }:=λt' k=>⟨.str (RN z lo hi),H,I.tok _,⟨_,rfl⟩,q⟩
 refine⟨"str",_,PySem.F.slot_str_getitem.lookup,typeIs_str s z t,?_⟩;cases pl with
 |none=>
  cases pu with|none=>exact wpAny_getItem_str_slice (l:=none) (u:=none) (st:=none) hs rfl (post_val_or_str ⟨Pe (Tb z _ _) hz,fin⟩)|int j uj=>exact wpAny_getItem_str_slice (l:=none) (u:=some (j,uj)) (st:=none) hs rfl (post_val_or_str ⟨Pe (Tb z _ _) hz,fin⟩)
 |int i ui=>
  cases pu with|none=>exact wpAny_getItem_str_slice (l:=some (i,ui)) (u:=none) (st:=none) hs rfl (post_val_or_str ⟨Pe (Tb z _ _) hz,fin⟩)|int j uj=>exact wpAny_getItem_str_slice (l:=some (i,ui)) (u:=some (j,uj)) (st:=none) hs rfl (post_val_or_str ⟨Pe (Tb z _ _) hz,fin⟩)
noncomputable def ou(x:D) (l h:Option Int):aj D:=match x with
 |.lst ds=>.ok (.lst (jv ds l h))
 |.str z=>if z.length<=line then .ok (.str (RN z l h)) else .stuck
 |.tup ds=>if HT.sIx ds.length 0 l=0/\HT.sIx ds.length ds.length h=ds.length then .stuck else .ok (.tup (jv ds l h))
 |_=>.stuck
def eQ(f:al)(lo hi:Ev->aj (Option Int)):al:=λρ=>(f ρ).bind λx=>(lo ρ).bind λl=>(hi ρ).bind λh=>ou x l h
def cb{lo hi:Option Pd}{p2:Pos}{fl fh:Ev->aj (Option Int)}(ha:DE X E a f)(hl:DO X E lo fl)(hh:DO X E hi fh):DE X E (.Subscript a (.Slice lo hi none p2) pos) (eQ f fl fh) :=
 ⟨aX (B4 (Ea.or EJ (Ea.or Ie Ic)) ha.o hl.o hh.o) (uE (m:=ou) λx v l h H Ha Q hs r q=>by
  cases x with
  |lst ds=>
   obtain⟨p,vs,rfl,h1,h2⟩:=aA.mp r;exact .inl ⟨p,vs,rfl,aF.sqL hs h1,λn hn=>q _ _ _ (aL hs hn) (aA.mpr ⟨n,_,rfl,df.of aG,(h2.cut l h).mono (aL hs hn).z⟩)⟩
  |str z=>
   unfold ou at q
   by_cases c:z.length<=line
   .simp only[if_pos c]at q
    exact .inr (.inl ⟨z,Rep.str_iff.mp r,cV c,bG hs q (Rep.str_iff.mpr rfl)⟩)
   .simp only[if_neg c]at q;exact q.elim
  |tup ds=>
   unfold ou at q
   by_cases c:HT.sIx ds.length 0 l=0/\HT.sIx ds.length ds.length h=ds.length
   .simp only[if_pos c]at q;exact q.elim
   .simp only[if_neg c]at q
    obtain⟨p,vs,rfl,h1,h2⟩:=aI.mp r;exact .inr (.inr ⟨p,vs,rfl,aF.sqT hs h1,by rw[←h2.length];exact c,λn hn=>q _ _ _ (aL hs hn) (aI.mpr ⟨n,_,rfl,gT.of aG,(h2.cut l h).mono (aL hs hn).z⟩)⟩)
  |_=>exact q.elim)⟩
end
def NM(z:OO):It:=⟨λi _=>i<z.cps.size,λi H x H'=>H'=H/\∃c,z.cps[i]?=some c/\x=.str ⟨#[c]⟩,λi _=>z.cps.size<=i⟩
def wk{P:O5}{w:Pt}{K:OF}{tg:Pd}(z:OO)(t:Tok)(it:OG):vS P w K tg (NM z) [it] it (λi h=>h.IsStrIter it "str_ascii_iterator" z t i) where
 mem:=by simp
 obj:=λi h st b hb=>by
  have e:b=it:=by simpa using hb
  subst e;obtain⟨o,e,c,d⟩:=st;exact⟨o,e,λv z=>by rw[d]at z;cases z⟩
 keep:=λi h h' st k=>let ⟨o,ho,r⟩:=st;⟨o,k it (by simp) o ho,r⟩
 item:=by
  intro X hP hw hK hc i π s σ H E I hf st hg;subst hP hw hK;have hg':i<z.cps.size:=hg;obtain⟨f0,f1,f2,f3,f4,f5⟩:=hf it (by simp);refine wpAny_pyNext_ascii_item st (c:=z.cps[i]) (by simp[hg']) λh' st' sb=>?_;have I1:Inv X π σ H { s with heap:=h',toks:=s.toks+1 }:=I.turned (t':=s.toks+1) (λb o hb e=>(sb.2 b hb).trans e) f0 f1 f3 f4 f5;obtain⟨o,e,c,d⟩:=id st';exact⟨_,rfl,yU (s:={ s with heap:=h',toks:=s.toks+1 }) e c d (by decide) ⟨.str ⟨#[z.cps[i]]⟩,H,I1,⟨_,rfl⟩,⟨rfl,_,by simp[hg'],rfl⟩,st',λb hb=>(hf b hb).1⟩⟩
 done:=by
  intro X hP hw hK hc i π s σ H E I hf st hg;subst hP hw hK;have hg':z.cps.size<=i:=hg;obtain⟨f0,f1,f2,f3,f4,f5⟩:=hf it (by simp);exact wpAny_pyNext_ascii_end (I.ok.hd hc) st (by simp[hg']) λh' eb=>⟨rfl,I.turned (t':=s.toks) (λb o hb e=>eb b o hb e) f0 f1 f3 f4 f5⟩
 self:=λ_ _ _ _ _ st h=>wpAny_pyIter_striter_ascii st h
def zI{P:O5}{w:Pt}{K:OF}{tg:Pd}(z:OO)(t:Tok)(it:OG):vS P w K tg (NM z) [it] it (λi h=>h.IsStrIter it "str_iterator" z t i) where
 mem:=by simp
 obj:=λi h st b hb=>by
  have e:b=it:=by simpa using hb
  subst e;obtain⟨o,e,c,d⟩:=st;exact⟨o,e,λv z=>by rw[d]at z;cases z⟩
 keep:=λi h h' st k=>let ⟨o,ho,r⟩:=st;⟨o,k it (by simp) o ho,r⟩
 item:=by
  intro X hP hw hK hc i π s σ H E I hf st hg;subst hP hw hK;have hg':i<z.cps.size:=hg;obtain⟨f0,f1,f2,f3,f4,f5⟩:=hf it (by simp);refine wpAny_pyNext_wide_item st (c:=z.cps[i]) (by simp[hg']) λh' st' sb=>?_;have I1:Inv X π σ H { s with heap:=h',toks:=s.toks+1 }:=I.turned (t':=s.toks+1) (λb o hb e=>(sb.2 b hb).trans e) f0 f1 f3 f4 f5;obtain⟨o,e,c,d⟩:=id st';exact⟨_,rfl,yU (s:={ s with heap:=h',toks:=s.toks+1 }) e c d (by decide) ⟨.str ⟨#[z.cps[i]]⟩,H,I1,⟨_,rfl⟩,⟨rfl,_,by simp[hg'],rfl⟩,st',λb hb=>(hf b hb).1⟩⟩
 done:=by
  intro X hP hw hK hc i π s σ H E I hf st hg;subst hP hw hK;have hg':z.cps.size<=i:=hg;obtain⟨f0,f1,f2,f3,f4,f5⟩:=hf it (by simp);exact wpAny_pyNext_wide_end (I.ok.hd hc) st (by simp[hg']) λh' eb=>⟨rfl,I.turned (t':=s.toks) (λb o hb e=>eb b o hb e) f0 f1 f3 f4 f5⟩
 self:=λ_ _ _ _ _ st h=>wpAny_pyIter_striter_wide st h
def Nv(tl:TE):TI:=λσ H R=>tl σ H λx H1=>∃z,x=.str z/\R (NM z) H1
def IG{X:Cx}{tg l:Pd}{tl:TE}(hl:PE X l tl):PI X tg l (Nv tl):=by
 intro π s σ H R I h;refine cM (hl π s σ H _ I h) λv s1 ⟨x,H1,I1,r1,q1⟩=>?_;obtain⟨z,rfl,q⟩:=q1;obtain⟨t,rfl⟩:=r1;have fpo:∀b∈[s1.heap.objs.size],mv X π H1 b:=λb hb=>by
  have e:b=s1.heap.objs.size:=by simpa using hb
  subst e;exact I1.fpOk (O0 _) (I1.hok.fresh (O0 _))
 cases ha:z.cps.all (· < 128) with|false=>exact wpAny_pyIter_wide ha ⟨s1.heap.objs.size,[s1.heap.objs.size],_,_,H1,rfl,I1.kept (t':=s1.toks) λb o e=>OD _ e,zI z t _,⟨_,Pf _ rfl,rfl,rfl⟩,fpo,q⟩|true=>exact wpAny_pyIter_ascii ha ⟨s1.heap.objs.size,[s1.heap.objs.size],_,_,H1,rfl,I1.kept (t':=s1.toks) λb o e=>OD _ e,wk z t _,⟨_,Pf _ rfl,rfl,rfl⟩,fpo,q⟩
def jd(z:OO):ac:=z.cps.toList.map λc=>.str ⟨#[c]⟩
def kl(z:OO):(jd z).length=z.cps.size:=by unfold jd;simp
section
variable {X:Cx}{E:XK}
def Le(K:OF):ad->Hp->VK->Prop:=λxs H Q=>∃(p:OG) (bs:List Bool),xs=[.ref p]/\df K H p (bs.map V.bl)/\Q (.bl (bs.all id)) H
theorem rR:∀bs:List Bool,(PL bs.length).all (λi=>bs.getD i false)=bs.all id
 |[]=>rfl
 |b::r=>by
  rw[Pw,RX,Rc,UA,Rc,←rR r];rfl
def vN(hc:X.calm=true):gK X (.builtin "all") (Le X.K):=by
 intro π s σ H xs us Q I r h;obtain⟨p,bs,rfl,hq,q⟩:=h;obtain⟨u,rfl,rx⟩:=mz r;cases rx;obtain⟨its,rv,pl,hz⟩:=I.list hq;have hlen:=rv.length;rw[OH]at hlen;have hne:p≠s.heap.objs.size:=Pj pl.lt;refine call_all_walk (wpAny_pyIter_list pl.isList ?_);have pl2:(s.heap.push { cls:=.type "list_iterator",data:=.fields #[.ref p,.int 0 0] }).IsList p its.toArray:=by
  obtain⟨o,k1,k2⟩:=pl.isList;exact⟨o,OD _ k1,k2⟩
 refine⟨s.heap.objs.size,_,_,_,_,_,λi=>bs.getD i false,rfl,Walks.list (A:=X.A.in1) (I.ok.hd hc) s.heap.objs.size p hne its.toArray,⟨⟨_,Pf _ rfl,rfl,rfl⟩,pl2⟩,?_,λh' tk hk=>?_⟩
 .intro i v s' Q' E' hv hQ
  have hv':its[i]?=some v:=by simpa using hv
  have hi:i<its.length:=(OP.mp hv').1;obtain⟨w,e1,e2⟩:=rv.get (show(bs.map V.bl)[i]?=some (V.bl (bs.getD i false)) by
   rw[OM,OI (by omega)];simp[List.getD,OI (show i<bs.length by omega)])
  rw[hv']at e1;cases e1;obtain rfl:v=P5 _:=e2;exact QK hQ
 .have hall:(PL its.toArray.size).all (λi=>bs.getD i false)=bs.all id:=by
   rw[O3,←hlen];exact rR bs
  rw[hall];exact⟨.bl _,H,I.kept (t':=tk) (λb o e=>hk b o (by simp only[Q4];exact Pj (OT e)) (OD _ e)),rfl,q⟩
def fu:ac->Option (List Bool)
 |[]=>some []
 |.bl b::r=>(fu r).map (b::·)
 |_=>none
theorem rK{K:OF}{H:Hp}:∀{ds:ac}{bs:List Bool}{vs:ad},fu ds=some bs->Reps K H ds vs->vs=bs.map V.bl
 |[],bs,vs,h,r=>by cases h;exact Reps.nil_iff.mp r
 |d::ds,bs,vs,h,r=>by
  obtain⟨v,r',rfl,h1,h2⟩:=aC.mp r;cases d with
  |bl x=>
   unfold fu at h;cases e:fu ds with
   |none=>rw[e]at h;cases h
   |some zs=>
    rw[e]at h;cases h;rw[aH.mp h1,rK e h2];rfl
  |_=>cases h
def vG(x:D):aj D:=match x with
 |.lst ds=>match fu ds with
  |some bs=>.ok (.bl (bs.all id))
  |none=>.stuck
 |_=>.stuck
def DN:iz X E (Le X.K) (m1 vG):=pY λx v H Ha Q hs r q=>by
 cases x with
 |lst ds=>
  unfold vG at q;obtain⟨p,vs,rfl,h1,h2⟩:=aA.mp r;cases e:fu ds with
  |none=>simp only[e]at q;exact q.elim
  |some bs=>
   simp only[e]at q;exact⟨p,bs,rfl,by rw[←rK e h2];exact aF.sqL hs h1,bG hs q (rb _)⟩
 |_=>exact q.elim
end
end DL
namespace L2
open PySem PySem.Spec PyProof.Rows
section
variable {κ:Type}[DecidableEq κ]
def nk(kvs:List (κ×V))(k:κ):Option V:=(kvs.find? λkv=>decide (kv.1=k)).map (·.2)
def jh(kvs:List (κ×V))(k:κ)(v:V):List (κ×V) :=
 if(kvs.any λkv=>decide (kv.1=k))=true then kvs.map (λkv=>if kv.1=k then(kv.1,v) else kv) else kvs++[(k,v)]
def kA{p:κ×V}{r:List (κ×V)}{k:κ}(e:p.1=k):nk (p::r) k=some p.2:=by simp[nk,RG,e]
def jb{p:κ×V}{r:List (κ×V)}{k:κ}(e:¬p.1=k):nk (p::r) k=nk r k:=by simp[nk,RG,e]
theorem uu(k:κ):∀kvs:List (κ×V),(kvs.any λkv=>decide (kv.1=k))=(nk kvs k).isSome
 |[]=>rfl
 |p::r=>by
  rw[QX]
  by_cases e:p.1=k
  .simp only[kA e,decide_eq_true e,Bool.true_or,Option.isSome_some]
  .rw[jb e,decide_eq_false e,SW];exact uu k r
def jq(kvs:List (κ×V))(k:κ)(v:V):(jh kvs k v).length<=kvs.length+1:=by
 unfold jh;split
 .rw[OH];omega
 .rw[PU,Pw,Q8];omega
def mn.isSome_eq{o:Option V}{u:Option OB}(r:mn o u):o.isSome=u.isSome:=by
 cases o with
 |none=>cases u with
  |none=>rfl
  |some _=>exact(show False from r).elim
 |some _=>cases u with
  |none=>exact(show False from r).elim
  |some _=>rfl
def KV.val{kvs:List (κ×V)}{vs:List (κ×OB)}(r:KV kvs vs)(k:κ):mn (nk kvs k) (valueAt vs k):=by
 unfold KV at r
 induction r with
 |nil=>exact Qa
 |@cons p q ps qs h t ih=>
  obtain⟨h1,h2⟩:=h
  by_cases e:p.1=k
  .have e':q.1=k:=h1.symm.trans e
   have b:valueAt (q::qs) k=some q.2:=by simp[valueAt,RG,e']
   rw[kA e,b];exact h2
  .have e':¬q.1=k:=λz=>e (h1.trans z)
   have b:valueAt (q::qs) k=valueAt qs k:=by simp[valueAt,RG,e']
   rw[jb e,b];exact ih
def KV.any{kvs:List (κ×V)}{vs:List (κ×OB)}(r:KV kvs vs)(k:κ):(kvs.any λkv=>decide (kv.1=k))=vs.any λkv=>decide (kv.1=k):=by
 unfold KV at r
 induction r with|nil=>rfl|cons h t ih=>rw[QX,QX,ih,h.1]
def KV.repl{kvs:List (κ×V)}{vs:List (κ×OB)}(r:KV kvs vs)(k:κ){y:V}{u:OB}(ry:bA y u) :
  KV (kvs.map λkv=>if kv.1=k then(kv.1,y) else kv) (vs.map λkv=>if kv.1=k then(kv.1,u) else kv):=by
 unfold KV at r ⊢
 induction r with
 |nil=>exact .nil
 |@cons p q ps qs h t ih=>
  rw[OY,OY];refine .cons ?_ ih;obtain⟨h1,h2⟩:=h
  by_cases e:p.1=k
  .rw[if_pos e,if_pos (h1.symm.trans e)];exact⟨h1,ry⟩
  .rw[if_neg e,if_neg (λz=>e (h1.trans z))];exact⟨h1,h2⟩
def KV.put{kvs:List (κ×V)}{vs:List (κ×OB)}(r:KV kvs vs)(k:κ){y:V}{u:OB}(ry:bA y u):KV (jh kvs k y) (stored vs k u):=by
 unfold jh stored;rw[r.any k]
 by_cases e:(vs.any λkv=>decide (kv.1=k))=true
 .rw[if_pos e,if_pos e];exact r.repl k ry
 .rw[if_neg e,if_neg e];exact Paired.snoc r ⟨rfl,ry⟩
def KV.length{kvs:List (κ×V)}{vs:List (κ×OB)}(r:KV kvs vs):kvs.length=vs.length:=SV r
end
def o5{P:O5}{w:Pt}{k:Key}{u:OB}(r:bA (kV k) u):(mixKind P w).is k u=true:=by
 cases k with|inl i=>obtain⟨t,e⟩:=(show ∃t,u=QF i t from r);subst e;exact uY P w i t|inr x=>obtain⟨t,e⟩:=(show ∃t,u=QE x t from r);subst e;exact uX P w x t
theorem rn{P:O5}{w:Pt}:∀{ks:List Key}{us:List OB},bq (ks.map kV) us->ItemsAre (mixKind P w) ks us
 |[],_,r=>by rw[Sf]at r;cases r;exact .nil
 |k::ks,_,r=>by
  rw[OY]at r;cases r with|cons h t=>exact .cons (o5 h) (rn t)
abbrev KT(H:Hp):List (List Key×V)->List (List Key×OG×OB)->Prop:=Paired λp q=>p.1=q.1/\H q.2.1=some (.tup (p.1.map kV))/\bA p.2 q.2.2
def KT.val{H:Hp}{kvs:List (List Key×V)}{xs:List (List Key×OG×OB)}(r:KT H kvs xs)(k:List Key):mn (nk kvs k) ((atKey xs k).map (·.2)):=by
 induction r with
 |nil=>exact Qa
 |@cons p q ps qs h t ih=>
  obtain⟨h1,_,h2⟩:=h
  by_cases e:p.1=k
  .have e':q.1=k:=h1.symm.trans e
   have b:atKey (q::qs) k=some q.2:=by simp[atKey,RG,e']
   rw[kA e,b];exact h2
  .have e':¬q.1=k:=λz=>e (h1.trans z)
   have b:atKey (q::qs) k=atKey qs k:=by simp[atKey,RG,e']
   rw[jb e,b];exact ih
def KT.repl{H:Hp}{kvs:List (List Key×V)}{xs:List (List Key×OG×OB)}(r:KT H kvs xs)(k:List Key){y:V}{u:OB}(ry:bA y u) :
  KT H (kvs.map λkv=>if kv.1=k then(kv.1,y) else kv) (xs.map (putAt k u)):=by
 induction r with
 |nil=>exact .nil
 |@cons p q ps qs h t ih=>
  rw[OY,OY];refine .cons ?_ ih;obtain⟨h1,h2,h3⟩:=h;unfold putAt
  by_cases e:p.1=k
  .rw[if_pos e,if_pos (h1.symm.trans e)];exact⟨h1,h2,ry⟩
  .rw[if_neg e,if_neg (λz=>e (h1.trans z))];exact⟨h1,h2,h3⟩
def KT.put{H:Hp}{kvs:List (List Key×V)}{xs:List (List Key×OG×OB)}(r:KT H kvs xs)(k:List Key){b:OG}{y:V}{u:OB}(hb:H b=some (.tup (k.map kV)))(ry:bA y u) :
  KT H (jh kvs k y) (storedH xs k b u):=by
 have e:(kvs.any λkv=>decide (kv.1=k))=(atKey xs k).isSome:=by
  rw[uu,(r.val k).isSome_eq,Te]
 unfold jh storedH;rw[e]
 by_cases q:(atKey xs k).isSome=true
 .rw[if_pos q,if_pos q];exact r.repl k ry
 .rw[if_neg q,if_neg q];exact Paired.snoc r ⟨rfl,hb,ry⟩
def KT.keeps{H H':Hp}{kvs:List (List Key×V)}{xs:List (List Key×OG×OB)}(r:KT H kvs xs)(ht:∀b ys,H b=some (.tup ys)->H' b=some (.tup ys)):KT H' kvs xs :=
 jE r λ_ _ z=>⟨z.1,ht _ _ z.2.1,z.2.2⟩
section
variable {P:O5}{w:Pt}{H:Hp}{h:OL}{a:OG}
def Hi{u:HO}(ok:fv P w H h)(e:Rd H a u):bB P w H h a u:=e.ok ok
def rA{kvs:List (Key×V)}(ok:fv P w H h)(e:Rd H a (.dK kvs)):kvs.length<=sizeLine/\(a==Q2)=false/\∃vs,KV kvs vs/\h.DictOf (mixKind P w) a vs :=
 show bB P w H h a (.dK kvs) from Hi ok e
def Du{kvs:List (Key×V)}(ok:fv P w H h)(e:H a=some (.dK kvs)):kvs.length<=sizeLine/\(a==Q2)=false/\∃vs,KV kvs vs/\h.DictOf (mixKind P w) a vs:=rA ok (.inl e)
def oZ{ks:List Key}(ok:fv P w H h)(e:H a=some (.tup (ks.map kV))):(tupleKind (mixKind P w)).is h ks a:=by
 obtain⟨_,its,r,o,h1,h2,n,h3⟩:=(show bB P w H h a (.tup (ks.map kV)) from ok a _ e)
 exact⟨o,its.toArray,n,h1,h2,h3,by simpa using rn r⟩
def vy{kvs:List (List Key×V)}(ok:fv P w H h)(e:Rd H a (.dT kvs)):kvs.length<=sizeLine/\(a==Q2)=false /\
  ∃xs,KT H kvs xs/\h.DictOfH (tupleKind (mixKind P w)) a xs:=by
 obtain⟨z,y,xs,r,o,es,ep,h1,h2,h3,h4,h5⟩:=(show bB P w H h a (.dT kvs) from Hi ok e)
 refine⟨z,y,xs,r,o,es,ep,h1,h2,h3,h4,λx hx=>?_,h5⟩;have all:∀{l:List (List Key×V)}{m:List (List Key×OG×OB)},KT H l m->∀x∈m,(tupleKind (mixKind P w)).is h x.1 x.2.1:=by
  intro l m q
  induction q with
  |nil=>intro x hx;exact nomatch hx
  |@cons p q ps qs hq t ih=>
   intro x hx;rcases OU.mp hx with e|hx
   .subst e
    exact oZ ok (by rw[←hq.1];exact hq.2.1)
   .exact ih x hx
 exact all r x hx
def Md{kvs:List (List Key×V)}(ok:fv P w H h)(e:H a=some (.dT kvs)):kvs.length<=sizeLine/\(a==Q2)=false /\
  ∃xs,KT H kvs xs/\h.DictOfH (tupleKind (mixKind P w)) a xs:=vy ok (.inl e)
end
def tZ(H:Hp)(a:OG)(y:V)(r:Option V):Prop :=
 (∃kvs k,Rd H a (.dK kvs)/\y=kV k/\r=nk kvs k)∨∃kvs k b,Rd H a (.dT kvs)/\y=.ref b/\H b=some (.tup (k.map kV))/\r=nk kvs k
noncomputable def A2(H:Hp) (a:OG) (y v:V) (H':Hp):Prop :=
 (∃kvs k,H a=some (.dK kvs)/\y=kV k/\kvs.length<sizeLine/\H'=upd H a (.dK (jh kvs k v))) ∨
 ∃kvs k b,H a=some (.dT kvs)/\y=.ref b/\H b=some (.tup (k.map kV))/\kvs.length<sizeLine/\H'=upd H a (.dT (jh kvs k v))
theorem A2.k{H:Hp}{a:OG}{kvs:List (Key×V)}{k:Key}{v:V}(e:H a=some (.dK kvs))(hl:kvs.length<sizeLine):A2 H a (kV k) v (upd H a (.dK (jh kvs k v))):=.inl ⟨kvs,k,e,rfl,hl,rfl⟩
section
variable {X:Cx}{π:List (OG×Obj)}{σ:St}{H:Hp}{s:OE}{a:OG}{y v:V}{u r:OB}{o:Option V}{A:Pu}{E:OB->OE->Prop}
def Inv.big(I:Inv X π σ H s):Q2<s.heap.objs.size:=by
 have h:O6<s.heap.objs.size:=(I.mod.glob.keeps I.bk).lt;exact Nat.lt_trans (by decide) h
def AH{Q:OB->OE->Prop}(hu:A.units+1<QU)(I:Inv X π σ H s)(g:tZ H a y (some v))(ry:bA y u)(h:∀w' s',Inv X π σ H s'->bA v w'->Q w' s') :
  OS (OW X.prog X.w) A (getItem (.ref a) u) Q E s:=by
 rcases g with⟨kvs,k,e,ey,l⟩|⟨kvs,k,b,e,ey,eb,l⟩
 .subst ey
  obtain⟨z,hd,vs,rel,dd⟩:=rA I.hok e;obtain⟨w',hw,rw'⟩:=mn.some_of (v:=v) (o:=valueAt vs k) (by rw[l];exact rel.val k);exact wpAny_getItem_of (o5 ry) dd.mapOf hw (h w' _ (I.tok _) rw')
 .subst ey
  cases (show u=Ph b from ry);obtain⟨z,hd,xs,rel,dd⟩:=vy I.hok e;obtain⟨w',hw,rw'⟩:=mn.some_of (v:=v) (o:=(atKey xs k).map (·.2)) (by rw[l];exact rel.val k);obtain⟨p,hp,hp2⟩:=Ux.mp hw;refine wpAny_getItem_heap (tupleKind_room_in1 hu) (oZ I.hok eb) dd hp ?_;rw[hp2];exact h w' _ (I.tok _) rw'
def NC{Q:OB->OE->Prop}(hu:A.units+1<QU)(I:Inv X π σ H s)(g:tZ H a y o)(ry:bA y u)(h:∀s',Inv X π σ H s'->Q (.bool o.isSome) s') :
  OS (OW X.prog X.w) A (PX .In u (.ref a)) Q E s:=by
 rcases g with⟨kvs,k,e,ey,l⟩|⟨kvs,k,b,e,ey,eb,l⟩
 .subst ey
  obtain⟨z,hd,vs,rel,dd⟩:=rA I.hok e;refine wpAny_in_of (o5 ry) hd dd.mapOf ?_;rw[←(rel.val k).isSome_eq,←l];exact h _ (I.tok _)
 .subst ey
  cases (show u=Ph b from ry);obtain⟨z,hd,xs,rel,dd⟩:=vy I.hok e;refine wpAny_in_heap (tupleKind_room_in1 hu) (oZ I.hok eb) hd dd ?_;have q:=(rel.val k).isSome_eq;rw[Te]at q;rw[←q,←l];exact h _ (I.tok _)
def GF{Q:OB->OE->Prop}(hu:A.units+1<QU)(I:Inv X π σ H s)(g:tZ H a y o)(ry:bA y u)(h:∀s',Inv X π σ H s'->Q (.bool (!o.isSome)) s') :
  OS (OW X.prog X.w) A (PX .NotIn u (.ref a)) Q E s:=by
 rcases g with⟨kvs,k,e,ey,l⟩|⟨kvs,k,b,e,ey,eb,l⟩
 .subst ey
  obtain⟨z,hd,vs,rel,dd⟩:=rA I.hok e;refine wpAny_notIn_of (o5 ry) hd dd.mapOf ?_;rw[←(rel.val k).isSome_eq,←l];exact h _ (I.tok _)
 .subst ey
  cases (show u=Ph b from ry);obtain⟨z,hd,xs,rel,dd⟩:=vy I.hok e;refine wpAny_notIn_heap (tupleKind_room_in1 hu) (oZ I.hok eb) hd dd ?_;have q:=(rel.val k).isSome_eq;rw[Te]at q;rw[←q,←l];exact h _ (I.tok _)
def nU{h':OL}{t':Nat}{ob:HO}(I:Inv X π σ H s)(mu:Kk (H a))(hs:QI a s.heap h')(he:∃q,h'.get? a=some q)(new:bB X.prog X.w (upd H a ob) h' a ob) :
  Inv X π σ (upd H a ob) { s with heap:=h',toks:=t' } :=
 I.write (x:=a) (e:=a) mu (.inl rfl) (λb q hb z=>(hs.2 b hb).trans z) he new
def pF{P:O5}{w:Pt}{H':Hp}{h':OL}{kvs:List (Key×V)}{vs:List (Key×OB)}(z:kvs.length<=sizeLine)(hd:(a==Q2)=false)(rel:KV kvs vs)(dd:h'.DictOf (mixKind P w) a vs) :
  bB P w H' h' a (.dK kvs):=⟨z,hd,vs,rel,dd⟩
def AG{H':Hp}{Q:Unit->OE->Prop}(hu:A.units+1<QU)(I:Inv X π σ H s)(g:A2 H a y v H')(ry:bA y u)(rv:bA v r)(h:∀s',Inv X π σ H' s'->Q () s') :
  OS (OW X.prog X.w) A (setItem (.ref a) u r) Q E s:=by
 rcases g with⟨kvs,k,e,ey,l,eH⟩|⟨kvs,k,b,e,ey,eb,l,eH⟩
 .subst ey eH
  obtain⟨z,hd,vs,rel,dd⟩:=Du I.hok e;have hz:vs.length<=sizeLine:=by rw[←rel.length];exact z
  have hl:(jh kvs k v).length<=sizeLine:=by have:=jq kvs k v;omega
  refine wpAny_setItem_pairs (hsz:=hz) (o5 ry) dd λh' dd' hs=>h _ ?_;have he:∃q,h'.get? a=some q:=let ⟨q,_,_,hq,_⟩:=dd';⟨q,hq⟩;exact nU I (by rw[e];exact Qa) hs he (pF hl hd (rel.put k rv) dd')
 .subst ey eH
  cases (show u=Ph b from ry);obtain⟨z,hd,xs,rel,dd⟩:=Md I.hok e;have hz:xs.length<=sizeLine:=by rw[←SV rel];exact z
  have hl:(jh kvs k v).length<=sizeLine:=by have:=jq kvs k v;omega
  refine wpAny_setItem_heap (hsz:=hz) (tupleKind_room_in1 hu) (oZ I.hok eb) dd λh' dd' hs=>h _ ?_;obtain⟨q,es,ep,hq,h2,h3,h4,_,h5⟩:=dd';refine nU I (by rw[e];exact Qa) hs ⟨q,hq⟩ ⟨hl,hd,_,(rel.put k eb rv).keeps λc ys ec=>?_,q,es,ep,hq,h2,h3,h4,h5⟩;rw[aE (Lw ec e (λz=>nomatch z))];exact ec
end
section
variable {X:Cx}{π:List (OG×Obj)}{σ:St}{H:Hp}{s:OE}{a:OG}{kvs:List (Key×V)}{k:Key}{u:OB}{A:Pu}{E:OB->OE->Prop}
def GG{Q:OB->OE->Prop}(I:Inv X π σ H s)(e:H a=some (.dK kvs))(h:∀s',Inv X π σ (upd H a (.dK [])) s'->Q .none s'):OS (OW X.prog X.w) A (call (.builtin "dict.clear") [.ref a]) Q E s:=by
 obtain⟨z,hd,vs,rel,dd⟩:=Du I.hok e;refine call_meetsIn Up dd.typeIs PySem.F.entry_dict_clear (PySem.F.args_dict_clear_1 _) (meets_dict_clear (mixKind X.prog X.w) a) ⟨vs,dd,by rw[←rel.length];exact z,λh' dd' hs=>h _ ?_⟩;have he:∃q,h'.get? a=some q:=let ⟨q,_,_,hq,_⟩:=dd';⟨q,hq⟩;exact nU (t':=s.toks) I (by rw[e];exact Qa) hs he (pF (RP _) hd .nil dd')
end
def Kj(i:Pd):Prop:=∀ov iv,subscripted i false ov iv=operate [ov,iv] (getItem ov iv)
def EF{prog:O5}{w:Pt}{A:Pu}{E:OB->OE->Prop}{s:OE}{env:Env}{value slice:Pd}{pos:Pos}{T id:String}{Q:OB->OE->Prop}
  (hl:RI (.type T) "__getitem__"=pure (some (.builtin id)))(hs:Kj slice)
  (h:OS (OW prog w) A (eval value env) (λo sg=>OS (OW prog w) A (eval slice env) (λi si=>si.TypeIs o T/\OS (OW prog w) A (getItem o i) Q E si) E sg) E s) :
  OS (OW prog w) A (eval (.Subscript value slice pos) env) Q E s:=by
 refine Subscript_ (PH h (λo sg h₁=>PH h₁ (λi si hV=>?_) λ_ _ x=>x) λ_ _ x=>x);obtain⟨hT,hV⟩:=hV;unfold subscriptTail;refine OC ?_;rw[getitemInPython_of_ne hT.not_modules];refine OC (wpAny_specialOf hT hl ?_);have fin:OS (OW prog w) A (subscripted slice false o i) (λr sj=>OS (OW prog w) A (letTemporaryGo value o r >>= λ_=>pure r) Q E sj) E si:=by
  rw[hs o i];exact wpAny_operating (PH hV (λr sj hW=>OC (wpAny_letTemporaryGo (ON hW))) λ_ _ x=>x)
 first
  |exact ON (OC fin)
  |exact OC (ON (OC fin))
  |exact OC fin
def vB{X:Cx}{π:List (OG×Obj)}{σ:St}{H:Hp}{s:OE}{a:OG}{y:V}{o:Option V}(I:Inv X π σ H s)(g:tZ H a y o):s.TypeIs (.ref a) "dict":=by
 rcases g with⟨kvs,k,e,_,_⟩|⟨kvs,k,b,e,_,_,_⟩
 .obtain⟨_,_,vs,_,dd⟩:=rA I.hok e
  exact dd.typeIs
 .obtain⟨_,_,xs,_,dd⟩:=vy I.hok e
  exact dd.typeIs
def KO(td ty:TE):TE:=λσ H Q=>td σ H λx H1=>ty σ H1 λy H2=>∃a v,x=.ref a/\tZ H2 a y (some v)/\Q v H2
def K0(td ty tv:TE):TS:=λD σ H=>tv σ H λv H1=>td σ H1 λx H2=>ty σ H2 λy H3=>∃a H4,x=.ref a/\A2 H3 a y v H4/\D.nx σ H4
section
variable {X:Cx}{o i e value:Pd}{pos pos' tpos:Pos}{td ty tv:TE}
def Fc(hu:X.A.units+1<QU)(ho:PE X o td)(hi:PE X i ty)(hs:Kj i):PE X (.Subscript o i pos) (KO td ty):=by
 intro π s σ H Q I h;refine EF PySem.F.slot_dict_getitem.lookup hs (cM (ho π s σ H _ I h) λu s1 ⟨x,H1,I1,rx,q1⟩=>cM (hi π s1 σ H1 _ I1 q1) λiv s2 z9=>?_);obtain⟨y,H2,I2,ry,a,v,ex,g,q2⟩:=z9;subst ex;obtain rfl:u=Ph a:=rx;exact⟨vB I2 g,AH hu I2 g ry λw' s3 I3 rw'=>⟨v,H2,I3,rw',q2⟩⟩
def EX(hu:X.A.units+1<QU)(ho:PE X o td)(hi:PE X i ty)(hv:PE X value tv)(hs:P1 value (some (.Subscript o i pos')) pos.line X.env=pure false) :
  PS X (.Assign [.Subscript o i pos'] value pos) (K0 td ty tv):=by
 intro π s σ H D I h;refine wpAny_Assign_Subscript (cM (hv π s σ H _ I h) λr s1 ⟨v,H1,I1,rv,q1⟩=>cM (ho π s1 σ H1 _ I1 q1) λu s2 ⟨x,H2,I2,rx,q2⟩=>cM (hi π s2 σ H2 _ I2 q2) λiv s3 z9=>?_) hs;obtain⟨y,H3,I3,ry,a,H4,ex,g,q3⟩:=z9;subst ex;obtain rfl:u=Ph a:=rx;exact AG hu I3 g ry rv λs4 I4=>⟨σ,H4,I4,q3⟩
end
def vA{P:O5}{w:Pt}{H:Hp}(h:OL)(hb:Q2<h.objs.size):bB P w H (h.push { cls:=.type "dict",data:=.dict #[] }) h.objs.size (.dK []) :=
 ⟨RP _,beq_eq_false_iff_ne.mpr (Px (Pj hb)),[],.nil,Heap.DictOf.new h⟩
def HY:TE:=λ_ H Q=>∀p,H p=none->Q (.ref p) (upd H p (.dK []))
section
variable {X:Cx}{pos:Pos}
def Ca:PE X (.Dict [] [] pos) HY:=λπ s σ H Q I h=>
 wpAny_Dict_empty ⟨.ref s.heap.objs.size,_,I.laid (a:=s.heap.objs.size) (o:=.dK []) (t':=s.toks) (λ_ _ q=>OD _ q) (O0 _) (vA s.heap I.big),rfl,h _ (I.hok.fresh (O0 _))⟩
end
def wo:List (TE×TE)->St->Hp->(List (V×V)->Hp->Prop)->Prop
 |[],_,H,Q=>Q [] H
 |(tk,tv)::r,σ,H,Q=>tk σ H λx H1=>tv σ H1 λy H2=>wo r σ H2 λps H3=>Q ((x,y)::ps) H3
abbrev VV:List (V×V)->List (OB×OB)->Prop:=Paired λp q=>bA p.1 q.1/\bA p.2 q.2
noncomputable def MM(X:Cx) (pos:Pos) (keys:List (Option Pd)) (values:List Pd) (trs:List (TE×TE)):Prop :=
 ∀(π:List (OG×Obj)) (s:OE) (σ:St) (H:Hp) (Q:List (V×V)->Hp->Prop),Inv X π σ H s->wo trs σ H Q ->
  OS (OW X.prog X.w) X.A (evalPairs (pairTrees keys values X.env pos)) (λvs s'=>∃ps H',Inv X π σ H' s'/\VV ps vs/\Q ps H') X.xe s
def EY{X:Cx}{pos:Pos}:MM X pos [] [] []:=λπ s σ H Q I h=>pairTrees_nil_walk ⟨[],H,I,.nil,h⟩
def BW{X:Cx}{pos:Pos}{k v:Pd}{ks:List (Option Pd)}{vs:List Pd}{tk tv:TE}{trs:List (TE×TE)}(hk:PE X k tk)(hv:PE X v tv)(hr:MM X pos ks vs trs) :
  MM X pos (some k::ks) (v::vs) ((tk,tv)::trs):=λπ s σ H Q I h=>
 pairTrees_cons_walk (cM (hk π s σ H _ I h) λu s1 ⟨x,H1,I1,rx,q1⟩=>cM (hv π s1 σ H1 _ I1 q1) λw2 s2 ⟨y,H2,I2,ry,q2⟩ =>
  cM (hr π s2 σ H2 _ I2 q2) λws s3 ⟨ps,H3,I3,rel,q3⟩=>⟨(x,y)::ps,H3,I3,.cons ⟨rx,ry⟩ rel,q3⟩)
def oW(kvs more:List (Key×V)):List (Key×V):=more.foldl (λacc kv=>jh acc kv.1 kv.2) kvs
def KV.merge:∀{more:List (Key×V)}{rs:List (Key×OB)}{kvs:List (Key×V)}{vs:List (Key×OB)},KV more rs->KV kvs vs->KV (oW kvs more) (merged vs rs):=by
 intro more rs kvs vs r;unfold KV at r
 induction r generalizing kvs vs with
 |nil=>intro q;exact q
 |@cons p q ps qs h t ih=>
  intro r0;have e:KV (jh kvs p.1 p.2) (stored vs q.1 q.2):=by
   have:=r0.put p.1 h.2;rw[←h.1];exact this
  exact ih e
theorem j0:∀(more kvs:List (Key×V)),(oW kvs more).length<=kvs.length+more.length
 |[],kvs=>by show kvs.length<=kvs.length+0;omega
 |p::r,kvs=>by
  have h1:=j0 r (jh kvs p.1 p.2);have h2:=jq kvs p.1 p.2;show(oW (jh kvs p.1 p.2) r).length<=_;rw[Pw];omega
theorem pU{P:O5}{w:Pt}:∀{kvs:List (Key×V)}{ws:List (OB×OB)},VV (kvs.map λkv=>(kV kv.1,kv.2)) ws->∃rs,Carries (mixKind P w) ws rs/\KV kvs rs
 |[],_,r=>by rw[Sf]at r;cases r;exact⟨[],Qa,.nil⟩
 |p::kvs,_,r=>by
  rw[OY]at r;cases r with
  |@cons a b as bs h t=>
   obtain⟨rs,c,q⟩:=pU (P:=P) (w:=w) t;obtain⟨b1,b2⟩:=b;exact⟨(p.1,b2)::rs,⟨o5 h.1,rfl,c⟩,.cons ⟨rfl,h.2⟩ q⟩
def KN(trs:List (TE×TE)):TE:=λσ H Q=>∀p,H p=none->wo trs σ (upd H p (.dK [])) λps H2=>H2 p=some (.dK [])/\∃kvs:List (Key×V),ps=kvs.map (λkv=>(kV kv.1,kv.2))/\kvs.length<=15/\Q (.ref p) (upd H2 p (.dK (oW [] kvs)))
def Fb{X:Cx}{pos:Pos}{keys:List (Option Pd)}{values:List Pd}{trs:List (TE×TE)}(h:MM X pos keys values trs)(hall:keys.all (·.isSome)=true)(hl:keys.length=values.length)(h0:keys≠[])
  (h15:keys.length<=15):PE X (.Dict keys values pos) (KN trs):=by
 intro π s σ H Q I q;have hn:=I.hok.fresh (O0 s.heap.objs.size);have I1:=I.laid (a:=s.heap.objs.size) (o:=.dK []) (h':=s.heap.push { cls:=.type "dict",data:=.dict #[] }) (t':=s.toks) (λ_ _ q=>OD _ q) (O0 _) (vA s.heap I.big);refine wpAny_Dict_walk (knd:=mixKind X.prog X.w) hall hl h0 h15 (cM (h π _ σ _ _ I1 (q _ hn)) λws s2 ⟨ps,H2,I2,rel,e,kvs,ep,lk,q2⟩=>?_);subst ep;obtain⟨rs,c,rk⟩:=pU (P:=X.prog) (w:=X.w) rel;obtain⟨z,hd,vs0,r0,dd⟩:=Du I2.hok e;cases r0;refine⟨rs,c,dd,λh' dd' hs=>⟨.ref s.heap.objs.size,_,?_,rfl,q2⟩⟩;have hz:(oW [] kvs).length<=sizeLine:=by
  have h1:=j0 kvs [];rw[Q8]at h1;rw[sizeLine_eq];omega
 have he:∃q,h'.get? s.heap.objs.size=some q:=let ⟨q,_,_,hq,_⟩:=dd';⟨q,hq⟩;exact nU I2 (by rw[e];exact Qa) hs he (pF hz hd (rk.merge .nil) dd')
section
variable {X:Cx}{π:List (OG×Obj)}{σ:St}{H:Hp}{s:OE}{a:OG}{kvs:List (Key×V)}{A:Pu}{E:OB->OE->Prop}
def DC{Q:OB->OE->Prop}(I:Inv X π σ H s)(e:Rd H a (.dK kvs))(h:∀p s',H p=none->Inv X π σ (upd H p (.dK kvs)) s'->Q (.ref p) s'):OS (OW X.prog X.w) A (call (.type "dict") [.ref a]) Q E s:=by
 obtain⟨z,hd,vs,rel,dd⟩:=rA I.hok e;refine kt_call_dict hd dd (by rw[←rel.length];exact z) λh' dd' hs=>?_;refine h _ _ (I.hok.fresh (O0 _)) (I.laid (a:=s.heap.objs.size) (o:=.dK kvs) (t':=s.toks) (λb q hq=>?_) (O0 _) (pF z (beq_eq_false_iff_ne.mpr (Px (Pj I.big))) rel dd'));exact(hs.2 b (Pj (OT hq))).trans (OD _ hq)
end
end L2
namespace DL
open PySem PySem.Spec PyProof.Rows L2
def jC{K:OF}{H:Hp}{ks:bv}{ds:ac}{v:V}:Rep K H (.dic ks ds) v↔∃a kvs vs,v=.ref a/\Rd H a (.dK kvs)/\kvs=(ks.map Pn).zip vs/\ks.length=vs.length/\Reps K H ds vs:=by rw[Rep]
section
variable {X:Cx}{E:XK}{e:Pd}{f:al}{pos p1:Pos}
def dOne(x:OO)(d:D):aj D:=.ok (.dic [x] [d])
end
def gQ(cells:List (OO×OG)):List (OO×Qy)->List (OO×OG)->List (OO×OG)
 |[],acc=>acc
 |(n,k)::r,acc=>if(k==QO)=true then gQ cells r ((n,(cells.lookup n).getD 0)::acc) else gQ cells r acc
def qH{scope:RA}{env:PQ}(h:∀x∈scope.names,x.2=.free->∃c,env.cells.lookup x.1=some c):closureFor scope env=pure (gQ env.cells scope.names []):=by
 simp only[closureFor];have key:∀(names:List (OO×Qy)) (acc:List (OO×OG)),(∀x∈names,x.2=.free->∃c,env.cells.lookup x.1=some c) ->
   (forIn names acc λ(x:OO×Qy) (z:List (OO×OG))=>
      if(x.snd==QO)=true then do
       let y ←cellOf env x.fst
       pure (RH ((x.fst,y)::z))
      else(pure (RH z):Sem _))=pure (gQ env.cells names acc):=by
  intro names
  induction names with
  |nil=>intro acc _;rfl
  |cons x r ih=>
   intro acc hh;obtain⟨n,k⟩:=x;rw[Sd]
   by_cases hk:(k==QO)=true
   .obtain⟨c,hc⟩:=hh (n,k) Pc (by simpa using hk)
    have hcell:cellOf env n=pure c:=by unfold cellOf;rw[show env.cells.lookup n=some c from hc]
    simp only[hk,if_true];rw[hcell];have:=ih ((n,c)::acc) (λy hy=>hh y (OZ _ hy));rw[show gQ env.cells ((n,k)::r) acc=gQ env.cells r ((n,c)::acc) by
     show(if(k==QO)=true then _ else _)=_;rw[if_pos hk,show env.cells.lookup n=some c from hc];rfl]
    rw[←this];rfl
   .have:=ih acc (λy hy=>hh y (OZ _ hy))
    rw[if_neg hk];rw[show gQ env.cells ((n,k)::r) acc=gQ env.cells r acc by
     show(if(k==QO)=true then _ else _)=_;rw[if_neg hk]]
    rw[←this];rfl
 rw[key _ _ h];rfl
theorem pQ{cells:List (OO×OG)}:∀{names:List (OO×Qy)}{acc:List (OO×OG)}{x:OO}{c:OG},(∀y∈names,y.2=.free->∃c,cells.lookup y.1=some c) ->
  (gQ cells names acc).lookup x=some c->acc.lookup x=some c∨cells.lookup x=some c
 |[],acc,x,c,_,h=>.inl h
 |(n,k)::r,acc,x,c,hh,h=>by
  unfold gQ at h
  by_cases hk:(k==QO)=true
  .rw[if_pos hk]at h
   obtain⟨d,hd⟩:=hh (n,k) Pc (by simpa using hk);rcases pQ (λy hy=>hh y (OZ _ hy)) h with h|h
   .rw[R5]at h
    cases e:x==n with
    |true=>
     rw[e]at h;rw[show cells.lookup n=some d from hd]at h;cases h;rw[eq_of_beq e];exact .inr hd
    |false=>rw[e]at h;exact .inl h
   .exact .inr h
  .rw[if_neg hk]at h
   exact pQ (λy hy=>hh y (OZ _ hy)) h
theorem mL{α:Type}{x:OO}:∀{l:List (OO×α)},(∃v,(x,v)∈l)->∃v,l.lookup x=some v
 |[],⟨v,h⟩=>by cases h
 |(n,w)::r,⟨v,h⟩=>by
  rw[R5];cases e:x==n with
  |true=>exact⟨w,rfl⟩
  |false=>
   rcases OU.mp h with h|h
   .cases h;simp at e
   .exact mL ⟨v,h⟩
theorem pS{cells:List (OO×OG)}{x:OO}{c:OG}:∀{names:List (OO×Qy)}{acc:List (OO×OG)},(x,c)∈acc->(x,c)∈gQ cells names acc
 |[],acc,h=>h
 |(n,k)::r,acc,h=>by
  unfold gQ
  by_cases hk:(k==QO)=true
  .rw[if_pos hk];exact pS (OZ _ h)
  .rw[if_neg hk];exact pS h
def pR{cells:List (OO×OG)}{x:OO}:∀{names:List (OO×Qy)}{acc:List (OO×OG)},(x,QO)∈names->∃c,(gQ cells names acc).lookup x=some c:=by
 intro names
 induction names with
 |nil=>intro acc h;cases h
 |cons y r ih=>
  intro acc h;obtain⟨n,k⟩:=y;unfold gQ;rcases OU.mp h with h|h
  .cases h
   rw[if_pos (by rfl)];exact mL ⟨_,pS Pc⟩
  .by_cases hk:(k==QO)=true
   .rw[if_pos hk];exact ih h
   .rw[if_neg hk];exact ih h
noncomputable def eD(X:Cx) (N:bv) (scope:RA) (s:OE) (H:Hp) (C:OG) (fp:List OG) (pn:List (OG×Obj)):Cx :=
 { X with N:=N,sf:=s,Ha:=H,env:=compEnvC scope (gQ X.env.cells scope.names []) C X.env,outer:=X.stack,stack:=X.stack,ex:=fp,fn:=λ_=>false,pn:=pn,xe:=λ_ _=>False }
def lr(n:Nat)(fr:cr)(σ:L2.St):L2.St:=O7 n none++fr.map λ(i:Nat)=>(σ[i]?).getD none
noncomputable def D2(X:Cx) (N:bv) (n:Nat) (fr:cr) (scope:RA):Prop :=
 N.length=n+fr.length/\((N.drop n).zip fr).all (λp=>X.N[p.2]?==some p.1&&X.env.scope.names.lookup p.1==some .cell&&scope.names.lookup p.1==some .free&&(relabel scope X.env).names.lookup p.1==some .cell)=true
theorem D2.at{X:Cx}{N:bv}{n:Nat}{fr:cr}{scope:RA}(h:D2 X N n fr scope){k:Nat}{x:OO}{v:V}{σ:L2.St}(hx:N[k]?=some x)(hv:(lr n fr σ)[k]?=some (some v)) :
  ∃i:Nat,X.N[i]?=some x/\σ[i]?=some (some v)/\X.env.scope.names.lookup x=some .cell/\scope.names.lookup x=some .free/\(relabel scope X.env).names.lookup x=some .cell:=by
 unfold lr at hv
 by_cases hk:k<n
 .rw[O8 (by simpa using hk),Pm,if_pos hk]at hv
  cases hv
 .rw[O9 (by simpa using hk),QD,OM]at hv
  cases hi:fr[k-n]? with
  |none=>rw[hi]at hv;cases hv
  |some i=>
   rw[hi]at hv;have hz:((N.drop n).zip fr)[k-n]?=some (x,i):=by
    rw[List.getElem?_zip_eq_some];exact⟨by rw[QQ,show n+(k-n)=k by omega];exact hx,hi⟩
   have:=Pr.mp h.2 _ (O1 hz);simp only[O4,beq_iff_eq]at this;refine⟨i,this.1.1.1,?_,this.1.1.2,this.1.2,this.2⟩;simp only[Q7,Qx]at hv;cases hs:σ[i]? with|none=>rw[hs]at hv;cases hv|some u=>rw[hs]at hv;exact congrArg some hv
noncomputable def Mt(X:Cx) (ifs:List Pd) (t:TT):Prop :=
 ∀(π:List (OG×Obj)) (s:OE) (σ:L2.St) (H:Hp) (Q:Bool->Hp->Prop),Inv X π σ H s->t σ H Q ->
  OS (OW X.prog X.w) X.A (forIn ifs true λc r=>if r=true then do let ok ←isTrue c X.env (eval c X.env);pure (RH ok) else pure (RH r)) (TP X π σ Q) X.xe s
def MT:TT:=λ_ H Q=>Q true H
def E3{X:Cx}:Mt X [] MT:=λ_ _ _ H _ I h=>wpAny_tests_nil ⟨H,I,h⟩
def E2{X:Cx}{c:Pd}{t:TT}(h:PT X c t):Mt X [c] t:=λπ s σ H Q I q=>wpAny_tests_one (h π s σ H Q I q)
theorem pL{prog:O5}{w:Pt}{A:Pu}{R:Tv->OE->Prop}{s:OE}{elt target iter:Pd}{ifs:List Pd}{scope:RA}{pos:Pos}{it acc:OB}{env:PQ}(I:Nat->OE->Prop)
  (turn:∀n s,I n s->OS (OW prog w) A (RQ it) (λr sg=>match r with
   |none=>R (.ok .next) sg
   |some v=>OS (OW prog w) A (letOwnedTupleGo target it v) (λ_ sg'=>OS (OW prog w) A (assign target env v) (λ_ si=>
     OS (OW prog w) A (forIn ifs true λc r=>if r=true then do let ok ←isTrue c env (eval c env);pure (RH ok) else pure (RH r)) (λok sj=>
      if ok=true then OS (OW prog w) A (eval elt env) (λx sk=>
       OS (OW prog w) A (call (.builtin "list.append") [acc,x]) (λ_ sq=>∃m,m<n/\I m sq) (λ_ _=>False) sk) (λ_ _=>False) sj
      else ∃m,m<n/\I m sj) (λ_ _=>False) si) (λ_ _=>False) sg') (λ_ _=>False) sg) (λ_ _=>False) s)
  (n:Nat) (h:I n s) :
  Rt (OW prog w) A (.compLoop (.ListComp elt [⟨target,iter,ifs,0⟩] scope pos) 0 it acc env) R s:=by
 refine codeAny_loop rfl I (λn s hI=>?_) n h;show OS _ A ((compTurn (.ListComp elt [⟨target,iter,ifs,0⟩] scope pos) 0 it acc env).onRaise (λx=>do noteFrame x env;theTreesLotGoes x)) _ _ s;refine wpAny_noted ?_;rw[compTurn_list];refine OC (wpAny_standAt (OC (PH (turn n s hI) (λr sg h₁=>?_) λ_ _ h'=>h'.elim)));cases r with
 |none=>exact ON h₁
 |some v=>
  refine OC (PH h₁ (λ_ sg' h₁'=>?_) λ_ _ h'=>h'.elim);refine OC (PH h₁' (λ_ si hV=>OC (PH hV (λok sj hW=>?_) λ_ _ h'=>h'.elim)) λ_ _ h'=>h'.elim);cases ok with
  |false=>exact ON ⟨rfl,hW⟩
  |true=>
   exact OC (OC (PH hW (λx sk h₄=>OC (PH h₄ (λ_ sq h₅=>ON (ON ⟨rfl,h₅⟩)) λ_ _ h'=>h'.elim)) λ_ _ h'=>h'.elim))
noncomputable def wm(n:Nat) (fr:cr) (g:TG) (tt:TT) (te:TE) (J:It) (σ:L2.St) (H1:Hp) (Q:VK):Prop:=∀D,H1 D=none->∃W:Nat->Nat->ad->L2.St->Hp->Prop,(∃m,W 0 m [] (lr n fr σ) (upd H1 D (.lst []))) /\
 ∀i m ys σ' H',W i m ys σ' H'->H' D=some (.lst ys)/\((J.stop i H'/\Q (.ref D) H')∨(J.go i H'/\ys.length<sizeLine/\∀x H2,J.yld i H' x H2->g x σ' H2 λσ3 H3=>tt σ3 H3 λb H4=>
  if b=true then te σ3 H4 λy H5=>H5 D=some (.lst ys)/\∃m',m' < m/\W (i+1) m' (ys++[y]) σ3 (upd H5 D (.lst (ys++[y])))
  else ∃m',m' < m/\W (i+1) m' ys σ3 H4))
def AL{X:Cx}{tg iter elt:Pd}{ifs:List Pd}{scope:RA}{pos:Pos}{N:bv}{n:Nat}{fr:cr}{g:TG}{tt:TT}{te:TE}(hc:X.calm=true)(hfr:D2 X N n fr scope)
  (hcell:∀x∈scope.names,x.2≠.cell)(hfree:∀x∈scope.names,x.2=.free->X.env.scope.names.lookup x.1=some .cell)(hkind:scope.kind=.function)
  (blk:∀s H C fp pn,PG (eD X N scope s H C fp pn) tg g/\Mt (eD X N scope s H C fp pn) ifs tt/\PE (eD X N scope s H C fp pn) elt te)
  {π:List (OG×Obj)}{σ:L2.St}{s2:OE}{Q:VK}{itv:OB}{RR:OB->OG->Tv->OE->Prop}
  (h2:NI X π σ tg (λJ H1=>wm n fr g tt te J σ H1 Q) itv s2)
  (fin:∀(Da C:OG) (s6:OE) (H5:Hp) (m:OO->Option OB),Inv X π σ H5 s6->s6.heap.Ns C m->mv X π H5 C->Q (.ref Da) H5->RR (.ref Da) C (.ok .next) s6) :
  OS (OW X.prog X.w) X.A (newList []) (λacc sj=>OS (OW X.prog X.w) X.A (newFunctionEnv scope X.env.globals (gQ X.env.cells scope.names []) [] X.env.qual none .none (some X.env)) (λcenv sk=>
   Rt (OW X.prog X.w) X.A (.compStart (.ListComp elt [⟨tg,iter,ifs,0⟩] scope pos) 0 itv acc { cenv with scope:=relabel scope X.env }) (RR acc cenv.locals) sk) X.xe sj) X.xe s2:=by
 obtain⟨it,fp,tn,J,H2,e,I2,T,st2,f2,q⟩:=h2;subst e;have hD:H2 s2.heap.objs.size=none:=I2.fresh;refine wpAny_newObj_type ?_;have I3:Inv X π σ (upd H2 s2.heap.objs.size (.lst [])) { s2 with heap:=s2.heap.push { cls:=.type "list",data:=.seq ([]:List OB).toArray } }:=I2.lnew (t':=s2.toks) (its:=[]) .nil (RP _);obtain⟨W,⟨m0,w0⟩,turn⟩:=q s2.heap.objs.size hD;generalize hs3:({ s2 with heap:=s2.heap.push { cls:=.type "list",data:=.seq ([]:List OB).toArray } }:OE)=s3 at I3 ⊢;have hs3h:s3.heap=s2.heap.push { cls:=.type "list",data:=.seq ([]:List OB).toArray }:=by rw[←hs3]
 have hDs:s2.heap.objs.size<s3.heap.objs.size:=by rw[hs3h,Ro];exact Rv _
 have fpl:∀b∈fp,b<s2.heap.objs.size:=λb hb=>by
  obtain⟨o,ho,_⟩:=T.obj _ _ st2 b hb;exact OT ho
 have kept3:∀b o,s2.heap.get? b=some o->s3.heap.get? b=some o:=λb o e=>by rw[hs3h];exact OD _ e
 have st3:tn 0 s3.heap:=T.keep _ _ _ st2 λb _ o e=>kept3 b o e;generalize hDa:s2.heap.objs.size=Da at *;generalize hH3:upd H2 Da (.lst [])=H3 at *;have fr3:∀b∈fp,H3 b=none:=λb hb=>by rw[←hH3,aE (Pj (fpl b hb))];exact(f2 b hb).1
 have cls:∀x c,(gQ X.env.cells scope.names []).lookup x=some c->X.env.cells.lookup x=some c:=λx c e=>by
  rcases pQ (λy hy hf=>I3.ok.has y.1 (.inl (hfree y hy hf))) e with e|e
  .cases e
  .exact e
 refine wpAny_newFunctionEnv hcell (by intro y hy;simp at hy) (λh4 ns4 sb4=>?_) hkind;have k4:∀b o,s3.heap.get? b=some o->h4.get? b=some o:=λb o e=>(sb4.2 b (Pj (OT e))).trans (OD _ e);generalize hC:s3.heap.objs.size=C at *;have hCn:H3 C=none:=I3.hok.fresh (by rw[hC];exact O0 _);have ltC:∀b o,s3.heap.get? b=some o->b≠C:=λb o e=>by rw[←hC];exact Pj (OT e)
 have cellC:∀x c,X.env.cells.lookup x=some c->c≠C:=λx c e=>by
  obtain⟨v,o,ho,_⟩:=I3.cell x c e;exact ltC c o ho
 have fpC:∀b∈fp,b≠C:=λb hb=>by
  have:=fpl b hb;exact Pj (Nat.lt_trans this hDs)
 show Rt (OW X.prog X.w) X.A (.compStart (.ListComp elt [⟨tg,iter,ifs,0⟩] scope pos) 0 (.ref it) (.ref Da) (compEnvC scope (gQ X.env.cells scope.names []) C X.env)) _ _;generalize hs4:({ s3 with heap:=h4,toks:=s3.toks+([]:List (OO×OB)).length }:OE)=s4;have hs4h:s4.heap=h4:=by rw[←hs4]
 have ok:(eD X N scope s3 H3 C fp (X.pn++π)).Ok:=by
  refine⟨I3.ok.mod,hkind,I3.ok.glob,I3.ok.blt,Nat.le_of_eq hC,λx y c e1 e2=>I3.ok.inj x y c (cls x c e1) (cls y c e2),λx e=>?_,λx c e=>?_,λ_=>I3.ok.hd hc,I3.ok.frames,.inl rfl,λb hb=>⟨fpC b hb,λx c e=>(f2 b hb).2.2.2.2.1 x c (cls x c e)⟩,I3.bs,Pe I3.ok.bsz I3.sz,λb o e hb=>?_,λb hb z=>?_,I3.stack,I3.stkFree⟩
  .have mm:∀k:Qy,(relabel scope X.env).names.lookup x=some k->(k=.cell∨k=.free)->(x,QO)∈scope.names:=λk hk hk2=>by
    have hm:=QN hk;obtain⟨⟨n',k'⟩,hm1,hm2⟩:=Pp.mp hm;dsimp only at hm2;split at hm2
    .rename_i hcnd
     cases hm2;simp only[O4,beq_iff_eq]at hcnd;rw[hcnd.1.1]at hm1;exact hm1
    .cases hm2
     rcases hk2 with rfl|rfl
     .exact absurd rfl (hcell _ hm1)
     .exact hm1
   rcases e with e|e
   .exact pR (mm _ e (.inl rfl))
   .exact pR (mm _ e (.inr rfl))
  .cases e
  .rcases(f2 b hb).2.2.2.1 with z|z
   .exact I3.ok.noex b o e z
   .exact absurd (OR (OT e) (Pe I3.ok.bsz z)) (RC _)
  .rcases OU.mp (I3.stkSub b z) with z|z
   .exact(f2 b hb).2.1 z
   .exact(f2 b hb).2.2.1 z
 have I4:Inv (eD X N scope s3 H3 C fp (X.pn++π)) [] (lr n fr σ) H3 s4:=by
  refine⟨ok,by rw[←hs4];rfl,by rw[←hs4];exact I3.bare,by rw[hs4h];exact Un.kept k4,⟨_,by rw[hs4h];exact ns4,λi x v h1 h2 h3=>?_⟩,λx c e=>?_,hCn,λx c e=>I3.freeC x c (cls x c e),λp hp=>?_,by rw[hs4h];exact I3.hok.kept k4,?_⟩
  .obtain⟨j,j1,j2,j3,j4,j5⟩:=hfr.at h1 h2
   obtain⟨m,hn,hl⟩:=I3.loc;obtain⟨u,ru,l⟩:=hl j x v j1 j2 (.inr (.inl j3));refine⟨u,ru,.inr ⟨.inl j5,?_⟩⟩;rcases l with⟨z,_⟩|⟨_,c,z1,z2⟩
   .rw[show X.env.kindOf x=X.env.scope.names.lookup x from rfl,j3]at z;cases z
   .obtain⟨c',hc'⟩:=pR (cells:=X.env.cells) (names:=scope.names) (acc:=[]) (QN j4)
    have:=cls x c' hc';rw[z1]at this;cases this;obtain⟨oc,q1,q2⟩:=z2;exact⟨c,hc',oc,by rw[hs4h];exact k4 _ _ q1,q2⟩
  .obtain⟨v,oc,q1,q2⟩:=I3.cell x c (cls x c e)
   exact⟨v,oc,by rw[hs4h];exact k4 _ _ q1,q2⟩
  .rw[QM]at hp
   obtain⟨p1,p2,p3,p4,p5⟩:=I3.pin p hp;refine⟨by rw[hs4h];exact k4 _ _ p1,p2,ltC _ _ p1,λz=>?_,p5⟩;rcases OU.mp (I3.stkSub _ z) with z|z
   .exact p3 z
   .exact p4 z
  .show(lr n fr σ).length=N.length
   unfold lr;rw[PU,QD,OH,hfr.1]
 have st4:tn 0 s4.heap:=by rw[hs4h];exact T.keep _ _ _ st3 λb _ o e=>k4 b o e
 have stat:∀{H':Hp},(∀b∈fp,H' b=none)->∀b∈fp,mv (eD X N scope s3 H3 C fp (X.pn++π)) [] H' b:=λhn b hb=>by
  refine⟨hn b hb,fpC b hb,λz=>?_,.inl hb,λx c e=>(f2 b hb).2.2.2.2.1 x c (cls x c e),λp hp=>?_⟩
  .rcases OU.mp (I3.stkSub b z) with z|z
   .exact(f2 b hb).2.1 z
   .exact(f2 b hb).2.2.1 z
  .rw[QM]at hp
   exact(f2 b hb).2.2.2.2.2 p hp
 have loop:Rt (OW X.prog X.w) X.A (.compLoop (.ListComp elt [⟨tg,iter,ifs,0⟩] scope pos) 0 (.ref it) (.ref Da) (compEnvC scope (gQ X.env.cells scope.names []) C X.env)) (RR (.ref Da) C) s4:=by
  refine pL (λn s'=>∃i ys σ' H',Inv (eD X N scope s3 H3 C fp (X.pn++π)) [] σ' H' s'/\tn i s'.heap/\(∀b∈fp,H' b=none)/\W i n ys σ' H') ?_ m0 ⟨0,[],_,H3,I4,st4,fr3,w0⟩;rintro k s5 ⟨i,ys,σ5,H5,I5,st5,fr5,w5⟩;obtain⟨hDl,ways⟩:=turn i k ys σ5 H5 w5;rcases ways with⟨stop,fin'⟩|⟨go,hz,step⟩
  .refine cM (T.done (eD X N scope s3 H3 C fp (X.pn++π)) rfl rfl rfl hc i [] s5 σ5 H5 (λ_ _=>False) I5 (stat fr5) st5 stop) λr s6 ⟨hr,I6⟩=>?_
   subst hr;obtain⟨mm,nsm,_⟩:=I6.loc;have free6:H5 C=none:=I6.free;have hok:fv X.prog X.w H5 s6.heap:=I6.hok;have un:Un (fH X.stack) fp H3 H5 s3.heap s6.heap:=I6.base;have IX:Inv X π σ H5 s6:=I3.call' (s':=s6) (ch:=fp) I6.os un hok I6.bare (λb hb=>⟨(f2 b hb).2.2.2.1,(f2 b hb).2.1,(f2 b hb).2.2.2.2.1,(f2 b hb).2.2.2.2.2⟩);have fC:mv X π H5 C:=I3.fpOk (b:=C) (H':=H5) (by rw[hC];exact O0 _) free6;exact fin Da C s6 H5 mm IX nsm fC fin'
  .refine cM (T.item (eD X N scope s3 H3 C fp (X.pn++π)) rfl rfl rfl hc i [] s5 σ5 H5 (λ_ _=>False) I5 (stat fr5) st5 go) λr s6 ⟨u,hr,h6⟩=>?_
   subst hr;refine cM h6 λ_ s7 ⟨x,H7,I7,r7,y7,st7,fr7⟩=>?_;have I7':=I7.pinned (stat fr7) (T.obj _ _ st7);refine cM ((blk s3 H3 C fp (X.pn++π)).1 _ s7 σ5 H7 x u _ I7' r7 (step x H7 y7)) λ_ s8 ⟨σ8,H8,I8,q8⟩=>?_;refine cM ((blk s3 H3 C fp (X.pn++π)).2.1 _ s8 σ8 H8 _ I8 q8) λb s8b ⟨H8b,I8b,q8b⟩=>?_;have back:∀{σ':L2.St}{H':Hp}{s':OE},L2.Inv (eD X N scope s3 H3 C fp (X.pn++π)) (([]:List (OG×Obj))++oM fp s7.heap) σ' H' s'->tn (i+1) s'.heap/\∀b∈fp,H' b=none:=λ{σ' H' s'} I'=>by
    refine⟨T.keep _ _ _ st7 λb hb o e=>(I'.pin (b,o) (P0 _ (P0 _ (iC hb e)))).1,λb hb=>?_⟩;obtain⟨o,e,d⟩:=T.obj _ _ st7 b hb;exact(I'.pin (b,o) (P0 _ (P0 _ (iC hb e)))).2.1
   cases b with
   |false=>
    rw[if_neg Qj]at q8b ⊢;obtain⟨m',hm,w9⟩:=q8b;exact⟨m',hm,i+1,ys,σ8,_,I8b.unpinned,(back I8b).1,(back I8b).2,w9⟩
   |true=>
    rw[if_pos rfl]at q8b ⊢;refine cM ((blk s3 H3 C fp (X.pn++π)).2.2 _ s8b σ8 H8b _ I8b q8b) λy s9 ⟨yv,H9,I9,r9,hD9,m',hm,w9⟩=>?_;refine cM (lY (X:=eD X N scope s3 H3 C fp (X.pn++π)) _ s9 σ8 H9 (.ref Da) [yv] (.ref Da) [y] (λv H'=>H'=upd H9 Da (.lst (ys++[yv]))) I9 rfl (.cons r9 .nil) ⟨Da,ys,yv,rfl,rfl,hD9,hz,rfl⟩) λ_ s10 ⟨v10,H10,I10,_,e10⟩=>?_;subst e10;exact⟨m',hm,i+1,ys++[yv],σ8,_,I10.unpinned,(back I10).1,(back I10).2,w9⟩
 exact codeAny_compStart_list loop (T.self _ 0 _ _ _ st4 loop)
structure Kr (K:OF) (ds:ac) (J:It) (Ha:Hp):Prop where
 go:∀(i:Nat) (H' Ha':Hp),aF Ha Ha'->aF Ha' H'->i<ds.length->J.go i H'
 yld:∀(i:Nat) (H' Ha':Hp) (x:V) (H2:Hp) (d:D),aF Ha Ha'->aF Ha' H'->ds[i]?=some d->J.yld i H' x H2->∃H₀2,bf H' Ha' H2 H₀2/\Rep K H₀2 d x
 stop:∀(i:Nat) (H' Ha':Hp),aF Ha Ha'->aF Ha' H'->ds.length<=i->J.stop i H'
noncomputable def Oe(K:OF) (E:XK) (src:Ev->aj (ac)):TI:=λσ H R=>∃Ha ρ,aF Ha H/\eU K Ha σ ρ/\match src ρ with
 |.ok ds=>∀J H' Ha',bf H Ha H' Ha'->Kr K ds J Ha'->R J H'
 |.exn x=>∀C ox H' Ha',bf H Ha H' Ha'->tY K Ha' x C ox->E C ox H'
 |.stuck=>False
structure DI (X:Cx) (E:XK) (tg iter:Pd) (src:Ev->aj (ac)):Prop where
 o:PI X tg iter (Oe X.K E src)
def jK{X:Cx}{tg iter:Pd}{t t':TI}(h:PI X tg iter t)(w:∀σ H R,t' σ H R->t σ H R):PI X tg iter t':=λπ s σ H R I q=>h π s σ H R I (w σ H R q)
def EH(f:al):Ev->aj (ac):=λρ=>(f ρ).bind λd=>match d with
 |.lst ds=>.ok ds
 |_=>.stuck
def EG(f:al):Ev->aj (ac):=λρ=>(f ρ).bind λd=>match d with
 |.str z=>.ok (jd z)
 |_=>.stuck
def uC(f:al):Ev->aj (ac):=λρ=>(f ρ).bind λd=>match d with
 |.int j=>if -4611686018427387904<=j/\j<4611686018427387904 then .ok (intsFrom 0 j.toNat) else .stuck
 |_=>.stuck
section
variable {X:Cx}{E:XK}{tg e a b:Pd}{f g:al}
def Gw(h:DE X E e f):DI X E tg e (EH f):=by
 refine⟨jK (yr h.o) λσ H R z9=>?_⟩;obtain⟨Ha,ρ,hs,hr,q⟩:=z9;refine⟨Ha,ρ,hs,hr,?_⟩;unfold EH at q;cases e1:f ρ with
 |stuck|exn x=>rw[e1]at q;exact q
 |ok d=>
  rw[e1]at q;intro v H1 H01 g1 r1;cases d with
  |lst ds=>
   obtain⟨p,vs,rfl,hv,hrv⟩:=aA.mp r1;refine⟨p,rfl,⟨vs,aF.sqL g1.sub hv⟩,q _ H1 H01 g1 ⟨λi H' Ha' s1 s2 hi=>?_,λi H' Ha' x H2 d s1 s2 hd hy=>?_,λi H' Ha' s1 s2 hi=>?_⟩⟩
   .exact⟨vs,vs[i]'(by rw[←hrv.length];exact hi),aF.sqL (s1.trans s2) hv,by simp⟩
   .obtain⟨rfl,hy⟩:=hy
    obtain⟨u,k1,k2⟩:=hrv.get hd;have:=hy vs (aF.sqL (s1.trans s2) hv);rw[k1]at this;cases this;exact⟨Ha',bf.refl s2,k2.mono s1⟩
   .exact⟨vs,aF.sqL (s1.trans s2) hv,by rw[←hrv.length];exact hi⟩
  |_=>exact q.elim
def J2(h:DE X E e f):DI X E tg e (EG f):=by
 refine⟨jK (IG h.o) λσ H R z9=>?_⟩;obtain⟨Ha,ρ,hs,hr,q⟩:=z9;refine⟨Ha,ρ,hs,hr,?_⟩;unfold EG at q;cases e1:f ρ with
 |stuck|exn x=>rw[e1]at q;exact q
 |ok d=>
  rw[e1]at q;intro v H1 H01 g1 r1;cases d with
  |str z=>
   refine⟨z,Rep.str_iff.mp r1,q _ H1 H01 g1 ⟨λi H' Ha' s1 s2 hi=>?_,λi H' Ha' x H2 d s1 s2 hd hy=>?_,λi H' Ha' s1 s2 hi=>?_⟩⟩
   .rw[kl]at hi;exact hi
   .obtain⟨rfl,c,hc,rfl⟩:=hy
    have:d=.str ⟨#[c]⟩:=by
     unfold jd at hd;rw[OM]at hd;have h2:z.cps.toList[i]?=some c:=by simpa using hc
     rw[h2]at hd;cases hd;rfl
    subst this;exact⟨Ha',bf.refl s2,Rep.str_iff.mpr rfl⟩
   .rw[kl]at hi;exact hi
  |_=>exact q.elim
def As{K:OF}{lo:Int}{n:Nat}{H:Hp}:Kr K (intsFrom lo n) (jU lo n) H:=by
 have hl:(intsFrom lo n).length=n:=by unfold intsFrom;simp
 refine⟨λi H' Ha' _ _ hi=>?_,λi H' Ha' x H2 d s1 s2 hd hy=>?_,λi H' Ha' _ _ hi=>?_⟩
 .rw[hl]at hi;exact hi
 .obtain⟨rfl,rfl⟩:=hy
  have:d=.int (lo+i):=by
   unfold intsFrom at hd;rw[OM]at hd;cases e:(PL n)[i]? with
   |none=>rw[e]at hd;cases hd
   |some k=>
    rw[e]at hd;have hk:k=i:=by
     obtain⟨h1,h2⟩:=OP.mp e;simpa using h2.symm
    subst hk;cases hd;rfl
  subst this;exact⟨Ha',bf.refl s2,aD.mpr rfl⟩
 .rw[hl]at hi;exact hi
def AD{p pos:Pos}(hg:Gl X "range")(hm:X.mg "range"=none)(h:DE X E a f)(hn:D7 a=true:=by exact rfl):DI X E tg (.Call (.Name "range" p) [a] [] pos) (uC f):=by
 refine⟨jK (qY hg hm (cw h.o eF (cX hn)) (cX hn)) λσ H R z9=>?_⟩;obtain⟨Ha,ρ,hs,hr,q⟩:=z9;refine⟨Ha,ρ,hs,hr,?_⟩;unfold uC at q;cases e1:f ρ with
 |stuck|exn x=>rw[e1]at q;exact q
 |ok d=>
  rw[e1]at q;intro v H1 H01 g1 r1;cases d with
  |int j=>
   replace q:match (if -4611686018427387904<=j/\j<4611686018427387904 then aj.ok (intsFrom 0 j.toNat) else .stuck) with
    |.ok ds=>∀J H' Ha',bf H Ha H' Ha'->Kr X.K ds J Ha'->R J H'
    |.exn x=>∀C ox H' Ha',bf H Ha H' Ha'->tY X.K Ha' x C ox->E C ox H'
    |.stuck=>False:=q
   by_cases hj:-4611686018427387904<=j/\j<4611686018427387904
   .rw[if_pos hj]at q
    rw[aD.mp r1];exact⟨j,rfl,hj.1,hj.2,q _ H1 H01 g1 As⟩
   .rw[if_neg hj]at q;exact q.elim
  |_=>exact q.elim
end
def gW(src:Ev->aj (ac))(tg:Ev->D->aj Ev)(s:am):am:=λρ=>(src ρ).bind λds=>cW tg s ds ρ
section
variable {X:Cx}{E:XK}{He η:Hp}{st:Qt}{s:am}{pos:Pos}
def vX{K:OF}{Hb Ha:Hp}{tg:Ev->D->aj Ev}{ds:ac}{D':gr}{i:Nat}{σ:L2.St}{H:Hp}{d:D}{v:V}{ρ:Ev}(z:aF Hb Ha)(h:dJ K He η Ha σ H ρ)(q:bM K E He η Ha (cW tg s (ds.drop i) ρ) D')(hd:ds[i]?=some d)(rv:Rep K Ha d v)
  (he:∀ρ,tg ρ d=.stuck∨∃ρ',tg ρ d=.ok ρ') :
  tG K He η tg v σ H λσ2 H2=>tS K E He η s { D' with nx:=gJ K E He η Hb tg s ds D' (i+1),ct:=gJ K E He η Hb tg s ds D' (i+1),bk:=D'.nx } σ2 H2:=by
 have hi:i<ds.length:=(OP.mp hd).1;have hdr:ds.drop i=d::ds.drop (i+1):=by
  rw[QC hi];rw[OI hi]at hd;cases hd;rfl
 rw[hdr]at q;refine⟨Ha,ρ,d,h,rv,?_⟩;unfold cW at q;rcases he ρ with e1|⟨ρ1,e1⟩
 .rw[e1]at q;exact q.elim
 .rw[e1]at q ⊢
  intro σ' H' Ha' z' h';refine⟨Ha',ρ1,h',?_⟩;replace q:=bM.grow (r:=(s ρ1).bind λx=>match x with
   |.nx ρ2=>cW tg s (ds.drop (i+1)) ρ2
   |.ct ρ2=>cW tg s (ds.drop (i+1)) ρ2
   |.bk ρ2=>.ok (.nx ρ2)
   |.rt d=>.ok (.rt d)) q z'
  cases e2:s ρ1 with
  |stuck|exn x=>rw[e2]at q;exact q
  |ok r=>
   rw[e2]at q;cases r with|nx ρ2=>exact λσ3 H3 H03 z3 h3=>⟨H03,ρ2,(z.trans z').trans z3,h3,bM.grow (r:=cW tg s (ds.drop (i+1)) ρ2) q z3⟩|ct ρ2=>exact λσ3 H3 H03 z3 h3=>⟨H03,ρ2,(z.trans z').trans z3,h3,bM.grow (r:=cW tg s (ds.drop (i+1)) ρ2) q z3⟩|bk ρ2|rt d=>exact q
def nT{tgt iter:Pd}{body:List Qt}{tg:Ev->D->aj Ev}{src:Ev->aj (ac)}(hp:PassesOwn (OW X.prog X.w) X.A X.env X.xe)(hc:X.calm=true)(hi:DI X E tgt iter src)(hg:DG X E He η tgt tg)(ht:vT tg)(hb:wb X E He η body s)
  (hs:∀x,foldedSetIterable iter X.env x=pure x:=by intro _;rfl):DS X E He η (.For tgt iter body [] pos) (gW src tg s):=by
 refine⟨cu (wG hp hc hi.o hg.o hb.o hs) λD' σ H z9=>?_⟩;obtain⟨Ha,ρ,h,q⟩:=z9;refine⟨Ha,ρ,h.g.sub,h.rd,?_⟩;unfold gW at q;cases e1:src ρ with
 |stuck=>rw[e1]at q;exact q|exn x=>rw[e1]at q;exact λC ox H' Ha' g r=>q C ox H' Ha' (h.g.trans g) r
 |ok ds=>
  rw[e1]at q;intro J H1 H01 g it;have q1:bM X.K E He η H01 (cW tg s ds ρ) D':=bM.grow (r:=cW tg s ds ρ) q g.z;refine⟨λi m σ' H'=>m+i=ds.length/\gJ X.K E He η H01 tg s ds D' i σ' H',⟨ds.length,rfl,H01,ρ,aF.refl _,h.grow g,q1⟩,?_⟩;rintro i m σ' H' ⟨hm,Ha',ρ',z,h',hq⟩
  by_cases hlt:i<ds.length
  .refine .inr ⟨it.go i H' Ha' z h'.g.sub hlt,λσ2 H2=>gJ X.K E He η H01 tg s ds D' (i+1) σ2 H2,λσ2 H2 hl=>⟨m-1,by omega,by omega,hl⟩,λx H2 hy=>?_⟩
   obtain⟨H₀2,g2,rp⟩:=it.yld i H' Ha' x H2 ds[i] z h'.g.sub (OI hlt) hy;exact vX (z.trans g2.z) (h'.grow g2) (bM.grow (r:=cW tg s (ds.drop i) ρ') hq g2.z) (OI hlt) rp λρ=>ht ρ _
  .have e:i=ds.length:=by omega
   refine .inl ⟨it.stop i H' Ha' z h'.g.sub (by omega),?_⟩;subst e;exact gJ.done ⟨Ha',ρ',z,h',hq⟩
end
def lI(f:al):Prop:=∀ρ d,f ρ=.ok d->∃ds,d=.lst ds
def uy{K:OF}{E:XK}{f:al}(hf:lI f){σ:L2.St}{H:Hp}{Q:VK}(h:tD K E f σ H Q):tF K E f σ H Q:=by
 obtain⟨Ha,ρ,hs,hr,q⟩:=h;refine⟨Ha,ρ,hs,hr,?_⟩;cases e1:f ρ with
 |stuck|exn x=>rw[e1]at q;exact q
 |ok d=>
  obtain⟨ds,rfl⟩:=hf ρ d e1;rw[e1]at q;intro p vs H' Ha' g hp h0 hv rp;have n0:Ha p=none:=hs.free hp;refine q (.ref p) H' (upd Ha' p (.lst vs)) ⟨g.s,λb o e=>?_,λb o e=>?_,λb k1 k2=>?_⟩ (aA.mpr ⟨p,vs,rfl,df.of aG,rp.mono λb o e=>?_⟩)
  .rw[aE (by intro z;subst z;rw[n0]at e;cases e)];exact g.z _ _ e
  .by_cases hb:b=p
   .subst hb;rw[aG]at e;cases e;exact hv
   .rw[aE hb]at e;exact g.sub _ _ e
  .by_cases hb:b=p
   .subst hb;exact hp
   .rw[aE hb]at k1;exact g.nw b k1 k2
  .rw[aE (by intro z;subst z;rw[h0]at e;cases e)];exact e
def Dy{X:Cx}{E:XK}{e:Pd}{f:al}(hf:lI f)(h:DF X E e f):DE X E e f:=⟨aX h.o λσ H Q q=>uy hf q⟩
def cZ(n:Nat)(fr:cr)(ρ:Ev):Ev:=O7 n .no++fr.map λ(i:Nat)=>match ρ[i]? with
 |some (.sh d)=>.sh d
 |_=>.no
noncomputable def bU(b:Ev) (tg:Ev->D->aj Ev) (tt fe:al):ac->aj (ac)
 |[]=>.ok []
 |d::r=>(tg b d).bind λρ1=>(tt ρ1).bind λt=>match t with
  |.bl true=>(fe ρ1).bind λx=>(bU b tg tt fe r).bind λxs=>.ok (x::xs)
  |.bl false=>bU b tg tt fe r
  |_=>.stuck
def eC(n:Nat)(fr:cr)(src:Ev->aj (ac))(tg:Ev->D->aj Ev)(tt fe:al):al:=λρ=>(src ρ).bind λds=>
 if ds.length<=line then match bU (cZ n fr ρ) tg tt fe ds with
  |.ok es=>.ok (.lst es)
  |_=>.stuck
 else .stuck
def l9{n:Nat}{fr:cr}{src:Ev->aj (ac)}{tg:Ev->D->aj Ev}{tt fe:al}:lI (eC n fr src tg tt fe):=λρ d h=>by
 unfold eC at h;cases e1:src ρ with
 |stuck|exn x=>rw[e1]at h;cases h
 |ok ds=>
  rw[e1]at h;replace h:(if ds.length<=line then match bU (cZ n fr ρ) tg tt fe ds with
   |.ok es=>aj.ok (D.lst es)
   |_=>.stuck else .stuck)=.ok d:=h
  split at h
  .split at h
   .cases h;exact⟨_,rfl⟩
   .cases h
  .cases h
def iO{b:Ev}{tg:Ev->D->aj Ev}{tt fe:al}{d:D}{r es:ac}(h:bU b tg tt fe (d::r)=.ok es) :
  ∃ρ1 t,tg b d=.ok ρ1/\tt ρ1=.ok (.bl t)/\((t=true/\∃x xs,fe ρ1=.ok x/\bU b tg tt fe r=.ok xs/\es=x::xs)∨(t=false/\bU b tg tt fe r=.ok es)):=by
 unfold bU at h;cases e1:tg b d with
 |stuck|exn z=>rw[e1]at h;cases h
 |ok ρ1=>
  rw[e1]at h;replace h:((tt ρ1).bind λt=>match t with
   |.bl true=>(fe ρ1).bind λx=>(bU b tg tt fe r).bind λxs=>aj.ok (x::xs)
   |.bl false=>bU b tg tt fe r
   |_=>.stuck)=.ok es:=h
  cases e2:tt ρ1 with
  |stuck|exn z=>rw[e2]at h;cases h
  |ok t=>
   rw[e2]at h;cases t with
   |bl t=>
    cases t with
    |true=>
     replace h:((fe ρ1).bind λx=>(bU b tg tt fe r).bind λxs=>aj.ok (x::xs))=.ok es:=h;cases e3:fe ρ1 with
     |stuck|exn z=>rw[e3]at h;cases h
     |ok x=>
      rw[e3]at h;replace h:((bU b tg tt fe r).bind λxs=>aj.ok (x::xs))=.ok es:=h;cases e4:bU b tg tt fe r with|stuck|exn z=>rw[e4]at h;cases h|ok xs=>rw[e4]at h;cases h;exact⟨ρ1,true,rfl,e2,.inl ⟨rfl,x,xs,e3,rfl,rfl⟩⟩
    |false=>exact⟨ρ1,false,rfl,e2,.inr ⟨rfl,h⟩⟩
   |_=>cases h
def iu{b:Ev}{tg:Ev->D->aj Ev}{tt fe:al}{d x:D}{r:ac}{ρ1:Ev}(h1:tg b d=.ok ρ1)(h2:tt ρ1=.ok (.bl true))(h3:fe ρ1=.ok x):bU b tg tt fe (d::r)=(bU b tg tt fe r).bind λxs=>.ok (x::xs):=by
 rw[bU,h1];simp only[aj.bind,h2,h3]
def pM{b:Ev}{tg:Ev->D->aj Ev}{tt fe:al}{d:D}{r:ac}{ρ1:Ev}(h1:tg b d=.ok ρ1)(h2:tt ρ1=.ok (.bl false)):bU b tg tt fe (d::r)=bU b tg tt fe r:=by
 rw[bU,h1];simp only[aj.bind,h2]
theorem ma{b:Ev}{tg:Ev->D->aj Ev}{tt fe:al}:∀{r q es:ac},bU b tg tt fe (r++q)=.ok es->∃e1 e2,bU b tg tt fe r=.ok e1/\bU b tg tt fe q=.ok e2/\es=e1++e2
 |[],q,es,h=>⟨[],es,rfl,h,rfl⟩
 |d::r,q,es,h=>by
  obtain⟨ρ1,t,h1,h2,h3⟩:=iO h;rcases h3 with⟨rfl,x,xs,h3,h4,rfl⟩|⟨rfl,h4⟩
  .obtain⟨e1,e2,k1,k2,rfl⟩:=ma h4
   refine⟨x::e1,e2,?_,k2,rfl⟩;rw[iu h1 h2 h3,k1];rfl
  .obtain⟨e1,e2,k1,k2,rfl⟩:=ma h4
   refine⟨e1,e2,?_,k2,rfl⟩;rw[pM h1 h2];exact k1
theorem iN{b:Ev}{tg:Ev->D->aj Ev}{tt fe:al}:∀{r q e1 e2:ac},bU b tg tt fe r=.ok e1->bU b tg tt fe q=.ok e2->bU b tg tt fe (r++q)=.ok (e1++e2)
 |[],q,e1,e2,h,h'=>by cases h;exact h'
 |d::r,q,e1,e2,h,h'=>by
  obtain⟨ρ1,t,h1,h2,h3⟩:=iO h;show bU b tg tt fe (d::(r++q))=_;rcases h3 with⟨rfl,x,xs,h3,h4,rfl⟩|⟨rfl,h4⟩
  .rw[iu h1 h2 h3,iN h4 h'];rfl
  .rw[pM h1 h2];exact iN h4 h'
theorem pO{b:Ev}{tg:Ev->D->aj Ev}{tt fe:al}:∀{r es:ac},bU b tg tt fe r=.ok es->es.length<=r.length
 |[],es,h=>by cases h;exact O0 _
 |d::r,es,h=>by
  obtain⟨ρ1,t,h1,h2,h3⟩:=iO h;rcases h3 with⟨rfl,x,xs,h3,h4,rfl⟩|⟨rfl,h4⟩
  .exact Nat.succ_le_succ (pO h4)
  .exact Nat.le_succ_of_le (pO h4)
def DZ(n:Nat)(tg:Ev->D->aj Ev):Prop:=∀ρ d ρ',tg ρ d=.ok ρ'->ρ'.length=ρ.length/\∀(k:Nat),n<=k->ρ'[k]?=ρ[k]?
def og{i n:Nat}(h:i<n):DZ n (eM i):=λρ d ρ' e=>by
 cases e;exact⟨by simp,λk hk=>by rw[OQ (by omega)]⟩
theorem kF{n:Nat}:∀{is:cr}{ds:ac}{ρ:Ev},(is.all λi=>decide (i<n))=true->(cH ρ is ds).length=ρ.length/\∀(k:Nat),n<=k->(cH ρ is ds)[k]?=ρ[k]?
 |[],ds,ρ,_=>by unfold cH;exact⟨rfl,λ_ _=>rfl⟩
 |i::is,[],ρ,_=>by unfold cH;exact⟨rfl,λ_ _=>rfl⟩
 |i::is,d::ds,ρ,h=>by
  rw[Rc,O4,decide_eq_true_eq]at h;unfold cH;obtain⟨h1,h2⟩:=kF (ds:=ds) (ρ:=ρ.set i (.sh d)) h.2;exact⟨by rw[h1];simp,λk hk=>by rw[h2 k hk,OQ (by omega)]⟩
def kB{n:Nat}{is:cr}(h:(is.all λi=>decide (i<n))=true):DZ n (dy is):=λρ d ρ' e=>by
 unfold dy at e;cases hp:fj is.length d with|none=>rw[hp]at e;cases e|some ds=>rw[hp]at e;cases e;exact kF h
def xN{K:OF}{Ha:Hp}{σ:L2.St}{ρ:Ev}{n:Nat}{fr:cr}(h:eU K Ha σ ρ):eU K Ha (lr n fr σ) (cZ n fr ρ):=λi d e=>by
 unfold cZ at e;unfold lr
 by_cases hi:i<n
 .rw[O8 (by simpa using hi),Pm,if_pos hi]at e
  cases e
 .rw[O9 (by simpa using hi),QD,OM]at e ⊢
  cases hf:fr[i-n]? with
  |none=>rw[hf]at e;cases e
  |some j=>
   rw[hf]at e;simp only[Q7,Qx]at e ⊢;cases hj:ρ[j]? with
   |none=>rw[hj]at e;cases e
   |some s=>
    rw[hj]at e;cases s with
    |sh d'=>
     cases e;obtain⟨v,h1,h2⟩:=h j d hj;exact⟨v,by rw[h1];rfl,h2⟩
    |_=>cases e
def GS{n:Nat}{fr:cr}{ρ:Ev}{k:Nat}(h:k<n):(cZ n fr ρ)[k]?=some .no:=by
 unfold cZ;rw[O8 (by simpa using h),Pm,if_pos h]
def DQ{n:Nat}{fr:cr}{ρ:Ev}(i j:Nat)(es:ac):(cZ n fr ρ)[i]?≠some (.ox j es):=λe=>by
 unfold cZ at e
 by_cases hj:i<n
 .rw[O8 (by simpa using hj),Pm,if_pos hj]at e;cases e
 .rw[O9 (by simpa using hj),OM]at e
  cases hf:fr[i-(O7 n Sl.no).length]? with
  |none=>rw[hf]at e;cases e
  |some z=>
   rw[hf]at e;simp only[Q7,Qx]at e;split at e<;>cases e
def AU{n:Nat}{fr:cr}{ρ:Ev}{σ:L2.St}(i:Nat)(a:OG)(e:(cZ n fr ρ)[i]?=some (.pt a)):σ[i]?=some (some (.ref a)):=by
 unfold cZ at e
 by_cases hj:i<n
 .rw[O8 (by simpa using hj),Pm,if_pos hj]at e;cases e
 .rw[O9 (by simpa using hj),OM]at e
  cases hf:fr[i-(O7 n Sl.no).length]? with
  |none=>rw[hf]at e;cases e
  |some z=>
   rw[hf]at e;simp only[Q7,Qx]at e;split at e<;>cases e
def vO{n:Nat}{fr:cr}{ρ:Ev}:(cZ n fr ρ).length=n+fr.length:=by unfold cZ;simp
def xJ{K:OF}{E:XK}{n:Nat}{fr:cr}{tg:Ev->D->aj Ev}{tt fe:al}{σ:L2.St}{ρ:Ev}{H Ha H1 H01:Hp}{ds es:ac}{J:It}{Q:VK}(hsame:aF Ha H)(g1:bf H Ha H1 H01)(it:Kr K ds J H01)(hl:ds.length<=line)
  (e2:bU (cZ n fr ρ) tg tt fe ds=.ok es)(hr:eU K H01 σ ρ)(hok:DZ n tg)
  (q:∀p vs H' Ha',bf H Ha H' Ha'->H p=none->Ha' p=none->H' p=some (.lst vs)->Reps K Ha' es vs->Q (.ref p) H') :
  wm n fr (Jo K tg) (Kn K E tt) (tD K E fe) J σ H1 Q:=by
 intro Da hDa;have h0D:H01 Da=none:=g1.sub.free hDa;refine⟨λi m ys σ' H'=>m=ds.length-i/\i<=ds.length/\σ'.length=n+fr.length/\∃Ha',bf H1 H01 H' Ha'/\Ha' Da=none/\H' Da=some (.lst ys)/\eU K Ha' σ' (cZ n fr ρ)/\∃es1,bU (cZ n fr ρ) tg tt fe (ds.take i)=.ok es1/\Reps K Ha' es1 ys,
  ⟨ds.length,by simp,RP _,by unfold lr;simp,H01,?_,h0D,aG,xN hr,[],rfl,Reps.nil⟩,?_⟩
 .refine⟨λb o e=>by rw[aE (aR e hDa)];exact e,aF.refl _,λb o e=>?_,λb k1 k2=>absurd k2 k1⟩
  rw[aE (by intro z;subst z;rw[h0D]at e;cases e)];exact g1.sub _ _ e
 .rintro i m ys σ' H' ⟨rfl,hile,hsl,Ha',gg,hD0,hDl,hrd,es1,hes1,hys⟩
  refine⟨hDl,?_⟩
  by_cases hlt:i<ds.length
  .refine .inr ⟨it.go i H' Ha' gg.z gg.sub hlt,?_,?_⟩
   .rw[←hys.length]
    have:=pO hes1;rw[PJ]at this;have h2:line<sizeLine:=by decide
    omega
   .intro x H2 hy
    obtain⟨H₀2,g2,rp⟩:=it.yld i H' Ha' x H2 ds[i] gg.z gg.sub (OI hlt) hy;have hsplit:ds=ds.take i++(ds[i]::ds.drop (i+1)):=by rw[←QC hlt,UK]
    rw[hsplit]at e2;obtain⟨a1,a2,k1,k2,k3⟩:=ma e2;rw[hes1]at k1;cases k1;obtain⟨ρ1,t,t1,t2,t3⟩:=iO k2;have hn2:H₀2 Da=none:=by
     cases qq:H₀2 Da with|none=>rfl|some o=>have:=g2.nw Da (by rw[qq];simp) hD0;rw[hDl]at this;cases this
    have hD2:H2 Da=some (.lst ys):=g2.s _ _ hDl;refine⟨H2,H₀2,H₀2,cZ n fr ρ,ds[i],⟨bf.refl g2.sub,hrd.mono g2.z,λj d' e=>?_,λj k d1 d2 _ e=>?_,by rw[vO,hsl],OX.none DQ AU⟩,rp,?_⟩
    .unfold cZ at e
     by_cases hj:j<n
     .rw[O8 (by simpa using hj),Pm,if_pos hj]at e;cases e
     .rw[O9 (by simpa using hj),OM]at e
      cases hf:fr[j-(O7 n Sl.no).length]? with
      |none=>rw[hf]at e;cases e
      |some z=>
       rw[hf]at e;simp only[Q7,Qx]at e;split at e<;>cases e
    .unfold cZ at e
     by_cases hj:j<n
     .rw[O8 (by simpa using hj),Pm,if_pos hj]at e;cases e
     .rw[O9 (by simpa using hj),OM]at e
      cases hf:fr[j-(O7 n Sl.no).length]? with
      |none=>rw[hf]at e;cases e
      |some z=>
       rw[hf]at e;simp only[Q7,Qx]at e;split at e<;>cases e
    .rw[t1]
     intro σ3 H3 H03 z3 s3;have hrl:=hok _ _ _ t1;have hσ3:σ3.length=n+fr.length:=by rw[←s3.ln,hrl.1,vO]
     have back:∀{Hx:Hp},aF H03 Hx->eU K Hx σ3 (cZ n fr ρ):=λ{Hx} sx k d e=>by
      by_cases hk:k<n
      .rw[GS hk]at e;cases e
      .rw[←hrl.2 k (by omega)]at e
       obtain⟨v,h1,h2⟩:=s3.rd k d e;exact⟨v,h1,h2.mono sx⟩
     have n3:H03 Da=none:=by
      cases qq:H03 Da with|none=>rfl|some o=>have:=s3.g.nw Da (by rw[qq];simp) hn2;rw[hD2]at this;cases this
     have hD3:H3 Da=some (.lst ys):=s3.g.s _ _ hD2;refine⟨H03,ρ1,s3.g.sub,s3.rd,?_⟩;rw[t2];intro H4 H04 g4;have hD4:H4 Da=some (.lst ys):=g4.s _ _ hD3;have n4:H04 Da=none:=by
      cases qq:H04 Da with|none=>rfl|some o=>have:=g4.nw Da (by rw[qq];simp) n3;rw[hD3]at this;cases this
     have htake:ds.take (i+1)=ds.take i++[ds[i]]:=by rw[List.take_add_one,OI hlt];rfl
     have g04:=(gg.trans g2).trans (s3.g.trans g4);rcases t3 with⟨rfl,y,xs,t3,t4,_⟩|⟨rfl,t4⟩
     .rw[if_pos rfl]
      refine⟨H04,ρ1,g4.sub,s3.rd.mono g4.z,?_⟩;rw[t3];intro yv H5 H05 g5 ry;have hD5:H5 Da=some (.lst ys):=g5.s _ _ hD4;have n5:H05 Da=none:=by
       cases qq:H05 Da with|none=>rfl|some o=>have:=g5.nw Da (by rw[qq];simp) n4;rw[hD4]at this;cases this
      have gall:=g04.trans g5;refine⟨hD5,ds.length-(i+1),by omega,rfl,hlt,hσ3,H05,⟨λb o e=>?_,gall.z,λb o e=>?_,gall.nw⟩,n5,aG,back (g4.z.trans g5.z),es1++[y],?_,?_⟩
      .rw[aE (aR e hDa)];exact gall.s _ _ e
      .rw[aE (by intro z;subst z;rw[n5]at e;cases e)];exact gall.sub _ _ e
      .rw[htake]
       refine iN hes1 ?_;rw[iu t1 t2 t3];rfl
      .exact(hys.mono ((g2.z.trans s3.g.z).trans (g4.z.trans g5.z))).app (Reps.cons ry Reps.nil)
     .rw[if_neg Qj]
      refine⟨ds.length-(i+1),by omega,rfl,hlt,hσ3,H04,g04,n4,hD4,back g4.z,es1,?_,hys.mono ((g2.z.trans s3.g.z).trans g4.z)⟩;rw[htake];rw[show es1=es1++[] by simp];refine iN hes1 ?_;rw[pM t1 t2];rfl
  .have hi2:i=ds.length:=by omega
   refine .inl ⟨it.stop i H' Ha' gg.z gg.sub (by omega),?_⟩;rw[hi2,R4]at hes1;rw[e2]at hes1;cases hes1;exact q Da ys H' Ha' (g1.trans gg) (g1.s.free hDa) hD0 hDl hys
structure MP (X:Cx) (E:XK) (ifs:List Pd) (f:al):Prop where
 o:Mt X ifs (Kn X.K E f)
def mYes:al:=λ_=>.ok (.bl true)
def kU{X:Cx}{E:XK}:MP X E [] mYes:=⟨λπ s σ H Q I ⟨Ha,ρ,hs,hr,q⟩=>E3 π s σ H Q I (q H Ha (bf.refl hs))⟩
def zg{X:Cx}{E:XK}{c:Pd}{f:al}(h:DT X E c f):MP X E [c] f:=⟨E2 h.o⟩
structure Ks (X:Cx) (E:XK) (e:Pd) (f:al):Prop where
 ev:PE X e (tF X.K E f)
 st:∀{i:Nat}{x:OO}{pos' spos:Pos},X.N.Nodup->X.N[i]?=some x->X.env.scope.names.lookup x=some .local -> P1 e (some (.Name x pos')) spos.line X.env=pure true->PS X (.Assign [.Name x pos'] e spos) (HZ (tF X.K E f) (CZ i))
def Oo{X:Cx}{E:XK}{tgt iter elt:Pd}{ifs:List Pd}{scope:RA}{pos:Pos}(N:bv)(n:Nat)(fr:cr){src:Ev->aj (ac)}{tg:Ev->D->aj Ev}{tt fe:al}(hc:X.calm=true)(hi:DI X E tgt iter src)(hok:DZ n tg)
  (blk:∀s H C fp pn,(∀He η,DG (eD X N scope s H C fp pn) E He η tgt tg)/\MP (eD X N scope s H C fp pn) E ifs tt/\DE (eD X N scope s H C fp pn) E elt fe)
  (hfr:D2 X N n fr scope)(hcell:∀x∈scope.names,x.2≠.cell)(hfree:∀x∈scope.names,x.2=.free->X.env.scope.names.lookup x.1=some .cell)(hkind:scope.kind=.function)(hnames:∀x∈scope.names,x.2=.local -> scope.names.lookup x.1=some .local)
  (hs:∀x,foldedSetIterable iter X.env x=pure x:=by intro _;rfl):Ks X E (.ListComp elt [⟨tgt,iter,ifs,0⟩] scope pos) (eC n fr src tg tt fe):=by
 have blk':∀s H C fp pn,PG (eD X N scope s H C fp pn) tgt (Jo X.K tg)/\Mt (eD X N scope s H C fp pn) ifs (Kn X.K E tt)/\PE (eD X N scope s H C fp pn) elt (tD X.K E fe):=λs H C fp pn=>
  ⟨λπ s' σ' H' v u Q' I r ⟨He,η,q'⟩=>((blk s H C fp pn).1 He η).o π s' σ' H' v u Q' I r q',(blk s H C fp pn).2.1.o,(blk s H C fp pn).2.2.o⟩
 have first:∀{π:List (OG×Obj)}{s:OE}{σ:L2.St}{H:Hp}{Q:VK}{RR:OB->OG->Tv->OE->Prop},L2.Inv X π σ H s->tF X.K E (eC n fr src tg tt fe) σ H Q ->
   (∀(Da C:OG) (s6:OE) (H5:Hp) (m:OO->Option OB),L2.Inv X π σ H5 s6->s6.heap.Ns C m->mv X π H5 C->Q (.ref Da) H5->RR (.ref Da) C (.ok .next) s6) ->
   OS (OW X.prog X.w) X.A (eval iter X.env) (λx sg=>OS (OW X.prog X.w) X.A (pyIter x) (λit si=>OS (OW X.prog X.w) X.A (newList []) (λacc sj=>
    OS (OW X.prog X.w) X.A (newFunctionEnv scope X.env.globals (gQ X.env.cells scope.names []) [] X.env.qual none .none (some X.env)) (λcenv sk=>
     Rt (OW X.prog X.w) X.A (.compStart (.ListComp elt [⟨tgt,iter,ifs,0⟩] scope pos) 0 it acc { cenv with scope:=relabel scope X.env }) (RR acc cenv.locals) sk) X.xe sj) X.xe si) X.xe sg) X.xe s:=by
  intro π s σ H Q RR I ⟨Ha,ρ,hsame,hr,q⟩ fin;refine cM (hi.o π s σ H (λJ H1=>wm n fr (Jo X.K tg) (Kn X.K E tt) (tD X.K E fe) J σ H1 Q) I ⟨Ha,ρ,hsame,hr,?_⟩) λv s1 h1=>cM h1 λitv s2 h2=>AL (N:=N) hc hfr hcell hfree hkind blk' h2 fin;unfold eC at q;cases e1:src ρ with
  |stuck|exn x=>rw[e1]at q;exact q
  |ok ds=>
   rw[e1]at q;intro J H1 H01 g1 it;replace q:match (if ds.length<=line then match bU (cZ n fr ρ) tg tt fe ds with
     |.ok es=>aj.ok (D.lst es)
     |_=>.stuck else .stuck) with
    |.ok (.lst ds)=>∀p vs H' Ha',bf H Ha H' Ha'->H p=none->Ha' p=none->H' p=some (.lst vs)->Reps X.K Ha' ds vs->Q (.ref p) H'
    |.ok _=>False
    |.exn x=>∀C ox H' Ha',bf H Ha H' Ha'->tY X.K Ha' x C ox->E C ox H'
    |.stuck=>False:=q
   by_cases hl:ds.length<=line
   .rw[if_pos hl]at q
    cases e2:bU (cZ n fr ρ) tg tt fe ds with
    |stuck|exn x=>rw[e2]at q;exact q.elim
    |ok es=>
     rw[e2]at q;exact xJ hsame g1 it hl e2 (hr.mono g1.z) hok q
   .rw[if_neg hl]at q;exact q.elim
 have hcl:∀{π:List (OG×Obj)}{s:OE}{σ:L2.St}{H:Hp},L2.Inv X π σ H s->closureFor scope X.env=pure (gQ X.env.cells scope.names []):=λ{π s σ H} I=>qH λy hy hf=>I.ok.has y.1 (.inl (hfree y hy hf));refine⟨λπ s σ H Q I h=>?_,λ{i x pos' spos} hN hi' hx hsw π s σ H D' I h=>?_⟩
 .rw[eval_ListComp]
  refine wpAny_comprehension_free (use:=none) rfl hs (hcl I) hkind hnames (first (RR:=λacc C=>compPost (OW X.prog X.w) X.A X.xe none (EP X π σ Q) acc C) I h λDa C s6 H5 m I6 ns fC q=>?_);refine⟨m,ns,λh' sb=>⟨.ref Da,H5,?_,rfl,q⟩⟩;exact I6.turned (t':=s6.toks) (it:=C) (λb o hb e=>(sb.2 b hb).trans e) fC.1 fC.2.1 fC.2.2.2.1 fC.2.2.2.2.1 fC.2.2.2.2.2
 .rw[exec_Assign_Name_used _ _ _ _ hsw]
  refine OC (wpAny_standAt (OC ?_));show OS _ X.A (do let _ ←comprehension (.ListComp elt [⟨tgt,iter,ifs,0⟩] scope pos) scope X.env _ (newList []) false (eval iter X.env) (some (assign (.Name x pos') X.env))) _ _ s;refine OC (PH (wpAny_comprehension_free (use:=some (assign (.Name x pos') X.env)) (Q:=λ_ s'=>SP X π D' .next s') rfl hs (hcl I) hkind hnames
   (first (RR:=λacc C=>compPost (OW X.prog X.w) X.A X.xe (some (assign (.Name x pos') X.env)) (λ_ s'=>SP X π D' .next s') acc C) I h λDa C s6 H5 m I6 ns fC q=>?_)) (λ_ s' hq=>ON (ON hq)) λ_ _ e=>e)
  show OS _ X.A (assign (.Name x pos') X.env (.ref Da)) _ _ _;refine wpAny_assign_Name (qO (v:=.ref Da) I6 hN hi' (.inl hx) rfl (λs' I' z9=>?_) (.inr hx));obtain⟨a,sb,ha⟩:=z9;have hCa:C≠a:=by
   rcases ha with rfl|ha
   .exact fC.2.1
   .exact λz=>fC.2.2.2.2.1 x a ha z.symm
  refine⟨m,ns.sameBut sb hCa,λh' sb'=>⟨_,H5,?_,q⟩⟩;exact I'.turned (t':=s'.toks) (it:=C) (λb o hb e=>(sb'.2 b hb).trans e) fC.1 fC.2.1 fC.2.2.2.1 fC.2.2.2.2.1 fC.2.2.2.2.2
def Mf{X:Cx}{E:XK}{e:Pd}{f:al}(h:Ks X E e f):DF X E e f:=⟨h.ev⟩
def zi{X:Cx}{E:XK}{e:Pd}{n:Nat}{fr:cr}{src:Ev->aj (ac)}{tg:Ev->D->aj Ev}{tt fe:al}(h:Ks X E e (eC n fr src tg tt fe)):DE X E e (eC n fr src tg tt fe):=Dy l9 (Mf h)
def xF{X:Cx}{E:XK}{tgt iter elt:Pd}{ifs:List Pd}{scope:RA}{pos:Pos}(N:bv)(n:Nat)(fr:cr){src:Ev->aj (ac)}{tg:Ev->D->aj Ev}{tt fe:al}(hc:X.calm=true)(hi:DI X E tgt iter src)(hok:DZ n tg)
  (blk:∀s H C fp pn,(∀He η,DG (eD X N scope s H C fp pn) E He η tgt tg)/\MP (eD X N scope s H C fp pn) E ifs tt/\DE (eD X N scope s H C fp pn) E elt fe)
  (hfr:D2 X N n fr scope)(hcell:(scope.names.all λx=>!(x.2==.cell))=true)(hfree:(scope.names.all λx=>!(x.2==.free)||(X.env.scope.names.lookup x.1==some .cell))=true)(hkind:scope.kind=.function)
  (hnames:(scope.names.all λx=>!(x.2==.local)||(scope.names.lookup x.1==some .local))=true)
  (hs:∀x,foldedSetIterable iter X.env x=pure x:=by intro _;rfl):Ks X E (.ListComp elt [⟨tgt,iter,ifs,0⟩] scope pos) (eC n fr src tg tt fe):=by
 refine Oo N n fr hc hi hok blk hfr (λx hx z=>?_) (λx hx z=>?_) hkind (λx hx z=>?_) hs
 .have:=Pr.mp hcell x hx
  rw[z]at this;simp at this
 .have:=Pr.mp hfree x hx
  rw[z]at this;simpa using this
 .have:=Pr.mp hnames x hx
  rw[z]at this;simpa using this
def zf{X:Cx}{E:XK}{He η:Hp}{e:Pd}{f:al}{pos:Pos}{i:Nat}{x:OO}{pos':Pos}(hN:X.N.Nodup)(hi:X.N[i]?=some x)(hx:X.env.scope.names.lookup x=some .local)(hl:lI f)(he:Ks X E e f)(hs:P1 e (some (.Name x pos')) pos.line X.env=pure true:=by rfl):DS X E He η (.Assign [.Name x pos'] e pos) (aV i f):=by
 refine⟨cu (he.st hN hi hx hs) λD σ H ⟨Ha,ρ,h,q⟩=>?_⟩;refine uy hl ⟨Ha,ρ,h.g.sub,h.rd,?_⟩;refine plain h q λd v H' Ha' _ g rp q'=>?_;exact q' _ H' Ha' (aF.refl _) ((h.grow g).put rp)
end DL
namespace Com
open PySem L2 DL
def xO:am :=
 (ar (bC (fK (bh (ae 0) (cK "int")) (cj (bh (ae 0) (cK "bool")))))
 av)
def m_is_whole:ac->aj D:=cm 1 xO
noncomputable def dH:am :=
 (ar (aV 2 (aq (ag (ae 0) aB) (m1 vH)))
 (ar (aV 3 (aq (ag (ae 1) aB) (m1 vH)))
 (ar (je (nM 3) (aa (ae 3) (dC (.int 0)) jt)
 (ar (aV 4 (aa (ae 2) (ae 3) cP))
 (ar (aV 2 (ae 3))
 (ar (aV 3 (ae 4))
 av))))
 (ar (bC (ae 2))
 av))))
def m_common_divisor:ac->aj D:=cm 5 dH
def Ke{α β:Type}{a:α}{f:α->aj β}:(aj.ok a).bind f=f a:=rfl
def sA{s t:am}{ρ ρ':Ev}(h:s ρ=.ok (.nx ρ')):ar s t ρ=t ρ':=by unfold ar;rw[h];rfl
def Ii{s t:am}{ρ:Ev}{d:D}(h:s ρ=.ok (.rt d)):ar s t ρ=.ok (.rt d):=by unfold ar;rw[h];rfl
def KZ{s:am}{ρ ρ':Ev}(h:s ρ=.ok (.nx ρ')):ar s av ρ=.ok (.nx ρ'):=by unfold ar;rw[h];rfl
def Ih{i:Nat}{f:al}{ρ:Ev}{d:D}(h:f ρ=.ok d):aV i f ρ=.ok (.nx (ρ.set i (.sh d))):=by unfold aV;rw[h];rfl
def Io{f:al}{ρ:Ev}{d:D}(h:f (gu ρ)=.ok d):bC f ρ=.ok (.rt d):=by unfold bC;rw[h];rfl
def Cu{i j:Int}:jt (.int i) (.int j)=.ok (.bl (!(i==j))):=by unfold jt;rw[if_pos ⟨rfl,rfl⟩,cO]
def JV{i j:Int}:jW (.int i) (.int j)=.ok (.bl (i==j)):=by unfold jW;rw[if_pos ⟨rfl,rfl⟩,cO]
def Mr{f:al}{fa:Ev->aj (ac)}{ρ:Ev}{x:D}{xs:ac}(h:f ρ=.ok x)(h':fa ρ=.ok xs):ag f fa ρ=.ok (x::xs):=by unfold ag;rw[h,Ke,h'];rfl
def CA{a b:Int}(h:b≠0):cP (.int a) (.int b)=.ok (.int (a.fmod b)):=by
 show(if decide (b≠0)=true then aj.ok (D.int (a.fmod b)) else .stuck)=_;rw[if_pos (decide_eq_true h)]
def vh(a b:Int):PM b (a.fmod b)=PM a b:=by
 rw[Int.fmod_def,Int.gcd_sub_mul_left_right,UB]
def FG{a b:Int}(h:b≠0):(a.fmod b).natAbs<b.natAbs:=by
 rcases Int.lt_or_gt_of_ne h with hb|hb
 .have h1:=S6 (-a) (show 0 < -b by omega)
  have h2:=RZ (-a) (show 0 < -b by omega);rw[Int.neg_fmod_neg]at h1 h2;omega
 .have h1:=S6 a hb
  have h2:=RZ a hb;omega
theorem mW:∀(n:Nat) (x y:D) (a b:Int) (r:Sl),0<=a->0<=b->b.natAbs<n->∃r',
  cG (aa (ae 3) (dC (.int 0)) jt) (ar (aV 4 (aa (ae 2) (ae 3) cP)) (ar (aV 2 (ae 3)) (ar (aV 3 (ae 4)) av))) n [.sh x,.sh y,.sh (.int a),.sh (.int b),r]=.ok (.nx [.sh x,.sh y,.sh (.int (PM a b)),.sh (.int 0),r'])
 |0,_,_,a,b,_,_,_,h=>absurd h (Nat.not_lt_zero _)
 |n+1,x,y,a,b,r,ha,hb0,h=>by
  unfold cG;have c:∀r,(aa (ae 3) (dC (.int 0)) jt) (gu [.sh x,.sh y,.sh (.int a),.sh (.int b),r])=.ok (.bl (!(b==0))):=λr=>Cu;rw[c]
  by_cases hb:b=0
  .subst hb
   refine⟨r,?_⟩;have e:((PM a 0:Nat):Int)=a:=by simp;omega
   rw[e];rfl
  .have e:(!(b==0))=true:=by simp[hb]
   have hp:0<b:=by omega
   obtain⟨r',h2⟩:=mW n x y b (a.fmod b) (.sh (.int (a.fmod b))) hb0 (RZ a hp) (by have:=FG (a:=a) hb;omega);refine⟨r',?_⟩;rw[vh]at h2;rw[←h2,e];have st:(ar (aV 4 (aa (ae 2) (ae 3) cP)) (ar (aV 2 (ae 3)) (ar (aV 3 (ae 4)) av))) [.sh x,.sh y,.sh (.int a),.sh (.int b),r]=.ok (.nx [.sh x,.sh y,.sh (.int b),.sh (.int (a.fmod b)),.sh (.int (a.fmod b))]):=by
    have m:(aa (ae 2) (ae 3) cP) [.sh x,.sh y,.sh (.int a),.sh (.int b),r]=.ok (.int (a.fmod b)):=by
     exact CA hb
    rw[sA (Ih m)];rfl
   show(aj.bind _ _)=_;rw[st];rfl
def rF(a b:Int):m_common_divisor [.int a,.int b]=.ok (.int (PM a b)):=by
 have e:∀i:Int,(if i<0 then -i else i)=(i.natAbs:Int):=λi=>by split<;>omega
 obtain⟨r',h⟩:=mW ((b.natAbs:Int).natAbs+1) (.int a) (.int b) a.natAbs b.natAbs .no (S5 _) (S5 _) (Rv _);have hg:PM (a.natAbs:Int) (b.natAbs:Int)=PM a b:=by simp[PM]
 rw[hg]at h;have r:dH [.sh (.int a),.sh (.int b),.no,.no,.no]=.ok (.rt (.int (PM a b))):=by
  unfold dH;rw[sA (ρ':=[.sh (.int a),.sh (.int b),.sh (.int (a.natAbs:Int)),.no,.no]) (by rw[←e a];rfl)];rw[sA (ρ':=[.sh (.int a),.sh (.int b),.sh (.int (a.natAbs:Int)),.sh (.int (b.natAbs:Int)),.no]) (by rw[←e b];rfl)];have w:je (nM 3) (aa (ae 3) (dC (.int 0)) jt) (ar (aV 4 (aa (ae 2) (ae 3) cP)) (ar (aV 2 (ae 3)) (ar (aV 3 (ae 4)) av))) [.sh (.int a),.sh (.int b),.sh (.int (a.natAbs:Int)),.sh (.int (b.natAbs:Int)),.no]=.ok (.nx [.sh (.int a),.sh (.int b),.sh (.int (PM a b)),.sh (.int 0),r']):=h;rw[sA w];exact Ii (Io rfl)
 show(dH [.sh (.int a),.sh (.int b),.no,.no,.no]).bind _=_;rw[r];rfl
def wH:(2:Nat) ^ 64<=D5:=by rw[xU];exact Qv (by decide) (by decide)
def sU{i:Int}(h:i.natAbs<18446744073709551616):i.natAbs<D5:=OR h wH
def ic{i j:Int}(h:i.natAbs<18446744073709551616)(h':j.natAbs<18446744073709551616):fz i j=true:=by
 unfold fz;rw[O4];exact⟨decide_eq_true (sU h),decide_eq_true (sU h')⟩
def gN{i j:Int}(h:i.natAbs<D5)(h':j.natAbs<D5):fz i j=true:=by
 unfold fz;rw[O4];exact⟨decide_eq_true h,decide_eq_true h'⟩
def Me{i j:Int}(h0:j≠0)(h:j.natAbs<B9):iq i j=true:=by
 unfold iq;rw[O4,TY];exact⟨decide_eq_true h0,.inl (decide_eq_true h)⟩
def Dv{i j:Int}(h0:j≠0)(h:i.natAbs<A3):iq i j=true:=by
 unfold iq;rw[O4,TY];exact⟨decide_eq_true h0,.inr (decide_eq_true h)⟩
def gh{ds:ac}{k:Nat}{d:D}(h:ds[k]?=some d):aK (.lst ds) (.int (k:Int))=.ok d:=by
 unfold aK;simp only[eg h]
def eN{a b:Int}(hb:0<b):0<=a.fmod b/\a.fmod b<b:=⟨RZ a hb,S6 a hb⟩
def Av{n k:Nat}(h:k<n):(DL.intsFrom 0 n).drop k=.int (k:Int)::(DL.intsFrom 0 n).drop (k+1):=by
 have hl:(DL.intsFrom 0 n).length=n:=by unfold DL.intsFrom;simp
 rw[QC (by rw[hl];exact h)]
 congr 1
 unfold DL.intsFrom;simp
def CQ{n:Nat}:(DL.intsFrom 0 n).drop n=[]:=by
 have hl:(DL.intsFrom 0 n).length=n:=by unfold DL.intsFrom;simp
 exact List.drop_eq_nil_of_le (by omega)
def yW{tg:Ev->D->aj Ev}{s:am}{d:D}{r:ac}{ρ ρ1 ρ2:Ev}(h1:tg ρ d=.ok ρ1)(h2:s ρ1=.ok (.nx ρ2)):cW tg s (d::r) ρ=cW tg s r ρ2:=by
 rw[cW,h1,Ke,h2,Ke]
def LH:D->Bool
 |.int _=>true
 |_=>false
def gF(d:D):m_is_whole [d]=.ok (.bl (LH d)):=by cases d<;>first|rfl|(rename_i k _;cases k<;>rfl)
def vk{a g:Int}(hg:0<g):a.fdiv g=a / g:=T9 a (by omega)
def tj{a b:Int}(h:b≠0):0<(PM a b:Int):=by
 have:=Int.gcd_pos_of_ne_zero_right a h;omega
def Ny(p q:Int):D:=.tup [.int p,.int q]
end Com
open Com
namespace Com
open PySem L2 DL
abbrev gz:=Int×Int
def fr(x:gz):D:=Ny x.1 x.2
def vW:Nat:=1000000000000000000000000000000000000000000000000000000000000
def G4:vW<=A3:=by rw[t9];exact Pe (show vW<=2 ^ 200 by decide) (Qv (by decide) (by decide))
def zA:A3<=D5:=by rw[t9,xU];exact Qv (by decide) (by decide)
structure Low (x:gz):Prop where
 q1:1<=x.2
 g1:PM x.1 x.2=1
structure lJ (x:gz):Prop extends Low x where
 pN:x.1.natAbs<vW
 qN:x.2.natAbs<vW
def eK(a b:Int):gz:=(a / PM a b,b / PM a b)
def iD{a b:Int}(hb:0<b):Low (eK a b):=by
 have hg:=tj (a:=a) (b:=b) (by omega);refine⟨?_,Int.gcd_ediv_gcd_ediv_gcd (by omega)⟩;have:=Int.ediv_gcd_ne_zero_if_ne_zero_right a (show b≠0 by omega);have h2:0<=b / (PM a b:Int):=TV (by omega) (by omega);show 1<=b / (PM a b:Int);omega
def Fu{a b:Int}:(eK a b).1*b=a*(eK a b).2:=by
 unfold eK;obtain⟨x,hx⟩:=Tz a b;obtain⟨y,hy⟩:=Tp a b
 by_cases hg:(PM a b:Int)=0
 .simp only[hg,Int.ediv_zero,Int.zero_mul,Int.mul_zero]
 .generalize hG:(PM a b:Int)=G at *
  have e1:a / G=x:=by rw[hx];exact Sv x hg
  have e2:b / G=y:=by rw[hy];exact Sv y hg
  show a / G*b=a*(b / G);rw[e1,e2]
  calc x*b=x*(G*y):=by rw[←hy]
   _=G*x*y:=by grind
   _=a*y:=by rw[←hx]
def yO{a b:Int}:(eK a b).1.natAbs<=a.natAbs:=Ry _ _
def yN{a b:Int}:(eK a b).2.natAbs<=b.natAbs:=Ry _ _
def uZ{x y:gz}(hx:Low x)(hy:Low y)(h:x.1*y.2=y.1*x.2):x=y:=by
 have d1:x.2∣y.2:=by
  have:x.2∣x.1*y.2:=⟨y.1,by rw[h];exact To _ _⟩
  rw[←T3,UB,hx.g1]at this;simpa using this
 have d2:y.2∣x.2:=by
  have:y.2∣y.1*x.2:=⟨x.1,by rw[←h];exact To _ _⟩
  rw[←T3,UB,hy.g1]at this;simpa using this
 have e:x.2=y.2:=Int.dvd_antisymm (by have:=hx.q1;omega) (by have:=hy.q1;omega) d1 d2;have e1:x.1=y.1:=by
  rw[e]at h;exact Int.eq_of_mul_eq_mul_right (by have:=hy.q1;omega) h
 exact Prod.ext e1 e
def LD{a b:Int}(hb:0<b)(h1:a.natAbs<vW)(h2:b.natAbs<vW):lJ (eK a b):=⟨iD hb,P6 yO h1,P6 yN h2⟩
def flt(x y:gz):Bool:=decide (x.1*y.2<y.1*x.2)
def aQ{α:Type}{a b:α}(h:a=b):a=b:=h
def Ij(t:am)(r:Fl):aj Fl:=match r with
 |.nx ρ'=>t ρ'
 |r=>.ok r
def KY(i:Nat)(ρ:Ev)(d:D):aj Fl:=.ok (.nx (ρ.set i (.sh d)))
def K2(d:D):aj Fl:=.ok (.rt d)
def Hw(ρ:Ev)(_:D):aj Fl:=.ok (.nx ρ)
def Nt(s t:am)(ρ:Ev)(x:D):aj Fl:=match x with
 |.bl b=>if b=true then s ρ else t ρ
 |_=>.stuck
def Lp(i:Nat)(ρ:Ev)(d:D):aj Fl:=match d with
 |.lst ds=>.ok (.nx (ρ.set i (.ow (.lst ds))))
 |_=>.stuck
def Lo(s:Option Sl)(k:ac->aj Fl):aj Fl:=match s with
 |some (.ow (.lst ds))=>k ds
 |_=>.stuck
def Mq(i:Nat)(ρ:Ev)(ds:ac)(d:D):aj Fl:=if ds.length<line then .ok (.nx (ρ.set i (.ow (.lst (ds++[d]))))) else .stuck
def Ky(is:cr)(ρ:Ev)(d:D):aj Fl:=match fj is.length d with
 |some ds=>.ok (.nx (cH ρ is ds))
 |none=>.stuck
def Lm(i j:Nat)(ρ:Ev)(ds:ac):aj Fl:=match ds with
 |[x,y]=>.ok (.nx ((ρ.set i (.sh x)).set j (.sh y)))
 |_=>.stuck
def k2(g:al)(op:D->D->aj D)(ρ:Ev)(x:D):aj D:=(g ρ).bind (op x)
def xI(x:D)(xs:ac):aj (ac):=.ok (x::xs)
def Hy(fa:Ev->aj (ac))(ρ:Ev)(x:D):aj (ac):=(fa ρ).bind (xI x)
def Kg(g:al)(ρ:Ev)(x:D):aj D:=match x with
 |.bl true=>g ρ
 |.bl false=>.ok (.bl false)
 |_=>.stuck
def Nl(g:al)(ρ:Ev)(x:D):aj D:=match x with
 |.bl true=>.ok (.bl true)
 |.bl false=>g ρ
 |_=>.stuck
def Lu(x:D):aj D:=match x with
 |.bl b=>.ok (.bl (!b))
 |_=>.stuck
def Kw(s:Option Sl):aj D:=match s with
 |some (.sh d)=>.ok d
 |_=>.stuck
def BC(s:Sl):Sl:=match s with
 |.ow d=>.sh d
 |.ox _ ds=>.sh (.tup ds)
 |x=>x
def BE(r:Fl):aj D:=match r with
 |.nx _=>.ok .non
 |.rt d=>.ok d
 |_=>.stuck
def NX(x:D):aj (Option Int):=match x with
 |.int i=>.ok (some i)
 |_=>.stuck
def zT(x:D)(l:Option Int)(h:Option Int):aj D:=ou x l h
def Nc(hi:Ev->aj (Option Int))(ρ:Ev)(x:D)(l:Option Int):aj D:=(hi ρ).bind (zT x l)
def KW(lo hi:Ev->aj (Option Int))(ρ:Ev)(x:D):aj D:=(lo ρ).bind (Nc hi ρ x)
def LR(tg:Ev->D->aj Ev)(s:am)(ρ:Ev)(d:D):aj Fl:=match d with
 |.lst ds=>cW tg s ds ρ
 |_=>.stuck
def GL(op':D->D->aj D)(h:al)(ρ:Ev)(y z:D):aj D:=match z with
 |.bl true=>(h ρ).bind (op' y)
 |.bl false=>.ok (.bl false)
 |_=>.stuck
def J9(op op':D->D->aj D)(h:al)(ρ:Ev)(x y:D):aj D:=(op x y).bind (GL op' h ρ y)
def N3(op op':D->D->aj D)(g h:al)(ρ:Ev)(x:D):aj D:=(g ρ).bind (J9 op op' h ρ x)
section
variable {s t:am}{f g h:al}{fa:Ev->aj (ac)}{ρ r:Ev}{i j:Nat}{d x y:D}{ds xs:ac}{op op':D->D->aj D}{a b:Int}
def Dd{α β:Type}{a:α}{k:α->aj β}:(aj.ok a).bind k=k a:=aQ rfl
def xm:ar s t ρ=(s ρ).bind (Ij t):=aQ rfl
def FY:Ij t (.nx ρ)=t ρ:=aQ rfl
def FX:Ij t (.rt d)=.ok (.rt d):=aQ rfl
def F6:av ρ=.ok (.nx ρ):=aQ rfl
def xj:aV i f ρ=(f ρ).bind (KY i ρ):=aQ rfl
def FW:KY i ρ d=.ok (.nx (ρ.set i (.sh d))):=aQ rfl
def Jz:bC f ρ=(f (gu ρ)).bind K2:=aQ rfl
def F1:K2 d=.ok (.rt d):=aQ rfl
def Gi:kH f ρ=(f (gu ρ)).bind (Hw ρ):=aQ rfl
def Di:Hw ρ d=.ok (.nx ρ):=aQ rfl
def L7:dX f s t ρ=(f (gu ρ)).bind (Nt s t ρ):=aQ rfl
def JM:Nt s t ρ (.bl true)=s ρ:=aQ rfl
def JL:Nt s t ρ (.bl false)=t ρ:=aQ rfl
def JB:sC i f ρ=(f ρ).bind (Lp i ρ):=aQ rfl
def F4:Lp i ρ (.lst ds)=.ok (.nx (ρ.set i (.ow (.lst ds)))):=aQ rfl
def JR:dY i f ρ=Lo ρ[i]? λds=>(f ρ).bind (Mq i ρ ds):=aQ rfl
def F3{k:ac->aj Fl}:Lo (some (.ow (.lst ds))) k=k ds:=aQ rfl
def fq(h:decide (ds.length<=999)=true):Mq i ρ ds d=.ok (.nx (ρ.set i (.ow (.lst (ds++[d]))))):=if_pos (P6 (of_decide_eq_true h) (by decide))
def Js{is:cr}:EK is f ρ=(f ρ).bind (Ky is ρ):=aQ rfl
def JA:BD i j fa ρ=(fa ρ).bind (Lm i j ρ):=aQ rfl
def F2:Lm i j ρ [x,y]=.ok (.nx ((ρ.set i (.sh x)).set j (.sh y))):=aQ rfl
def Mc{o:D->aj D}:bh f o ρ=(f ρ).bind o:=aQ rfl
def Dm:aa f g op ρ=(f ρ).bind (k2 g op ρ):=aQ rfl
def JQ:k2 g op ρ x=(g ρ).bind (op x):=aQ rfl
def Dl{m:ac->aj D}:aq fa m ρ=(fa ρ).bind m:=aQ rfl
def JG:aB ρ=.ok []:=aQ rfl
def kS:ag f fa ρ=(f ρ).bind (Hy fa ρ):=aQ rfl
def pA:Hy fa ρ x=(fa ρ).bind (xI x):=aQ rfl
def Dj:xI x xs=.ok (x::xs):=aQ rfl
def JS:fK f g ρ=(f ρ).bind (Kg g ρ):=aQ rfl
def Gk:Kg g ρ (.bl true)=g ρ:=aQ rfl
def Gj:Kg g ρ (.bl false)=.ok (.bl false):=aQ rfl
def LY:gs f g ρ=(f ρ).bind (Nl g ρ):=aQ rfl
def JE:Nl g ρ (.bl true)=.ok (.bl true):=aQ rfl
def JD:Nl g ρ (.bl false)=g ρ:=aQ rfl
def JF:cj f ρ=(f ρ).bind Lu:=aQ rfl
def F5{c:Bool}:Lu (.bl c)=.ok (.bl (!c)):=aQ rfl
def Jr:ae i ρ=Kw ρ[i]?:=aQ rfl
def FJ:Kw (some (.sh d))=.ok d:=aQ rfl
def NA:dC d ρ=.ok d:=aQ rfl
def FU:gu []=[]:=aQ rfl
def Jx{c:Sl}:gu (c::r)=BC c::gu r:=aQ rfl
def FR:BC (.ow d)=.sh d:=aQ rfl
def FO:BC (.ox j ds)=.sh (.tup ds):=aQ rfl
def FQ:BC (.sh d)=.sh d:=aQ rfl
def FP:BC .no=.no:=aQ rfl
def xo{n:Nat}:cm n s ds=(s (ds.map Sl.sh++O7 (n-ds.length) .no)).bind BE:=aQ rfl
def F0:BE (.rt d)=.ok d:=aQ rfl
def FZ:BE (.nx ρ)=.ok .non:=aQ rfl
def LX:bW f ρ=(f ρ).bind NX:=aQ rfl
def JC:NX (.int a)=.ok (some a):=aQ rfl
def LZ:dw ρ=.ok none:=aQ rfl
def LV{lo hi:Ev->aj (Option Int)}:eQ f lo hi ρ=(f ρ).bind (KW lo hi ρ):=aQ rfl
def Jw{lo hi:Ev->aj (Option Int)}:KW lo hi ρ x=(lo ρ).bind (Nc hi ρ x):=aQ rfl
def Jv{hi:Ev->aj (Option Int)}{l:Option Int}:Nc hi ρ x l=(hi ρ).bind (zT x l):=aQ rfl
def Ju{l l':Option Int}:zT (.lst ds) l l'=.ok (.lst (jv ds l l')):=aQ rfl
def Dh{tg:Ev->D->aj Ev}:kG f tg s ρ=(f ρ).bind (LR tg s ρ):=aQ rfl
def Gh{tg:Ev->D->aj Ev}:LR tg s ρ (.lst ds)=cW tg s ds ρ:=aQ rfl
def Dk:iL op op' f g h ρ=(f ρ).bind (N3 op op' g h ρ):=aQ rfl
def L8:N3 op op' g h ρ x=(g ρ).bind (J9 op op' h ρ x):=aQ rfl
def JP:J9 op op' h ρ x y=(op x y).bind (GL op' h ρ y):=aQ rfl
def JO:GL op' h ρ y (.bl true)=(h ρ).bind (op' y):=aQ rfl
def JN:GL op' h ρ y (.bl false)=.ok (.bl false):=aQ rfl
def JK{o:Int->Int->D}:sX (λ_ _=>true) o (.int a) (.int b)=.ok (o a b):=aQ rfl
def JT:bI (.int a) (.int b)=.ok (.int (a+b)):=aQ rfl
def jO{es:ac}(h:decide (ds.length+es.length<=1000)=true):bI (.lst ds) (.lst es)=.ok (.lst (ds++es)):=if_pos (Pe (of_decide_eq_true h) (by decide))
def JH:xG (.int a)=.ok (.int (-a)):=aQ rfl
def L5{m:D->aj D}:m1 m [x]=m x:=aQ rfl
def L4{m:D->D->aj D}:m2 m [x,y]=m x y:=aQ rfl
def F8:cY (.lst ds)=.ok (.int ds.length):=aQ rfl
def F7:cY (.tup ds)=.ok (.int ds.length):=aQ rfl
def Jt(h:decide (ds.length<=1000)=true):gw ds=.ok (.tup ds):=if_pos (Pe (of_decide_eq_true h) (by decide))
def JI(h:decide (ds.length<=1000)=true):cI ds=.ok (.lst ds):=if_pos (Pe (of_decide_eq_true h) (by decide))
def pz:cK "bool" (.int a)=.ok (.bl false):=aQ rfl
def qF:cK "int" (.int a)=.ok (.bl true):=aQ rfl
def qE:cK "str" (.int a)=.ok (.bl false):=aQ rfl
def qD{z:OO}:cK "str" (.str z)=.ok (.bl true):=aQ rfl
def nz:cK "tuple" (.tup ds)=.ok (.bl true):=aQ rfl
def pq:cK "list" (.lst ds)=.ok (.bl true):=aQ rfl
def pw{ks:bv}:cK "dict" (.dic ks ds)=.ok (.bl true):=aQ rfl
def vt:rB (.non) .non=.ok (.bl false):=aQ rfl
def xu:vE (.int a) .non=.ok (.bl false):=aQ rfl
def xt{z:OO}:vE (.str z) .non=.ok (.bl false):=aQ rfl
def xr:vE (.tup ds) .non=.ok (.bl false):=aQ rfl
def vq:rB (.tup ds) .non=.ok (.bl true):=aQ rfl
def c8(h:fz a b=true):cq (.int a) (.int b)=.ok (.int (a*b)):=if_pos h
def xq(h:(b==0)=false):cP (.int a) (.int b)=.ok (.int (a.fmod b)):=CA (λz=>by rw[z]at h;cases h)
def xw(h:iq a b=true):AJ (.int a) (.int b)=.ok (.int (a.fdiv b)):=if_pos h
def LW{is:cr}:cH ρ (i::is) (d::ds)=cH (ρ.set i (.sh d)) is ds:=aQ rfl
def Jy:cH ρ [] ds=ρ:=aQ rfl
def za{x0:D}:aK (.lst (x0::xs)) (.int 0)=.ok x0:=by
 unfold aK;simp only[show atI (x0::xs) 0=some x0 from eg (j:=0) rfl]
def Gf{x0:D}:aK (.tup (x0::xs)) (.int 0)=.ok x0:=by
 unfold aK;simp only[show atI (x0::xs) 0=some x0 from eg (j:=0) rfl]
def y9{x0 x1:D}:aK (.lst (x0::x1::xs)) (.int 1)=.ok x1:=by
 unfold aK;simp only[show atI (x0::x1::xs) 1=some x1 from eg (j:=1) rfl]
def Ge{x0 x1:D}:aK (.tup (x0::x1::xs)) (.int 1)=.ok x1:=by
 unfold aK;simp only[show atI (x0::x1::xs) 1=some x1 from eg (j:=1) rfl]
def Gg{x0 x1 x2:D}:aK (.lst (x0::x1::x2::xs)) (.int 2)=.ok x2:=by
 unfold aK;simp only[show atI (x0::x1::x2::xs) 2=some x2 from eg (j:=2) rfl]
def Gd{x0 x1 x2:D}:aK (.tup (x0::x1::x2::xs)) (.int 2)=.ok x2:=by
 unfold aK;simp only[show atI (x0::x1::x2::xs) 2=some x2 from eg (j:=2) rfl]
def Gb{x0 x1 x2 x3:D}:aK (.tup (x0::x1::x2::x3::xs)) (.int 3)=.ok x3:=by
 unfold aK;simp only[show atI (x0::x1::x2::x3::xs) 3=some x3 from eg (j:=3) rfl]
def Ga{x0 x1 x2 x3 x4:D}:aK (.tup (x0::x1::x2::x3::x4::xs)) (.int 4)=.ok x4:=by
 unfold aK;simp only[show atI (x0::x1::x2::x3::x4::xs) 4=some x4 from eg (j:=4) rfl]
def Mb:((2:Nat):Int)=2:=aQ rfl
def Ma:((4:Nat):Int)=4:=aQ rfl
def L9:((5:Nat):Int)=5:=aQ rfl
end
def Hs(fa:Ev->aj (ac))(ρ:Ev)(x:D):aj D:=match x with
 |.str z=>(fa ρ).bind (o6 z)
 |_=>.stuck
def F9{f:al}{fa:Ev->aj (ac)}{ρ:Ev}:vD f fa ρ=(f ρ).bind (Hs fa ρ):=aQ rfl
def De{fa:Ev->aj (ac)}{ρ:Ev}{z:OO}:Hs fa ρ (.str z)=(fa ρ).bind (o6 z):=aQ rfl
end Com
def bS{a b:Prop}(x:a)(y:b):a/\b:=⟨x,y⟩
def Mz:=(bS (bS (bS (bS (bS (bS @Dd (bS @xm @FY)) (bS @FX (bS @F6 @xj))) (bS (bS @FW (bS @Jz @F1)) (bS @Gi (bS @Di @L7)))) (bS (bS (bS @JM (bS @JL @JB)) (bS @F4 (bS @JR @F3))) (bS (bS @Js (bS @JA @F2)) (bS (bS @Mc @Dm) (bS @JQ @Dl))))) (bS (bS (bS (bS @JG (bS @kS @pA)) (bS @Dj (bS @JS @Gk))) (bS (bS @Gj (bS @LY @JE)) (bS (bS @JD @JF) (bS @F5 @Jr)))) (bS (bS (bS @FJ (bS @NA @FU)) (bS @Jx (bS @FR @FQ))) (bS (bS @FP (bS @xo @F0)) (bS (bS @FZ @LX) (bS @JC @LZ)))))) (bS (bS (bS (bS (bS @LV (bS @Jw @Jv)) (bS @Ju (bS @Dh @Gh))) (bS (bS @Dk (bS @L8 @JP)) (bS (bS @JO @JN) (bS @JK @JT)))) (bS (bS (bS @JH (bS @L5 @L4)) (bS @F8 (bS @F7 @JV))) (bS (bS @Cu (bS @Jt @JI)) (bS (bS @jO @fq) (bS @xq @LW))))) (bS (bS (bS (bS @Jy (bS @za @y9)) (bS @Gg (bS @Gf @Ge))) (bS (bS @Gd (bS @Gb @Ga)) (bS (bS @pz @qF) (bS @qE @qD)))) (bS (bS (bS @nz (bS @pq @pw)) (bS @vt (bS @xu @xt))) (bS (bS @xr (bS @vq @Mb)) (bS (bS @Ma @L9) (bS @F9 @De)))))))
local macro_rules|`(tactic|open_line with[$xs,*])=>`(tactic|simp only[Mz,OY,Sf,Pw,Q8,Qp,U3,SJ,List.cons_append,Qw,Qe,List.set_cons_zero,List.set_cons_succ,Uy,Nat.reduceSub,Nat.reduceAdd,Th,Tg,Uo,Ud,decide_true,decide_false,Nat.reduceLeDiff,Nat.reduceBEq,Int.reduceBEq,beq_self_eq_true,DL.dOne,DL.mYes,Int.reduceLT,Int.reduceLE,Int.reduceSub,Int.reduceAdd,Int.reduceMul,Int.reduceNeg,Int.reduceToNat,Bool.and_self,$[$xs:term],*])
namespace Com
open PySem L2 DL
noncomputable def iy:am :=
 (ar (dX (gs (cj (bh (ae 0) (cK "str"))) (cj (iL Kp Kp (dC (.int 1)) (aq (ag (ae 0) aB) (m1 cY)) (dC (.int 8)))))
 (ar (bC (dC (.bl false)))
 av)
 av)
 (ar (bC (aq (ag (eC 1 [] (EG (ae 0)) (eM 0) mYes (aa (ae 0) (dC (.str "abcdefghijklmnopqrstuvwxyz")) v9)) aB) (m1 vG)))
 av))
def m_is_name:ac->aj D:=cm 1 iy
noncomputable def dB:am :=
 (ar (dX (gs (cj (bh (ae 0) (cK "tuple"))) (aa (aq (ag (ae 0) aB) (m1 cY)) (dC (.int 2)) jt))
 (ar (bC (dC (.bl false)))
 av)
 av)
 (ar (dX (gs (cj (aq (ag (aa (ae 0) (dC (.int 0)) aK) aB) m_is_whole)) (cj (aq (ag (aa (ae 0) (dC (.int 1)) aK) aB) m_is_whole)))
 (ar (bC (dC (.bl false)))
 av)
 av)
 (ar (bC (fK (aa (aa (ae 0) (dC (.int 1)) aK) (dC (.int 1)) MG) (aa (aq (ag (aa (ae 0) (dC (.int 0)) aK) (ag (aa (ae 0) (dC (.int 1)) aK) aB)) m_common_divisor) (dC (.int 1)) jW)))
 av)))
def m_is_ratio:ac->aj D:=cm 1 dB
def Ow:OO:="abcdefghijklmnopqrstuvwxyz"
def o8(c:Nat):Bool:=ME ⟨#[c]⟩ Ow
def nameB(z:OO):Bool:=decide (1<=z.length)&&(decide (z.length<=8)&&z.cps.toList.all o8)
def Lx:D->Bool
 |.str z=>nameB z
 |_=>false
def MF:D->Bool
 |.str z=>decide (z.length<=line)
 |_=>true
theorem rG{b:Ev}{tg:Ev->D->aj Ev}{tt fe:al}{F:D->D}:∀{ds:ac},(∀d∈ds,∃ρ1,tg b d=.ok ρ1/\tt ρ1=.ok (.bl true)/\fe ρ1=.ok (F d))->bU b tg tt fe ds=.ok (ds.map F)
 |[],_=>rfl
 |d::r,h=>by
  obtain⟨ρ1,h1,h2,h3⟩:=h d Pc;rw[iu h1 h2 h3,rG (λe he=>h e (OZ _ he))];rfl
theorem mY{α:Type}(F:α->Bool):∀(cs:List α),fu (cs.map λc=>D.bl (F c))=some (cs.map F)
 |[]=>rfl
 |c::r=>by
  show(fu (r.map λc=>D.bl (F c))).map (F c::·)=_;rw[mY F r];rfl
def wU{z:OO}(hz:z.length<=line):eC 1 [] (EG (ae 0)) (eM 0) mYes (aa (ae 0) (dC (.str "abcdefghijklmnopqrstuvwxyz")) v9) [.sh (.str z)]=.ok (.lst (z.cps.toList.map λc=>.bl (o8 c))):=by
 have hl:(jd z).length<=line:=by rw[kl];exact hz
 unfold eC;show(if(jd z).length<=line then _ else _)=_;rw[if_pos hl];have:bU (cZ 1 [] [.sh (.str z)]) (eM 0) mYes (aa (ae 0) (dC (.str "abcdefghijklmnopqrstuvwxyz")) v9) (jd z)=.ok (z.cps.toList.map λc=>D.bl (o8 c)):=by
  unfold jd
  induction z.cps.toList with
  |nil=>rfl
  |cons c r ih=>
   rw[OY,iu (x:=.bl (o8 c)) rfl rfl rfl,ih];rfl
 rw[this]
def w6{d:D}(h:MF d=true):m_is_name [d]=.ok (.bl (Lx d)):=by
 cases d with
 |str z=>
  have hz:z.length<=line:=of_decide_eq_true h;have hlen:cY (.str z)=.ok (.int z.length):=if_pos hz;show cm 1 iy _=.ok (.bl (nameB z));unfold nameB
  by_cases h1:1<=z.length
  .by_cases h8:z.length<=8
   .have e1:decide ((1:Int)<=(z.length:Int))=true:=decide_eq_true (by omega)
    have e2:decide ((z.length:Int)<=8)=true:=decide_eq_true (by omega);open_line with[iy,hlen,e1,e2,wU hz,vG,mY,decide_eq_true h1,decide_eq_true h8,R8]
    simp[UA,Function.comp_def]
   .have e1:decide ((1:Int)<=(z.length:Int))=true:=decide_eq_true (by omega)
    have e2:decide ((z.length:Int)<=8)=false:=decide_eq_false (by omega);open_line with[iy,hlen,e1,e2,decide_eq_true h1,decide_eq_false h8,Rr,Ue]
  .have e1:decide ((1:Int)<=(z.length:Int))=false:=decide_eq_false (by omega)
   open_line with[iy,hlen,e1,decide_eq_false h1,Rr]
 |ob k _=>cases k<;>rfl
 |_=>rfl
def oC:D->Bool
 |.tup [.int p,.int q]=>decide (1<=q)&&(PM p q==1)
 |_=>false
def JU{g:Nat}:((g:Int)==1)=(g==1):=by
 cases h:(g==1) with
 |true=>rw[eq_of_beq h];rfl
 |false=>
  have:g≠1:=λz=>by rw[z]at h;cases h
  exact beq_eq_false_iff_ne.mpr (by omega)
def HP{xs:ac}:(∃x y,xs=[x,y])∨xs.length≠2:=by
 match xs with
 |[]=>exact .inr (by decide)
 |[x]=>exact .inr (by simp)
 |[x,y]=>exact .inl ⟨x,y,rfl⟩
 |x::y::z::r=>exact .inr (by simp)
theorem BH:∀{xs:ac},xs.length≠2->oC (.tup xs)=false
 |[],_=>rfl
 |[x],_=>by cases x<;>rfl
 |[x,y],h=>absurd rfl h
 |x::y::z::r,_=>by cases x<;>cases y<;>rfl
def wC{x y:D}:oC (.tup [x,y])=(LH x&&(LH y&&oC (.tup [x,y]))):=by
 cases x<;>cases y<;>rfl
def sW(d:D):m_is_ratio [d]=.ok (.bl (oC d)):=by
 cases d with
 |tup xs=>
  rcases HP (xs:=xs) with⟨x,y,rfl⟩|h
  .rw[wC]
   show cm 1 dB _=_;cases hx:LH x with
   |false=>open_line with[dB,gF,hx,Rr]
   |true=>
    cases hy:LH y with
    |false=>open_line with[dB,gF,hx,hy,Rr,R8]
    |true=>
     cases x<;>first|(cases hx;done)|skip
     cases y<;>first|(cases hy;done)|skip
     rename_i p q;show _=aj.ok (D.bl (decide (1<=q)&&(PM p q==1)))
     by_cases hq:1<=q
     .open_line with[dB,gF,hx,hy,rF,R8,decide_eq_true hq,JU]
     .open_line with[dB,gF,hx,hy,rF,R8,decide_eq_false hq,Rr]
  .have e2:((xs.length:Int)==2)=false:=beq_eq_false_iff_ne.mpr (by omega)
   rw[BH h];show cm 1 dB _=_;open_line with[dB,e2]
 |ob k _=>cases k<;>rfl
 |_=>rfl
def G9{sz:List Int}(h:(sz.all λs=>decide (0<s)&&decide (s<=(vW:Int)))=true):∀s∈sz,0<s/\s.natAbs<B9:=λs hs=>by
 have:=Pr.mp h s hs;simp only[O4,decide_eq_true_eq]at this;refine⟨this.1,P6 (show s.natAbs<=vW by omega) ?_⟩;exact OR (show vW<2 ^ 200 by decide) (by rw[D4];exact Qv (by decide) (by decide))
def iM{α:Type}{F:α->D}{xs:List α}{lo hi:Option Int}:jv (xs.map F) lo hi=((xs.drop (HT.sIx xs.length 0 lo)).take (HT.sIx xs.length xs.length hi-HT.sIx xs.length 0 lo)).map F:=by
 unfold jv;rw[OH,←List.map_drop,←List.map_take]
end Com
namespace DL
open PySem PySem.Spec PyProof.Rows L2
def bB.there{P:O5}{w:Pt}{H:Hp}{h:OL}{a:OG}{o:HO}(x:bB P w H h a o):∃u,h.get? a=some u:=by
 cases o with|lst xs=>obtain⟨_,_,_,_,e⟩:=x;exact⟨_,e⟩|tup xs=>obtain⟨_,_,_,ob,e,_⟩:=x;exact⟨_,e⟩|dK kvs|dT kvs=>obtain⟨_,_,_,_,o,_,_,e,_⟩:=x;exact⟨_,e⟩|set S n=>obtain⟨o,_,_,_,e,_⟩:=x;exact⟨_,e⟩|ins C dx fs=>obtain⟨_,_,_,e,_⟩:=x;exact⟨_,e⟩|own y=>obtain⟨_,e⟩:=x;exact⟨_,e⟩|xd fs=>obtain⟨_,⟨_,_,_,e,_⟩,_⟩:=x;exact⟨_,e⟩|rng lo hi=>obtain⟨_,_,_,e⟩:=x;exact⟨_,e⟩|frz ob u=>obtain⟨e,_⟩:=x;exact⟨_,e⟩|tbl ps|met f y=>exact⟨_,show h.get? a=some _ from x⟩|ext φ=>obtain⟨_,⟨_,e⟩,_⟩:=x;exact⟨_,e⟩
noncomputable def dN(P:O5) (w:Pt):qp:=λouter H s E e s'=>∃(ea C:OG) (a0:OB) (B:OL) (H':Hp),e=.ref ea/\s'.os=s.os/\AllBare s'.gens/\Un (fH outer) [] H H' s.heap s'.heap/\fv P w H' s'.heap/\H' ea=none /\
 Q6 B outer ea (.ref C) a0 s'.heap/\(∀b,b∉fH outer->(H' b≠none∨∃o,s.heap.get? b=some o)->∃o,B.get? b=some o)/\∃ox,Mu s'.heap ea ox/\E (.ref C) ox H'
def tq{l:List PQ}:∀env∈l,∀a,env.frame=some a->a∈fH l:=λenv he a hf=>S3.mpr ⟨env,he,hf⟩
section
variable {P:O5}{w:Pt}{K:OF}{mg:OO->Option OB}{base:OL}{N:bv}{qual:OO}{scope:RA}{f:OG}{cd:OB}{A:Pu}{outer:List PQ}{s0:OE}{H0:Hp}{E:XK}
 {π:List (OG×Obj)}{σ:L2.St}{H:Hp}{s:OE}
def fV{B h h':OL}(k:B.StaysIn h)(k':B.StaysIn h'){b:OG}{o:Obj}(hb:∃u,B.get? b=some u)(e:h.get? b=some o):h'.get? b=some o:=by
 obtain⟨u,q⟩:=hb;have:=k b u q;rw[e]at this;cases this;exact k' b o q
def yY{X:Cx}(hX:X=bV (dN P w) P w K mg base N qual scope f cd A outer s0 H0 E)(I:Inv X π σ H s){s1:OE}{H1:Hp}{ea C:OG}{a0:OB}{B h':OL}(os:s1.os=s.os)(bare:AllBare s1.gens)
  (un:Un (fH X.stack) [] H H1 s.heap s1.heap)(hok:fv P w H1 s1.heap)(hne:H1 ea=none)(hst:B.StaysIn s1.heap)(hfr:s1.heap.FunFrames B X.stack)
  (hB:∀b,b∉fH X.stack->(H1 b≠none∨∃o,s.heap.get? b=some o)->∃o,B.get? b=some o)(fl:Q6 B outer ea (.ref C) a0 h')(up:s1.heap.UpToSlots h')(hE:∃ox,Mu h' ea ox/\E (.ref C) ox H1) :
  dN P w outer H0 s0 E (.ref ea) { s1 with heap:=h' }:=by
 subst hX;have hL:(envOfC qual scope s0.heap.objs.size f cd).frame=some (envOfC qual scope s0.heap.objs.size f cd).locals:=rfl;have hstk:∀b,b∈fH (envOfC qual scope s0.heap.objs.size f cd::outer)->b=(envOfC qual scope s0.heap.objs.size f cd).locals∨b∈fH outer:=λb hb=>by
  unfold fH at hb;rw[Qq,hL]at hb;exact OU.mp hb
 have hsub:∀b,b∈fH outer->b∈fH (envOfC qual scope s0.heap.objs.size f cd::outer):=λb hb=>by
  unfold fH;rw[Qq,hL];exact OZ _ hb
 have old:∀b o,s0.heap.get? b=some o->b≠(envOfC qual scope s0.heap.objs.size f cd).locals:=λb o e=>Pj (OR (OT e) I.ok.above);have nofr:∀b o,s0.heap.get? b=some o->b∉fH outer->b∉fH (envOfC qual scope s0.heap.objs.size f cd::outer):=λb o e hb hm=>(hstk b hm).elim (old b o e) hb;have thr:∀b o,s0.heap.get? b=some o->∃o',s.heap.get? b=some o':=λb o e=>I.base.there b o e (by intro z;exact nomatch z);have fst:∀b,b∈fH outer->∀o,s1.heap.get? b=some o->∃sl,h'.get? b=some { o with slots:=sl }:=λb hb o e=>by
  obtain⟨_,o',ho',hd⟩:=hfr.mem (hsub b hb);rw[e]at ho';cases ho';exact up b o e hd
 have free1:∀b∈fH (envOfC qual scope s0.heap.objs.size f cd::outer),H1 b=none:=λb hb=>by
  obtain⟨_,o,ho,_⟩:=I.stack.mem hb;exact un.free b o ho (I.stkFree b hb) (by simp)
 have B0:∀b o,s0.heap.get? b=some o->b∉fH outer->∃u,B.get? b=some u:=λb o e hb=>hB b (nofr b o e hb) (.inr (thr b o e));refine⟨ea,C,a0,B,H1,rfl,os.trans I.os,bare,⟨λb o e n hb hx=>?_,λb o e n hb hx=>?_,λb o e n hx=>?_,λb o e hx=>?_,λb xs e=>un.tups b xs (I.base.tups b xs e),λb o u e=>un.frzs b o u (I.base.frzs b o u e),λb ps e=>?_⟩,λa o e=>?_,hne,fl,λb hb h=>?_,hE⟩
 .have e1:=I.base.keep b o e n hb (by intro z;exact nomatch z)
  have n1:=I.base.free b o e n (by intro z;exact nomatch z);have e2:=un.keep b o e1 n1 (nofr b o e hb) (by simp);exact fV hst fl.1 (B0 b o e hb) e2
 .obtain⟨sl,e1⟩:=I.base.slot b o e n hb (by intro z;exact nomatch z)
  have n1:=I.base.free b o e n (by intro z;exact nomatch z);obtain⟨sl2,e2⟩:=un.any e1 n1 (by simp);obtain⟨sl3,e3⟩:=fst b hb _ e2;exact⟨sl3,e3⟩
 .obtain⟨o',e1⟩:=thr b o e
  exact un.free b o' e1 (I.base.free b o e n (by intro z;exact nomatch z)) (by simp)
 .obtain⟨o',e1⟩:=thr b o e
  obtain⟨o2,e2⟩:=un.there b o' e1 (by simp)
  by_cases hb:b∈fH outer
  .obtain⟨sl,e3⟩:=fst b hb _ e2
   exact⟨_,e3⟩
  .exact⟨_,fV hst fl.1 (B0 b o e hb) e2⟩
 .obtain⟨m1,e1⟩:=I.base.tbls b ps e
  obtain⟨m2,e2⟩:=un.tbls b _ e1;exact⟨m1++m2,by rw[e2,S8]⟩
 .refine(hok a o e).stay (λb u hb q=>?_) (λ_ q=>q) λ_ _ q=>q
  have hn:H1 b≠none:=by
   rcases hb with rfl|hb
   .rw[e];simp
   .rw[hb];simp
  exact fV hst fl.1 (hB b (λhm=>hn (free1 b hm)) (.inl hn)) q
 .by_cases hm:b∈fH (envOfC qual scope s0.heap.objs.size f cd::outer)
  .rcases hstk b hm with z|z
   .rcases h with h|⟨o,h⟩
    .exact absurd (free1 b hm) h
    .exact absurd z (old b o h)
   .exact absurd z hb
  .exact hB b hm (h.elim .inl λ⟨o,h⟩=>.inr (thr b o h))
def sE(I:Inv (bV (dN P w) P w K mg base N qual scope f cd A outer s0 H0 E) π σ H s){h1:OL}{e C:OG}{vs:List OB}(hx:R0 s.heap h1 e (.ref C) vs)(hE:E (.ref C) none H) :
  (bV (dN P w) P w K mg base N qual scope f cd A outer s0 H0 E).xe (.ref e) { s with heap:=h1 }:=by
 have hin:=tq (l:=envOfC qual scope s0.heap.objs.size f cd::outer);have hl:s.heap.FunFrames (Rb s.heap (fH (envOfC qual scope s0.heap.objs.size f cd::outer))) (envOfC qual scope s0.heap.objs.size f cd::outer):=Tu I.stack hin;have hn:H e=none:=by
  cases q:H e with|none=>rfl|some o=>obtain⟨u,hu⟩:=bB.there (I.hok e o q);rw[hx.new]at hu;cases hu
 obtain⟨t,he,_,_⟩:=hx.there;have hen:(Rb s.heap (fH (envOfC qual scope s0.heap.objs.size f cd::outer))).get? e=none:=by
  cases q:(Rb s.heap (fH (envOfC qual scope s0.heap.objs.size f cd::outer))).get? e with|none=>rfl|some o=>have:=RT _ q;rw[hx.new]at this;cases this
 refine pf (s:={ s with heap:=h1 }) (a0:=.ref t) I.ok.frames (hl.of_keeps λb o hb _=>⟨o,hx.keeps b o hb,rfl⟩) rfl he (λb o q=>hx.keeps b o (RT _ q)) hen rfl rfl rfl (λz=>absurd rfl z) λh' fl up dch=>?_;refine yY rfl I (s1:={ s with heap:=h1 }) (H1:=H) rfl I.bare (Un.kept hx.keeps) (I.hok.kept hx.keeps) hn (λb o q=>hx.keeps b o (RT _ q)) (hl.of_keeps λb o hb _=>⟨o,hx.keeps b o hb,rfl⟩) (λb hb h=>?_) fl up ⟨none,⟨none,dch,.inl rfl⟩,hE⟩;have:∃o,s.heap.get? b=some o:=by
  rcases h with h|h
  .cases q:H b with
   |none=>exact absurd q h
   |some o=>exact bB.there (I.hok b o q)
  .exact h
 obtain⟨o,q⟩:=this;exact⟨o,SU _ q hb⟩
def yy:jD (dN P w) (bV (dN P w) P w K mg base N qual scope f cd A outer s0 H0 E) E:=by
 intro π σ H s e s' I h;obtain⟨ea,C,a0,B,H',rfl,os,bare,un,hok,hne,fl,hB,ox,⟨dc,hdc,hox⟩,hE⟩:=h;refine Az I.ok.frames rfl fl hdc λh' fl' up hd'=>?_;exact yY rfl I os bare un hok hne fl.1 fl.2.2.1 hB fl' up ⟨ox,⟨dc,hd',hox⟩,hE⟩
end
def xg{P:O5}{w:Pt}{K:OF}{mg:OO->Option OB}{base:OL}{x qual:OO}{st:Qt}{f:OG}{fd:Pz}{N ps:bv}{k:Nat}{s:am}(F:D1 K x qual st f fd)(S:fw N ps (defScope st))
  (hbody:∀(cdv:OB) (A:Pu) (outer:List PQ) (s0:OE) (H Ha:Hp) (E:XK),c5 k (A.deeper (envOfC qual (defScope st) s0.heap.objs.size f cdv)) ->
   wb (bV (dN P w) P w K mg base N qual (defScope st) f cdv A outer s0 H E) E H Ha (defBody st) s):FnOk P w K mg base (dN P w) (k+1) f fd ps (spD K ps.length (cm N.length s)):=by
 have hpl:ps.length<=N.length:=by have:=congrArg TM S.pre;rw[PJ]at this;omega
 obtain⟨oc,od,kV,doc,pm,an,cdv,ct,osl,rfl,lk,hcd⟩:=F.ex;refine C4 lk hcd S (λvs H Q E h=>h.1) λA outer s0 H vs Q E hr h=>?_;obtain⟨hn,Ha,ds,hs,hv,q⟩:=h;refine⟨_,(hbody cdv A outer s0 H Ha E hr).o,Ha,ds.map Sl.sh++O7 (N.length-ds.length) .no,?_,?_⟩
 .refine⟨bf.refl hs,jc hv,λi d e=>?_,λi j d d' hij e=>?_,?_,OX.none lS ki⟩
  .by_cases hi:i<ds.length
   .rw[O8 (by simpa using hi),OM]at e
    cases q:ds[i]? with|none|some d'=>rw[q]at e;cases e
   .rw[O9 (by simpa using hi),Pm]at e
    split at e<;>cases e
  .by_cases hi:i<ds.length
   .rw[O8 (by simpa using hi),OM]at e
    cases q:ds[i]? with|none|some d'=>rw[q]at e;cases e
   .rw[O9 (by simpa using hi),Pm]at e
    split at e<;>cases e
  .unfold L2.start
   have:=hv.length;simp only[PU,OH,QD];omega
 .unfold cm at q
  cases e1:s (ds.map Sl.sh++O7 (N.length-ds.length) .no) with
  |stuck|exn x=>rw[e1]at q;exact q
  |ok r=>
   rw[e1]at q;cases r with|nx ρ'=>exact λσ' H' Ha' _ h'=>q .non H' Ha' h'.g (aP.mpr rfl)|rt d=>exact λv H' Ha' g rp=>q v H' Ha' g rp|bk ρ'|ct ρ'=>exact q.elim
def noX(m:ac->aj D)(ds:ac):aj D:=match m ds with
 |.exn _=>.stuck
 |r=>r
def yf{K:OF}{n:Nat}{m:ac->aj D}{vs:ad}{H:Hp}{Q:VK}{E E':XK}(h:spD K n (noX m) vs H Q E):spD K n m vs H Q E':=by
 obtain⟨hn,Ha,ds,hs,hv,q⟩:=h;refine⟨hn,Ha,ds,hs,hv,?_⟩;unfold noX at q;cases e:m ds with|stuck=>rw[e]at q;exact q|exn x=>rw[e]at q;exact q.elim|ok d=>rw[e]at q;exact q
theorem FnOk.noX{P:O5}{w:Pt}{K:OF}{mg:OO->Option OB}{base:OL}{k n:Nat}{f:OG}{fd:Pz}{ps:bv}{m:ac->aj D}(F:FnOk P w K mg base (dN P w) k f fd ps (spD K n m)) :
  FnOk P w K mg base CX0 k f fd ps (spD K n (DL.noX m)) :=
 ⟨λvs H Q E h=>F.len vs H Q E0 (yf h),λA outer s H args us vs Q E hr he hb hv h=>codeAny_mono (F.run A outer s H args us vs Q E0 hr he hb hv (yf h)) λr s' q=>by
  cases r with
  |ok fl=>cases fl<;>exact q
  |error e=>obtain⟨_,_,_,_,_,_,_,_,_,_,_,_,_,_,_,hE⟩:=q;exact hE.elim⟩
structure DX (K:OF) (x:OO) (C:OG):Prop where
 xc:XC K x C
 ex:Ta K C [.type "ValueError",.type "Exception",.type "BaseException",.type "object"] "ValueError.__new__"=true
def DX.obj{K:OF}{x:OO}{C:OG}(c:DX K x C){h:OL}(X:K.In h):∃bm N nm q bs hdct sn sub ab col dd k0 k1 k2 k3 k5 mN,h.get? C=some (excClassObj nm q C N bs bm hdct sn sub ab col dd k0 k1 k2 k3 k5 "ValueError.__new__")/\h.Ns N mN/\mN "__init__"=none /\
  OwnTail h [.type "ValueError",.type "Exception",.type "BaseException",.type "object"] bm:=by
 have q:=c.ex;unfold Ta at q;split at q
 .rename_i dd cd sl ho
  split at q
  .rename_i C' bm k0 k1 k2 k3 n k5 hm hs
   simp only[O4,beq_iff_eq,Tq]at q;obtain⟨⟨⟨⟨⟨rfl,rfl⟩,hdel⟩,ht⟩,hok⟩,hni⟩:=q;obtain⟨nm,bs,mro,ns,qn,hd,sn,sub,ab,col,del⟩:=cd;dsimp only at hm hdel hok hni;subst hm hdel;have hsl:sl=#[k0,k1,k2,k3,some (.builtin "ValueError.__new__"),k5]:=by
    obtain⟨l⟩:=sl;simp only at hs;rw[hs]
   subst hsl;exact⟨bm,ns,nm,qn,bs,hd,sn,sub,ab,col,dd,k0,k1,k2,k3,k5,_,X _ _ ho,.of_isNs (S9 X hok),W.nsMap_none_of_in X hok hni,W.tail_of_in X ht⟩
  .cases q
 .cases q
def wz(x:OO)(fa:Ev->aj (ac)):am:=λρ=>(fa (gu ρ)).bind λds=>if ds.length<=line then .exn ⟨x,[]⟩ else .stuck
section
variable {P:O5}{w:Pt}{K:OF}{mg:OO->Option OB}{base:OL}{N:bv}{qual:OO}{scope:RA}{f:OG}{cd:OB}{A:Pu}{outer:List PQ}{s0:OE}{H0:Hp}{E:XK}{He η:Hp}
def Ds{x:OO}{C:OG}{np cpos pos:Pos}{e:Pd}{es:List Pd}{fa:Ev->aj (ac)}(c:DX K x C)(hm:mg x=some (.ref C))(hh:A.handled=none)
  (hg:Gl (bV (dN P w) P w K mg base N qual scope f cd A outer s0 H0 E) x)(ha:DA (bV (dN P w) P w K mg base N qual scope f cd A outer s0 H0 E) E (e::es) fa)
  (hdb:(x==("__debug__" : OO))=false:=by decide)(he:OJ (e::es) (bV (dN P w) P w K mg base N qual scope f cd A outer s0 H0 E).env=(false,eval e (bV (dN P w) P w K mg base N qual scope f cd A outer s0 H0 E).env)::OJ es (bV (dN P w) P w K mg base N qual scope f cd A outer s0 H0 E).env:=by exact aM rfl)
  (hpl:(PN cpos (OJ es (bV (dN P w) P w K mg base N qual scope f cd A outer s0 H0 E).env)).any (·.1)=false:=by exact bw rfl) :
  DS (bV (dN P w) P w K mg base N qual scope f cd A outer s0 H0 E) E He η (.Raise (some (.Call (.Name x np) (e::es) [] cpos)) none pos) (wz x fa):=by
 refine⟨?_⟩;intro π s σ H D I ⟨Ha,ρ,hr,q⟩;obtain⟨bm,Nn,nm,qn,bs,hdct,sn,sub,ab,col,dd,k0,k1,k2,k3,k5,mN,hC,hN,hni,T⟩:=c.obj I.ok.mod.kin;refine wpAny_Raise_call_subT (C:=C) (nm:=nm) (q:=qn) (N:=Nn) (bs:=bs) (bm:=bm) (hdct:=hdct) (sn:=sn) (sub:=sub) (ab:=ab) (col:=col) (dd:=dd) (k0:=k0) (k1:=k1) (k2:=k2) (k3:=k3) (k5:=k5)
  Qh (mN:=mN) (T.hasType Qh.hasBase) hh (by rw[he];show(false||(PN cpos (OJ es (bV (dN P w) P w K mg base N qual scope f cd A outer s0 H0 E).env)).any (·.1))=false;rw[hpl];rfl) hni (gC I hg hm ⟨rfl,?_⟩ hdb)
 have hq:oG K E H (frz He Ha H) (fa (gu ρ)) (λvs H1=>vs.length<=sizeLine/\E (.ref C) none H1):=by
  unfold wz at q;cases e1:fa (gu ρ) with
  |stuck=>rw[e1]at q;exact q|exn z=>rw[e1]at q;exact λC ox H' Ha' g ex=>q C ox H' Ha' (hr.frz_grow.trans g) ex
  |ok ds=>
   rw[e1]at q;intro vs H1 H01 g rp;have q:bM K E He η Ha (if ds.length<=line then aj.exn ⟨x,[]⟩ else .stuck) D:=q
   by_cases hl:ds.length<=line
   .rw[if_pos hl]at q
    exact⟨by rw[←rp.length];exact cV hl,q (.ref C) none H1 H01 (hr.frz_grow.trans g) ⟨⟨C,rfl,c.xc⟩,rfl⟩⟩
   .rw[if_neg hl]at q;exact q.elim
 have h1:=ha.o cpos π s σ H _ I ⟨frz He Ha H,gu ρ,hr.frz_le,hr.looks,hq⟩;rw[he]at h1 ⊢;refine Rq (PH h1 (λvs s2 h2=>?_) λ_ _ y=>y);obtain⟨vs',H1,I1,rv,hl,hE⟩:=h2;exact⟨rfl,by rw[←rv.length];exact hl,I1.bk _ _ hC,hN.keeps I1.bk,T.keeps I1.bk,λh' ee hx=>sE I1 hx hE⟩
end
section
variable {P:O5}{w:Pt}{st:List PQ}{H H':Hp}{h g g' B:OL}
def Un.fly(un:Un (fH st) [] H H' h g)(k:B.StaysIn g)(hfr:g.FunFrames B st)(hB:∀b,b∉fH st->(H' b≠none∨∃o,h.get? b=some o)->∃o,B.get? b=some o)(k':B.StaysIn g')(up:g.UpToSlots g'):Un (fH st) [] H H' h g':=by
 have fst:∀b,b∈fH st->∀o,g.get? b=some o->∃sl,g'.get? b=some { o with slots:=sl }:=λb hb o e=>by
  obtain⟨_,o',ho',hd⟩:=hfr.mem hb;rw[e]at ho';cases ho';exact up b o e hd
 refine⟨λb o e n hb hx=>?_,λb o e n hb hx=>?_,un.free,λb o e hx=>?_,un.tups,un.frzs,un.tbls⟩
 .exact fV k k' (hB b hb (.inr ⟨o,e⟩)) (un.keep b o e n hb hx)
 .obtain⟨sl,e1⟩:=un.slot b o e n hb hx
  obtain⟨sl2,e2⟩:=fst b hb _ e1;exact⟨sl2,e2⟩
 .obtain⟨o',e1⟩:=un.there b o e hx
  by_cases hb:b∈fH st
  .obtain⟨sl,e2⟩:=fst b hb _ e1
   exact⟨_,e2⟩
  .exact⟨_,fV k k' (hB b hb (.inr ⟨o,e⟩)) e1⟩
def fv.fly(ok:fv P w H' g)(hf:∀b∈fH st,H' b=none)(k:B.StaysIn g)(hB:∀b,b∉fH st->(H' b≠none∨∃o,h.get? b=some o)->∃o,B.get? b=some o)(k':B.StaysIn g'):fv P w H' g':=λa o e=>by
 refine(ok a o e).stay (λb u hb q=>?_) (λ_ q=>q) λ_ _ q=>q;have hn:H' b≠none:=by
  rcases hb with rfl|hb
  .rw[e];simp
  .rw[hb];simp
 exact fV k k' (hB b (λhm=>hn (hf b hm)) (.inl hn)) q
def fv.ext(ok:fv P w H g){a:OG}{φ:OL->Prop}(hn:H a=none)(p:φ g)(ht:∃o,g.get? a=some o)(hm:∀h1 h2:OL,φ h1->(∀o,h1.get? a=some o->h2.get? a=some o)->φ h2):fv P w (upd H a (.ext φ)) g:=λb u e=>by
 by_cases hb:b=a
 .subst hb;rw[aG]at e;cases e;exact⟨p,ht,hm⟩
 .rw[aE hb]at e
  exact(ok b u e).stay (λc v _ q=>q) (λc q=>by rw[aE (aR q hn)];exact q) λc xs q=>by rw[aE (aR q hn)];exact q
def Un.ext{fs:List OG}(un:Un fs [] H H' h g){a:OG}{o:HO}(hn:H' a=none)(ha:h.get? a=none):Un fs [] H (upd H' a o) h g :=
 ⟨un.keep,un.slot,λb ob e n hx=>by rw[aE (λz=>by subst z;rw[ha]at e;cases e)];exact un.free b ob e n hx,un.there,λb xs q=>by rw[aE (aR (un.tups b xs q) hn)];exact un.tups b xs q,
  λb ob u q=>by rw[aE (aR (un.frzs b ob u q) hn)];exact un.frzs b ob u q,λb ps q=>by
   obtain⟨m,e⟩:=un.tbls b ps q;exact⟨m,by rw[aE (aR e hn)];exact e⟩⟩
end
def hand(X:Cx)(e:OG):Cx:={ X with A:=X.A.mark (some (.ref e)),calm:=false,xe:=λ_ _=>False }
section
variable {X:Cx}{π:List (OG×Obj)}{σ:L2.St}{H:Hp}{s:OE}{e:OG}
def FE(ok:X.Ok):(hand X e).Ok :=
 ⟨ok.mod,ok.kind,ok.glob,ok.blt,ok.above,ok.inj,ok.has,ok.cab,λz=>Bool.noConfusion z,ok.frames,ok.stk,ok.exf,ok.bs,ok.bsz,ok.noex,ok.exfs,ok.funs,ok.frf⟩
def Inv.hand(I:Inv X π σ H s):Inv (DL.hand X e) π σ H s:=⟨FE I.ok,I.os,I.bare,I.base,I.loc,I.cell,I.free,I.freeC,I.pin,I.hok,I.len⟩
def gq(ok:X.Ok)(I:Inv (DL.hand X e) π σ H s):Inv X π σ H s:=⟨ok,I.os,I.bare,I.base,I.loc,I.cell,I.free,I.freeC,I.pin,I.hok,I.len⟩
end
def PA.nox{X:Cx}{es:List Pd}{t:TA}(h:PA X.nox es t):PA X es t:=λpos π s σ H Q I hw=>
 PH (h pos π s σ H Q (I.wish _) hw) (λ_ _ ⟨v,H',I',r,q⟩=>⟨v,H',I'.unwish,r,q⟩) λ_ _ z=>Qi z
section
variable {X:Cx}{π:List (OG×Obj)}{σ:L2.St}{H:Hp}{s:OE}{CX:qp}{k:Nat}{f:OG}{fd:Pz}{ps:bv}{sp:Sp}{Ex:XK}{x:OO}{p pos:Pos}{e:Pd}{es:List Pd}{t:TA}
def GQ{Q:VK}{XE:OB->OE->Prop}(F:FnOk X.prog X.w X.K X.mg X.base CX k f fd ps sp)(hr:c5 k X.A)(hg:Gl X x)(hm:X.mg x=some (.ref f))(hk:Sh X.K (.ref f)=true)(hb:iX X.K fd ps [])(ha:PA X.nox (e::es) t)
  (I:Inv X π σ H s)(h:t σ H λvs H1=>sp vs H1 Q Ex)(hx:∀H1 s1 e s',Inv X π σ H1 s1->CX X.stack H1 s1 Ex e s'->XE e s')
  (hdb:(x==("__debug__" : OO))=false:=by decide)(he:OJ (e::es) X.env=(false,eval e X.env)::OJ es X.env:=by exact aM rfl)(hpl:(PN pos (OJ es X.env)).any (·.1)=false:=by exact bw rfl) :
  OS (OW X.prog X.w) X.A (eval (.Call (.Name x p) (e::es) [] pos) X.env) (EP X π σ Q) XE s:=by
 refine wpAny_Call_Name_kw (gC I hg hm ?_ hdb);have ha':PA (X.wish XE) (e::es) t:=PA.nox (X:=X.wish XE) ha;refine W.callWith_K (h₀:=X.base) I.ok.mod.kin hk (cM (ha' pos π s σ H _ (I.wish XE) h) λus s1 z9=>?_) he hpl;obtain⟨vs,H1,I1,r,q⟩:=z9;refine⟨I1.unwish.kIn,?_⟩;have I1:=I1.unwish;have hl:us.length=ps.length:=by rw[←r.length];exact F.len _ _ _ _ q
 have hb1:=hb s1 us I1.kIn (by simpa using hl);rw[QM]at hb1;refine wpAny_call (codeAny_mono (F.run X.A X.stack s1 H1 ⟨us,[]⟩ us vs Q Ex hr I1.env0 hb1 r q) λr s' hq=>?_);cases r with
 |error e=>exact hx H1 s1 e s' I1 hq
 |ok fl=>
  cases fl with|ret u=>exact I1.after hq|next|brk|cont=>exact Qi hq
end
def Br(K:OF)(He η Ha:Hp)(r:aj Fl)(D:gr):Prop:=match r with
 |.exn _=>True
 |r=>bM K E0 He η Ha r D
def MS(K:OF)(He η Ha:Hp)(σ:L2.St)(ρ:Ev)(r:aj Fl):XK:=λC ox H'=>∃x Ha',r=.exn x/\aF Ha Ha'/\dJ K He η Ha' σ H' ρ/\tY K Ha' x C ox
structure TB (X:Cx) (st:Qt) (g:am):Prop where
 o:∀(π:List (OG×Obj)) (s:OE) (σ:L2.St) (H He η Ha:Hp) (ρ:Ev) (D:gr) (XE:OB->OE->Prop),Inv X π σ H s->dJ X.K He η Ha σ H ρ->Br X.K He η Ha (g ρ) D ->
  (∀H1 s1 e s',Inv X π σ H1 s1->dN X.prog X.w X.stack H1 s1 (MS X.K He η Ha σ ρ (g ρ)) e s'->XE e s')->OS (OW X.prog X.w) X.A (exec st X.env) (SP X π D) XE s
structure HC (k:Nat) (A:Pu):Prop where
 dp:A.depth+3*k+5<recursionLimit
 un:A.units+16*k+200<QU
def c5.h{k:Nat}{A:Pu}(r:c5 k A):HC k A:=⟨r.dp,r.un⟩
structure N5 (P:O5) (w:Pt) (K:OF) (mg:OO->Option OB) (base:OL) (k:Nat) (f:OG) (fd:Pz) (ps:bv) (sp:Sp):Prop where
 len:∀vs H Q E,sp vs H Q E->vs.length=ps.length
 run:∀(A:Pu) (outer:List PQ) (s:OE) (H:Hp) (args:Args) (us:List OB) (vs:ad) (Q:VK) (E:XK),HC k A->vZ P w K mg base A outer s H->BindsTo s fd args (ps.zip us)->bq vs us->sp vs H Q E ->
  Rt (OW P w) A (.call (.ref f) args) (CR CX0 outer P w H s Q E) s
def N5.ok{P:O5}{w:Pt}{K:OF}{mg:OO->Option OB}{base:OL}{k:Nat}{f:OG}{fd:Pz}{ps:bv}{sp:Sp}(F:N5 P w K mg base k f fd ps sp):FnOk P w K mg base CX0 k f fd ps sp :=
 ⟨F.len,λA outer s H args us vs Q E hr=>F.run A outer s H args us vs Q E (c5.h hr)⟩
end DL
namespace DL
open PySem PySem.Spec PyProof.Rows L2 PySem.W
structure nB (K:Frag) (x:OO) (C:OG):Prop where
 ns:nsIn K O6 x=some (some (.ref C))
 ty:typeIn K (.ref C)=some (.type "type")
 ob:mroIn K C (.type "object")=some true
 be:subIn K (.ref C) (.type "BaseException")=some true
def nB.isCls{K:Frag}{x:OO}{C:OG}(Z:nB K x C):(clsIn K C).isSome=true:=by
 obtain⟨cd,a,b⟩:=Ur.mp Z.ob;rw[a];rfl
def nB.kitCls{K:Frag}{x:OO}{C:OG}(Z:nB K x C){t:OB}:W.kitCls K t (.ref C)=subIn K t (.ref C):=by
 show(if((clsIn K C).isSome&&typeIn K (.ref C)==some (.type "type"))=true then subIn K t (.ref C) else none)=_;rw[Z.isCls,Z.ty];rfl
def nB.exm{K:Frag}{x:OO}{C:OG}(Z:nB K x C){t:OB}{b:Bool}(h:subIn K t (.ref C)=some b):exmOne K t (.ref C)=some b:=by
 unfold exmOne;rw[Z.be,if_pos (by decide),Z.kitCls,h]
def CH{K:Frag}{C:OG}{T:String}{b:Bool}(hm:kitMeta T=true)(h:subIn K (.ref C) (.type T)=some b):kitOne K (.ref C) (.type T)=some b:=by
 unfold kitOne;rw[if_neg (by intro z;cases beq_iff_eq.mp z)];show(if kitMeta T=true then subIn K (.ref C) (.type T) else none)=_;rw[if_pos hm,h]
def mO:∀T∈fM,kitMeta T=true:=by decide +kernel
structure zx (K:Frag) (x:OO) (C:OG):Prop where
 i:nB K x C
 cls:findIn K (.ref C) "__class__"=some (some (.builtin "object.__class__"))
 ga:findIn K (.ref C) "__getattribute__"=some (some (.builtin "BaseException.__getattribute__"))
 gt:findIn K (.ref C) "__getattr__"=some none
 t1:subIn K (.ref C) (.type "NoneType")=some false
 t2:subIn K (.ref C) (.type "bool")=some false
 t3:subIn K (.ref C) (.type "int")=some false
 t4:subIn K (.ref C) (.type "str")=some false
 t5:subIn K (.ref C) (.type "tuple")=some false
 t6:subIn K (.ref C) (.type "list")=some false
 t7:subIn K (.ref C) (.type "dict")=some false
 ve:subIn K (.ref C) (.type "ValueError")=some true
 self:subIn K (.ref C) (.ref C)=some true
 ex:excIn K C [.type "ValueError",.type "Exception",.type "BaseException",.type "object"] "ValueError.__new__"=true
def zx.xcls{K:Frag}{x:OO}{C:OG}(Z:zx K x C):DX K x C where
 xc:=⟨Z.i.ns,⟨Z.cls,Z.ga,Z.gt,Z.i.ob,Z.i.be⟩,λT hT=>by
  refine CH (mO T hT) ?_;simp only[fM,OU,PR,or_false]at hT;rcases hT with rfl|rfl|rfl|rfl|rfl|rfl|rfl
  .exact Z.t1
  .exact Z.t2
  .exact Z.t3
  .exact Z.t4
  .exact Z.t5
  .exact Z.t6
  .exact Z.t7⟩
 ex:=Z.ex
def XC.inj{K:Frag}{x:OO}{C C':OG}(a:XC K x C)(b:XC K x C'):C=C':=by
 have:=a.ns.symm.trans b.ns;simpa using this
def ya:List (OO×Bool)->OO->Option Bool
 |[],_=>none
 |(x,b)::r,c=>if x=c then some b else ya r c
theorem qK{K:Frag}{p:OO->OG->Bool->Prop}:∀{l:List (OO×Bool)},(∀q∈l,∃C,XC K q.1 C/\p q.1 C q.2)->∀c C b,ya l c=some b->XC K c C->p c C b
 |[],_,c,C,b,h,_=>by cases h
 |(x,v)::r,H,c,C,b,h,xc=>by
  unfold ya at h
  by_cases e:x=c
  .subst e
   rw[if_pos rfl]at h;cases h;obtain⟨C',xc',q⟩:=H _ Pc;obtain rfl:=XC.inj xc xc';exact q
  .rw[if_neg e]at h
   exact qK (λq hq=>H q (OZ _ hq)) c C b h xc
def vd(l:List (OO×Bool))(c:OO):Bool:=ya l c==some true
def CV{K:Frag}{l:List (OO×Bool)}{cv:OB}(H:∀q∈l,∃C,XC K q.1 C/\exmOne K (.ref C) cv=some q.2):∀x C,vd l x=true->XC K x C->exmOne K (.ref C) cv=some true:=λx C h xc=>
 qK (p:=λ_ C b=>exmOne K (.ref C) cv=some b) H x C true (by unfold vd at h;exact beq_iff_eq.mp h) xc
end DL
namespace DL
open PySem PySem.Spec PyProof.Rows L2
section
variable {X:Cx}{π:List (OG×Obj)}{σ:L2.St}{H:Hp}{s:OE}{h':OL}
def lR{t':Nat}{fp:List OG}{T:OG}{xs:ad}(I:Inv X π σ H s)(k:∀b o,b∉fp->s.heap.get? b=some o->h'.get? b=some o)(hf:∀b∈fp,mv X π H b)(hT:s.heap.objs.size<=T)
  (new:bB X.prog X.w (upd H T (.tup xs)) h' T (.tup xs)):Inv X π σ (upd H T (.tup xs)) { s with heap:=h',toks:=t' }:=by
 have hn:H T=none:=I.hok.fresh hT;have nit:∀b u,H b=some u->b∉fp:=λb u e z=>by rw[(hf b z).1]at e;cases e
 refine I.step (g':=s.gens) (d':=s.drawn) (ch:=fp) (λb hb=>?_) (λb o _ _ hc e _=>k b o hc e) (λb o _ _ hc e _=>⟨o.slots,k b o hc e⟩) (λb o _ e n=>?_)
  (λb o hc e=>⟨o,k b o hc e⟩) (λb xs e=>by rw[aE (aR e hn)];exact e) (λb o u e=>by rw[aE (aR e hn)];exact e) (λb ps e=>⟨#[],by rw[aE (aR e hn),e];simp⟩) (λm hm=>?_) (λb u e=>?_) I.bare
 .obtain⟨_,f1,_,f3,f4,f5⟩:=hf b hb
  exact⟨f3,f1,f4,f5⟩
 .rw[aE (Pj (OR (OT e) hT))];exact n
 .obtain⟨o,es,ep,ho,r⟩:=hm
  exact⟨o,es,ep,k _ o (λz=>(hf _ z).2.1 rfl) ho,r⟩
 .by_cases hb:b=T
  .subst hb;rw[aG]at e;cases e;exact new
  .rw[aE hb]at e
   refine(I.hok b u e).stay (λc v hc q=>k c v ?_ q) (λc q=>by rw[aE (aR q hn)];exact q) λc xs q=>by rw[aE (aR q hn)];exact q
   rcases hc with z|z
   .rw[z];exact nit b u e
   .exact nit c _ z
def r8{t':Nat}{fp:List OG}(I:Inv X π σ H s)(k:∀b o,b∉fp->s.heap.get? b=some o->h'.get? b=some o)(hf:∀b∈fp,mv X π H b):Inv X π σ H { s with heap:=h',toks:=t' }:=by
 have nit:∀b u,H b=some u->b∉fp:=λb u e z=>by rw[(hf b z).1]at e;cases e
 refine I.step (g':=s.gens) (d':=s.drawn) (ch:=fp) (λb hb=>?_) (λb o _ _ hc e _=>k b o hc e) (λb o _ _ hc e _=>⟨o.slots,k b o hc e⟩) (λb o _ e n=>n)
  (λb o hc e=>⟨o,k b o hc e⟩) (λb xs e=>e) (λb o u e=>e) (λb ps e=>⟨#[],by rw[e];simp⟩) (λm hm=>?_) (λb u e=>?_) I.bare
 .obtain⟨_,f1,_,f3,f4,f5⟩:=hf b hb
  exact⟨f3,f1,f4,f5⟩
 .obtain⟨o,es,ep,ho,r⟩:=hm
  exact⟨o,es,ep,k _ o (λz=>(hf _ z).2.1 rfl) ho,r⟩
 .refine(I.hok b u e).stay (λc v hc q=>k c v ?_ q) (λ_ q=>q) λ_ _ q=>q
  rcases hc with z|z
  .rw[z];exact nit b u e
  .exact nit c _ z
end
def N4(K:OF)(a:OG):It :=
 ⟨λi H=>∃xs x,df K H a xs/\xs[i]?=some x,λi H x H'=>∃p y,H p=none/\x=.ref p/\(∀xs,df K H a xs->xs[i]?=some y)/\H'=upd H p (.tup [.int i,y]),λi H=>∃xs,df K H a xs/\xs.length<=i⟩
def zK{P:O5}{w:Pt}{K:OF}{elts:List Pd}{k:Nat}{pos:Pos}(a it e:OG)(hne:e≠it)(hae:a≠e)(hai:a≠it) :
  vS P w K (.Tuple elts k pos) (N4 K a) [e,it] e (λi h=>(∃old,IsEnum h e it i old)/\h.IsListIter it a i) where
 mem:=by simp
 obj:=λi h st b hb=>by
  obtain⟨⟨old,he⟩,o,h1,h2,h3⟩:=st;rcases OU.mp hb with rfl|hb
  .exact⟨_,he,λv z=>by cases z⟩
  .rcases OU.mp hb with rfl|hb
   .exact⟨o,h1,λv z=>by rw[h3]at z;cases z⟩
   .cases hb
 keep:=λi h h' st k=>by
  obtain⟨⟨old,he⟩,hi⟩:=st;exact⟨⟨old,k e (by simp) _ he⟩,hi.at λo y=>k it (by simp) o y⟩
 item:=by
  intro X hP hw hK hc i π s σ H E I hf st hg;subst hP hw hK;obtain⟨xs,x,hq,hx⟩:=hg;obtain⟨its,rv,p,hz⟩:=I.list hq;obtain⟨u,hu,ru⟩:=rv.get hx;have W:=WalksT.enumerate (prog:=X.prog) (w:=X.w) (I.ok.hd hc) e it a hne hae hai its.toArray;have hil:i<its.toArray.size:=by simpa using (OP.mp hu).1
  refine W.item i s _ _ hil ⟨st.1,st.2,p.isList⟩ λT vals h' tk hPt hT hTup hMid hk=>?_;refine⟨_,rfl,W.go elts k pos i T _ _ _ hMid λh'' st'' hk''=>?_⟩;obtain⟨t,y,hy,rfl⟩:=hPt;have hyu:y=u:=by
   have:its[i]?=some y:=by simpa using hy
   rw[hu]at this;cases this;rfl
  subst hyu;obtain⟨o,ho,hr⟩:=hTup;have ho':=hk'' T o (W.apart i T _ hMid) ho;refine⟨.ref T,upd H T (.tup [.int i,x]),lR (s:=s) (h':=h'') (t':=tk) I (λb o hb e=>hk'' b o hb (hk b o hb e)) hf hT ⟨by show 2<=sizeLine;decide,[.int i t,y],.cons ⟨t,rfl⟩ (.cons ru .nil),o,ho',hr⟩,rfl,⟨T,x,I.hok.fresh hT,rfl,λys hy=>by rw[I.list_inj hy hq];exact hx,rfl⟩,⟨st''.1,st''.2.1⟩,λb hb=>?_⟩;have hb0:=(hf b hb).1;obtain⟨ob,hob,_⟩:∃o,s.heap.get? b=some o/\∀v,o.data≠.cell v:=by
   obtain⟨⟨old,he⟩,o,h1,h2,h3⟩:=st;rcases OU.mp hb with rfl|hb
   .exact⟨_,he,λv z=>by cases z⟩
   .rcases OU.mp hb with rfl|hb
    .exact⟨o,h1,λv z=>by rw[h3]at z;cases z⟩
    .cases hb
  rw[aE (Pj (OR (OT hob) hT))];exact hb0
 done:=by
  intro X hP hw hK hc i π s σ H E I hf st hg;subst hP hw hK;obtain⟨xs,hq,hx⟩:=hg;obtain⟨its,rv,p,hz⟩:=I.list hq;have hl:=rv.length;obtain⟨⟨old,he⟩,hi⟩:=st;exact wpAny_pyNext_enum_end (I.ok.hd hc) he hi p.isList (by simp;omega) λh' hx=>⟨rfl,r8 (t':=s.toks) I (λb o hb e=>hx b o (λz=>hb (by simp[z])) e) hf⟩
 self:=λ_ _ _ _ _ st h=>by
  obtain⟨⟨old,he⟩,_⟩:=st;exact wpAny_pyIter_enum he h
section
variable {X:Cx}{E:XK}{elts:List Pd}{k:Nat}{tp:Pos}{e a b:Pd}{f g:al}
def LO(K:OF)(ta:TA):TI:=λσ H R=>ta σ H λvs H1=>∃a,vs=[.ref a]/\(∃xs,df K H1 a xs)/\R (N4 K a) H1
def E5{ta:TA}{p pos:Pos}(hg:Gl X "enumerate")(hm:X.mg "enumerate"=none)(ha:PA X [a] ta)(hs:OJ [a] X.env=[(false,eval a X.env)]:=by rfl):PI X (.Tuple elts k tp) (.Call (.Name "enumerate" p) [a] [] pos) (LO X.K ta):=by
 intro π s σ H R I h;refine Call_ (iE I hg hm PyProof.Rows.Boot.«enumerate» (Qc (cM (ha pos π s σ H _ I h) λus s1 z9=>?_) hs rfl));obtain⟨vs,H1,I1,r1,q1⟩:=z9;obtain⟨l,e,⟨xs,hq⟩,q⟩:=q1;subst e;cases r1 with
 |cons r rr=>
  cases rr;cases r;obtain⟨its,rv,p,hz⟩:=I1.list hq;have hlt:l<s1.heap.objs.size:=by obtain⟨o,n,e,_⟩:=p;exact OT e
  refine call_enumerate_list p.isList λh' he hi hsz hk=>?_;refine wpAny_pyIter_enum he ?_;refine⟨s1.heap.objs.size+1,[s1.heap.objs.size+1,s1.heap.objs.size],_,_,H1,rfl,I1.kept (t':=s1.toks) hk,zK l s1.heap.objs.size (s1.heap.objs.size+1) (Nat.succ_ne_self _) (Pj (Rj hlt)) (Pj hlt),⟨⟨_,he⟩,hi⟩,λb hb=>?_,q⟩;have hb':s1.heap.objs.size<=b:=by
   rcases OU.mp hb with rfl|hb
   .omega
   .rcases OU.mp hb with rfl|hb
    .exact O0 _
    .cases hb
  exact I1.fpOk hb' (I1.hok.fresh hb')
def bK(n:Nat):ac->ac
 |[]=>[]
 |d::ds=>.tup [.int n,d]::bK (n+1) ds
theorem numbered_len:∀(ds:ac) (n:Nat),(bK n ds).length=ds.length
 |[],_=>rfl
 |d::ds,n=>by simp[bK,numbered_len ds]
theorem dD:∀(ds:ac) (n i:Nat),(bK n ds)[i]?=(ds[i]?).map λd=>D.tup [.int (n+i:Nat),d]
 |[],_,_=>by simp[bK]
 |d::ds,n,0=>by simp[bK]
 |d::ds,n,i+1=>by simp only[bK,Qe];rw[dD ds (n+1) i,show n+1+i=n+(i+1) by omega]
def nr(f:al):Ev->aj (ac):=λρ=>(f ρ).bind λd=>match d with
 |.lst ds=>.ok (bK 0 ds)
 |_=>.stuck
def nE{K:OF}{H Ha:Hp}{p:OG}{vs:ad}{ds:ac}(hs:aF Ha H)(hp:H p=none)(r:Reps K Ha ds vs):∃H₀2,bf H Ha (upd H p (.tup vs)) H₀2/\Rep K H₀2 (.tup ds) (.ref p) :=
 ⟨upd Ha p (.tup vs),aL hs hp,aI.mpr ⟨p,vs,rfl,gT.of aG,r.mono (aL (o:=.tup vs) hs hp).z⟩⟩
def jQ{p pos:Pos}(hg:Gl X "enumerate")(hm:X.mg "enumerate"=none)(h:DE X E a f)(hn:D7 a=true:=by exact rfl):DI X E (.Tuple elts k tp) (.Call (.Name "enumerate" p) [a] [] pos) (nr f):=by
 refine⟨jK (E5 hg hm (cw h.o eF (cX hn)) (cX hn)) λσ H R z9=>?_⟩;obtain⟨Ha,ρ,hs,hr,q⟩:=z9;refine⟨Ha,ρ,hs,hr,?_⟩;unfold nr at q;cases e1:f ρ with
 |stuck|exn x=>rw[e1]at q;exact q
 |ok d=>
  rw[e1]at q;intro v H1 H01 g1 r1;cases d with
  |lst ds=>
   obtain⟨l,vs,rfl,hv,hrv⟩:=aA.mp r1;refine⟨l,rfl,⟨vs,aF.sqL g1.sub hv⟩,q _ H1 H01 g1 ⟨λi H' Ha' s1 s2 hi=>?_,λi H' Ha' x H2 d s1 s2 hd hy=>?_,λi H' Ha' s1 s2 hi=>?_⟩⟩
   .rw[numbered_len]at hi
    exact⟨vs,vs[i]'(by rw[←hrv.length];exact hi),aF.sqL (s1.trans s2) hv,by simp⟩
   .obtain⟨p,y,hp,rfl,hy,rfl⟩:=hy
    rw[dD]at hd;cases ei:ds[i]? with
    |none=>rw[ei]at hd;cases hd
    |some d'=>
     rw[ei]at hd;cases hd;obtain⟨u,k1,k2⟩:=hrv.get ei;have:=hy vs (aF.sqL (s1.trans s2) hv);rw[k1]at this;cases this;exact nE s2 hp (Reps.cons (aD.mpr (by simp)) (Reps.cons (k2.mono s1) Reps.nil))
   .rw[numbered_len]at hi
    exact⟨vs,aF.sqL (s1.trans s2) hv,by rw[←hrv.length];exact hi⟩
  |_=>exact q.elim
end
noncomputable def NL(K:OF) (a b:OG):It :=
 ⟨λi H=>∃xs ys x y,df K H a xs/\df K H b ys/\xs[i]?=some x/\ys[i]?=some y,λi H x H'=>∃p y z,H p=none/\x=.ref p/\(∀xs,df K H a xs->xs[i]?=some y)/\(∀xs,df K H b xs->xs[i]?=some z)/\H'=upd H p (.tup [y,z]),
  λi H=>∃xs ys,df K H a xs/\df K H b ys/\min xs.length ys.length<=i⟩
def uw{P:O5}{w:Pt}{K:OF}{elts:List Pd}{k:Nat}{pos:Pos}(z TI TO i1 i2 a b:OG)(D:ZipApart z TI TO i1 i2 a b) :
  vS P w K (.Tuple elts k pos) (NL K a b) [z,TI,TO,i1,i2] z (λi h=>IsZip h z TI TO .none/\IsPair h TI (.ref i1) (.ref i2)/\(∃a b,IsPair h TO a b)/\h.IsListIter i1 a i/\h.IsListIter i2 b i) where
 mem:=by simp
 obj:=λi h st b hb=>by
  obtain⟨hz,hTI,⟨a',b',hTO⟩,⟨o1,e1,c1,d1⟩,⟨o2,e2,c2,d2⟩⟩:=st;simp only[OU,PR,or_false]at hb;rcases hb with rfl|rfl|rfl|rfl|rfl
  .exact⟨_,hz,λv z=>by cases z⟩
  .exact⟨_,hTI,λv z=>by cases z⟩
  .exact⟨_,hTO,λv z=>by cases z⟩
  .exact⟨_,e1,λv z=>by rw[d1]at z;cases z⟩
  .exact⟨_,e2,λv z=>by rw[d2]at z;cases z⟩
 keep:=λi h h' st k=>by
  obtain⟨hz,hTI,⟨a',b',hTO⟩,h1,h2⟩:=st;exact⟨k z (by simp) _ hz,k TI (by simp) _ hTI,⟨a',b',k TO (by simp) _ hTO⟩,h1.at λo y=>k i1 (by simp) o y,h2.at λo y=>k i2 (by simp) o y⟩
 item:=by
  intro X hP hw hK hc i π s σ H E I hf st hg;subst hP hw hK;obtain⟨xs,ys,x,y,hqx,hqy,hx,hy⟩:=hg;obtain⟨its,rv,p,hz⟩:=I.list hqx;obtain⟨jts,rw_,p',hz'⟩:=I.list hqy;obtain⟨u,hu,ru⟩:=rv.get hx;obtain⟨u',hu',ru'⟩:=rw_.get hy;have W:=WalksT.zip2 (prog:=X.prog) (w:=X.w) (I.ok.hd hc) z TI TO i1 i2 a b D its.toArray jts.toArray;have hil:i<min its.toArray.size jts.toArray.size:=by
   have h1:=(OP.mp hu).1;have h2:=(OP.mp hu').1;simp only[O3];omega
  have sub:∀b,b∉[z,TI,TO,i1,i2]->b∉[z,TO,i1,i2]:=λb hb hc=>hb (by simp only[OU,PR,or_false]at hc ⊢;rcases hc with h|h|h|h<;>simp[h]);refine W.item i s _ _ hil ⟨st.1,st.2.1,st.2.2.1,st.2.2.2.1,st.2.2.2.2,p.isList,p'.isList⟩ λT vals h' tk hPt hT hTup hMid hk=>?_;refine⟨_,rfl,W.go elts k pos i T _ _ _ hMid λh'' st'' hk''=>?_⟩;obtain⟨v,v',hv,hv',rfl⟩:=hPt;have hyu:v=u:=by
   have:its[i]?=some v:=by simpa using hv
   rw[hu]at this;cases this;rfl
  have hyu':v'=u':=by
   have:jts[i]?=some v':=by simpa using hv'
   rw[hu']at this;cases this;rfl
  subst hyu hyu';obtain⟨o,ho,hr⟩:=hTup;have ho':=hk'' T o (W.apart i T _ hMid) ho;refine⟨.ref T,upd H T (.tup [x,y]),lR (s:=s) (h':=h'') (t':=tk) I (λb o hb e=>hk'' b o (sub b hb) (hk b o (sub b hb) e)) hf hT ⟨by show 2<=sizeLine;decide,[v,v'],.cons ru (.cons ru' .nil),o,ho',hr⟩,rfl,⟨T,x,y,I.hok.fresh hT,rfl,λys hy'=>by rw[I.list_inj hy' hqx];exact hx,λys hy'=>by rw[I.list_inj hy' hqy];exact hy,rfl⟩,
   ⟨st''.1,st''.2.1,st''.2.2.1,st''.2.2.2.1,st''.2.2.2.2.1⟩,λb hb=>?_⟩
  have hb0:=(hf b hb).1;obtain⟨ob,hob⟩:∃o,s.heap.get? b=some o:=by
   obtain⟨hz,hTI,⟨a',b',hTO⟩,⟨o1,e1,c1,d1⟩,⟨o2,e2,c2,d2⟩⟩:=st;simp only[OU,PR,or_false]at hb;rcases hb with rfl|rfl|rfl|rfl|rfl
   .exact⟨_,hz⟩
   .exact⟨_,hTI⟩
   .exact⟨_,hTO⟩
   .exact⟨_,e1⟩
   .exact⟨_,e2⟩
  rw[aE (Pj (OR (OT hob) hT))];exact hb0
 done:=by
  intro X hP hw hK hc i π s σ H E I hf st hg;subst hP hw hK;obtain⟨xs,ys,hqx,hqy,hx⟩:=hg;obtain⟨its,rv,p,hz⟩:=I.list hqx;obtain⟨jts,rw_,p',hz'⟩:=I.list hqy;have hl:=rv.length;have hl':=rw_.length;obtain⟨hz,hTI,⟨a',b',hTO⟩,h1,h2⟩:=st;refine wpAny_pyNext_zip_end (I.ok.hd hc) D hz hTI hTO h1 h2 p.isList p'.isList ?_ λh' hk=>⟨rfl,r8 (t':=s.toks) I (λc o hb e=>hk c o (λx=>hb (by simp[x])) (λx=>hb (by simp[x])) (λx=>hb (by simp[x])) (λx=>hb (by simp[x])) e) hf⟩
  by_cases hle:xs.length<=ys.length
  .left;simp;omega
  .right;simp;omega
 self:=λ_ _ _ _ _ st h=>by
  obtain⟨hz,_⟩:=st;exact wpAny_pyIter_zip hz h
section
variable {X:Cx}{E:XK}{elts:List Pd}{k:Nat}{tp:Pos}{e a b:Pd}{f g:al}
def Nu(K:OF)(ta:TA):TI:=λσ H R=>ta σ H λvs H1=>∃a b,vs=[.ref a,.ref b]/\(∃xs,df K H1 a xs)/\(∃xs,df K H1 b xs)/\R (NL K a b) H1
def IF{ta:TA}{p pos:Pos}(hg:Gl X "zip")(hm:X.mg "zip"=none)(ha:PA X [a,b] ta)(hs:OJ [a,b] X.env=[(false,eval a X.env),(false,eval b X.env)]:=by rfl)(hs2:OJ [b] X.env=[(false,eval b X.env)]:=by rfl) :
  PI X (.Tuple elts k tp) (.Call (.Name "zip" p) [a,b] [] pos) (Nu X.K ta):=by
 intro π s σ H R I h;refine Call_ (iE I hg hm PyProof.Rows.Boot.«zip» (Qc (cM (ha pos π s σ H _ I h) λus s1 ⟨vs,H1,I1,r1,q1⟩=>?_) (by rw[hs,hs2]) (by rw[hs2];rfl)));obtain⟨l,l',e,⟨xs,hq⟩,⟨ys,hq'⟩,q⟩:=q1;subst e;cases r1 with
 |cons r rr=>
  cases rr with
  |cons r' rr=>
   cases rr;cases r;cases r';obtain⟨its,rv,p,hz⟩:=I1.list hq;obtain⟨jts,rv',p',hz'⟩:=I1.list hq';have hlt:l<s1.heap.objs.size:=by obtain⟨o,n,e,_⟩:=p;exact OT e
   have hlt':l' < s1.heap.objs.size:=by obtain⟨o,n,e,_⟩:=p';exact OT e
   refine call_zip_2 p.isList p'.isList λh' hz hTI hTO hi1 hi2 hsz hk=>?_;refine wpAny_pyIter_zip hz ?_;refine⟨s1.heap.objs.size+4,[s1.heap.objs.size+4,s1.heap.objs.size+2,s1.heap.objs.size+3,s1.heap.objs.size,s1.heap.objs.size+1],_,_,H1,rfl,I1.kept (t':=s1.toks) hk,uw _ _ _ _ _ l l' (zipApart_new hlt hlt'),⟨hz,hTI,⟨_,_,hTO⟩,hi1,hi2⟩,λb hb=>?_,q⟩;have hb':s1.heap.objs.size<=b:=by
    simp only[OU,PR,or_false]at hb;rcases hb with rfl|rfl|rfl|rfl|rfl<;>omega
   exact I1.fpOk hb' (I1.hok.fresh hb')
def bJ:ac->ac->ac
 |d::ds,e::es=>.tup [d,e]::bJ ds es
 |_,_=>[]
theorem er:∀(ds es:ac),(bJ ds es).length=min ds.length es.length
 |[],_=>by simp[bJ]
 |_::_,[]=>by simp[bJ]
 |d::ds,e::es=>by simp[bJ,er ds es]
theorem eX:∀(ds es:ac) (i:Nat) (d:D),(bJ ds es)[i]?=some d->∃x y,ds[i]?=some x/\es[i]?=some y/\d=.tup [x,y]
 |[],_,_,_,h=>by simp[bJ]at h
 |_::_,[],_,_,h=>by simp[bJ]at h
 |d::ds,e::es,0,_,h=>by simp[bJ]at h;exact⟨d,e,rfl,rfl,h.symm⟩
 |d::ds,e::es,i+1,_,h=>by
  simp only[bJ,Qe]at h;obtain⟨x,y,h1,h2,h3⟩:=eX ds es i _ h;exact⟨x,y,by simpa using h1,by simpa using h2,h3⟩
def BA(f g:al):Ev->aj (ac):=λρ=>(f ρ).bind λd=>(g ρ).bind λe=>match d,e with
 |.lst ds,.lst es=>.ok (bJ ds es)
 |_,_=>.stuck
def J1{p pos:Pos}(hg:Gl X "zip")(hm:X.mg "zip"=none)(h:DE X E a f)(h':DE X E b g)(hn:D7 a=true:=by exact rfl)(hn':D7 b=true:=by exact rfl):DI X E (.Tuple elts k tp) (.Call (.Name "zip" p) [a,b] [] pos) (BA f g):=by
 refine⟨jK (IF hg hm (cw h.o (cw h'.o eF (cX hn')) (aM hn)) (by rw[aM hn,cX hn']) (cX hn')) λσ H R z9=>?_⟩;obtain⟨Ha,ρ,hs,hr,q⟩:=z9;refine⟨Ha,ρ,hs,hr,?_⟩;unfold BA at q;cases e1:f ρ with
 |stuck|exn x=>rw[e1]at q;exact q
 |ok d=>
  rw[e1]at q;intro v H1 H01 g1 r1;refine⟨H01,ρ,g1.sub,hr.mono g1.z,?_⟩;replace q:match ((g ρ).bind λe=>match d,e with
   |.lst ds,.lst es=>aj.ok (bJ ds es)
   |_,_=>.stuck) with
    |.ok ds=>∀J H' Ha',bf H Ha H' Ha'->Kr X.K ds J Ha'->R J H'
    |.exn x=>∀C ox H' Ha',bf H Ha H' Ha'->tY X.K Ha' x C ox->E C ox H'
    |.stuck=>False:=q
  cases e2:g ρ with
  |stuck=>rw[e2]at q;exact q|exn x=>rw[e2]at q;exact λC ox H' Ha' g2=>q C ox H' Ha' (g1.trans g2)
  |ok d2=>
   rw[e2]at q;intro v2 H2 H02 g2 r2;cases d with
   |lst ds=>
    cases d2 with
    |lst es=>
     obtain⟨l,vs,rfl,hv,hrv⟩:=aA.mp (r1.mono g2.z);obtain⟨l',vs',rfl,hv',hrv'⟩:=aA.mp r2;refine⟨l,l',rfl,⟨vs,aF.sqL g2.sub hv⟩,⟨vs',aF.sqL g2.sub hv'⟩,q _ H2 H02 (g1.trans g2) ⟨λi H' Ha' s1 s2 hi=>?_,λi H' Ha' x H2 d s1 s2 hd hy=>?_,λi H' Ha' s1 s2 hi=>?_⟩⟩
     .rw[er]at hi
      have h1:=hrv.length;have h2:=hrv'.length;exact⟨vs,vs',vs[i]'(by omega),vs'[i]'(by omega),aF.sqL (s1.trans s2) hv,aF.sqL (s1.trans s2) hv',by simp,by simp⟩
     .obtain⟨p,y,z,hp,rfl,hy,hz,rfl⟩:=hy
      obtain⟨d1,d2,k1,k2,rfl⟩:=eX _ _ _ _ hd;obtain⟨u,m1,m2⟩:=hrv.get k1;obtain⟨u',m1',m2'⟩:=hrv'.get k2;have:=hy vs (aF.sqL (s1.trans s2) hv);rw[m1]at this;cases this;have:=hz vs' (aF.sqL (s1.trans s2) hv');rw[m1']at this;cases this;exact nE s2 hp (Reps.cons (m2.mono s1) (Reps.cons (m2'.mono s1) Reps.nil))
     .rw[er]at hi
      have h1:=hrv.length;have h2:=hrv'.length;exact⟨vs,vs',aF.sqL (s1.trans s2) hv,aF.sqL (s1.trans s2) hv',by omega⟩
    |_=>exact q.elim
   |_=>exact q.elim
end
def Nz(f:OO):bv->ac->Option D
 |k::ks,d::ds=>if f=k then some d else Nz f ks ds
 |_,_=>none
section
variable {X:Cx}{E:XK}{e a b o:Pd}{es:List Pd}{fe fo:al}{fa:Ev->aj (ac)}{pos:Pos}
def putAll:bv->ad->List (OO×V)->List (OO×V)
 |f::fs,v::vs,l=>putAll fs vs (iY f v l)
 |_,_,l=>l
theorem uM{f:OO}{v:V}:∀{l:List (OO×V)},f∉l.map (·.1)->iY f v l=l++[(f,v)]
 |[],_=>rfl
 |(k,x)::l,h=>by
  simp only[OY,OU,not_or]at h;unfold iY;rw[if_neg (λz=>h.1 z.symm),uM h.2];rfl
theorem oF:∀{fs:bv}{vs:ad}{l:List (OO×V)},fs.Nodup->(∀f∈fs,f∉l.map (·.1))->fs.length=vs.length->putAll fs vs l=l++fs.zip vs
 |[],[],l,_,_,_=>by simp[putAll]
 |[],v::vs,l,_,_,h=>by simp at h
 |f::fs,[],l,_,_,h=>by simp at h
 |f::fs,v::vs,l,nd,hn,h=>by
  rw[Qk]at nd;unfold putAll;rw[uM (hn f Pc),oF nd.2 (λg hg=>?_) (by simpa using h),Qu,Sn]
  .rfl
  .simp only[PF,OY,Sf,Ql,Q4,not_or]
   exact⟨hn g (OZ _ hg),λz=>nd.1 (z▸hg)⟩
def uv{H:Hp}{a:OG}{o:HO}(h:H a=some o):upd H a o=H:=by
 funext b
 by_cases hb:b=a
 .subst hb;rw[aG,h]
 .rw[aE hb]
def lP{H:Hp}{a:OG}{o u:HO}:upd (upd H a o) a u=upd H a u:=by
 funext b
 by_cases hb:b=a
 .subst hb;rw[aG,aG]
 .rw[aE hb,aE hb,aE hb]
theorem uN{f:OO}{v:V}:∀{l:List (OO×V)},(iY f v l).length<=l.length+1
 |[]=>by simp[iY]
 |(k,x)::l=>by
  unfold iY;split
  .simp
  .have:=uN (f:=f) (v:=v) (l:=l)
   simp;omega
def CS:ac->Option (List Int)
 |[]=>some []
 |.int x::r=>(CS r).map (x::·)
 |_=>none
def LJ(a:Int):List Int->List Int
 |[]=>[a]
 |b::l=>if a<=b then a::b::l else b::LJ a l
def Hg:List Int->List Int
 |[]=>[]
 |a::l=>LJ a (Hg l)
def N2(x:D):aj D:=match x with
 |.lst ds=>match CS ds with
  |some ns=>if ns.length<64 then .ok (.lst ((Hg ns).map D.int)) else .stuck
  |none=>.stuck
 |_=>.stuck
def FD(x:D)(ds:ac):Option Nat:=ds.findIdx? λd=>cO d x
def ju(x y:D):aj D:=match x with
 |.lst ds=>if aW 40 y=true/\ds.all (aW 40)=true then match FD y ds with
   |some j=>.ok (.int j)
   |none=>.stuck
  else .stuck
 |_=>.stuck
def Iq(K:OF):V->ad->Hp->VK->Prop:=λx vs H Q=>∃ds y d j,Rep K H (.lst ds) x/\vs=[y]/\Rep K H d y/\aW 40 d=true/\ds.all (aW 40)=true/\FD d ds=some j/\Q (.int j) H
def Cy(hu:X.A.units+64<QU):MN X "list.index" (Iq X.K):=by
 intro π s σ H x vs v us Q I rx rv h;obtain⟨ds,y,d,j,hr,rfl,hd,s1,s2,hj,q⟩:=h;obtain⟨u,rfl,ru⟩:=rv.one;obtain⟨a,vs,its,ea,rfl,h1,h2,h3,h4,h5⟩:=aU I hr rx;subst ea;obtain⟨its',h3',⟨o,n,e,hc,hdd,hda⟩,hz⟩:=I.list h1;have ei:its'=its:=by
  obtain⟨o',e',_,n',d'⟩:=h4;rw[e]at e';cases e';rw[hda]at d';injection d' with d1 _;simpa using congrArg UI d1
 subst ei;unfold FD at hj;rw[List.findIdx?_eq_some_iff_getElem]at hj;obtain⟨hjl,hjt,hjf⟩:=hj;have at_:∀m (hm:m<its'.length),iZ X.K H ds d its'[m]=cO (ds[m]'(by rw[h5];exact hm)) d:=λm hm=>by
  obtain⟨v',k1,k2⟩:=h2.get (OI (by rw[h5];exact hm:m<ds.length));obtain⟨u',k3,k4⟩:=h3.get k1;rw[OI hm]at k3;cases k3;exact tE I s2 (P9 _) k2 k4
 have hsm:(j:Int)<2 ^ 63-1:=by
  have h7:=h2.length;have:j<sizeLine:=by omega
  have:sizeLine<=2 ^ 60:=by decide
  omega
 obtain⟨oc,od,odt,osl⟩:=o;replace hc:oc=.type "list":=hc;replace hda:odt=.seq its'.toArray n:=hda;subst hc hda;refine call_meets F.slot_list_index ⟨_,e,rfl⟩ F.entry_list_index (F.args_list_index_2 _ _) (SeqAt.list_indexAt a its'.toArray n od osl u (iZ X.K H ds d) j (by simp;omega) hsm ?_ ?_) ⟨e,λw hw=>fW I hu s1 hd ru s2 (λ_ z=>z) h2 h3 w (by simpa using hw),.int j,H,I.tok _,⟨_,rfl⟩,q⟩
 .have:=at_ j (by omega)
  simp only[UY];rw[this];exact hjt
 .intro m hm hmj
  have:=at_ m (by simpa using hm);simp only[UY];rw[this];have:=hjf m hmj;simpa using this
def eR(fo:al)(fe:al):al:=λρ=>(fo ρ).bind λx=>match x with
 |.lst ds=>(fe ρ).bind λy=>ju (.lst ds) y
 |_=>.stuck
def kX{apos cpos:Pos}(hu:X.A.units+64<QU)(ho:DE X E o fo)(he:DE X E e fe)
  (hbase:Ra o "index" X.env (eval o X.env)=eval o X.env:=by rfl)
  (hfew:((PN cpos (OJ [e] X.env)).all (λx=>!x.1)&&(Sx cpos (Rm [] X.env)).all (λx=>x.1.isSome)
  &&decide ([e].length+([]:List R7).length+(if([]:List R7).isEmpty then 0 else 1)<30))=true:=by exact kQ rfl)
  (hline:(apos.endLine==cpos.line)=true:=by rfl) (hs:OJ [e] X.env=(false,eval e X.env)::OJ [] X.env:=by exact aM rfl) (hplain:(PN cpos (OJ [] X.env)).any (·.1)=false:=by exact bw rfl) :
  DE X E (.Call (.Attribute o "index" apos) [e] [] cpos) (eR fo fe):=by
 refine⟨aX (yw RO PySem.F.slot_list_index PySem.F.type_list_index (Cy hu) ho.o (cw he.o eF hs) hbase hfew hline hs hplain) λσ H Q z9=>?_⟩;obtain⟨Ha,ρ,hs,hr,q⟩:=z9;refine⟨Ha,ρ,hs,hr,?_⟩;unfold eR at q;cases e1:fo ρ with
 |stuck|exn x=>rw[e1]at q;exact q
 |ok x=>
  rw[e1]at q;intro v H1 H01 g1 r1;cases x with
  |lst ds=>
   replace q:post X.K E H Ha ((fe ρ).bind λy=>ju (.lst ds) y) Q:=q;replace q:=q.grow g1;refine⟨?_,H01,ρ,g1.sub,hr.mono g1.z,?_⟩
   .obtain⟨p,vs,rfl,h1,h2⟩:=aA.mp r1
    exact .inl ⟨rfl,vs,aF.sqL g1.sub h1⟩
   .cases e2:fe ρ with
    |stuck=>rw[e2]at q;exact q
    |exn x=>rw[e2]at q;exact q
    |ok y=>
     rw[e2]at q;intro u H2 H02 g2 r2;replace q:=post.grow (r:=ju (.lst ds) y) q g2;unfold ju at q
     by_cases c:aW 40 y=true/\ds.all (aW 40)=true
     .simp only[if_pos c]at q
      cases e3:FD y ds with
      |none=>simp only[e3]at q;exact q.elim
      |some j=>
       simp only[e3]at q;exact⟨ds,u,y,j,(r1.mono g2.z).mono g2.sub,rfl,r2.mono g2.sub,c.1,c.2,e3,bG g2.sub q (ri _)⟩
     .simp only[if_neg c]at q;exact q.elim
  |_=>exact q.elim
end
def Fq{K:OF}{C:OG}:∀f∈([]:bv),mq K C f:=λ_ h=>nomatch h
def uW{K:OF}{C:OG}{f:OO}{ks:bv}(h:Rn K (.ref C) f=some none)(r:∀f∈ks,mq K C f):∀g∈f::ks,mq K C g:=λg hg=>by
 rcases OU.mp hg with rfl|hg
 .exact h
 .exact r g hg
end DL
namespace Com
open PySem L2 DL
def Hu(tg:Ev->D->aj Ev)(s:am)(ρ:Ev)(ds:ac):aj Fl:=cW tg s ds ρ
def Hd(d:D):aj (ac):=match d with
 |.lst ds=>.ok (bK 0 ds)
 |_=>.stuck
def Hc(d:D):aj (ac):=match d with
 |.lst ds=>.ok ds
 |_=>.stuck
def j8(n:Nat)(fr:cr)(tg:Ev->D->aj Ev)(tt fe:al)(ρ:Ev)(ds:ac):aj D:=if ds.length<=line then match bU (cZ n fr ρ) tg tt fe ds with
  |.ok es=>.ok (.lst es)
  |_=>.stuck
 else .stuck
def N1(fe:al)(ρ:Ev)(x:D):aj D:=match x with
 |.lst ds=>(fe ρ).bind (ju (.lst ds))
 |_=>.stuck
def C2(tg:Ev->D->aj Ev)(s:am)(ρ:Ev)(d:D):aj Fl:=match d with
 |.int j=>if -4611686018427387904<=j/\j<4611686018427387904 then cW tg s (intsFrom 0 j.toNat) ρ else .stuck
 |_=>.stuck
section
variable {s t:am}{f g h:al}{src:Ev->aj (ac)}{fa:Ev->aj (ac)}{ρ r:Ev}{i j n:Nat}{d x y:D}{ds es xs:ac}{a b:Int}{tg:Ev->D->aj Ev}{tt fe:al}{fr:cr}
def zb:gW src tg s ρ=(src ρ).bind (Hu tg s ρ):=aQ rfl
def Dg:Hu tg s ρ ds=cW tg s ds ρ:=aQ rfl
def y0:nr f ρ=(f ρ).bind Hd:=aQ rfl
def vp:Hd (.lst ds)=.ok (bK 0 ds):=aQ rfl
def FN:EH f ρ=(f ρ).bind Hc:=aQ rfl
def C9:Hc (.lst ds)=.ok ds:=aQ rfl
def jN:eC n fr src tg tt fe ρ=(src ρ).bind (j8 n fr tg tt fe ρ):=aQ rfl
def L6:eR f g ρ=(f ρ).bind (N1 g ρ):=aQ rfl
def JJ:N1 g ρ (.lst ds)=(g ρ).bind (ju (.lst ds)):=aQ rfl
def Df{is:cr}(h:(ds.length==is.length)=true):dy is ρ (.tup ds)=.ok (cH ρ is ds):=by
 show(match (if ds.length=is.length then some ds else none) with|some ds=>aj.ok (cH ρ is ds)|none=>.stuck)=_;rw[if_pos (eq_of_beq h)]
def kR:mD f tg s ρ=(f (gu ρ)).bind (C2 tg s ρ):=aQ rfl
def kO{k:Nat}(h:k<=1000000):C2 tg s ρ (.int (k:Int))=cW tg s (intsFrom 0 k) ρ:=by
 unfold C2;dsimp only;rw[if_pos ⟨by omega,by omega⟩,Qs]
def iF:AI (.int 10) (.int 18)=.ok (.int 1000000000000000000):=aQ rfl
def k9{F:D->D}(hl:ds.length<=1000000)(h:∀d∈ds,∃ρ1,tg (cZ n fr ρ) d=.ok ρ1/\tt ρ1=.ok (.bl true)/\fe ρ1=.ok (F d)):j8 n fr tg tt fe ρ ds=.ok (.lst (ds.map F)):=by
 unfold j8;rw[if_pos (show ds.length<=line from hl),rG h]
theorem mX{B:Ev}{F:D->D}{p:D->Bool}:∀{ds:ac},(∀d∈ds,∃ρ1,tg B d=.ok ρ1/\tt ρ1=.ok (.bl (p d))/\(p d=true->fe ρ1=.ok (F d)))->bU B tg tt fe ds=.ok ((ds.filter p).map F)
 |[],_=>rfl
 |d::ds,h=>by
  obtain⟨ρ1,h1,h2,h3⟩:=h d Pc;have ih:=mX (ds:=ds) λd hd=>h d (OZ _ hd);unfold bU;rw[h1,Ke,h2,Ke];cases hp:p d with
  |true=>
   show(fe ρ1).bind _=_;rw[h3 hp,Ke,ih,Ke,List.filter_cons_of_pos hp];rfl
  |false=>
   show bU B tg tt fe ds=_;rw[ih,List.filter_cons_of_neg (by rw[hp];decide)]
def mV{F:D->D}{p:D->Bool}(hl:ds.length<=1000000)(h:∀d∈ds,∃ρ1,tg (cZ n fr ρ) d=.ok ρ1/\tt ρ1=.ok (.bl (p d))/\(p d=true->fe ρ1=.ok (F d))):j8 n fr tg tt fe ρ ds=.ok (.lst ((ds.filter p).map F)):=by
 unfold j8;rw[if_pos (show ds.length<=line from hl),mX h]
end
def G5:vW<=2 ^ 200:=by decide
def un(s x:gz):gz:=(s.1*x.2+x.1*s.2,s.2*x.2)
end Com
def NP:=(bS (bS (bS @FO (bS @zb @Dg)) (bS @y0 (bS @vp @FN))) (bS (bS @C9 (bS @jN @L6)) (bS (bS @JJ @Df) (bS @kR @iF))))
local macro_rules|`(tactic|open_line with[$xs,*])=>`(tactic|simp only[Mz,NP,OY,Sf,Pw,Q8,Qp,U3,SJ,List.cons_append,Qw,Qe,List.set_cons_zero,List.set_cons_succ,Uy,Nat.reduceSub,Nat.reduceAdd,Th,Tg,Uo,Ud,decide_true,decide_false,Nat.reduceLeDiff,Nat.reduceBEq,Int.reduceBEq,beq_self_eq_true,DL.dOne,DL.mYes,Int.reduceLT,Int.reduceLE,Int.reduceSub,Int.reduceAdd,Int.reduceMul,Int.reduceNeg,Int.reduceToNat,Bool.and_self,$[$xs:term],*])
namespace Com
open PySem L2 DL
def wY{a b:Int}(ha:0<=a)(hb:0<b):0<=(eK a b).1:=TV ha (by omega)
def LA{a:Int}(h0:0<=a)(h1:a<(vW:Int)):a.natAbs<A3:=OR (show a.natAbs<vW by omega) G4
def nN{i:Nat}{body:am}(P:Nat->Ev->Prop){n:Nat}(h:∀k,k<n->∀ρ,P k ρ->∃ρ2,body (ρ.set i (.sh (.int (k:Int))))=.ok (.nx ρ2)/\P (k+1) ρ2){ρ:Ev}(h0:P 0 ρ):∃ρ',cW (eM i) body (intsFrom 0 n) ρ=.ok (.nx ρ')/\P n ρ':=by
 have key:∀(m k:Nat) (ρ:Ev),k+m=n->P k ρ->∃ρ',cW (eM i) body ((intsFrom 0 n).drop k) ρ=.ok (.nx ρ')/\P n ρ':=by
  intro m
  induction m with
  |zero=>
   intro k ρ hk hp;have:k=n:=by omega
   subst this;rw[CQ];exact⟨ρ,rfl,hp⟩
  |succ m ih=>
   intro k ρ hk hp;obtain⟨ρ2,h1,h2⟩:=h k (by omega) ρ hp;rw[Av (by omega),yW (tg:=eM i) rfl h1];exact ih (k+1) ρ2 (by omega) h2
 exact key n 0 ρ (by omega) h0
def fS{tg:Ev->D->aj Ev}{body:am}{ds:ac}(P:Nat->Ev->Prop)(h:∀k d,ds[k]?=some d->∀ρ,P k ρ->∃ρ1 ρ2,tg ρ d=.ok ρ1/\body ρ1=.ok (.nx ρ2)/\P (k+1) ρ2){ρ:Ev}(h0:P 0 ρ):∃ρ',cW tg body ds ρ=.ok (.nx ρ')/\P ds.length ρ':=by
 have key:∀(m k:Nat) (ρ:Ev),k+m=ds.length->P k ρ->∃ρ',cW tg body (ds.drop k) ρ=.ok (.nx ρ')/\P ds.length ρ':=by
  intro m
  induction m with
  |zero=>
   intro k ρ hk hp;have:k=ds.length:=by omega
   subst this;rw[List.drop_length];exact⟨ρ,rfl,hp⟩
  |succ m ih=>
   intro k ρ hk hp;have hlt:k<ds.length:=by omega
   obtain⟨ρ1,ρ2,h1,h2,h3⟩:=h k ds[k] (OI hlt) ρ hp;rw[QC hlt,yW h1 h2];exact ih (k+1) ρ2 (by omega) h3
 exact key ds.length 0 ρ (by omega) h0
structure Drawn (sz vs:List Int):Prop where
 len:vs.length=sz.length
 bnd:∀(i:Nat) (v s:Int),vs[i]?=some v->sz[i]?=some s->0<=v/\v<s
def Drawn.at{sz vs:List Int}(W:Drawn sz vs)(i:Nat){s:Int}(h:sz[i]?=some s):∃v,vs[i]?=some v/\(0<=v/\v<s)/\aK (.lst (vs.map D.int)) (.int (i:Int))=.ok (.int v):=by
 have hi:i<vs.length:=by rw[W.len];exact(OP.mp h).1
 refine⟨vs[i],OI hi,W.bnd i _ _ (OI hi) h,gh ?_⟩;rw[OM,OI hi];rfl
def Drawn.ix{sz vs:List Int}(W:Drawn sz vs)(k:Int)(i:Nat){s:Int}(hk:k=(i:Int))(h:sz[i]?=some s):∃v,vs[i]?=some v/\(0<=v/\v<s)/\aK (.lst (vs.map D.int)) (.int k)=.ok (.int v):=by
 subst hk;exact W.at i h
def GY:("abcdefghijklmnopqrstuvwxyz" : OO).cps.toList=(PL 26).map (97 + ·):=by decide +kernel
def xR:∀n,n<26->o8 (97+n)=true:=by decide +kernel
def xQ{v:Int}(h0:0<=v)(h1:v<26):aK (.str "abcdefghijklmnopqrstuvwxyz") (.int v)=.ok (.str ⟨#[97+v.toNat]⟩):=by
 obtain⟨n,rfl⟩:=Qf h0;have hn:n<26:=by omega
 have e:atI ("abcdefghijklmnopqrstuvwxyz" : OO).cps.toList ((n:Nat):Int)=some (97+n):=eg (by rw[GY];simp[hn]);show(if("abcdefghijklmnopqrstuvwxyz" : OO).length<=line then(match atI ("abcdefghijklmnopqrstuvwxyz" : OO).cps.toList ((n:Nat):Int) with|some c=>aj.ok (D.str ⟨#[c]⟩)|none=>.stuck) else .stuck)=_;rw[if_pos (by decide),e];rfl
theorem yP:∀cs:cr,Str.join "" (cs.map λc=>(⟨#[c]⟩:OO))=⟨cs.toArray⟩
 |[]=>rfl
 |[c]=>rfl
 |c::d::cs=>by
  show(⟨#[c]⟩:OO)++""++Str.join "" ((d::cs).map λc=>(⟨#[c]⟩:OO))=_;rw[yP (d::cs)];apply Str.ext';show(#[c]++("" : OO).cps)++(d::cs).toArray=_;have:("" : OO).cps=#[]:=rfl;rw[this];simp
theorem yb:∀cs:cr,gL (cs.map λc=>D.str ⟨#[c]⟩)=some (cs.map λc=>(⟨#[c]⟩:OO))
 |[]=>rfl
 |c::cs=>by
  show(gL (cs.map λc=>D.str ⟨#[c]⟩)).map _=_;rw[yb cs];rfl
def wZ{cs:cr}(h:cs.length<=1000):o6 "" [.lst (cs.map λc=>D.str ⟨#[c]⟩)]=.ok (.str ⟨cs.toArray⟩):=by
 have MF:gD "" (cs.map λc=>(⟨#[c]⟩:OO))=true:=by
  unfold gD;have e:((cs.map λc=>(⟨#[c]⟩:OO)).map (·.length)).sum=cs.length:=by
   clear h
   induction cs with
   |nil=>rfl
   |cons c cs ih=>
    simp only[OY,List.sum_cons,Pw,ih];show 1+cs.length=_;omega
  rw[e,O4];exact⟨by decide,decide_eq_true (by rw[OH];omega)⟩
 show(match gL (cs.map λc=>D.str ⟨#[c]⟩) with|some ys=>if gD "" ys=true then aj.ok (D.str (T6 "" ys)) else .stuck|none=>.stuck)=_;rw[yb];show(if gD "" _=true then aj.ok (D.str (T6 "" _)) else .stuck)=_;rw[if_pos MF];show aj.ok (D.str (Builtin.Str.glued "" _))=_;rw[StrLaws.glued_eq_join,yP]
def oo{cs:cr}{b:Nat}(hb:b<=cs.length):RN ⟨cs.toArray⟩ none (some (b:Int))=⟨(cs.take b).toArray⟩:=by
 have:=StrLaws.sliceText_to (x:=⟨cs.toArray⟩) (j:=(b:Int)) ⟨by omega,by simpa using hb⟩;refine Eq.trans this ?_;simp
structure dk (zs:bv):Prop where
 nd:zs.Nodup
 nm:∀z∈zs,nameB z=true
def vR{x y:OO}(h:x.length+y.length<=1000):bI (.str x) (.str y)=.ok (.str (x++y)):=if_pos (Pe h (by decide))
def rE(a b:cr):(⟨a.toArray⟩:OO)++⟨b.toArray⟩=⟨(a++b).toArray⟩:=by
 apply Str.ext';show a.toArray++b.toArray=_;simp
def J8(a:cr):(⟨a.toArray⟩:OO).length=a.length:=by show a.toArray.size=_;simp
def yg{z:OO}{l h:Option Int}(hz:z.length<=1000):zT (.str z) l h=.ok (.str (RN z l h)):=by
 show(if z.length<=line then _ else _)=_;rw[if_pos (Pe hz (by decide))]
structure rT where
 a:OO
 b:OO
 w:OO
 l:gz
 o:Option gz
def aO:Option gz->D
 |none=>.non
 |some x=>fr x
def bg(t:rT):D:=.tup [.str t.a,.str t.b,.str t.w,fr t.l,aO t.o]
structure m8 (zs:bv) (t:rT):Prop where
 a:t.a∈zs
 b:t.b∈zs
 ne:t.a≠t.b
 w:t.w="one"∨t.w="both"
 l:lJ t.l
 l0:0<=t.l.1
 o:∀x,t.o=some x->lJ x/\0<x.1
def Kz{α:Type}{vs:List α}{i:Nat}{a b c:α}(h0:vs[i]?=some a)(h1:vs[i+1]?=some b)(h2:vs[i+2]?=some c):(vs.drop i).take 3=[a,b,c]:=by
 apply RY;intro j;rcases j with _|_|_|j
 .rw[QH (by decide),QQ];simpa using h0
 .rw[QH (by decide),QQ];simpa using h1
 .rw[QH (by decide),QQ];simpa using h2
 .rw[Ri (by simp;omega)];simp
def vI{vs:List Int}{a b:Nat}{x y:Int}(hx:x=(a:Int))(hy:y=(b:Int))(h:b<=vs.length)(hab:a<=b):jv (vs.map D.int) (some x) (some y)=((vs.drop a).take (b-a)).map D.int:=by
 subst hx hy;rw[iM,HT.sIx_nat,HT.sIx_nat,SI h,SI (Pe hab h)]
def Mm{vs:List Int}{i:Nat}{x y:Int}{a b c:Int}(hx:x=(i:Int))(hy:y=((i+3:Nat):Int))(h0:vs[i]?=some a)(h1:vs[i+1]?=some b)(h2:vs[i+2]?=some c):jv (vs.map D.int) (some x) (some y)=[.int a,.int b,.int c]:=by
 have hl:i+3<=vs.length:=by have:=(OP.mp h2).1;omega
 rw[vI hx hy hl (by omega),show i+3-i=3 by omega,Kz h0 h1 h2];rfl
def Bx{zs:bv}{k:Int}(h0:0<=k)(h1:k<zs.length):∃z,zs[k.toNat]?=some z/\aK (.lst (zs.map D.str)) (.int k)=.ok (.str z):=by
 obtain⟨n,rfl⟩:=Qf h0;have hn:n<zs.length:=by omega
 refine⟨zs[n],by simp[hn],gh ?_⟩;rw[OM,OI hn];rfl
def Es{k:Int}(h0:0<=k)(h1:k<2):∃z:OO,(z="one"∨z="both")/\aK (.lst [.str "one",.str "both"]) (.int k)=.ok (.str z):=by
 have:k=0∨k=1:=by omega
 rcases this with rfl|rfl
 .exact⟨_,.inl rfl,za⟩
 .exact⟨_,.inr rfl,y9⟩
def rQ{n d e:Int}(h2:2<=n)(d0:0<=d)(d1:d<n)(e0:0<=e)(e1:e<n-1):(0<=(d+1+e).fmod n/\(d+1+e).fmod n<n)/\(d+1+e).fmod n≠d:=by
 refine⟨eN (by omega),?_⟩;rw[Si _ (by omega)]
 by_cases h:d+1+e<n
 .rw[Int.emod_eq_of_lt (by omega) h];omega
 .have:(d+1+e) % n=d+1+e-n:=by
   rw[←Int.sub_emod_right (d+1+e) n,Int.emod_eq_of_lt (by omega) (by omega)]
  rw[this];omega
def uV{α:Type}{zs:List α}(nd:zs.Nodup){i j:Nat}{x y:α}(hi:zs[i]?=some x)(hj:zs[j]?=some y)(hij:i≠j):x≠y:=by
 intro e;subst e;obtain⟨h1,e1⟩:=OP.mp hi;obtain⟨h2,e2⟩:=OP.mp hj;exact hij ((Q0 nd).mp (e1.trans e2.symm))
def m5:am :=
 (ar (bC (fK (aq (ag (ae 0) aB) m_is_ratio) (aa (aa (ae 0) (dC (.int 0)) aK) (dC (.int 0)) MG)))
 av)
def m_is_length:ac->aj D:=cm 1 m5
def qf:am :=
 (ar (bC (gs (aa (ae 0) (dC (.non)) vE) (fK (aq (ag (ae 0) aB) m_is_ratio) (aa (aa (ae 0) (dC (.int 0)) aK) (dC (.int 0)) Kq))))
 av)
def m_is_worth:ac->aj D:=cm 1 qf
noncomputable def vP:am :=
 (ar (dX (gs (cj (bh (ae 0) (cK "tuple"))) (aa (aq (ag (ae 0) aB) (m1 cY)) (dC (.int 5)) jt))
 (ar (bC (dC (.bl false)))
 av)
 av)
 (ar (dX (gs (cj (aq (ag (aa (ae 0) (dC (.int 0)) aK) aB) m_is_name)) (gs (cj (aq (ag (aa (ae 0) (dC (.int 1)) aK) aB) m_is_name)) (aa (aa (ae 0) (dC (.int 0)) aK) (aa (ae 0) (dC (.int 1)) aK) jW)))
 (ar (bC (dC (.bl false)))
 av)
 av)
 (ar (dX (gs (cj (bh (aa (ae 0) (dC (.int 2)) aK) (cK "str"))) (aa (aa (ae 0) (dC (.int 2)) aK) (dC (.tup [(.str "one"),(.str "both")])) cE))
 (ar (bC (dC (.bl false)))
 av)
 av)
 (ar (bC (fK (aq (ag (aa (ae 0) (dC (.int 3)) aK) aB) m_is_length) (aq (ag (aa (ae 0) (dC (.int 4)) aK) aB) m_is_worth)))
 av))))
def m_is_tie:ac->aj D:=cm 1 vP
noncomputable def b_look_at_places:am :=
 (ar (dX (gs (cj (bh (ae 0) (cK "list"))) (cj (iL Kp Kp (dC (.int 2)) (aq (ag (ae 0) aB) (m1 cY)) (dC (.int 7)))))
 (ar gM
 av)
 av)
 (ar (gW (nr (ae 0)) (dy [1,2])
 (ar (dX (gs (cj (aq (ag (ae 2) aB) m_is_name)) (aa (ae 2) (eQ (ae 0) dw (bW (ae 1))) v9))
 (ar gM
 av)
 av)
 av))
 av))
def m_look_at_places:ac->aj D:=cm 3 b_look_at_places
noncomputable def b_look_at_ties:am :=
 (ar (dX (gs (cj (bh (ae 0) (cK "list"))) (aa (aq (ag (ae 0) aB) (m1 cY)) (dC (.int 14)) Kq))
 (ar gM
 av)
 av)
 (ar (gW (nr (ae 0)) (dy [2,3])
 (ar (dX (gs (cj (aq (ag (ae 3) aB) m_is_tie)) (gs (aa (aa (ae 3) (dC (.int 0)) aK) (ae 1) cE) (aa (aa (ae 3) (dC (.int 1)) aK) (ae 1) cE)))
 (ar gM
 av)
 av)
 av))
 av))
def m_look_at_ties:ac->aj D:=cm 4 b_look_at_ties
def qg:am :=
 (ar (bC (fK (aq (ag (ae 0) aB) m_is_name) (aa (ae 0) (ae 1) v9)))
 av)
def m_is_place:ac->aj D:=cm 2 qg
noncomputable def b_look_at_web:am :=
 (ar (dX (gs (cj (bh (ae 0) (cK "tuple"))) (aa (aq (ag (ae 0) aB) (m1 cY)) (dC (.int 4)) jt))
 (ar gM
 av)
 av)
 (ar (kH (aq (ag (aa (ae 0) (dC (.int 0)) aK) aB) m_look_at_places))
 (ar (kH (aq (ag (aa (ae 0) (dC (.int 1)) aK) (ag (aa (ae 0) (dC (.int 0)) aK) aB)) m_look_at_ties))
 (ar (dX (cj (aq (ag (aa (ae 0) (dC (.int 2)) aK) (ag (aa (ae 0) (dC (.int 0)) aK) aB)) m_is_place))
 (ar gM
 av)
 av)
 (ar (dX (gs (cj (aq (ag (aa (ae 0) (dC (.int 3)) aK) (ag (aa (ae 0) (dC (.int 0)) aK) aB)) m_is_place)) (aa (aa (ae 0) (dC (.int 3)) aK) (aa (ae 0) (dC (.int 2)) aK) jW))
 (ar gM
 av)
 av)
 av)))))
def m_look_at_web:ac->aj D:=cm 1 b_look_at_web
structure iP where
 ps:bv
 ts:List rT
 fi:OO
 la:OO
def aN(w:iP):D:=.tup [.lst (w.ps.map D.str),.lst (w.ts.map bg),.str w.fi,.str w.la]
structure eV (w:iP):Prop where
 n2:2<=w.ps.length
 n7:w.ps.length<=7
 nm:dk w.ps
 t14:w.ts.length<=14
 ts:∀t∈w.ts,m8 w.ps t
 fi:w.fi∈w.ps
 la:w.la∈w.ps
 ne:w.fi≠w.la
def jM{z:OO}(h:nameB z=true):m_is_name [.str z]=.ok (.bl true):=by
 have hl:z.length<=8:=by
  unfold nameB at h;simp only[O4,decide_eq_true_eq]at h;exact h.2.1
 rw[w6 (show MF (.str z)=true from decide_eq_true (Pe hl (by decide)))];show aj.ok (D.bl (nameB z))=_;rw[h]
def oB{x:gz}(h:Low x):m_is_ratio [fr x]=.ok (.bl true):=by
 rw[sW];show aj.ok (D.bl (oC (.tup [.int x.1,.int x.2])))=_;have h1:=h.q1;have h2:=h.g1;show aj.ok (D.bl (decide (1<=x.2)&&(PM x.1 x.2==1)))=_;rw[decide_eq_true h1,h2];rfl
def u6{x:gz}(h:Low x)(h0:0<=x.1):m_is_length [fr x]=.ok (.bl true):=by
 have e:fr x=.tup [.int x.1,.int x.2]:=rfl;have h1:=oB h;rw[e]at h1 ⊢;open_line with[m_is_length,m5,h1,decide_eq_true h0,decide_eq_true (show x.1≥0 from h0)]
def wc{o:Option gz}(h:∀x,o=some x->Low x/\0<x.1):m_is_worth [aO o]=.ok (.bl true):=by
 cases o with
 |none=>rfl
 |some x=>
  obtain⟨hx,h0⟩:=h x rfl;have e:aO (some x)=.tup [.int x.1,.int x.2]:=rfl;have h1:=oB hx;rw[show fr x=.tup [.int x.1,.int x.2] from rfl]at h1;rw[e];open_line with[m_is_worth,qf,h1,decide_eq_true h0]
def tw{x y:OO}:jW (.str x) (.str y)=.ok (.bl (x==y)):=by unfold jW;rw[if_pos ⟨rfl,rfl⟩,cO]
def Bp{zs:bv}{t:rT}(nm:dk zs)(h:m8 zs t):m_is_tie [bg t]=.ok (.bl true):=by
 obtain⟨a,b,w,l,o⟩:=t;obtain⟨ha,hb,hne,hw,hl,hl0,ho⟩:=h;have h1:=jM (nm.nm a ha);have h2:=jM (nm.nm b hb);have h3:=u6 hl.toLow hl0;have h4:=wc (o:=o) λx hx=>⟨(ho x hx).1.toLow,(ho x hx).2⟩
 have h5:(a==b)=false:=beq_eq_false_iff_ne.mpr hne;have h6:cE (.str w) (.tup [.str "one",.str "both"])=.ok (.bl false):=by
  rcases hw with rfl|rfl<;>rfl
 have e:bg ⟨a,b,w,l,o⟩=.tup [.str a,.str b,.str w,fr l,aO o]:=rfl;rw[e];open_line with[m_is_tie,vP,h1,h2,tw,h5,h6,h3,h4]
def zp{zs:bv}{z:OO}:(zs.map D.str).any (λd=>cO d (.str z))=decide (z∈zs):=by
 induction zs with
 |nil=>rfl
 |cons y zs ih=>
  rw[OY,QX,ih];show((y==z)||decide (z∈zs))=_
  by_cases h:y=z
  .subst h;simp
  .have:(y==z)=false:=beq_eq_false_iff_ne.mpr h
   rw[this,SW];have:z∈y::zs↔z∈zs:=by simp[Px h]
   exact decide_eq_decide.mpr this.symm
def jH{n:Nat}{zs:bv}:(zs.map D.str).all (aW n)=true:=Pr.mpr λd hd=>by
 obtain⟨z,_,rfl⟩:=Pp.mp hd;cases n<;>rfl
def sY{zs:bv}{z:OO}:v9 (.str z) (.lst (zs.map D.str))=.ok (.bl (decide (z∈zs))):=by
 have e:A5 (.str z) (.lst (zs.map D.str))=some (decide (z∈zs)):=(if_pos ⟨rfl,jH⟩).trans (congrArg some zp);unfold v9;rw[e]
def oV{zs:bv}{z:OO}:cE (.str z) (.lst (zs.map D.str))=.ok (.bl (!(decide (z∈zs)))):=by
 have e:A5 (.str z) (.lst (zs.map D.str))=some (decide (z∈zs)):=(if_pos ⟨rfl,jH⟩).trans (congrArg some zp);unfold cE;rw[e]
def oK{zs:bv}{z:OO}(h:nameB z=true)(hz:z∈zs):m_is_place [.str z,.lst (zs.map D.str)]=.ok (.bl true):=by
 open_line with[m_is_place,qg,jM h,sY,decide_eq_true hz]
def eJ{α:Type}{F:α->D}{xs:List α}{k:Nat}{d:D}(h:(bK 0 (xs.map F))[k]?=some d):∃x,xs[k]?=some x/\d=.tup [.int (k:Int),F x]:=by
 rw[dD,OM]at h;cases e:xs[k]? with
 |none=>rw[e]at h;cases h
 |some x=>
  rw[e]at h;cases h;exact⟨x,rfl,by simp⟩
def DH{α:Type}{F:α->D}{xs:List α}{k:Nat}(h:k<=xs.length):jv (xs.map F) none (some (k:Int))=(xs.take k).map F:=by
 rw[iM,HT.sIx_none,HT.sIx_nat,SI h,List.drop_zero,Uy]
def qV{zs:bv}(h2:2<=zs.length)(h7:zs.length<=7)(nm:dk zs):m_look_at_places [.lst (zs.map D.str)]=.ok .non:=by
 obtain⟨ρ',hl,_⟩:=fS (ds:=bK 0 (zs.map D.str)) (tg:=dy [1,2]) (ρ:=[.sh (.lst (zs.map D.str)),.no,.no])
  (body:=(ar (dX (gs (cj (aq (ag (ae 2) aB) m_is_name)) (aa (ae 2) (eQ (ae 0) dw (bW (ae 1))) v9)) (ar gM av) av) av))
  (λk ρ=>∃a b,ρ=[.sh (.lst (zs.map D.str)),a,b]) (by
   rintro k d hd ρ ⟨a,b,rfl⟩;obtain⟨z,hz,rfl⟩:=eJ hd;refine⟨_,[.sh (.lst (zs.map D.str)),.sh (.int (k:Int)),.sh (.str z)],Df rfl,?_,_,_,rfl⟩;have hk:k<zs.length:=(OP.mp hz).1;have hnot:decide (z∈zs.take k)=false:=decide_eq_false λhm=>by
    obtain⟨j,hj⟩:=UL.mp hm;have hjk:j<k:=by have:=(OP.mp hj).1;simp at this;omega
    rw[QH hjk]at hj;exact uV nm.nd hj hz (by omega) rfl
   open_line with[jM (nm.nm z (O1 hz)),DH (RW hk),sY,hnot]) ⟨.no,.no,rfl⟩
 have e1:decide ((2:Int)<=(zs.length:Int))=true:=decide_eq_true (by omega);have e2:decide ((zs.length:Int)<=7)=true:=decide_eq_true (by omega);open_line with[m_look_at_places,b_look_at_places,OH,e1,e2,hl]
def Ez{zs:bv}{ts:List rT}(h14:ts.length<=14)(nm:dk zs)(ht:∀t∈ts,m8 zs t):m_look_at_ties [.lst (ts.map bg),.lst (zs.map D.str)]=.ok .non:=by
 obtain⟨ρ',hl,_⟩:=fS (ds:=bK 0 (ts.map bg)) (tg:=dy [2,3]) (ρ:=[.sh (.lst (ts.map bg)),.sh (.lst (zs.map D.str)),.no,.no])
  (body:=(ar (dX (gs (cj (aq (ag (ae 3) aB) m_is_tie)) (gs (aa (aa (ae 3) (dC (.int 0)) aK) (ae 1) cE) (aa (aa (ae 3) (dC (.int 1)) aK) (ae 1) cE))) (ar gM av) av) av))
  (λk ρ=>∃a b,ρ=[.sh (.lst (ts.map bg)),.sh (.lst (zs.map D.str)),a,b]) (by
   rintro k d hd ρ ⟨a,b,rfl⟩;obtain⟨t,ht',rfl⟩:=eJ hd;refine⟨_,[.sh (.lst (ts.map bg)),.sh (.lst (zs.map D.str)),.sh (.int (k:Int)),.sh (bg t)],Df rfl,?_,_,_,rfl⟩;have hT:=ht t (O1 ht');have h1:=Bp nm hT;rw[show bg t=.tup [.str t.a,.str t.b,.str t.w,fr t.l,aO t.o] from rfl]at h1 ⊢;open_line with[h1,oV,decide_eq_true hT.a,decide_eq_true hT.b]) ⟨.no,.no,rfl⟩
 have e1:decide ((14:Int)<(ts.length:Int))=false:=decide_eq_false (by omega);open_line with[m_look_at_ties,b_look_at_ties,OH,e1,decide_eq_false (show ¬(ts.length:Int) > 14 by omega),hl]
def HM{w:iP}(h:eV w):m_look_at_web [aN w]=.ok .non:=by
 obtain⟨ps,ts,fi,la⟩:=w;have h1:=qV h.n2 h.n7 h.nm;have h2:=Ez h.t14 h.nm h.ts;have h3:=oK (h.nm.nm fi h.fi) h.fi;have h4:=oK (h.nm.nm la h.la) h.la;have h5:(la==fi)=false:=beq_eq_false_iff_ne.mpr (Px h.ne);rw[show aN ⟨ps,ts,fi,la⟩=.tup [.lst (ps.map D.str),.lst (ts.map bg),.str fi,.str la] from rfl];open_line with[m_look_at_web,b_look_at_web,h1,h2,h3,h4,tw,h5]
def kM(ks:cr):D:=.lst (ks.map λ(k:Nat)=>D.int (k:Int))
def j9(b:Int)(x:gz):Int:=b / (PM b x.2:Int)*x.2
def Oq(xs:List gz):Int:=xs.foldl j9 1
structure v8 (k:Nat) (b:Int):Prop where
 pos:0<b
 bd:b.natAbs<=2 ^ (200*k)
def CY{a b:Int}(h:b≠0):0<(PM a b:Int):=tj h
def v8.step{k:Nat}{b:Int}{x:gz}(h:v8 k b)(hx:lJ x):v8 (k+1) (j9 b x)/\b∣j9 b x/\x.2∣j9 b x:=by
 have q1:=hx.q1;have hg:0<(PM b x.2:Int):=CY (by omega);have hd:(PM b x.2:Int)∣b:=Tz ..;have hd2:(PM b x.2:Int)∣x.2:=Tp ..;have hq:0<b / (PM b x.2:Int):=Int.ediv_pos_of_pos_of_dvd h.pos (by omega) hd;refine⟨⟨SQ hq (by omega),?_⟩,?_,⟨b / (PM b x.2:Int),by unfold j9;rw[To]⟩⟩
 .unfold j9
  rw[T8,show 200*(k+1)=200*k+200 by omega,UT];refine Nat.mul_le_mul (Pe (Ry _ _) h.bd) (Pe (RW hx.qN) G5)
 .obtain⟨c,hc⟩:=hd
  obtain⟨d,hd'⟩:=hd2;refine⟨d,?_⟩;unfold j9;generalize (PM b x.2:Int)=g at *;have e1:b / g=c:=by rw[hc];exact Sv c (by omega)
  rw[e1,hd',hc,←Int.mul_assoc,To c g]
def Kc{xs:List gz}(hx:∀x∈xs,lJ x):∀(b:Int) (k:Nat),v8 k b->v8 (k+xs.length) (xs.foldl j9 b)/\b∣xs.foldl j9 b/\∀x∈xs,x.2∣xs.foldl j9 b:=by
 induction xs with
 |nil=>intro b k h;exact⟨h,Int.dvd_refl b,λx hx=>nomatch hx⟩
 |cons x xs ih=>
  intro b k h;obtain⟨h1,h2,h3⟩:=h.step (hx x Pc);obtain⟨k1,k2,k3⟩:=ih (λy hy=>hx y (OZ _ hy)) _ _ h1;refine⟨?_,Int.dvd_trans h2 k2,λy hy=>?_⟩
  .rw[Pw,show k+(xs.length+1)=k+1+xs.length by omega];exact k1
  .rcases OU.mp hy with rfl|hy
   .exact Int.dvd_trans h3 k2
   .exact k3 y hy
def Hh(i:Nat)(ρ:Ev)(d:D):aj Fl:=if qC d=true then .ok (.nx (ρ.set i (.sh d))) else .stuck
def FV{i:Nat}{f:al}{ρ:Ev}:yj i f ρ=(f (gu ρ)).bind (Hh i ρ):=rfl
def n6{c:al}{s:am}{n:Nat}{ρ ρ2:Ev}(h1:c (gu ρ)=.ok (.bl true))(h2:s ρ=.ok (.nx ρ2)):cG c s (n+1) ρ=cG c s n ρ2:=by
 conv=>lhs;unfold cG
 rw[h1,h2];rfl
def jF{c:al}{s:am}{n:Nat}{ρ:Ev}(h1:c (gu ρ)=.ok (.bl false)):cG c s (n+1) ρ=.ok (.nx ρ):=by
 conv=>lhs;unfold cG
 rw[h1];rfl
end Com
namespace DL
open PySem PySem.Spec PyProof.Rows L2
section
variable {X:Cx}{E:XK}{He η:Hp}{st:Qt}{rest:List Qt}{e:Pd}{es:List Pd}{f:al}{fa:Ev->aj (ac)}{s t:am}{pos:Pos}
def Nd(t:am)(r:Fl):aj Fl:=match r with
 |.nx ρ=>t ρ
 |_=>.stuck
def oy(s t:am):am:=λρ=>(s ρ).bind (Nd t)
end
section
variable {X:Cx}{E:XK}{He η:Hp}{e a b:Pd}{es:List Pd}{f g:al}{fa:Ev->aj (ac)}{pos:Pos}
def J7(x y:D):aj D:=match x,y with
 |.int i,.int j=>.ok (.int (if j<i then j else i))
 |_,_=>.stuck
def Ka:iz X E (λxs H Q=>∃i j,xs=[.int i,.int j]/\Q (.int (if j<i then j else i)) H) (m2 J7):=Mo λx y v u H Ha Q hs r r' q=>by
 cases x with
 |int i=>
  cases y with|int j=>exact⟨i,j,by rw[aD.mp r,aD.mp r'],bG hs q (ri _)⟩| _=>exact q.elim
 |_=>exact q.elim
def GH:D->D->aj D:=sX (λ_ j=>decide (0<=j)) λi j=>.int (i / 2 ^ j.toNat)
def J4(ha:DE X E a f)(hb:DE X E b g):DE X E (.BinOp a .RShift b pos) (aa f g GH):=mT IQ (sS (λ_ _ h=>of_decide_eq_true h) λ_ _ _ _=>ri _) ha hb
def pK(x y:D):aj D:=match x,y with
 |.lst ds,.lst es=>if ds.length+es.length<=line then .ok (.lst (ds++es)) else .stuck
 |_,_=>.stuck
def xB(ha:DE X E a f)(hb:DE X E b g):DF X E (.BinOp a .Add b pos) (aa f g pK):=by
 refine⟨?_⟩;refine aX (B5 yE ha.o hb.o) λσ H Q z9=>?_;obtain⟨Ha,ρ,hs,hr,q⟩:=z9;refine⟨Ha,ρ,hs,hr,?_⟩
 unfold aa at q;cases e1:f ρ with
 |stuck|exn x=>rw[e1]at q;exact q
 |ok x=>
  rw[e1]at q;intro v H1 H01 g1 r1;refine⟨H01,ρ,g1.sub,hr.mono g1.z,?_⟩;cases e2:g ρ with
  |stuck=>simp only[aj.bind,e2]at q|exn y=>simp only[aj.bind,e2]at q;exact λC ox H' Ha' g' ex=>q C ox H' Ha' (g1.trans g') ex
  |ok y=>
   simp only[aj.bind,e2]at q;intro u H2 H02 g2 r2;cases x with
   |lst ds=>
    cases y with
    |lst es=>
     by_cases h:ds.length+es.length<=line
     .simp only[pK,if_pos h]at q
      obtain⟨l,vs,rfl,h1,h2⟩:=aA.mp (r1.mono g2.z);obtain⟨m,us,rfl,k1,k2⟩:=aA.mp r2;refine⟨l,m,vs,us,rfl,rfl,aF.sqL g2.sub h1,aF.sqL g2.sub k1,by rw[←h2.length,←k2.length];exact cV h,λp hp=>?_⟩;have sm:aF H2 (upd H2 p (.lst (vs++us))):=λb o eb=>by rw[aE (by intro z;subst z;rw[hp]at eb;cases eb)];exact eb
      refine q p (vs++us) _ H02 ⟨(g1.s.trans g2.s).trans sm,g1.z.trans g2.z,g2.sub.trans sm,(g1.trans g2).nw⟩ ((g1.s.trans g2.s).free hp) ?_ aG (h2.app k2);cases qq:H02 p with|none=>rfl|some o=>have:=g2.sub _ _ qq;rw[hp]at this;cases this
     .simp only[pK,if_neg h]at q
    |_=>simp only[pK]at q
   |_=>simp only[pK]at q
end
end DL
namespace Cod
open PySem L2 DL Com
noncomputable def lD:am :=
 (ar (sC 2 (aq aB cI))
 (ar (aV 3 (aq (ag (ae 0) aB) (m1 vH)))
 (ar (aV 4 (aa (aa (aa (ae 0) (dC (.int 2147483647)) cP) (dC (.int 48271)) cq) (dC (.int 2147483647)) cP))
 (ar (mD (aq (ag (ae 1) aB) (m1 cY)) (eM 5)
 (ar (dX (aa (aq (ag (ae 0) aB) (m1 vH)) (aa (dC (.int 10)) (dC (.int 18)) AI) MG)
 (ar (dY 2 (aa (ae 3) (aa (ae 1) (ae 5) aK) cP))
 (ar (aV 3 (aa (ae 3) (aa (ae 1) (ae 5) aK) AJ))
 av))
 (ar (aV 4 (aa (aa (aa (aa (aa (ae 4) (ae 4) cq) (aa (dC (.int 69621)) (ae 4) cq) bI) (aa (dC (.int 7919)) (ae 5) cq) bI) (dC (.int 1000003)) bI) (dC (.int 2147483647)) cP))
 (ar (dY 2 (aa (aa (aa (ae 4) (dC (.int 39373)) cq) (dC (.int 2147483629)) cP) (aa (ae 1) (ae 5) aK) cP))
 av)))
 av))
 (ar (bC (ae 2))
 av)))))
def bL:ac->aj D:=cm 6 lD
def G3:vW<B9:=by rw[D4];exact OR (show vW<2 ^ 200 by decide) (Qv (by decide) (by decide))
def tW{c:Int}:vH (.int c)=.ok (.int (c.natAbs:Int)):=by
 show aj.ok (D.int (if c<0 then -c else c))=_
 congr 2
 split<;>omega
def draws_ok(c:Int)(sz:List Int)(hp:∀s∈sz,0<s/\s<=(vW:Int))(hn:sz.length<=900):∃vs,bL [.int c,.lst (sz.map D.int)]=.ok (.lst (vs.map D.int))/\Drawn sz vs:=by
 have hmix0:=eN (a:=c.fmod 2147483647*48271) (b:=2147483647) (by decide);have hcm:=eN (a:=c) (b:=2147483647) (by decide);obtain⟨ρ',hl,vs,hv,hb,lf,mx,x5,rfl,_⟩:=nN (i:=5) (n:=sz.length)
  (ρ:=[.sh (.int c),.sh (.lst (sz.map D.int)),.ow (.lst []),.sh (.int (c.natAbs:Int)),.sh (.int ((c.fmod 2147483647*48271).fmod 2147483647)),.no])
  (body:=(ar (dX (aa (aq (ag (ae 0) aB) (m1 vH)) (aa (dC (.int 10)) (dC (.int 18)) AI) MG)
 (ar (dY 2 (aa (ae 3) (aa (ae 1) (ae 5) aK) cP))
 (ar (aV 3 (aa (ae 3) (aa (ae 1) (ae 5) aK) AJ))
 av))
 (ar (aV 4 (aa (aa (aa (aa (aa (ae 4) (ae 4) cq) (aa (dC (.int 69621)) (ae 4) cq) bI) (aa (dC (.int 7919)) (ae 5) cq) bI) (dC (.int 1000003)) bI) (dC (.int 2147483647)) cP))
 (ar (dY 2 (aa (aa (aa (ae 4) (dC (.int 39373)) cq) (dC (.int 2147483629)) cP) (aa (ae 1) (ae 5) aK) cP))
 av)))
 av))
  (λk ρ=>∃vs:List Int,vs.length=k/\(∀(i:Nat) (v s:Int),vs[i]?=some v->sz[i]?=some s->0<=v/\v<s)/\∃(lf mx:Int) (x5:Sl),ρ=[.sh (.int c),.sh (.lst (sz.map D.int)),.ow (.lst (vs.map D.int)),.sh (.int lf),.sh (.int mx),x5]/\0<=mx/\mx<2147483647) (by
   rintro k hk ρ ⟨vs,rfl,hb,lf,mx,x5,rfl,m0,m1_⟩;have hs:=hp sz[vs.length] (P9 hk);have hix:aK (.lst (sz.map D.int)) (.int (vs.length:Int))=.ok (.int sz[vs.length]):=gh (by rw[OM,OI hk];rfl);have hsz0:(sz[vs.length]==0)=false:=beq_eq_false_iff_ne.mpr (by omega);have hap:decide ((vs.map D.int).length<=999)=true:=decide_eq_true (by rw[OH];omega);have hbn:∀v:Int,0<=v->v<sz[vs.length]->∀(i:Nat) (u s:Int),(vs++[v])[i]?=some u->sz[i]?=some s->0<=u/\u<s:=λv v0 v1 i u s e1 e2=>by
    by_cases hi:i<vs.length
    .rw[O8 hi]at e1;exact hb i u s e1 e2
    .have:i=vs.length:=by
      have:=(OP.mp e1).1;simp at this;omega
     subst this;rw[O9 (O0 _),Nat.sub_self]at e1;cases e1;rw[OI hk]at e2;cases e2;exact⟨v0,v1⟩
   by_cases hc:(1000000000000000000:Int)<=(c.natAbs:Int)
   .have f:=eN (a:=lf) (b:=sz[vs.length]) hs.1
    have hdiv:iq lf sz[vs.length]=true:=Me (by omega) (P6 (show sz[vs.length].natAbs<=vW by omega) G3);refine⟨[.sh (.int c),.sh (.lst (sz.map D.int)),.ow (.lst ((vs++[lf.fmod sz[vs.length]]).map D.int)),.sh (.int (lf.fdiv sz[vs.length])),.sh (.int mx),.sh (.int (vs.length:Int))],?_,vs++[lf.fmod sz[vs.length]],by simp,hbn _ f.1 f.2,_,_,_,rfl,m0,m1_⟩;open_line with[tW,iF,decide_eq_true hc,decide_eq_true (show(c.natAbs:Int)≥1000000000000000000 from hc),hix,hsz0,fq hap,xw hdiv,PF]
   .have f1:=eN (a:=mx*mx+69621*mx+7919*(vs.length:Int)+1000003) (b:=2147483647) (by decide)
    generalize hmx:(mx*mx+69621*mx+7919*(vs.length:Int)+1000003).fmod 2147483647=my at f1;have f:=eN (a:=(my*39373).fmod 2147483629) (b:=sz[vs.length]) hs.1;have o1:fz mx mx=true:=ic (by omega) (by omega);have o2:fz 69621 mx=true:=ic (by decide) (by omega);have o3:fz 7919 (vs.length:Int)=true:=ic (by decide) (by omega);have o4:fz my 39373=true:=ic (by omega) (by decide);refine⟨[.sh (.int c),.sh (.lst (sz.map D.int)),.ow (.lst ((vs++[((my*39373).fmod 2147483629).fmod sz[vs.length]]).map D.int)),.sh (.int lf),.sh (.int my),.sh (.int (vs.length:Int))],?_,vs++[((my*39373).fmod 2147483629).fmod sz[vs.length]],by simp,hbn _ f.1 f.2,_,_,_,rfl,f1.1,f1.2⟩;open_line with[tW,iF,decide_eq_false hc,decide_eq_false (show ¬(c.natAbs:Int)≥1000000000000000000 from hc),c8 o1,c8 o2,c8 o3,hmx,c8 o4,hix,hsz0,fq hap,PF]) ⟨[],rfl,λi v s e=>(by simp at e),_,_,_,rfl,hmix0.1,hmix0.2⟩
 refine⟨vs,?_,hv,hb⟩;have o0:fz (c.fmod 2147483647) 48271=true:=ic (by omega) (by decide);open_line with[bL,lD,tW,c8 o0,OH,kR,kO (show sz.length<=1000000 by omega),hl]
noncomputable def qi:am :=
 (ar (aV 2 (aq (ag (ae 0) aB) (m1 vH)))
 (ar (aV 3 (ae 1))
 (ar (je (nM 3) (aa (ae 3) (dC (.int 0)) jt)
 (ar (BD 2 3 (ag (ae 3) (ag (aa (ae 2) (ae 3) cP) aB)))
 av))
 (ar (bC (aq (ag (aa (ae 0) (ae 2) AJ) (ag (aa (ae 1) (ae 2) AJ) aB)) gw))
 av))))
def cC:ac->aj D:=cm 4 qi
theorem u0{A B:Sl}:∀(n:Nat) (a b:Int),0<=a->0<=b->b.natAbs<n->cG (aa (ae 3) (dC (.int 0)) jt) (ar (BD 2 3 (ag (ae 3) (ag (aa (ae 2) (ae 3) cP) aB))) av) n [A,B,.sh (.int a),.sh (.int b)]=.ok (.nx [A,B,.sh (.int (PM a b:Int)),.sh (.int 0)])
 |0,a,b,_,_,h=>absurd h (Nat.not_lt_zero _)
 |n+1,a,b,ha,hb,h=>by
  by_cases h0:b=0
  .subst h0
   have hc:(aa (ae 3) (dC (.int 0)) jt) (gu [A,B,.sh (.int a),.sh (.int 0)])=.ok (.bl false):=by
    cases A<;>cases B<;>rfl
   rw[jF hc];have:((PM a 0:Nat):Int)=a:=by rw[Int.gcd_zero_right];omega
   rw[this]
  .have hc:(aa (ae 3) (dC (.int 0)) jt) (gu [A,B,.sh (.int a),.sh (.int b)])=.ok (.bl true):=by
    have:(b==0)=false:=beq_eq_false_iff_ne.mpr h0;cases A<;>cases B<;>open_line with[this]
   have f:=eN (a:=a) (b:=b) (by omega);have hb0:(b==0)=false:=beq_eq_false_iff_ne.mpr h0;rw[n6 (ρ2:=[A,B,.sh (.int b),.sh (.int (a.fmod b))]) hc ?_,u0 n b (a.fmod b) (by omega) f.1 (by omega)]
   .rw[vh]
   .cases A<;>cases B<;>open_line with[hb0]
def low_ok{a b:Int}(hb:0<b)(h1:a.natAbs<A3)(h2:b.natAbs<A3):cC [.int a,.int b]=.ok (fr (eK a b)):=by
 have hg:0<(PM a b:Int):=tj (by omega);have hgn:(PM (a.natAbs:Int) b:Int)=(PM a b:Int):=by
  congr 1
 have hl:=u0 (A:=.sh (.int a)) (B:=.sh (.int b)) (b.natAbs+1) (a.natAbs:Int) b (by omega) (by omega) (Rv _);rw[hgn]at hl;have hwh:∀(c:al) (s:am),je (nM 3) c s [.sh (.int a),.sh (.int b),.sh (.int (a.natAbs:Int)),.sh (.int b)]=cG c s (b.natAbs+1) [.sh (.int a),.sh (.int b),.sh (.int (a.natAbs:Int)),.sh (.int b)]:=λ_ _=>rfl;have d1:(PM a b:Int)∣a:=Tz ..;have d2:(PM a b:Int)∣b:=Tp ..;have q1:iq a (PM a b:Int)=true:=Dv (by omega) h1;have q2:iq b (PM a b:Int)=true:=Dv (by omega) h2;have e1:a.fdiv (PM a b:Int)=a / (PM a b:Int):=vk hg;have e2:b.fdiv (PM a b:Int)=b / (PM a b:Int):=vk hg;open_line with[cC,qi,tW,hwh,hl,xw q1,xw q2,e1,e2]
 rfl
noncomputable def iV:am :=
 (ar (aV 1 (aa (aq (ag (dC (.int 0)) (ag (aa (aa (ae 0) (dC (.int 1)) aK) (dC (.int 7)) cP) (ag (aa (aa (ae 0) (dC (.int 1)) aK) (dC (.int 60)) cP) (ag (aa (ae 0) (dC (.int 1)) aK) (ag (aa (aa (ae 0) (dC (.int 1)) aK) (dC (.int 1000)) cP) aB))))) cI) (aa (ae 0) (dC (.int 0)) aK) aK))
 (ar (aV 2 (aa (aq (ag (dC (.int 1)) (ag (dC (.int 1)) (ag (aa (dC (.int 1)) (aa (ae 0) (dC (.int 2)) aK) bI) (ag (dC (.int 1)) (ag (aa (dC (.int 1)) (aa (aa (ae 0) (dC (.int 2)) aK) (dC (.int 4)) cP) bI) aB))))) cI) (aa (ae 0) (dC (.int 0)) aK) aK))
 (ar (bC (aq (ag (ae 1) (ag (ae 2) aB)) cC))
 av)))
def cf:ac->aj D:=cm 3 iV
def mS{w a b:Int}(hw:0<=w/\w<5)(ha:0<=a/\a<1000000000000000000)(hb:0<=b/\b<30):∃x:gz,cf [.lst [.int w,.int a,.int b]]=.ok (fr x)/\lJ x/\0<=x.1:=by
 have hN:(1000000000000000000000:Int)<(vW:Int):=by decide
 have f7:=eN (a:=a) (b:=7) (by decide);have f60:=eN (a:=a) (b:=60) (by decide);have f1000:=eN (a:=a) (b:=1000) (by decide);have f4:=eN (a:=b) (b:=4) (by decide);obtain⟨p,q,hp,hq,i1,i2⟩:∃p q:Int,(0<=p/\p<1000000000000000000)/\(1<=q/\q<1000)/\aK (.lst [.int 0,.int (a.fmod 7),.int (a.fmod 60),.int a,.int (a.fmod 1000)]) (.int w)=.ok (.int p)/\aK (.lst [.int 1,.int 1,.int (1+b),.int 1,.int (1+b.fmod 4)]) (.int w)=.ok (.int q):=by
  have:w=0∨w=1∨w=2∨w=3∨w=4:=by omega
  rcases this with rfl|rfl|rfl|rfl|rfl
  .exact⟨0,1,by decide,by decide,rfl,rfl⟩
  .exact⟨a.fmod 7,1,by omega,by decide,rfl,rfl⟩
  .exact⟨a.fmod 60,1+b,by omega,by omega,rfl,rfl⟩
  .exact⟨a,1,by omega,by decide,rfl,rfl⟩
  .exact⟨a.fmod 1000,1+b.fmod 4,by omega,by omega,rfl,rfl⟩
 have hlo:=low_ok (a:=p) (b:=q) (by omega) (LA (by omega) (by omega)) (LA (by omega) (by omega));refine⟨eK p q,?_,LD (by omega) (by omega) (by omega),wY (by omega) (by omega)⟩;open_line with[cf,iV,i1,i2,hlo]
noncomputable def lC:am :=
 (ar (aV 2 (dC (.str "abcdefghijklmnopqrstuvwxyz")))
 (ar (sC 3 (aq aB cI))
 (ar (mD (ae 1) (eM 4)
 (ar (aV 5 (eQ (ae 0) (bW (aa (dC (.int 10)) (ae 4) cq)) (bW (aa (aa (dC (.int 10)) (ae 4) cq) (dC (.int 10)) bI))))
 (ar (aV 6 (vD (dC (.str "")) (ag (eC 1 [2,5] (uC (aa (dC (.int 1)) (aa (ae 5) (dC (.int 0)) aK) bI)) (eM 0) mYes (aa (ae 1) (aa (ae 2) (aa (dC (.int 2)) (ae 0) bI) aK) aK)) aB)))
 (ar (dX (fK (aa (ae 4) (dC (.int 0)) Kq) (aa (aa (ae 5) (dC (.int 1)) aK) (dC (.int 0)) jW))
 (ar (yj 6 (aa (eQ (aa (ae 3) (aa (ae 4) (dC (.int 1)) i7) aK) dw (bW (aa (ae 5) (dC (.int 0)) aK))) (aa (ae 2) (aa (ae 5) (dC (.int 2)) aK) aK) bI))
 av)
 av)
 (ar (aV 7 (aa (ae 5) (dC (.int 9)) aK))
 (ar (je (λ_=>30) (aa (ae 6) (ae 3) v9)
 (ar (aV 7 (aa (ae 7) (dC (.int 1)) bI))
 (ar (aV 6 (aa (eQ (ae 6) dw (bW (bh (dC (.int 1)) xG))) (aa (ae 2) (aa (ae 7) (dC (.int 26)) cP) aK) bI))
 av)))
 (ar (dY 3 (ae 6))
 av)))))))
 (ar (bC (ae 3))
 av))))
def bX:ac->aj D:=cm 8 lC
def S(cs:cr):OO:=⟨cs.toArray⟩
def D0{a b:cr}(h:S a=S b):a=b:=by
 have:=congrArg (λs:OO=>s.cps.toList) h;simpa[S] using this
def lF(a:cr):(S a).length=a.length:=J8 a
structure qm (cs:cr):Prop where
 l1:1<=cs.length
 l8:cs.length<=8
 ab:∀x∈cs,o8 x=true
def qm.nameB{cs:cr}(h:qm cs):Com.nameB (S cs)=true:=by
 unfold Com.nameB;rw[lF];simp only[O4,decide_eq_true_eq];exact⟨h.l1,h.l8,Pr.mpr λx hx=>h.ab x (by simpa[S] using hx)⟩
def fG(css:List (cr)):ac:=css.map λcs=>D.str (S cs)
def o7{css:List (cr)}{cs:cr}:v9 (.str (S cs)) (.lst (fG css))=.ok (.bl (decide (cs∈css))):=by
 have e:fG css=(css.map S).map D.str:=by unfold fG;rw[P7];rfl
 rw[e,sY]
 congr 2
 apply decide_eq_decide.mpr;constructor
 .intro h
  obtain⟨b,hb,hs⟩:=Pp.mp h;rw[←D0 hs];exact hb
 .exact λh=>Pp.mpr ⟨cs,h,rfl⟩
def GK{cs:cr}(h:1<=cs.length)(h8:cs.length<=1000):zT (.str (S cs)) none (some (-1))=.ok (.str (S cs.dropLast)):=by
 rw[yg (by rw[lF];exact h8)]
 congr 2
 have e1:RN (S cs) none (some (-1))=RN (S cs) none (some (-1+((S cs).length:Int))):=StrLaws.sliceText_neg_hi (S cs) none (by decide) (by rw[lF];omega);rw[e1,lF,show(-1+(cs.length:Int))=((cs.length-1:Nat):Int) by omega,show S cs=⟨cs.toArray⟩ from rfl,oo (by omega)];rw[List.dropLast_eq_take];rfl
def gk(pre:cr)(at_:Int)(i:Nat):cr:=pre++[97+((at_+(i:Int)).fmod 26).toNat]
def GP{pre:cr}{at_:Int}{i:Nat}(hl:pre.length<=7)(hp:∀x∈pre,o8 x=true):qm (gk pre at_ i):=by
 have f:=eN (a:=at_+(i:Int)) (b:=26) (by decide);refine⟨by unfold gk;simp,by unfold gk;simp;omega,λx hx=>?_⟩;unfold gk at hx;rw[Ql]at hx;rcases hx with hx|hx
 .exact hp x hx
 .have:x=97+((at_+(i:Int)).fmod 26).toNat:=by simpa using hx
  rw[this];exact xR _ (by omega)
theorem nodup_le{α:Type}[DecidableEq α]:∀{l m:List α},l.Nodup->(∀x∈l,x∈m)->l.length<=m.length
 |[],_,_,_=>RP _
 |a::l,m,nd,h=>by
  rw[Qk]at nd;have ha:=h a Pc;have:=nodup_le (l:=l) (m:=m.erase a) nd.2 λx hx=>by
   have hne:x≠a:=λz=>nd.1 (z▸hx);exact(List.mem_erase_of_ne hne).mpr (h x (OZ _ hx))
  rw[List.length_erase_of_mem ha]at this;have:=List.length_pos_of_mem ha;simp only[Pw];omega
def AO{pre:cr}{at_:Int}{css:List (cr)}(h6:css.length<=6):∃j,j<=6/\gk pre at_ (1+j)∉css:=by
 refine Ug λhno=>?_;have hall:∀j,j<=6->gk pre at_ (1+j)∈css:=λj hj=>Ug λhn=>hno ⟨j,hj,hn⟩;have nd:((PL 7).map λj=>gk pre at_ (1+j)).Nodup:=by
  rw[P4,Rk];refine Su ?_ Uz;intro k j hk hj hlt heq;rw[QJ]at hk hj;have h1:=List.append_inj_right heq rfl;have h2:97+((at_+((1+k:Nat):Int)).fmod 26).toNat=97+((at_+((1+j:Nat):Int)).fmod 26).toNat:=by simpa using h1
  rw[Si _ (by decide),Si _ (by decide)]at h2;omega
 have:=nodup_le nd (m:=css) λx hx=>by
  obtain⟨j,hj,rfl⟩:=Pp.mp hx;rw[QJ]at hj;exact hall j (by omega)
 simp at this;omega
def yL{a b c e:D}{css:List (cr)}{cs:cr}{at_:Int}(h1:1<=cs.length)(h8:cs.length<=8):(ar (aV 7 (aa (ae 7) (dC (.int 1)) bI))
 (ar (aV 6 (aa (eQ (ae 6) dw (bW (bh (dC (.int 1)) xG))) (aa (ae 2) (aa (ae 7) (dC (.int 26)) cP) aK) bI))
 av)) [.sh a,.sh b,.sh (.str "abcdefghijklmnopqrstuvwxyz"),.ow (.lst (fG css)),.sh c,.sh e,.sh (.str (S cs)),.sh (.int at_)]=.ok (.nx [.sh a,.sh b,.sh (.str "abcdefghijklmnopqrstuvwxyz"),.ow (.lst (fG css)),.sh c,.sh e,.sh (.str (S (cs.dropLast++[97+((at_+1).fmod 26).toNat]))),.sh (.int (at_+1))]):=by
 have f:=eN (a:=at_+1) (b:=26) (by decide);have hs:=GK h1 (by omega);have hi:=xQ f.1 f.2;have hadd:bI (.str (S cs.dropLast)) (.str ⟨#[97+((at_+1).fmod 26).toNat]⟩)=.ok (.str (S (cs.dropLast++[97+((at_+1).fmod 26).toNat]))):=by
  have hln:(S cs.dropLast).length+(⟨#[97+((at_+1).fmod 26).toNat]⟩:OO).length<=1000:=by
   rw[lF,UX];show cs.length-1+1<=1000;omega
  rw[vR hln];exact congrArg (λz=>aj.ok (D.str z)) (rE cs.dropLast [97+((at_+1).fmod 26).toNat])
 open_line with[hs,hi,hadd]
def Cp{a b c e:D}{css:List (cr)}{pre:cr}{at_:Int}(hl:pre.length<=7):∀(d i fuel:Nat),gk pre at_ (i+d)∉css->d<fuel->∃i',cG (aa (ae 6) (ae 3) v9)
 (ar (aV 7 (aa (ae 7) (dC (.int 1)) bI))
 (ar (aV 6 (aa (eQ (ae 6) dw (bW (bh (dC (.int 1)) xG))) (aa (ae 2) (aa (ae 7) (dC (.int 26)) cP) aK) bI))
 av)) fuel [.sh a,.sh b,.sh (.str "abcdefghijklmnopqrstuvwxyz"),.ow (.lst (fG css)),.sh c,.sh e,.sh (.str (S (gk pre at_ i))),.sh (.int (at_+(i:Int)))]=.ok (.nx [.sh a,.sh b,.sh (.str "abcdefghijklmnopqrstuvwxyz"),.ow (.lst (fG css)),.sh c,.sh e,.sh (.str (S (gk pre at_ i'))),.sh (.int (at_+(i':Int)))])/\gk pre at_ i'∉css:=by
 intro d
 induction d with
 |zero=>
  intro i fuel hn hf;obtain⟨f,rfl⟩:∃f,fuel=f+1:=⟨fuel-1,by omega⟩
  have hn:gk pre at_ i∉css:=hn;refine⟨i,?_,hn⟩;rw[jF];have:=o7 (css:=css) (cs:=gk pre at_ i);rw[decide_eq_false hn]at this;open_line with[this]
 |succ d ih=>
  intro i fuel hn hf;obtain⟨f,rfl⟩:∃f,fuel=f+1:=⟨fuel-1,by omega⟩
  by_cases hm:gk pre at_ i∈css
  .obtain⟨i',h1,h2⟩:=ih (i+1) f (by rw[show i+1+d=i+(d+1) by omega];exact hn) (by omega)
   refine⟨i',?_,h2⟩;have hst:=yL (a:=a) (b:=b) (c:=c) (e:=e) (css:=css) (cs:=gk pre at_ i) (at_:=at_+(i:Int)) (by unfold gk;simp) (by unfold gk;simp;omega);have e1:(gk pre at_ i).dropLast++[97+((at_+(i:Int)+1).fmod 26).toNat]=gk pre at_ (i+1):=by
    unfold gk;rw[List.dropLast_concat,show at_+(i:Int)+1=at_+((i+1:Nat):Int) by omega]
   rw[e1,show at_+(i:Int)+1=at_+((i+1:Nat):Int) by omega]at hst;rw[n6 ?_ hst]
   .exact h1
   .have:=o7 (css:=css) (cs:=gk pre at_ i)
    rw[decide_eq_true hm]at this;open_line with[this]
  .refine⟨i,?_,hm⟩
   rw[jF];have:=o7 (css:=css) (cs:=gk pre at_ i);rw[decide_eq_false hm]at this;open_line with[this]
def yK{a b c e:D}{css:List (cr)}{cs:cr}{at_:Int}(h6:css.length<=6)(h:qm cs):∃cs' at',cG (aa (ae 6) (ae 3) v9)
 (ar (aV 7 (aa (ae 7) (dC (.int 1)) bI))
 (ar (aV 6 (aa (eQ (ae 6) dw (bW (bh (dC (.int 1)) xG))) (aa (ae 2) (aa (ae 7) (dC (.int 26)) cP) aK) bI))
 av)) 30 [.sh a,.sh b,.sh (.str "abcdefghijklmnopqrstuvwxyz"),.ow (.lst (fG css)),.sh c,.sh e,.sh (.str (S cs)),.sh (.int at_)]=.ok (.nx [.sh a,.sh b,.sh (.str "abcdefghijklmnopqrstuvwxyz"),.ow (.lst (fG css)),.sh c,.sh e,.sh (.str (S cs')),.sh (.int at')])/\qm cs'/\cs'∉css:=by
 by_cases hm:cs∈css
 .have hpl:cs.dropLast.length<=7:=by rw[UX];have:=h.l8;omega
  obtain⟨j,hj,hn⟩:=AO (pre:=cs.dropLast) (at_:=at_) (css:=css) h6;obtain⟨i',h1,h2⟩:=Cp (a:=a) (b:=b) (c:=c) (e:=e) hpl j 1 29 hn (by omega);refine⟨gk cs.dropLast at_ i',at_+(i':Int),?_,GP hpl λx hx=>h.ab x (List.dropLast_subset _ hx),h2⟩;have hst:=yL (a:=a) (b:=b) (c:=c) (e:=e) (css:=css) (cs:=cs) (at_:=at_) h.l1 h.l8;rw[n6 ?_ hst]
  .exact h1
  .have:=o7 (css:=css) (cs:=cs)
   rw[decide_eq_true hm]at this;open_line with[this]
 .refine⟨cs,at_,?_,h,hm⟩
  rw[jF];have:=o7 (css:=css) (cs:=cs);rw[decide_eq_false hm]at this;open_line with[this]
def Gp:List Int:=[8,3,26,26,26,26,26,26,26,26,8,3,26,26,26,26,26,26,26,26,8,3,26,26,26,26,26,26,26,26,8,3,26,26,26,26,26,26,26,26,8,3,26,26,26,26,26,26,26,26,8,3,26,26,26,26,26,26,26,26,8,3,26,26,26,26,26,26,26,26]
def JX:∀k,k<7->∀j,j<10->Gp[10*k+j]?=some (if j=0 then 8 else if j=1 then 3 else 26):=by decide
structure GZ (es:List Int):Prop where
 len:es.length=10
 e0:∃v,es[0]?=some v/\0<=v/\v<8
 e1:∃v,es[1]?=some v/\0<=v/\v<3
 el:∀j,2<=j->j<10->∃v,es[j]?=some v/\0<=v/\v<26
def HS{ds:List Int}(W:Drawn Gp ds){k:Nat}(hk:k<7):GZ ((ds.drop (10*k)).take 10):=by
 have hl:ds.length=70:=W.len;have at_:∀j,j<10->∃v,((ds.drop (10*k)).take 10)[j]?=some v/\0<=v/\v<(if j=0 then 8 else if j=1 then 3 else 26:Int):=λj hj=>by
  rw[QH hj,QQ];obtain⟨v,h1,h2,_⟩:=W.at (10*k+j) (JX k hk j hj);exact⟨v,h1,h2.1,h2.2⟩
 refine⟨by rw[PJ,Qn];omega,?_,?_,λj h2 h10=>?_⟩
 .have:=at_ 0 (by decide);simpa using this
 .have:=at_ 1 (by decide);simpa using this
 .obtain⟨v,h⟩:=at_ j h10
  rw[if_neg (by omega),if_neg (by omega)]at h;exact⟨v,h⟩
def GZ.ix{es:List Int}{j:Nat}{v:Int}(h:es[j]?=some v):aK (.lst (es.map D.int)) (.int (j:Int))=.ok (.int v):=gh (by rw[OM,h];rfl)
def su(d:D):aj (ac):=match d with
 |.int j=>if -4611686018427387904<=j/\j<4611686018427387904 then .ok (intsFrom 0 j.toNat) else .stuck
 |_=>.stuck
def pk{f:al}{ρ:Ev}:uC f ρ=(f ρ).bind su:=aQ rfl
def zP{k:Nat}(h:k<=1000000):su (.int (k:Int))=.ok (intsFrom 0 k):=by
 unfold su;dsimp only;rw[if_pos ⟨by omega,by omega⟩,Qs]
def first(es:List Int)(m:Nat):cr:=(PL m).map λj=>97+((es[2+j]?).getD 0).toNat
def C5{es:List Int}(T:GZ es){m:Nat}(h1:1<=m)(h8:m<=8):qm (first es m):=by
 refine⟨by unfold first;simpa using h1,by unfold first;simpa using h8,λx hx=>?_⟩;unfold first at hx
 obtain⟨j,hj,rfl⟩:=Pp.mp hx;rw[QJ]at hj;obtain⟨v,e,b⟩:=T.el (2+j) (by omega) (by omega);rw[e,R3];exact xR _ (by omega)
def xh{es:List Int}(T:GZ es){m:Nat}(h8:m<=8){a b n k:D}{x6 x7:Sl}:j8 1 [2,5] (eM 0) mYes (aa (ae 1) (aa (ae 2) (aa (dC (.int 2)) (ae 0) bI) aK) aK) [.sh a,.sh b,.sh (.str "abcdefghijklmnopqrstuvwxyz"),.ow n,.sh k,.sh (.lst (es.map D.int)),x6,x7] (intsFrom 0 m)=.ok (.lst ((first es m).map λc=>D.str ⟨#[c]⟩)):=by
 have hlen:(DL.intsFrom 0 m).length=m:=by unfold DL.intsFrom;simp
 rw[k9 (F:=λd=>match d with|.int j=>.str ⟨#[97+((es[2+j.toNat]?).getD 0).toNat]⟩|d=>d) (by rw[hlen];omega)]
 .congr 2
  unfold DL.intsFrom first
  rw[P7,P7];apply QB;intro j _;show D.str ⟨#[97+((es[2+(0+(j:Int)).toNat]?).getD 0).toNat]⟩=_;rw[show(0+(j:Int)).toNat=j by omega];rfl
 .intro d hd
  unfold DL.intsFrom at hd;obtain⟨j,hj,rfl⟩:=Pp.mp hd;rw[QJ]at hj;obtain⟨v,e,hb⟩:=T.el (2+j) (by omega) (by omega);refine⟨[.sh (.int (0+(j:Int))),.sh (.str "abcdefghijklmnopqrstuvwxyz"),.sh (.lst (es.map D.int))],rfl,rfl,?_⟩;have hix:aK (.lst (es.map D.int)) (.int (2+(0+(j:Int))))=.ok (.int v):=by
   rw[show(2+(0+(j:Int)))=((2+j:Nat):Int) by omega];exact GZ.ix e
  open_line with[hix,xQ hb.1 hb.2]
  rw[show(0+(j:Int)).toNat=j by omega,e];rfl
def wu{z:OO}{j:Int}(h:(z.length:Int)<=j):RN z none (some j)=RN z none (some (z.length:Int)):=by
 show Tc z none (some j)=Tc z none (some (z.length:Int));have e:Sg none (some j) 1 z.length=Sg none (some (z.length:Int)) 1 z.length:=by
  have a:¬j<0:=by omega
  have b:¬((z.length:Int)<0):=by omega
  have c:min j (z.length:Int)=(z.length:Int):=by omega
  have d:min (z.length:Int) (z.length:Int)=(z.length:Int):=by omega
  simp[Sg,a,b,c,d]
 unfold Tc;rw[e]
def nodup_snoc{α:Type}{l:List α}{x:α}(h:l.Nodup)(hx:x∉l):(l++[x]).Nodup:=by
 rw[Tj];refine⟨h,by simp,λa ha b hb=>?_⟩;have:b=x:=by simpa using hb
 subst this;intro z;subst z;exact hx ha
set_option maxHeartbeats 1000000 in
def names_ok{ds:List Int}(W:Drawn Gp ds){n:Nat}(hn:n<=7):∃css:List (cr),bX [.lst (ds.map D.int),.int (n:Int)]=.ok (.lst (fG css))/\css.length=n/\css.Nodup/\∀cs∈css,qm cs:=by
 have hdl:ds.length=70:=W.len;obtain⟨ρ',hl,css,hc,hnd,hnm,x4,x5,x6,x7,rfl⟩:=nN (i:=4) (n:=n)
  (ρ:=[.sh (.lst (ds.map D.int)),.sh (.int (n:Int)),.sh (.str "abcdefghijklmnopqrstuvwxyz"),.ow (.lst []),.no,.no,.no,.no])
  (body:=(ar (aV 5 (eQ (ae 0) (bW (aa (dC (.int 10)) (ae 4) cq)) (bW (aa (aa (dC (.int 10)) (ae 4) cq) (dC (.int 10)) bI))))
 (ar (aV 6 (vD (dC (.str "")) (ag (eC 1 [2,5] (uC (aa (dC (.int 1)) (aa (ae 5) (dC (.int 0)) aK) bI)) (eM 0) mYes (aa (ae 1) (aa (ae 2) (aa (dC (.int 2)) (ae 0) bI) aK) aK)) aB)))
 (ar (dX (fK (aa (ae 4) (dC (.int 0)) Kq) (aa (aa (ae 5) (dC (.int 1)) aK) (dC (.int 0)) jW))
 (ar (yj 6 (aa (eQ (aa (ae 3) (aa (ae 4) (dC (.int 1)) i7) aK) dw (bW (aa (ae 5) (dC (.int 0)) aK))) (aa (ae 2) (aa (ae 5) (dC (.int 2)) aK) aK) bI))
 av)
 av)
 (ar (aV 7 (aa (ae 5) (dC (.int 9)) aK))
 (ar (je (λ_=>30) (aa (ae 6) (ae 3) v9)
 (ar (aV 7 (aa (ae 7) (dC (.int 1)) bI))
 (ar (aV 6 (aa (eQ (ae 6) dw (bW (bh (dC (.int 1)) xG))) (aa (ae 2) (aa (ae 7) (dC (.int 26)) cP) aK) bI))
 av)))
 (ar (dY 3 (ae 6))
 av)))))))
  (λk ρ=>∃css:List (cr),css.length=k/\css.Nodup/\(∀cs∈css,qm cs)/\∃x4 x5 x6 x7,ρ=[.sh (.lst (ds.map D.int)),.sh (.int (n:Int)),.sh (.str "abcdefghijklmnopqrstuvwxyz"),.ow (.lst (fG css)),x4,x5,x6,x7]) (by
   rintro k hk ρ ⟨css,rfl,hnd,hnm,x4,x5,x6,x7,rfl⟩;have T:=HS W (k:=css.length) (by omega);generalize hes:(ds.drop (10*css.length)).take 10=es at T;have hcut:jv (ds.map D.int) (some (10*(css.length:Int))) (some (10*(css.length:Int)+10))=es.map D.int:=by
    rw[vI (a:=10*css.length) (b:=10*css.length+10) (by omega) (by omega) (by omega) (by omega),show 10*css.length+10-10*css.length=10 by omega,hes]
   obtain⟨e0,g0,b0,b0'⟩:=T.e0;obtain⟨e1,g1,b1,b1'⟩:=T.e1;obtain⟨e2,g2,b2,b2'⟩:=T.el 2 (by decide) (by decide);obtain⟨e9,g9,b9,b9'⟩:=T.el 9 (by decide) (by decide);have i0:aK (.lst (es.map D.int)) (.int 0)=.ok (.int e0):=GZ.ix (j:=0) g0;have i1:aK (.lst (es.map D.int)) (.int 1)=.ok (.int e1):=GZ.ix (j:=1) g1;have i2:aK (.lst (es.map D.int)) (.int 2)=.ok (.int e2):=GZ.ix (j:=2) g2;have i9:aK (.lst (es.map D.int)) (.int 9)=.ok (.int e9):=GZ.ix (j:=9) g9;obtain⟨m,rfl⟩:=Qf b0;have hm1:fz 10 (css.length:Int)=true:=ic (by decide) (by omega);have hsrc:su (.int (1+(m:Int)))=.ok (DL.intsFrom 0 (1+m)):=by
    rw[show(1+(m:Int))=((1+m:Nat):Int) by omega];exact zP (by omega)
   have hjoin:=wZ (cs:=first es (1+m)) (by unfold first;simp;omega);have hF:=C5 T (m:=1+m) (by omega) (by omega);have hcomp:=λ(x6 x7:Sl)=>xh T (m:=1+m) (by omega) (a:=.lst (ds.map D.int)) (b:=.int (n:Int)) (n:=.lst (fG css)) (k:=.int (css.length:Int)) (x6:=x6) (x7:=x7);have hwh:∀(c:al) (s:am) (ρ:Ev),je (λ_=>30) c s ρ=cG c s 30 ρ:=λ_ _ _=>rfl;have hap:decide ((fG css).length<=999)=true:=decide_eq_true (by unfold fG;rw[OH];omega);have fin:∀cs,cs∉css->qm cs->(css++[cs]).Nodup/\∀c∈css++[cs],qm c:=λcs h1 h2=>⟨nodup_snoc hnd h1,λc hc=>by
    rw[Ql]at hc;rcases hc with hc|hc
    .exact hnm c hc
    .have:c=cs:=by simpa using hc
     subst this;exact h2⟩
   have hmp:∀cs,fG (css++[cs])=fG css++[.str (S cs)]:=λcs=>by unfold fG;rw[PF];rfl
   have hS:∀cs:cr,(⟨cs.toArray⟩:OO)=S cs:=λ_=>rfl;rw[hS]at hjoin;cases hcc:(decide ((css.length:Int) > 0)&&(e1==0)) with
   |false=>
    obtain⟨cs',at',hw,hN,hO⟩:=yK (a:=.lst (ds.map D.int)) (b:=.int (n:Int)) (c:=.int (css.length:Int)) (e:=.lst (es.map D.int)) (css:=css) (cs:=first es (1+m)) (at_:=e9) (by omega) hF;refine⟨[.sh (.lst (ds.map D.int)),.sh (.int (n:Int)),.sh (.str "abcdefghijklmnopqrstuvwxyz"),.ow (.lst (fG (css++[cs']))),.sh (.int (css.length:Int)),.sh (.lst (es.map D.int)),.sh (.str (S cs')),.sh (.int at')],?_,css++[cs'],by simp,(fin cs' hO hN).1,(fin cs' hO hN).2,_,_,_,_,rfl⟩;rw[hmp]
    by_cases hk0:(css.length:Int) > 0
    .have h10:(e1==0)=false:=by rw[decide_eq_true hk0]at hcc;simpa using hcc
     open_line with[c8 hm1,hcut,i0,pk,hsrc,hcomp,hjoin,decide_eq_true hk0,i1,h10,i9,hwh,hw,fq hap]
    .open_line with[c8 hm1,hcut,i0,pk,hsrc,hcomp,hjoin,decide_eq_false hk0,i9,hwh,hw,fq hap]
   |true=>
    rw[O4,decide_eq_true_eq]at hcc;have hk0:=hcc.1;have hlast:css.length-1<css.length:=by omega
    have hpx:=hnm css[css.length-1] (P9 hlast);have hixn:aK (.lst (fG css)) (.int ((css.length:Int)-1))=.ok (.str (S css[css.length-1])):=by
     rw[show((css.length:Int)-1)=((css.length-1:Nat):Int) by omega];exact gh (by unfold fG;rw[OM,OI hlast];rfl)
    generalize css[css.length-1]=pv at hixn hpx;have hsl:zT (.str (S pv)) none (some (m:Int))=.ok (.str (S (pv.take m))):=by
     rw[yg (by rw[lF];have:=hpx.l8;omega)]
     by_cases hmm:m<=pv.length
     .exact congrArg (λz=>aj.ok (D.str z)) (oo hmm)
     .rw[wu (by rw[lF];omega),lF]
      refine congrArg (λz=>aj.ok (D.str z)) ((oo (O0 _)).trans ?_);rw[R4,Q3 (by omega)];rfl
    have hadd:bI (.str (S (pv.take m))) (.str ⟨#[97+e2.toNat]⟩)=.ok (.str (S (pv.take m++[97+e2.toNat]))):=by
     have hln:(S (pv.take m)).length+(⟨#[97+e2.toNat]⟩:OO).length<=1000:=by
      rw[lF,PJ];show min m pv.length+1<=1000;omega
     rw[vR hln];exact congrArg (λz=>aj.ok (D.str z)) (rE (pv.take m) [97+e2.toNat])
    have hset:∀(i:Nat) (ρ:Ev) (z:OO),Hh i ρ (.str z)=.ok (.nx (ρ.set i (.sh (.str z)))):=λ_ _ _=>rfl;have hF2:qm (pv.take m++[97+e2.toNat]):=by
     refine⟨by simp,by simp;omega,λx hx=>?_⟩;rw[Ql]at hx;rcases hx with hx|hx
     .exact hpx.ab x (List.mem_of_mem_take hx)
     .have:x=97+e2.toNat:=by simpa using hx
      rw[this];exact xR _ (by omega)
    obtain⟨cs',at',hw,hN,hO⟩:=yK (a:=.lst (ds.map D.int)) (b:=.int (n:Int)) (c:=.int (css.length:Int)) (e:=.lst (es.map D.int)) (css:=css) (cs:=pv.take m++[97+e2.toNat]) (at_:=e9) (by omega) hF2;refine⟨[.sh (.lst (ds.map D.int)),.sh (.int (n:Int)),.sh (.str "abcdefghijklmnopqrstuvwxyz"),.ow (.lst (fG (css++[cs']))),.sh (.int (css.length:Int)),.sh (.lst (es.map D.int)),.sh (.str (S cs')),.sh (.int at')],?_,css++[cs'],by simp,(fin cs' hO hN).1,(fin cs' hO hN).2,_,_,_,_,rfl⟩;rw[hmp];open_line with[c8 hm1,hcut,i0,pk,hsrc,hcomp,hjoin,decide_eq_true hk0,i1,hcc.2,i7,hixn,hsl,i2,xQ b2 b2',hadd,FV,hset,i9,hwh,hw,fq hap]) ⟨[],rfl,List.nodup_nil,λc hc=>(nomatch hc),_,_,_,_,rfl⟩
 refine⟨css,?_,hc,hnd,hnm⟩;open_line with[bX,lC,kR,kO (show n<=1000000 by omega),hl]
noncomputable def eB:am :=
 (ar (aV 3 (aq (ag (ae 0) (ag (aq (ag (dC (.int 420)) (ag (dC (.int 60)) (ag (dC (.int 2)) (ag (dC (.int 5)) (ag (aa (dC (.int 10)) (dC (.int 18)) AI) (ag (dC (.int 30)) (ag (dC (.int 6)) (ag (dC (.int 5)) (ag (aa (dC (.int 10)) (dC (.int 18)) AI) (ag (dC (.int 30)) (ag (dC (.int 3)) aB))))))))))) cI) aB)) bL))
 (ar (aV 4 (aa (aa (ae 3) (dC (.int 0)) aK) (aq (ag (ae 2) aB) (m1 cY)) cP))
 (ar (aV 5 (aa (aa (aa (ae 4) (dC (.int 1)) bI) (aa (aa (ae 3) (dC (.int 1)) aK) (aa (aq (ag (ae 2) aB) (m1 cY)) (dC (.int 1)) i7) cP) bI) (aq (ag (ae 2) aB) (m1 cY)) cP))
 (ar (dX (aa (aa (ae 3) (dC (.int 10)) aK) (dC (.int 0)) jW)
 (ar (aV 4 (aa (ae 1) (aa (aq (ag (ae 2) aB) (m1 cY)) (dC (.int 1)) i7) cP))
 (ar (aV 5 (aa (ae 4) (dC (.int 1)) bI))
 av))
 av)
 (ar (aV 6 (dC (.non)))
 (ar (dX (aa (aa (ae 3) (dC (.int 6)) aK) (dC (.int 0)) Kq)
 (ar (aV 6 (aq (ag (eQ (ae 3) (bW (dC (.int 7))) (bW (dC (.int 10)))) aB) cf))
 (ar (dX (aa (aa (ae 6) (dC (.int 0)) aK) (dC (.int 0)) jW)
 (ar (aV 6 (aq (ag (dC (.int 1)) (ag (dC (.int 1)) aB)) gw))
 av)
 av)
 av))
 av)
 (ar (bC (aq (ag (aa (ae 2) (ae 4) aK) (ag (aa (ae 2) (ae 5) aK) (ag (aa (aq (ag (dC (.str "one")) (ag (dC (.str "both")) aB)) cI) (aa (ae 3) (dC (.int 2)) aK) aK) (ag (aq (ag (eQ (ae 3) (bW (dC (.int 3))) (bW (dC (.int 6)))) aB) cf) (ag (ae 6) aB))))) gw))
 av)))))))
def bP:ac->aj D:=cm 7 eB
def zG:lJ (1,1)/\0<((1,1):gz).1:=⟨⟨⟨by decide,by decide⟩,by decide,by decide⟩,by decide⟩
set_option maxHeartbeats 1000000 in
def HR{zs:bv}{c:Int}{k:Nat}(h2:2<=zs.length)(h8:zs.length<=8)(nd:zs.Nodup):∃t,bP [.int c,.int (k:Int),.lst (zs.map D.str)]=.ok (bg t)/\m8 zs t:=by
 obtain⟨vs,hd,W⟩:=draws_ok c [420,60,2,5,1000000000000000000,30,6,5,1000000000000000000,30,3] (by decide) (by decide);have hd':bL [.int c,.lst [.int 420,.int 60,.int 2,.int 5,.int 1000000000000000000,.int 30,.int 6,.int 5,.int 1000000000000000000,.int 30,.int 3]]=.ok (.lst (vs.map D.int)):=hd;obtain⟨d0,g0,b0,i0⟩:=W.ix 0 0 rfl rfl;obtain⟨d1,g1,b1,i1⟩:=W.ix 1 1 rfl rfl;obtain⟨d2,g2,b2,i2⟩:=W.ix 2 2 rfl rfl;obtain⟨d3,g3,b3,_⟩:=W.at 3 rfl;obtain⟨d4,g4,b4,_⟩:=W.at 4 rfl;obtain⟨d5,g5,b5,_⟩:=W.at 5 rfl;obtain⟨d6,g6,b6,i6⟩:=W.ix 6 6 rfl rfl;obtain⟨d7,g7,b7,_⟩:=W.at 7 rfl;obtain⟨d8,g8,b8,_⟩:=W.at 8 rfl;obtain⟨d9,g9,b9,_⟩:=W.at 9 rfl;obtain⟨d10,g10,b10,i10⟩:=W.ix 10 10 rfl rfl;have c3:=Mm (x:=3) (y:=6) (i:=3) rfl rfl g3 g4 g5;have c7:=Mm (x:=7) (y:=10) (i:=7) rfl rfl g7 g8 g9;obtain⟨x,hx,fx,lx⟩:=mS (w:=d3) (a:=d4) (b:=d5) b3 b4 b5;obtain⟨y,hy,fy,ly⟩:=mS (w:=d7) (a:=d8) (b:=d9) b7 b8 b9;obtain⟨wd,hw,jw⟩:=Es b2.1 b2.2;have hn0:((zs.length:Int)==0)=false:=beq_eq_false_iff_ne.mpr (by omega);have hn1:((zs.length:Int)-1==0)=false:=beq_eq_false_iff_ne.mpr (by omega);obtain⟨p,q,hp,hq,hpq,hplace⟩:∃p q:Int,(0<=p/\p<(zs.length:Int))/\(0<=q/\q<(zs.length:Int))/\p≠q/\(((d10==0)=true/\p=(k:Int).fmod ((zs.length:Int)-1)/\q=p+1)∨((d10==0)=false/\p=d0.fmod (zs.length:Int)/\q=(d0.fmod (zs.length:Int)+1+d1.fmod ((zs.length:Int)-1)).fmod (zs.length:Int))):=by
  cases h10:(d10==0) with
  |true=>
   have f:=eN (a:=(k:Int)) (b:=(zs.length:Int)-1) (by omega);exact⟨(k:Int).fmod ((zs.length:Int)-1),(k:Int).fmod ((zs.length:Int)-1)+1,by omega,by omega,by omega,.inl ⟨rfl,rfl,rfl⟩⟩
  |false=>
   have f:=eN (a:=d0) (b:=(zs.length:Int)) (by omega);have f':=eN (a:=d1) (b:=(zs.length:Int)-1) (by omega);obtain⟨hr,hne⟩:=rQ (n:=(zs.length:Int)) (d:=d0.fmod (zs.length:Int)) (e:=d1.fmod ((zs.length:Int)-1)) (by omega) f.1 f.2 f'.1 f'.2;exact⟨_,_,f,hr,Px hne,.inr ⟨rfl,rfl,rfl⟩⟩
 obtain⟨z1,k1,j1⟩:=Bx (zs:=zs) hp.1 hp.2;obtain⟨z2,k2,j2⟩:=Bx (zs:=zs) hq.1 hq.2;have hz12:z1≠z2:=uV nd k1 k2 (by omega);have f1:aK (fr y) (.int 0)=.ok (.int y.1):=rfl;obtain⟨o,ho,hworth⟩:∃o:Option gz,(∀v,o=some v->lJ v/\0<v.1)/\((¬d6 > 0/\o=none)∨(d6 > 0/\(y.1==0)=true/\o=some (1,1))∨(d6 > 0/\(y.1==0)=false/\o=some y)):=by
  by_cases h6:d6 > 0
  .cases hy0:(y.1==0) with
   |true=>exact⟨some (1,1),λv hv=>by cases hv;exact zG,.inr (.inl ⟨h6,rfl,rfl⟩)⟩
   |false=>exact⟨some y,λv hv=>by cases hv;exact⟨fy,by have:y.1≠0:=beq_eq_false_iff_ne.mp hy0;omega⟩,.inr (.inr ⟨h6,rfl,rfl⟩)⟩
  .exact⟨none,λv hv=>(nomatch hv),.inl ⟨h6,rfl⟩⟩
 refine⟨⟨z1,z2,wd,x,o⟩,?_,O1 k1,O1 k2,hz12,hw,fx,lx,ho⟩;rw[show bg ⟨z1,z2,wd,x,o⟩=.tup [.str z1,.str z2,.str wd,fr x,aO o] from rfl];rcases hplace with⟨h10,e1,e2⟩|⟨h10,e1,e2⟩<;>rcases hworth with⟨h6,e3⟩|⟨h6,hy0,e3⟩|⟨h6,hy0,e3⟩<;>subst e3
 .rw[e2,e1]at j2;rw[e1]at j1
  open_line with[bP,eB,iF,hd',i0,i1,i2,i6,i10,OH,hn0,hn1,i7,h10,decide_eq_false h6,j1,j2,jw,c3,hx]
  rfl
 .rw[e2,e1]at j2;rw[e1]at j1
  open_line with[bP,eB,iF,hd',i0,i1,i2,i6,i10,OH,hn0,hn1,i7,h10,decide_eq_true h6,c7,hy,f1,hy0,j1,j2,jw,c3,hx]
  rfl
 .rw[e2,e1]at j2;rw[e1]at j1
  open_line with[bP,eB,iF,hd',i0,i1,i2,i6,i10,OH,hn0,hn1,i7,h10,decide_eq_true h6,c7,hy,f1,hy0,j1,j2,jw,c3,hx]
  rfl
 .rw[e2]at j2;rw[e1]at j1
  open_line with[bP,eB,iF,hd',i0,i1,i2,i6,i10,OH,hn0,hn1,i7,h10,decide_eq_false h6,j1,j2,jw,c3,hx]
  rfl
 .rw[e2]at j2;rw[e1]at j1
  open_line with[bP,eB,iF,hd',i0,i1,i2,i6,i10,OH,hn0,hn1,i7,h10,decide_eq_true h6,c7,hy,f1,hy0,j1,j2,jw,c3,hx]
  rfl
 .rw[e2]at j2;rw[e1]at j1
  open_line with[bP,eB,iF,hd',i0,i1,i2,i6,i10,OH,hn0,hn1,i7,h10,decide_eq_true h6,c7,hy,f1,hy0,j1,j2,jw,c3,hx]
  rfl
noncomputable def lE:am :=
 (ar (aV 1 (aq (ag (aa (aa (ae 0) (aq (ag (dC (.int 0)) aB) cI) bI) (dC (.int 0)) aK) (ag (aa (aa (aq (ag (dC (.int 6)) (ag (dC (.int 420)) (ag (dC (.int 60)) aB))) cI) (kI (aa (aq (ag (dC (.int 8)) (ag (dC (.int 3)) aB)) cI) (kI (aq (ag (dC (.int 26)) aB) cI) (dC (.int 8))) pK) (dC (.int 7))) bI) (aq (ag (dC (.int 18)) aB) cI) bI) aB)) bL))
 (ar (aV 2 (aq (ag (dC (.int 14)) (ag (aa (ae 1) (dC (.int 73)) aK) aB)) (m2 J7)))
 (ar (bC (aq (ag (eQ (ae 0) (bW (dC (.int 1))) (bW (aa (dC (.int 1)) (ae 2) bI))) (ag (eQ (ae 0) (bW (aa (dC (.int 1)) (ae 2) bI)) (bW (dC (.int 63)))) aB)) gw))
 av)))
def cy:ac->aj D:=cm 3 lE
def D8(ns:List Int):Int:=(ns++[0]).headD 0
def yT{ns:List Int}(hn:ns.length<=900){ρ:Ev}(h:ρ[0]?=some (.sh (.lst (ns.map D.int)))):(aa (aa (ae 0) (aq (ag (dC (.int 0)) aB) cI) bI) (dC (.int 0)) aK) ρ=.ok (.int (D8 ns)):=by
 have hadd:bI (.lst (ns.map D.int)) (.lst [.int 0])=.ok (.lst ((ns++[0]).map D.int)):=by
  rw[jO (decide_eq_true (by rw[OH];simp;omega)),PF];rfl
 have hix:aK (.lst ((ns++[0]).map D.int)) (.int 0)=.ok (.int (D8 ns)):=by
  refine gh (k:=0) ?_;unfold D8;cases ns<;>rfl
 have hv:ae 0 ρ=.ok (.lst (ns.map D.int)):=by
  show(match ρ[0]? with|some (.sh d)=>aj.ok d|_=>.stuck)=_;rw[h]
 rw[Dm,Dm,hv];open_line with[hadd,hix]
def KS:List Int:=[6,420,60]++Gp
def NU:List Int:=KS++[18]
def Ia{ρ:Ev}:(aa (aq (ag (dC (.int 6)) (ag (dC (.int 420)) (ag (dC (.int 60)) aB))) cI) (kI (aa (aq (ag (dC (.int 8)) (ag (dC (.int 3)) aB)) cI) (kI (aq (ag (dC (.int 26)) aB) cI) (dC (.int 8))) pK) (dC (.int 7))) bI) ρ=.ok (.lst (KS.map D.int)):=rfl
def Ib{ρ:Ev}:(aa (aa (aq (ag (dC (.int 6)) (ag (dC (.int 420)) (ag (dC (.int 60)) aB))) cI) (kI (aa (aq (ag (dC (.int 8)) (ag (dC (.int 3)) aB)) cI) (kI (aq (ag (dC (.int 26)) aB) cI) (dC (.int 8))) pK) (dC (.int 7))) bI) (aq (ag (dC (.int 18)) aB) cI) bI) ρ=.ok (.lst (NU.map D.int)):=rfl
def cut_any{ns:List Int}{lo hi:Option Int}:∃ms:List Int,jv (ns.map D.int) lo hi=ms.map D.int/\ms.length<=ns.length:=by
 rw[iM];exact⟨_,rfl,Pe (List.length_take_le' ..) (by rw[Qn];omega)⟩
def cells_ok{ns:List Int}(hn:ns.length<=63):∃c1 c2:List Int,cy [.lst (ns.map D.int)]=.ok (.tup [.lst (c1.map D.int),.lst (c2.map D.int)])/\c1.length<=14/\c2.length<=63:=by
 obtain⟨vs,hd,W⟩:=draws_ok (D8 ns) NU (by decide) (by decide);obtain⟨d,g,b,i⟩:=W.ix 73 73 rfl rfl;have hmin:J7 (.int 14) (.int d)=.ok (.int (min 14 d)):=by
  show aj.ok (D.int (if d<14 then d else 14))=_
  congr 2
  split<;>omega
 obtain⟨c2,hc2,hl2⟩:=cut_any (ns:=ns) (lo:=some (1+min 14 d)) (hi:=some 63);obtain⟨m,hm⟩:=Qf (show 0<=min 14 d by omega);have hc1:∃c1:List Int,jv (ns.map D.int) (some 1) (some (1+min 14 d))=c1.map D.int/\c1.length<=14:=by
  rw[iM];refine⟨_,rfl,Pe (List.length_take_le ..) ?_⟩;rw[hm,show(1+(m:Int))=((1+m:Nat):Int) by omega,HT.sIx_nat,show(1:Int)=((1:Nat):Int) from rfl,HT.sIx_nat];omega
 obtain⟨c1,hc1,hl1⟩:=hc1;refine⟨c1,c2,?_,hl1,by omega⟩;have hh:=yT (ns:=ns) (by omega) (ρ:=[.sh (.lst (ns.map D.int)),.no,.no]) rfl;rw[cy,lE];rw[xo];show((ar _ _) [.sh (.lst (ns.map D.int)),.no,.no]).bind BE=_;rw[xm,xj,Dl,kS,hh,Dd,pA,kS,Ib];open_line with[hd,i,hmin,hc1,hc2]
noncomputable def qh:am :=
 (ar (aV 1 (aq (ag (aa (aa (ae 0) (aq (ag (dC (.int 0)) aB) cI) bI) (dC (.int 0)) aK) (ag (aa (aq (ag (dC (.int 6)) (ag (dC (.int 420)) (ag (dC (.int 60)) aB))) cI) (kI (aa (aq (ag (dC (.int 8)) (ag (dC (.int 3)) aB)) cI) (kI (aq (ag (dC (.int 26)) aB) cI) (dC (.int 8))) pK) (dC (.int 7))) bI) aB)) bL))
 (ar (aV 2 (aq (ag (eQ (ae 1) (bW (dC (.int 3))) dw) (ag (aa (dC (.int 2)) (aa (ae 1) (dC (.int 0)) aK) bI) aB)) bX))
 (ar (aV 3 (aa (aa (ae 1) (dC (.int 1)) aK) (aq (ag (ae 2) aB) (m1 cY)) cP))
 (ar (aV 4 (aa (aa (aa (ae 3) (dC (.int 1)) bI) (aa (aa (ae 1) (dC (.int 2)) aK) (aa (aq (ag (ae 2) aB) (m1 cY)) (dC (.int 1)) i7) cP) bI) (aq (ag (ae 2) aB) (m1 cY)) cP))
 (ar (aV 5 (eC 2 [3,4] (nr (ae 2)) (dy [0,1]) (aa (ae 0) (aq (ag (ae 2) (ag (ae 3) aB)) gw) cE) (ae 1)))
 (ar (aV 6 (aa (aa (aq (ag (aa (ae 2) (ae 3) aK) aB) cI) (ae 5) bI) (aq (ag (aa (ae 2) (ae 4) aK) aB) cI) bI))
 (ar (aV 7 (eC 2 [6] (nr (aa (aq (ag (ae 0) aB) cy) (dC (.int 0)) aK)) (dy [0,1]) mYes (aq (ag (ae 1) (ag (ae 0) (ag (ae 2) aB))) bP)))
 (ar (bC (aq (ag (ae 2) (ag (ae 7) (ag (aa (ae 2) (ae 3) aK) (ag (aa (ae 2) (ae 4) aK) aB)))) gw))
 av))))))))
def cN:ac->aj D:=cm 8 qh
def jm{zs:bv}:bK 0 (zs.map D.str)=(PL zs.length).map λ(k:Nat)=>D.tup [.int (k:Int),.str (zs[k]?.getD ("" : OO))]:=by
 apply RY;intro i;rw[dD,OM,OM]
 by_cases h:i<zs.length
 .rw[OI h,U4 h]
  simp;rw[OI h];rfl
 .rw[Ri (by omega),Ri (by simp;omega)];rfl
def Ak{k f l:Nat}:cE (.int (k:Int)) (.tup [.int (f:Int),.int (l:Int)])=.ok (.bl (!(decide (k=f)||decide (k=l)))):=by
 have e:A5 (.int (k:Int)) (.tup [.int (f:Int),.int (l:Int)])=some (decide (k=f)||decide (k=l)):=by
  have e0:A5 (.int (k:Int)) (.tup [.int (f:Int),.int (l:Int)])=some (((f:Int)==(k:Int))||(((l:Int)==(k:Int))||false)):=rfl;rw[e0];refine congrArg some ?_;show(((f:Int)==(k:Int))||(((l:Int)==(k:Int))||false))=_;rw[Bool.or_false]
  congr 1
  .by_cases h:k=f
   .subst h;simp
   .rw[decide_eq_false h];exact beq_eq_false_iff_ne.mpr (by omega)
  .by_cases h:k=l
   .subst h;simp
   .rw[decide_eq_false h];exact beq_eq_false_iff_ne.mpr (by omega)
 unfold cE;rw[e]
def tV(zs:bv)(f l:Nat):bv:=((PL zs.length).filter λk=>!(decide (k=f)||decide (k=l))).map λ(k:Nat)=>zs[k]?.getD ("" : OO)
def AW{zs:bv}{f l:Nat}(h:zs.length<=8){a b x5 x6 x7:Sl}:j8 2 [3,4] (dy [0,1]) (aa (ae 0) (aq (ag (ae 2) (ag (ae 3) aB)) gw) cE) (ae 1) [a,b,.sh (.lst (zs.map D.str)),.sh (.int (f:Int)),.sh (.int (l:Int)),x5,x6,x7] (bK 0 (zs.map D.str))=.ok (.lst ((tV zs f l).map D.str)):=by
 rw[mV (F:=λd=>match d with|.tup [_,z]=>z|d=>d) (p:=λd=>match d with|.tup [.int k,_]=>!(decide (k.toNat=f)||decide (k.toNat=l))|_=>false) (by rw[numbered_len,OH];omega)]
 .congr 2
  rw[jm];unfold tV;rw[List.filter_map,P7,P7];rfl
 .intro d hd
  rw[jm]at hd;obtain⟨k,_,rfl⟩:=Pp.mp hd;refine⟨[.sh (.int (k:Int)),.sh (.str (zs[k]?.getD ("" : OO))),.sh (.int (f:Int)),.sh (.int (l:Int))],rfl,?_,λ_=>rfl⟩;open_line with[Ak,Qs]
def nj(zs:bv)(f l:Nat):bv:=(zs[f]?.getD ("" : OO))::(tV zs f l++[zs[l]?.getD ("" : OO)])
def Kl(n f l:Nat):cr:=f::((PL n).filter (λk=>!(decide (k=f)||decide (k=l)))++[l])
def ur{zs:bv}{f l:Nat}:nj zs f l=(Kl zs.length f l).map λ(k:Nat)=>zs[k]?.getD ("" : OO):=by
 unfold nj Kl tV;rw[OY,PF];rfl
def HL{n f l:Nat}(hfl:f≠l):(Kl n f l).Nodup:=by
 unfold Kl;rw[Qk,Tj];refine⟨λh=>?_,List.nodup_range.filter _,by simp,λa ha b hb=>?_⟩
 .rw[Ql]at h
  rcases h with h|h
  .have:=(RF.mp h).2
   simp at this
  .exact hfl (by simpa using h)
 .have hb':b=l:=by simpa using hb
  subst hb';intro z;subst z;have:=(RF.mp ha).2;simp at this
def we{n f l:Nat}(hf:f<n)(hl:l<n):∀k∈Kl n f l,k<n:=λk hk=>by
 unfold Kl at hk;rw[OU,Ql]at hk;rcases hk with rfl|hk|hk
 .exact hf
 .exact QJ.mp (RF.mp hk).1
 .have:k=l:=by simpa using hk
  subst this;exact hl
def xY{zs:bv}(nd:zs.Nodup){f l:Nat}(hf:f<zs.length)(hl:l<zs.length)(hfl:f≠l):(nj zs f l).Nodup:=by
 rw[ur,P4,Rk];refine Su ?_ (P4.mp (HL hfl));intro a b ha hb hab;have h1:=we hf hl a ha;have h2:=we hf hl b hb;rw[OI h1,OI h2,R3,R3];exact λz=>hab ((Q0 nd).mp z)
def n8{zs:bv}{f l:Nat}(hf:f<zs.length)(hl:l<zs.length):∀z∈nj zs f l,z∈zs:=λz hz=>by
 rw[ur]at hz;obtain⟨k,hk,rfl⟩:=Pp.mp hz;have h1:=we hf hl k hk;rw[OI h1,R3];exact P9 h1
def Bh{zs:bv}(nd:zs.Nodup){f l:Nat}(hf:f<zs.length)(hl:l<zs.length)(hfl:f≠l):2<=(nj zs f l).length/\(nj zs f l).length<=zs.length:=by
 refine⟨by unfold nj;simp,nodup_le (xY nd hf hl hfl) (n8 hf hl)⟩
def zM{ws:bv}{cs:List Int}(h2:2<=ws.length)(h8:ws.length<=8)(nd:ws.Nodup)(h14:cs.length<=14){x0 x1 x2 x3 x4 x5 x7:Sl}:∃ts:List rT,j8 2 [6] (dy [0,1]) mYes (aq (ag (ae 1) (ag (ae 0) (ag (ae 2) aB))) bP) [x0,x1,x2,x3,x4,x5,.sh (.lst (ws.map D.str)),x7] (bK 0 (cs.map D.int))=.ok (.lst (ts.map bg))/\ts.length=cs.length/\∀t∈ts,m8 ws t:=by
 have key:∀(c:Int) (k:Nat),∃t,bP [.int c,.int (k:Int),.lst (ws.map D.str)]=.ok (bg t)/\m8 ws t:=λc k=>HR h2 h8 nd;obtain⟨g,hg⟩:∃g:Int->Nat->rT,∀(c:Int) (k:Nat),bP [.int c,.int (k:Int),.lst (ws.map D.str)]=.ok (bg (g c k))/\m8 ws (g c k):=⟨λc k=>Classical.choose (key c k),λc k=>Classical.choose_spec (key c k)⟩
 refine⟨(PL cs.length).map λ(k:Nat)=>g (cs[k]?.getD 0) k,?_,by simp,λt ht=>?_⟩
 .rw[k9 (F:=λd=>match d with|.tup [.int k,.int c]=>bg (g c k.toNat)|d=>d) (by rw[numbered_len,OH];omega)]
  .congr 2
   apply RY;intro i;rw[OM,dD,OM,OM,OM]
   by_cases h:i<cs.length
   .rw[OI h,U4 h]
    show some (bg (g cs[i] (((0+i:Nat):Int)).toNat))=some (bg (g (cs[i]?.getD 0) i));rw[OI h,R3,Qs,Tg]
   .rw[Ri (by omega),Ri (by simp;omega)];rfl
  .intro d hd
   obtain⟨i,hi⟩:=UL.mp hd;rw[dD,OM]at hi;cases e:cs[i]? with
   |none=>rw[e]at hi;cases hi
   |some c=>
    rw[e]at hi;have hi':D.tup [.int ((0+i:Nat):Int),.int c]=d:=PK hi;rw[Tg]at hi';subst hi';refine⟨[.sh (.int (i:Int)),.sh (.int c),.sh (.lst (ws.map D.str))],rfl,rfl,?_⟩;have h:=(hg c i).1;open_line with[h,Qs]
 .obtain⟨k,_,rfl⟩:=Pp.mp ht
  exact(hg _ _).2
set_option maxHeartbeats 1000000 in
def zH{ns:List Int}(hn:ns.length<=63):∃w,∃c1 c2:List Int,cy [.lst (ns.map D.int)]=.ok (.tup [.lst (c1.map D.int),.lst (c2.map D.int)])/\c2.length<=63/\w.ts.length=c1.length/\cN [.lst (ns.map D.int)]=.ok (aN w)/\eV w:=by
 obtain⟨vs,hd,W⟩:=draws_ok (D8 ns) KS (by decide) (by decide);have hvl:vs.length=73:=W.len;obtain⟨d0,g0,b0,i0⟩:=W.ix 0 0 rfl rfl;obtain⟨d1,g1,b1,i1⟩:=W.ix 1 1 rfl rfl;obtain⟨d2,g2,b2,i2⟩:=W.ix 2 2 rfl rfl;have W3:Drawn Gp (vs.drop 3):=⟨by rw[Qn,hvl];rfl,λi v s e1 e2=>by
  rw[QQ]at e1;refine W.bnd (3+i) v s e1 ?_;have:KS[3+i]?=Gp[i]?:=by
   unfold KS;rw[O9 (by simp)];simp
  rw[this];exact e2⟩
 obtain⟨m,rfl⟩:=Qf b0.1;obtain⟨css,hnm,hcl,hnd,hall⟩:=names_ok W3 (n:=2+m) (by omega);have hnm':bX [.lst ((vs.drop 3).map D.int),.int (2+(m:Int))]=.ok (.lst ((css.map S).map D.str)):=by
  have:fG css=(css.map S).map D.str:=by unfold fG;rw[P7];rfl
  rw[←this];exact hnm
 have hzl:(css.map S).length=2+m:=by rw[OH,hcl]
 have nd:(css.map S).Nodup:=by
  rw[P4,Rk];exact Tn (λh z=>h (D0 z)) (P4.mp hnd)
 have nm:dk (css.map S):=⟨nd,λz hz=>by
  obtain⟨cs,hc,rfl⟩:=Pp.mp hz;exact(hall cs hc).nameB⟩
 generalize css.map S=zs at *;have hcut:jv (vs.map D.int) (some 3) none=(vs.drop 3).map D.int:=by
  rw[iM,HT.sIx_none,show(3:Int)=((3:Nat):Int) from rfl,HT.sIx_nat,hvl];rw[Q3 (by rw[Qn];omega)];rfl
 have hn0:((zs.length:Int)==0)=false:=beq_eq_false_iff_ne.mpr (by omega);have hn1:((zs.length:Int)-1==0)=false:=beq_eq_false_iff_ne.mpr (by omega);have f1:=eN (a:=d1) (b:=(zs.length:Int)) (by omega);have f2:=eN (a:=d2) (b:=(zs.length:Int)-1) (by omega);obtain⟨hr,hne⟩:=rQ (n:=(zs.length:Int)) (d:=d1.fmod (zs.length:Int)) (e:=d2.fmod ((zs.length:Int)-1)) (by omega) f1.1 f1.2 f2.1 f2.2;obtain⟨f,hf⟩:=Qf f1.1;obtain⟨l,hl⟩:=Qf hr.1;have hfn:f<zs.length:=by omega
 have hln:l<zs.length:=by omega
 have hfl:f≠l:=by omega
 have hixf:aK (.lst (zs.map D.str)) (.int (f:Int))=.ok (.str zs[f]):=gh (by rw[OM,OI hfn];rfl);have hixl:aK (.lst (zs.map D.str)) (.int (l:Int))=.ok (.str zs[l]):=gh (by rw[OM,OI hln];rfl);obtain⟨c1,c2,hcells,hc1,hc2⟩:=cells_ok hn;obtain⟨w2,w8⟩:=Bh nd hfn hln hfl;have hwl:(tV zs f l).length+2=(nj zs f l).length:=by unfold nj;simp
 have a1:bI (.lst [.str zs[f]]) (.lst ((tV zs f l).map D.str))=.ok (.lst (.str zs[f]::(tV zs f l).map D.str)):=by
  rw[jO (decide_eq_true (by rw[OH];simp;omega))];rfl
 have a2:bI (.lst (.str zs[f]::(tV zs f l).map D.str)) (.lst [.str zs[l]])=.ok (.lst ((nj zs f l).map D.str)):=by
  rw[jO (decide_eq_true (by simp;omega))];unfold nj;rw[OY,PF,OI hfn,OI hln];rfl
 have hh:=yT (ns:=ns) (by omega) (ρ:=[.sh (.lst (ns.map D.int)),.no,.no,.no,.no,.no,.no,.no]) rfl;obtain⟨ts,hts,htl,htall⟩:=zM (ws:=nj zs f l) (cs:=c1) w2 (by omega) (xY nd hfn hln hfl) hc1 (x0:=.sh (.lst (ns.map D.int))) (x1:=.sh (.lst (vs.map D.int))) (x2:=.sh (.lst (zs.map D.str))) (x3:=.sh (.int (f:Int))) (x4:=.sh (.int (l:Int))) (x5:=.sh (.lst ((tV zs f l).map D.str))) (x7:=.no);refine⟨⟨zs,ts,zs[f],zs[l]⟩,c1,c2,hcells,hc2,htl,?_,⟨by show 2<=zs.length;omega,by show zs.length<=7;omega,nm,by show ts.length<=14;omega,λt ht=>?_,P9 hfn,P9 hln,λz=>hfl ((Q0 nd).mp z)⟩⟩
 .rw[cN,qh,xo]
  show((ar _ _) [.sh (.lst (ns.map D.int)),.no,.no,.no,.no,.no,.no,.no]).bind BE=_;rw[xm,xj,Dl,kS,hh,Dd,pA,kS,Ia];open_line with[hd,hcut,i0,hnm',i1,i2,OH,hn0,hn1,i7,hf]
  rw[hf]at hl;open_line with[hl,jN,y0,vp,AW (show zs.length<=8 by omega),hixf,hixl,a1,a2,hcells,hts]
  rfl
 .have T:=htall t ht
  exact⟨n8 hfn hln _ T.a,n8 hfn hln _ T.b,T.ne,T.w,T.l,T.l0,T.o⟩
def web_drawn{ns:List Int}(hn:ns.length<=63):∃w,cN [.lst (ns.map D.int)]=.ok (aN w)/\eV w:=by
 obtain⟨w,_,_,_,_,_,h1,h2⟩:=zH hn;exact⟨w,h1,h2⟩
end Cod
namespace DL
open PySem PySem.Spec PyProof.Rows L2
section
variable {prog:O5}{w:Pt}{A:Pu}{E:OB->OE->Prop}{h:OL}{g:Array GenState}{d:Drawn}{t:Nat}{os:OsState}
variable {nm q:OO}{C N:OG}{bs bm bmB:List OB}{hdct:Bool}{sn:bv}{sub:List OB}{ab:Bool}{col:Option Bool}{dd:Option OG}{k0 k1 k2 k3 k5:Option OB}{B newId initId:String}{mN:OO->Option OB}{rest:List OB}{fI:OG}{oI:Obj}
def Ek{Q:Fin->OE->Prop}(F:ExcBaseFacts B newId initId bmB)(T:OwnTail h bmB bm)(hC:h.get? C=some (excClassObj nm q C N bs bm hdct sn sub ab col dd k0 k1 k2 k3 k5 newId))(hn:h.Ns N mN)(hi:mN "__init__"=some (.ref fI))(hfI:h.get? fI=some oI)(hfc:oI.cls=.type "function")(hrest:rest.length<=sizeLine)
  (hq:∀h' e,R0 h h' e (.ref C) rest->OS (OW prog w) A (call (.ref fI) (.ref e::rest)) (λr s'=>r=.none/\Q (.done (.ret (.ref e))) s') E ⟨h',g,d,t,os⟩):OS (OW prog w) A (Builtin.«type.__call__» ⟨.ref C::rest,[]⟩) Q E ⟨h,g,d,t,os⟩:=by
 repeat (first|with_reducible refine Qr hC ?_|with_reducible refine wpAny_madeBy_exc hC ?_|wp_step)
 refine codeAny_call_builtin_code (RL _ F.quiet) (wpAny_check_new_subT F T hC (codeAny_exc_new_subT F T hC ?_ hrest));generalize hT0:({ cls:=.type "tuple",data:=.seq rest.toArray }:Obj)=o0;generalize hX0:({ cls:=.ref C,data:=.fields #[.ref h.objs.size,.none,.none,.none,.bool false,.none] }:Obj)=o1;have kp:∀b o,h.get? b=some o->((h.push o0).push o1).get? b=some o:=λb o hb=>OD o1 (OD o0 hb);have hget:((h.push o0).push o1).get? (h.objs.size+1)=some o1:=by subst hX0 hT0;heap_get
 have hc1:o1.cls=.ref C:=by subst hX0;rfl
 have hcC:(Ph C::bm).contains (.ref C)=true:=by simp
 show OS _ _ _ _ _ _;unfold isInstance
 repeat (first|(with_reducible refine Qr hget ?_;try rw[hc1])|(with_reducible refine wpAny_isSubtype_exc (kp _ _ hC) ?_;rw[hcC])|wp_step)
 show OS _ _ (RI (.ref C) _) _ _ _;refine wpAny_typeLookup_tail (kp _ _ hC) (hn.keeps kp) (T.keeps kp) F.mroIs F.init.lookup ?_;rw[hi];refine PY (OC (show OS _ _ (bindSpecial _ _) _ _ _ from ?_));unfold bindSpecial;refine OC (wpAny_typeOf (T:="function") ⟨_,kp _ _ hfI,hfc⟩ ?_);rw[if_pos (by decide)];refine ON (OC (PH (hq _ (h.objs.size+1) ⟨kp,Sa (UU _),h.objs.size,by rw[hX0];exact hget,Sa (O0 _),?_⟩) (λr s' hr=>?_) λ_ _ x=>x))
 .subst hT0;exact OD _ (Heap.get?_push_at rfl rfl)
 .obtain⟨rfl,hQ⟩:=hr
  wp_walk
  exact hQ
def En{Q:OB->OE->Prop}(F:ExcBaseFacts B newId initId bmB)(T:OwnTail h bmB bm)(hC:h.get? C=some (excClassObj nm q C N bs bm hdct sn sub ab col dd k0 k1 k2 k3 k5 newId))(hn:h.Ns N mN)(hi:mN "__init__"=some (.ref fI))(hfI:h.get? fI=some oI)(hfc:oI.cls=.type "function")(hrest:rest.length<=sizeLine)
  (hq:∀h' e,R0 h h' e (.ref C) rest->OS (OW prog w) (A.under (.builtin "type.__call__" ⟨.ref C::rest,[]⟩)) (call (.ref fI) (.ref e::rest)) (λr s'=>r=.none/\Q (.ref e) s') E ⟨h',g,d,t,os⟩):OS (OW prog w) A (call (.ref C) rest) Q E ⟨h,g,d,t,os⟩:=by
 have f1:=tc_lookup;have f2:=tc_bind (.ref C);have hT:(⟨h,g,d,t,os⟩:OE).TypeIs (.ref C) "type":=⟨_,hC,rfl⟩
 refine wpAny_call (codeAny_of_tree (show OS _ _ (callAny (.ref C) _) _ _ _ from ?_))
 repeat (any_goals (first|assumption|with_reducible refine Qr hC ?_|wp_step))
 exact⟨rfl,codeAny_call_builtin_at (RL _ (by decide +kernel)) entry_typeCall (wpAny_check_type_call_sub hC (Ek F T hC hn hi hfI hfc hrest λh' e hm=>hq h' e hm))⟩
end
section
variable {M:Model}{A:Pu}{E:OB->OE->Prop}{env:PQ}
variable {nm q:OO}{C N:OG}{bs bm:List OB}{hdct:Bool}{sn:bv}{sub:List OB}{ab:Bool}{col:Option Bool}{dd:Option OG}{k0 k1 k2 k3 k5:Option OB}{newId:String}
def Bc{s:OE}{x:Sem OB}{Q:Flow->OE->Prop}(hbase:bm.contains (.type "BaseException")=true)(hh:A.handled=none)
  (h:OS M A x (λv sg=>∃e dc t,v=.ref e/\sg.heap.get? C=some (excClassObj nm q C N bs bm hdct sn sub ab col dd k0 k1 k2 k3 k5 newId)/\sg.heap.get? e=some ⟨.ref C,dc,.fields #[.ref t,.none,.none,.none,.bool false,.none],#[]⟩/\E (.ref e) sg) E s):OS M A (raiseStmt env (some x) none) Q E s:=by
 have hcB:(Ph C::bm).contains (.type "BaseException")=true:=by rw[S4,hbase,UH]
 unfold raiseStmt;refine OC (PH h (λv sg ⟨e,dc,t,hv,hC,he,hE⟩=>?_) λ_ _ x=>x);subst hv;obtain⟨hp,g,d,tk,os⟩:=sg
 repeat (first|with_reducible refine Qr he ?_|with_reducible refine Qr hC ?_|(with_reducible refine wpAny_isSubtype_exc hC ?_;rw[hcB])|wp_step)
 exact wpAny_raiseNew_none hh hE
end
def i8:List OB->Bool
 |.ref _::r=>i8 r
 |l=>l==[.type "ValueError",.type "Exception",.type "BaseException",.type "object"]
theorem qT(self:OB):∀{l:List OB},i8 l=true->refuseLoop self "__setattr__" l=pure ()
 |[],e=>by cases e
 |x::r,e=>by
  cases x with|ref c=>rw[refuseLoop_ref];exact qT self (l:=r) (by unfold i8 at e;exact e)| _=>unfold i8 at e;rw[beq_iff_eq.mp e];exact PySem.F.store_ValueError.passes self
theorem Bi:∀{l:List OB},i8 l=true->l.contains (.type "object")=true
 |[],e=>by cases e
 |x::r,e=>by
  cases x with|ref c=>rw[S4,Bi (l:=r) (by unfold i8 at e;exact e),UH]| _=>unfold i8 at e;rw[beq_iff_eq.mp e];decide
structure DV (K:OF) (C:OG) (ks:bv):Prop where
 sa:Rn K (.ref C) "__setattr__"=some (some (.builtin "object.__setattr__"))
 hd:TJ K C=true
 mr:(W.clsIn K C).any (λcd=>i8 cd.mro)=true
 no:∀f∈ks,mq K C f
section
variable {prog:O5}{w:Pt}{A:Pu}{K:OF}{C x:OG}{s:OE}{R:Tv->OE->Prop}
def xX{ox:Obj}{od:Option Obj}{name:OO}{tk:Tok}{v:OB}{ks:bv}(X:K.In s.heap)(I:UQ s.heap x ox C od)(c:DV K C ks)(hf:name∈ks)
  (h:∀b,OS (OW prog w) A.in1 (Builtin.ObjectAttr.storeInOwnDict (.ref x) (.ref C) (.str name tk) name v b) (λfin s'=>match fin with|.done f=>R (.ok f) s'|.again c'=>c'.quiet=true/\Rt (OW prog w) A c' R s') (λe s'=>R (.error e) s') s) :
  Rt (OW prog w) A (.call (.builtin "object.__setattr__") ⟨[.ref x,.str name tk,v],[]⟩) R s:=by
 have SF:=PySem.F.store_object;obtain⟨cd,hc,ho⟩:=W.any_some c.mr;have ne:cd.mro.isEmpty=false:=by cases q:cd.mro with|nil=>rw[q]at ho;cases ho|cons _ _=>rfl
 have sub:SR (OW prog w) s.heap (isInstance (.ref x) (.type "object")) true:=I.type.andThen (W.looks_mroIn X (by unfold W.mroIn;rw[hc,Option.bind_some,if_neg (by rw[ne];decide),Bi ho]));refine codeAny_call_builtin SF.slot.plain SF.entry (@W.check_slot (OW prog w) _ _ s "object.__setattr__" "object" "__setattr__" (.ref x) [.str name tk,v] [] _ SF.kind SF.split sub (SF.args (.ref x) (.str name tk) v) ?_);have hm:SR (OW prog w) s.heap (mroOf (.ref C)) cd.mro:=(Uh X hc).andThen .now;rw[W.osa_eq,refuse_eq];refine OC (OC (I.type.here (OC (hm.here ?_))));rw[qT _ ho];refine ON ?_;have L3:SR (OW prog w) s.heap (Builtin.ObjectAttr.storeTaker? none) none:=.now;have L2:SR (OW prog w) s.heap (RI (.ref C) name) none:=W.looks_findIn X (c.no name hf);refine OC (I.type.here (OC (L2.here (OC (L3.here ?_)))));exact h _
def Em{E:OB->OE->Prop}{Q:Unit->OE->Prop}{name:OO}{v:OB}{ks:bv}{fs:Array OB}(X:K.In s.heap)(hx:s.heap.get? x=some ⟨.ref C,none,.fields fs,#[]⟩)(c:DV K C ks)(hf:name∈ks)
  (h:∀h',h'.get? x=some ⟨.ref C,some s.heap.objs.size,.fields fs,#[]⟩->h'.Ns1 s.heap.objs.size (λy=>if y=name then some v else none)->(∀b o,b≠x->s.heap.get? b=some o->h'.get? b=some o)->Q () { s with heap:=h',toks:=s.toks+2 }) :
  OS (OW prog w) A (setAttr (.ref x) name v) Q E s:=by
 have J:UQ s.heap x ⟨.ref C,none,.fields fs,#[]⟩ C none:=⟨hx,rfl,rfl,trivial⟩
 refine W.set_plain X J c.sa (xX (s:={ s with toks:=s.toks+1 }) X J c hf λb=>?_);obtain⟨cd,hc,hd'⟩:=W.any_some c.hd;refine OC (ON (OC (OC (wpAny_loadPart hx (OC (SR.here (s:={ s with toks:=s.toks+1 }) (Uh X hc) ?_))))));rw[hd'];have hx₁:(s.heap.push SM).get? x=some ⟨.ref C,none,.fields fs,#[]⟩:=OD _ hx;have hxs:x≠s.heap.objs.size:=Pj (OT hx);have hgd:((s.heap.push SM).update x λo=>{ o with dict:=some s.heap.objs.size }).get? s.heap.objs.size=some SM:=(U5 _ _ _ _ hxs.symm).trans (Heap.get?_push_at rfl rfl);have hnd:((s.heap.push SM).update x λo=>{ o with dict:=some s.heap.objs.size }).Ns s.heap.objs.size (λ_=>none):=⟨_,#[],_,hgd,rfl,λe he=>absurd he (by simp),λ_=>rfl⟩
 have hx2:((s.heap.push SM).update x λo=>{ o with dict:=some s.heap.objs.size }).get? x=some ⟨.ref C,some s.heap.objs.size,.fields fs,#[]⟩:=Qb _ hx₁ rfl;refine OC (wpAny_alloc' (OC (wpAny_update' hx₁ (ON ?_))));refine OC (ON (OC (wpAny_nsSet1 (Heap.Ns1.of_empty hnd) λh' hn' hs=>?_)));obtain⟨oD,esD,epD,hoD,hdD,hcD⟩:=hn'.count (Ru.cons name v Ru.nil);refine OC (wpAny_lookBehind hoD (by rw[hdD];exact pastItsLine_dict (Pe hcD (by rw[Pw,Q8,sizeLine_eq];omega))) (ON (h h' ?_ hn' λb o hb e=>?_)))
 .exact(hs.2 x hxs).trans hx2
 .exact(hs.2 b (Pj (OT e))).trans ((U5 _ _ _ _ hb).trans (OD _ e))
def El{E:OB->OE->Prop}{Q:Unit->OE->Prop}{name:OO}{v:OB}{ks ns:bv}{fs:Array OB}{dx:OG}{mA:OO->Option OB}(X:K.In s.heap)(hx:s.heap.get? x=some ⟨.ref C,some dx,.fields fs,#[]⟩)(hn:s.heap.Ns1 dx mA)(hne:dx≠x)(hw:Ru mA ns)(hsz:ns.length<=sizeLine)(c:DV K C ks)(hf:name∈ks)
  (h:∀h',h'.Ns1 dx (λy=>if y=name then some v else mA y)->QI dx s.heap h'->Q () { s with heap:=h',toks:=s.toks+2 }):OS (OW prog w) A (setAttr (.ref x) name v) Q E s:=by
 obtain⟨od,hod,hl⟩:=rg hn;have J:UQ s.heap x ⟨.ref C,some dx,.fields fs,#[]⟩ C (some od):=⟨hx,rfl,rfl,hod⟩
 refine W.set_plain X J c.sa (xX (s:={ s with toks:=s.toks+1 }) X J c hf λb=>?_);obtain⟨cd,hc,hd'⟩:=W.any_some c.hd;refine OC (ON (OC (OC (wpAny_loadPart hx (OC (SR.here (s:={ s with toks:=s.toks+1 }) (Uh X hc) ?_))))));rw[hd'];refine ON (a:=some dx) (OC (ON (OC (wpAny_nsSet1 (s:={ s with toks:=s.toks+1 }) hn λh' hn2 hs2=>?_))));obtain⟨oD,esD,epD,hoD,hdD,hcD⟩:=hn2.count (Ru.cons name v hw);exact OC (wpAny_lookBehind hoD (by rw[hdD];exact pastItsLine_dict (Pe hcD (by rw[Pw];omega))) (ON (h _ hn2 hs2)))
end
def qo(a C:OG)(dc:Option OG)(h:OL):Prop:=∃t,h.get? a=some ⟨.ref C,dc,.fields #[.ref t,.none,.none,.none,.bool false,.none],#[]⟩
def wa(a:OG)(fs:List (OO×V))(h:OL):Prop:=∃mA,h.Ns1 a mA/\(∀f,mn (fs.lookup f) (mA f))/\Ru mA (fs.map (·.1))
def ph{a C:OG}{dc:Option OG}:∀h1 h2:OL,qo a C dc h1->(∀o,h1.get? a=some o->h2.get? a=some o)->qo a C dc h2:=λ_ _ ⟨t,e⟩ k=>⟨t,k _ e⟩
def uo{a:OG}{fs:List (OO×V)}:∀h1 h2:OL,wa a fs h1->(∀o,h1.get? a=some o->h2.get? a=some o)->wa a fs h2:=λ_ _ ⟨m,n,r⟩ k=>⟨m,n.at k,r⟩
def lN{a:OG}{fs:List (OO×V)}{h:OL}(x:wa a fs h):∃o,h.get? a=some o:=let ⟨_,⟨o,_,_,e,_⟩,_⟩:=x;⟨o,e⟩
def nD{a:OG}{fs:List (OO×V)}{h:OL}{mA:OO->Option OB}{f:OO}{y:V}{u:OB}(ry:bA y u)(r:∀f,mn (fs.lookup f) (mA f))(wi:Ru mA (fs.map (·.1)))(n:h.Ns1 a (λz=>if z=f then some u else mA z)):wa a (iY f y fs) h:=by
 refine⟨_,n,λg=>?_,λg hg=>?_⟩
 .rw[mK]
  by_cases q:g=f
  .rw[if_pos q];simp only[if_pos q];exact ry
  .rw[if_neg q];simp only[if_neg q];exact r g
 .by_cases q:g=f
  .rw[q];exact(lZ f y fs).1
  .exact(lZ f y fs).2 g (wi g λz=>hg (by simp only[if_neg q];exact z))
section
variable {X:Cx}{o value:Pd}{f:OO}{pos pos':Pos}{ta tv:TE}
noncomputable def Oh(K:OF) (ta tv:TE) (f:OO):TS:=λD σ H=>tv σ H λy H1=>ta σ H1 λx H2=>∃a C dx l ks,x=.ref a/\H2 a=some (.ext (qo a C (some dx)))/\H2 dx=some (.ext (wa dx l))/\dx≠a/\DV K C ks/\f∈ks/\l.length<1000/\D.nx σ (upd H2 dx (.ext (wa dx (iY f y l))))
def Oi(K:OF)(ta tv:TE)(f:OO):TS:=λD σ H=>tv σ H λy H1=>ta σ H1 λx H2=>∃a C ks,x=.ref a/\H2 a=some (.ext (qo a C none))/\DV K C ks/\f∈ks/\∀dx,H2 dx=none->D.nx σ (upd (upd H2 a (.ext (qo a C (some dx)))) dx (.ext (wa dx [(f,y)])))
def Lg(ha:PE X o ta)(hv:PE X value tv)(hs:P1 value (some (.Attribute o f pos')) pos.line X.env=pure false):PS X (.Assign [.Attribute o f pos'] value pos) (Oh X.K ta tv f):=by
 intro π s σ H D I h;refine plainObj_wpAny_Assign_Attribute (cM (hv π s σ H _ I h) λu s1 ⟨y,H1,I1,ry,q⟩=>cM (ha π s1 σ H1 _ I1 q) λov s2 z9=>?_) hs;obtain⟨x,H2,I2,rx,a,C,dx,l,ks,ex,ea,ed,hne,c,hf,hl,q2⟩:=z9;subst ex;obtain rfl:ov=Ph a:=rx;obtain⟨⟨t,hx⟩,_,_⟩:=(show bB X.prog X.w H2 s2.heap a (.ext _) from I2.hok a _ ea)
 obtain⟨⟨mA,n,r,wi⟩,_,_⟩:=(show bB X.prog X.w H2 s2.heap dx (.ext _) from I2.hok dx _ ed)
 refine El I2.kIn hx n hne wi (by rw[OH,sizeLine_eq];omega) c hf λh' n' sb=>⟨σ,_,I2.write (o:=.ext (wa dx (iY f y l))) (x:=dx) (e:=dx) (by rw[ed];exact Qa) (.inl rfl) (λb q hb z=>(sb.2 b hb).trans z) (lN (nD ry r wi n')) ⟨nD ry r wi n',lN (nD ry r wi n'),uo⟩,q2⟩
def Lh(ha:PE X o ta)(hv:PE X value tv)(hs:P1 value (some (.Attribute o f pos')) pos.line X.env=pure false):PS X (.Assign [.Attribute o f pos'] value pos) (Oi X.K ta tv f):=by
 intro π s σ H D I h;refine plainObj_wpAny_Assign_Attribute (cM (hv π s σ H _ I h) λu s1 ⟨y,H1,I1,ry,q⟩=>cM (ha π s1 σ H1 _ I1 q) λov s2 z9=>?_) hs;obtain⟨x,H2,I2,rx,a,C,ks,ex,ea,c,hf,q2⟩:=z9;subst ex;obtain rfl:ov=Ph a:=rx;obtain⟨⟨t,hx⟩,_,_⟩:=(show bB X.prog X.w H2 s2.heap a (.ext _) from I2.hok a _ ea)
 have fr:H2 s2.heap.objs.size=none:=I2.hok.fresh (O0 _);have hne:s2.heap.objs.size≠a:=λz=>RC _ (z▸OT hx);refine Em I2.kIn hx c hf λh' e' n' k'=>⟨σ,_,?_,q2 s2.heap.objs.size fr⟩
 have p:wa s2.heap.objs.size [(f,y)] h':=nD (fs:=[]) (mA:=λ_=>none) ry (λ_=>Qa) (λ_ z=>absurd rfl z) n';have mu:Kk (H2 a):=by rw[ea];exact Qa
 have fr':(upd H2 a (.ext (qo a C (some s2.heap.objs.size)))) s2.heap.objs.size=none:=by rw[aE hne];exact fr
 exact I2.un (Un.ext (Un.write mu (.inl rfl) (λb q hb z=>k' b q hb z) ⟨_,e'⟩) fr' (Sa (O0 _))) (fv.ext (I2.hok.write (o':=.ext (qo a C (some s2.heap.objs.size))) mu (.inl rfl) (λb q hb z=>k' b q hb z) ⟨_,e'⟩ ⟨⟨t,e'⟩,⟨_,e'⟩,ph⟩) fr' p (lN p) uo)
end
def KC(is:cr):TA:=λσ H Q=>∃vs,is.map (λi=>σ[i]?)=vs.map (λv=>some (some v))/\Q vs H
structure PV (X:Cx) (es:List Pd) (is:cr):Prop where
 o:PA X es (KC is)
section
variable {X:Cx}
def Iw:PV X [] []:=⟨λpos π s σ H Q I ⟨vs,e,h⟩=>by
 cases vs with
 |nil=>exact eF pos π s σ H Q I h
 |cons v vs=>simp at e⟩
def sG{es:List Pd}{is:cr}{i:Nat}{y:OO}{p:Pos}(hN:X.N[i]?=some y)(hv:zy X.env.scope y)(h:PV X es is)(hd:(y==("__debug__" : OO))=false:=by decide)(hcd:(y==("__classdict__" : OO))=false:=by decide):PV X (.Name y p::es) (i::is) :=
 ⟨λpos π s σ H Q I ⟨vs,e,q⟩=>by
  cases vs with
  |nil=>simp at e
  |cons v vs=>
   simp only[OY,TU]at e;exact cw (fE hN hv hd hcd) h.o (aM rfl) pos π s σ H Q I ⟨v,e.1,vs,e.2,q⟩⟩
structure DY (K:OF) (CE:OG):Prop where
 rd:W.readsIn K CE (.type "type")=true
 fc:W.findCls K (.ref CE) (.type "type") "__init__"=some (.val (.builtin "ValueError.__init__"))
 sp:TF K (.ref CE) "__getattribute__"=some (some (.builtin "type.__getattribute__"))
structure HA (K:OF) (C fn:OG):Prop where
 ex:∃CE nm q N bs hdct sn sub ab col dd k0 k1 k2 k3 k5,K.lookup C=some (excClassObj nm q C N bs [.ref CE,.type "ValueError",.type "Exception",.type "BaseException",.type "object"] hdct sn sub ab col dd k0 k1 k2 k3 k5 "ValueError.__new__")/\W.nsOkIn K N=true/\Qg K N "__init__"=some (some (.ref fn)) /\
  Ta K CE [.type "ValueError",.type "Exception",.type "BaseException",.type "object"] "ValueError.__new__"=true
def Fp{K:OF}{h:OL}{N:OG}{mg:OO->Option OB}{n:OO}{v:OB}(X:K.In h)(G:h.Ns N mg)(e:Qg K N n=some (some v)):mg n=some v:=by
 obtain⟨o,es,ep,ho,hd,_,hf⟩:=G;unfold Qg at e;split at e
 .rename_i c d es' n' sl q
  have:=X _ _ q;rw[ho]at this;cases this;cases hd;split at e
  .rename_i en he
   rw[←hf];unfold nsFind findBy;rw[←Array.find?_toList,he];simpa using e
  .split at e<;>cases e
 .cases e
structure NG (h:OL) (C fn:OG):Prop where
 ex:∃bm N nm q bs hdct sn sub ab col dd k0 k1 k2 k3 k5 mN,h.get? C=some (excClassObj nm q C N bs bm hdct sn sub ab col dd k0 k1 k2 k3 k5 "ValueError.__new__")/\h.Ns N mN/\mN "__init__"=some (.ref fn)/\OwnTail h [.type "ValueError",.type "Exception",.type "BaseException",.type "object"] bm
def Bs{K:OF}{CE:OG}{h:OL}(X:K.In h)(q:Ta K CE [.type "ValueError",.type "Exception",.type "BaseException",.type "object"] "ValueError.__new__"=true):OwnTail h [.type "ValueError",.type "Exception",.type "BaseException",.type "object"] [.ref CE,.type "ValueError",.type "Exception",.type "BaseException",.type "object"]:=by
 unfold Ta at q;split at q
 .rename_i dd cd sl ho
  split at q
  .simp only[O4,beq_iff_eq,Tq]at q
   obtain⟨⟨⟨⟨_,_⟩,_⟩,hok⟩,hni⟩:=q;exact .own (X _ _ ho) (.of_isNs (S9 X hok)) (W.nsMap_none_of_in X hok hni) .base
  .cases q
 .cases q
def xW{K:OF}{C fn:OG}{h:OL}(X:K.In h)(q:HA K C fn):NG h C fn:=by
 obtain⟨CE,nm,qn,N,bs,hdct,sn,sub,ab,col,dd,k0,k1,k2,k3,k5,ho,hok,hi,he⟩:=q.ex;exact⟨_,N,nm,qn,bs,hdct,sn,sub,ab,col,dd,k0,k1,k2,k3,k5,_,X _ _ ho,.of_isNs (S9 X hok),Fp X (.of_isNs (S9 X hok)) hi,Bs X he⟩
def Og(K:OF)(t:TA):TE:=λσ H Q=>t σ H λvs H1=>∃a C rest fn,vs=.ref a::rest/\rest.length<=line/\H1 a=some (.ext (qo a C none))/\HA K C fn/\Q .non (upd H1 a (.ext (qo a C none)))
def Lj{ce:OO}{CE:OG}{np apos cpos:Pos}{e:Pd}{es:List Pd}{t:TA}{pl:Sem Bool}(b:DY X.K CE)(hg:Gl X ce)(hm:X.mg ce=some (.ref CE))(ha:PA X (e::es) t)(hdb:(ce==("__debug__" : OO))=false:=by decide)
  (he:OJ (e::es) X.env=(false,eval e X.env)::OJ es X.env:=by exact aM rfl)(hpl:(PN cpos (OJ es X.env)).any (·.1)=false:=by exact bw rfl)
  (ht:eval (.Call (.Attribute (.Name ce np) "__init__" apos) (e::es) [] cpos) X.env=(do
   let ov ←eval (.Name ce np) X.env
   standAt apos.atName
   let (f,first) ←TZ [ov] (getMethod ov "__init__" pl)
   UO cpos f first (PN cpos (OJ (e::es) X.env)) (Sx cpos (Rm [] X.env))):=by rfl) :
  PE X (.Call (.Attribute (.Name ce np) "__init__" apos) (e::es) [] cpos) (Og X.K t):=by
 intro π s σ H Q I h;refine W.methodCall_KW (pl:=pl) (gC I hg hm (W.method_cls I.kIn b.sp (W.cls_value I.kIn b.rd b.fc rfl ?_)) hdb) ht;have I0:=I.tok (s.toks+1);have hA:=ha cpos π _ σ H _ I0 h;rw[he]at hA ⊢;refine SH (by show(false||(PN cpos (OJ es X.env)).any (·.1))=false;rw[hpl];rfl) (Rq (cM hA λus s1 ⟨vs,H1,I1,r,a,C,rest,fn,ev,hl,ea,hx,q⟩=>?_));subst ev;obtain⟨_,us',rfl,ra,r'⟩:∃u us',us=u::us'/\bA (.ref a) u/\bq rest us':=by cases r with|cons r1 r2=>exact⟨_,_,rfl,r1,r2⟩
 obtain rfl:_=Ph a:=ra;obtain⟨bm,N,nm,qn,bs,hdct,sn,sub,ab,col,dd,k0,k1,k2,k3,k5,mN,hC,hn,hi,T⟩:=(xW I1.kIn hx).ex;obtain⟨⟨t0,hae⟩,_,_⟩:=(show bB X.prog X.w H1 s1.heap a (.ext _) from I1.hok a _ ea)
 have F:=Qh;have hz:us'.length<=sizeLine:=by rw[←r'.length];exact cV hl
 obtain⟨hp,g,d,tk,os⟩:=s1;refine wpAny_call (codeAny_call_builtin F.init.plain F.initEntry (wpAny_check_init_subT F T hC hae rfl ?_))
 wp_walk
 have mu:Kk (H1 a):=by rw[ea];exact Qa
 have hne:a≠hp.objs.size:=Pj (OT hae);refine⟨.non,upd H1 a (.ext (qo a C none)),I1.write (o:=.ext (qo a C none)) (x:=a) (e:=a) mu (.inl rfl) (λb u hb e=>(Qo _ _ (Px hb)).trans (OD _ e)) ⟨_,Qb _ (OD _ hae) rfl⟩ ⟨⟨hp.objs.size,?_⟩,⟨_,Qb _ (OD _ hae) rfl⟩,ph⟩,rfl,q⟩;rw[Qb _ (OD _ hae) rfl];rfl
end
section
variable {X:Cx}
noncomputable def N7(K:OF) (fs:bv) (is:cr):TS:=λD σ H=>∃a C dx l ks vs,σ[0]?=some (some (V.ref a))/\H a=some (.ext (qo a C (some dx)))/\H dx=some (.ext (wa dx l))/\dx≠a/\DV K C ks/\(∀f∈fs,f∈ks)/\l.length+fs.length<1000/\fs.length=vs.length /\
 is.map (λi=>σ[i]?)=vs.map (λv=>some (some v))/\D.nx σ (upd H dx (.ext (wa dx (putAll fs vs l))))
structure XR (X:Cx) (sts:List Qt) (fs:bv) (is:cr):Prop where
 o:ql X sts (N7 X.K fs is)
def HJ:XR X [] [] []:=⟨dP nH λD σ H ⟨a,C,dx,l,ks,vs,h1,h2,h3,h4,h5,h6,h7,h8,h9,q⟩=>by
 cases vs with
 |nil=>unfold putAll at q;rw[uv h3]at q;exact q
 |cons v vs=>simp at h8⟩
def Ej{sts:List Qt}{fs:bv}{is:cr}{f:OO}{i:Nat}{x y:OO}{p1 p2 p3 pos:Pos}(hN:X.N[i]?=some y)(hN0:X.N[0]?=some x)(hv:zy X.env.scope y)(hv0:zy X.env.scope x)(h:XR X sts fs is)
  (hd:(y==("__debug__" : OO))=false:=by decide)(hcd:(y==("__classdict__" : OO))=false:=by decide)(D8:(x==("__debug__" : OO))=false:=by decide)(hcd0:(x==("__classdict__" : OO))=false:=by decide)
  (hs:P1 (.Name y p3) (some (.Attribute (.Name x p1) f p2)) pos.line X.env=pure false:=by rfl):XR X (.Assign [.Attribute (.Name x p1) f p2] (.Name y p3) pos::sts) (f::fs) (i::is):=by
 refine⟨dP (dQ (Lg (fE hN0 hv0 D8 hcd0) (fE hN hv hd hcd) hs) h.o) λD σ H z9=>?_⟩;obtain⟨a,C,dx,l,ks,vs,h1,h2,h3,h4,h5,h6,h7,h8,h9,q⟩:=z9;cases vs with
 |nil=>simp at h8
 |cons v vs=>
  simp only[OY,TU]at h9;simp only[Pw]at h7 h8;refine⟨v,h9.1,.ref a,h1,a,C,dx,l,ks,rfl,h2,h3,h4,h5,h6 f Pc,by omega,a,C,dx,_,ks,vs,h1,?_,aG,h4,h5,λg hg=>h6 g (OZ _ hg),?_,by omega,h9.2,?_⟩
  .rw[aE h4.symm];exact h2
  .have:=uN (f:=f) (v:=v) (l:=l);omega
  .rw[lP];exact q
noncomputable def N8(K:OF) (ks:bv) (is:cr):TS:=λD σ H=>∃a C fn vs,σ[0]?=some (some (V.ref a))/\H a=some (.ext (qo a C none))/\DV K C ks/\HA K C fn/\ks.length=vs.length/\ks.length<=60 /\
 is.map (λi=>σ[i]?)=vs.map (λv=>some (some v))/\∀dx,H dx=none->D.nx σ (upd (upd H a (.ext (qo a C (some dx)))) dx (.ext (wa dx (putAll ks vs []))))
structure XB (X:Cx) (sts:List Qt) (ks:bv) (is:cr):Prop where
 o:ql X sts (N8 X.K ks is)
def Kv{sts:List Qt}{fs:bv}{is:cr}{f:OO}{i:Nat}{x y ce:OO}{CE:OG}{p1 p2 p3 pos np apos cpos spos sp0:Pos}{es:List Pd}{pl:Sem Bool}(b:DY X.K CE)(hg:Gl X ce)(hm:X.mg ce=some (.ref CE))(hpv:PV X es (i::is))(hN:X.N[i]?=some y)(hN0:X.N[0]?=some x)(hv:zy X.env.scope y)(hv0:zy X.env.scope x)(h:XR X sts fs is)
  (hd:(y==("__debug__" : OO))=false:=by decide)(hcd:(y==("__classdict__" : OO))=false:=by decide)(D8:(x==("__debug__" : OO))=false:=by decide)(hcd0:(x==("__classdict__" : OO))=false:=by decide)(hdb:(ce==("__debug__" : OO))=false:=by decide)
  (hs:P1 (.Name y p3) (some (.Attribute (.Name x p1) f p2)) pos.line X.env=pure false:=by rfl)(hs0:P1 (.Call (.Attribute (.Name ce np) "__init__" apos) (.Name x sp0::es) [] cpos) none spos.line X.env=pure false:=by rfl)(hpl:(PN cpos (OJ es X.env)).any (·.1)=false:=by exact bw rfl)
  (ht:eval (.Call (.Attribute (.Name ce np) "__init__" apos) (.Name x sp0::es) [] cpos) X.env=(do
   let ov ←eval (.Name ce np) X.env
   standAt apos.atName
   let (f,first) ←TZ [ov] (getMethod ov "__init__" pl)
   UO cpos f first (PN cpos (OJ (.Name x sp0::es) X.env)) (Sx cpos (Rm [] X.env))):=by rfl) :
  XB X (.Expr (.Call (.Attribute (.Name ce np) "__init__" apos) (.Name x sp0::es) [] cpos) spos::.Assign [.Attribute (.Name x p1) f p2] (.Name y p3) pos::sts) (f::fs) (i::is):=by
 refine⟨dP (dQ (jJ (Lj b hg hm (sG (p:=sp0) hN0 hv0 hpv D8 hcd0).o hdb (aM rfl) hpl ht) hs0) (dQ (Lh (fE hN0 hv0 D8 hcd0) (fE hN hv hd hcd) hs) h.o)) λD σ H ⟨a,C,fn,vs,h1,h2,h3,h4,h5,h6,h7,q⟩=>?_⟩;refine⟨.ref a::vs,(show σ[0]?::(i::is).map (λi=>σ[i]?)=some (some (V.ref a))::vs.map (λv=>some (some v)) by rw[h1,h7]),a,C,vs,fn,rfl,?_,h2,h4,?_⟩
 .have:vs.length<=60:=by omega
  exact Pe this (by decide)
 .cases vs with
  |nil=>simp at h5
  |cons v vs=>
   simp only[OY,TU]at h7;simp only[Pw]at h5 h6;rw[uv h2];refine⟨v,h7.1,.ref a,h1,a,C,f::fs,rfl,h2,h3,Pc,λdx hdx=>?_⟩;have hne:dx≠a:=λz=>by subst z;rw[h2]at hdx;cases hdx
   refine⟨a,C,dx,[(f,v)],f::fs,vs,h1,?_,aG,hne,h3,λg hg=>OZ _ hg,?_,by omega,h7.2,?_⟩
   .rw[aE hne.symm,aG]
   .simp only[Pw,Q8];omega
   .rw[lP]
    have:=q dx hdx;unfold putAll at this;exact this
end
noncomputable def EI(K:OF) (ks:bv):Sp:=λvs H Q _=>∃a C fn args,vs=.ref a::args/\args.length=ks.length/\H a=some (.ext (qo a C none))/\DV K C ks/\HA K C fn/\∀dx,H dx=none->Q .non (upd (upd H a (.ext (qo a C (some dx)))) dx (.ext (wa dx (putAll ks args []))))
def LU{P:O5}{w:Pt}{K:OF}{mg:OO->Option OB}{base:OL}{x qual:OO}{st:Qt}{f:OG}{fd:Pz}{ps:bv}{ks:bv}(F:D1 K x qual st f fd)(S:fw ps ps (defScope st))(hps:ps.length=ks.length+1)(hf:ks.length<=60)
  (hbody:∀(cdv:OB) (A:Pu) (outer:List PQ) (s0:OE) (H:Hp) (E:XK),XB (bV CX0 P w K mg base ps qual (defScope st) f cdv A outer s0 H E).nox (defBody st) ks ((PL ks.length).map (· + 1))):FnOk P w K mg base CX0 1 f fd ps (EI K ks):=by
 refine F.ok S (λvs H Q E h=>?_) λcdv A outer s0 H vs Q E hr h=>?_
 .obtain⟨a,C,fn,args,rfl,hl,_⟩:=h
  simp[hl,hps]
 .obtain⟨a,C,fn,args,rfl,hl,hH,hC,hn,q⟩:=h
  refine⟨_,(hbody cdv A outer s0 H E).o,a,C,fn,args,?_,hH,hC,hn,hl.symm,hf,?_,q⟩
  .unfold L2.start;simp
  .unfold L2.start
   apply RY;intro i;simp only[OM,P7]
   by_cases hi:i<ks.length
   .have hia:i<args.length:=by omega
    simp[hi,hia,O8,Qe]
   .have hia:¬i<args.length:=by omega
    simp[hi,hia]
section
variable {prog:O5}{w:Pt}{A:Pu}{E:OB->OE->Prop}{s:OE}{env:PQ}
variable {nm q:OO}{C N:OG}{bs bm bmB:List OB}{hdct:Bool}{sn:bv}{sub:List OB}{ab:Bool}{col:Option Bool}{dd:Option OG}{k0 k1 k2 k3 k5:Option OB}{B newId initId:String}{mN:OO->Option OB}{fI:OG}{oI:Obj}
def Be(F:ExcBaseFacts B newId initId bmB){x:OO}{np cpos pos:Pos}{args:List Pd}{Q:Flow->OE->Prop}(hbase:bm.contains (.type "BaseException")=true)(hh:A.handled=none)(hplain:(PN cpos (OJ args env)).any (·.1)=false)(hi:mN "__init__"=some (.ref fI))
  (h:OS (OW prog w) A (eval (.Name x np) env) (λf sg=>f=.ref C/\OS (OW prog w) A (evalArgs (.ref C) true (PN cpos (OJ args env)) []) (λa si=>a.kw=[]/\a.pos.length<=sizeLine/\si.heap.get? C=some (excClassObj nm q C N bs bm hdct sn sub ab col dd k0 k1 k2 k3 k5 newId)/\si.heap.Ns N mN/\OwnTail si.heap bmB bm/\si.heap.get? fI=some oI/\oI.cls=.type "function" /\
    ∀h' e,R0 si.heap h' e (.ref C) a.pos->OS (OW prog w) (A.under (.builtin "type.__call__" ⟨.ref C::a.pos,[]⟩)) (call (.ref fI) (.ref e::a.pos)) (λr s'=>r=.none/\s'.heap.get? C=some (excClassObj nm q C N bs bm hdct sn sub ab col dd k0 k1 k2 k3 k5 newId)/\(∃dc t,s'.heap.get? e=some ⟨.ref C,dc,.fields #[.ref t,.none,.none,.none,.bool false,.none],#[]⟩)/\E (.ref e) s') E { si with heap:=h' }) E sg) E s) :
  OS (OW prog w) A (exec (.Raise (some (.Call (.Name x np) args [] cpos)) none pos) env) Q E s:=by
 rw[arm_exec_Raise];refine OC (wpAny_standAt (Bc (C:=C) (nm:=nm) (q:=q) (N:=N) (bs:=bs) (bm:=bm) (hdct:=hdct) (sn:=sn) (sub:=sub) (ab:=ab) (col:=col) (dd:=dd) (k0:=k0) (k1:=k1) (k2:=k2) (k3:=k3) (k5:=k5) (newId:=newId) hbase hh (OC (PH (wpAny_Call_ofName (PH h (λf sg h₁=>?_) λ_ _ x=>x)) (λv sj hW=>OC (wpAny_standAt (ON hW))) λ_ _ x=>x))));obtain⟨rfl,h₁⟩:=h₁;unfold UO;refine OC (PY (PH h₁ (λ⟨apos,akw⟩ si ⟨hkw,hlen,hC,hn,T,hf,hfc,hV⟩=>OC (wpAny_standAt ?_)) λ_ _ x=>x));obtain rfl:akw=[]:=hkw;obtain⟨hp,g,d,tk,os⟩:=si;simp only[hplain];refine OC (wpAny_keeperOf_exc hC (OC (En F T hC hn hi hf hfc hlen λh' e hm=>PH (hV h' e hm) (λr s' hr=>?_) λ_ _ z=>z)));obtain⟨rfl,hC',⟨dc,t,he⟩,hE⟩:=hr;exact⟨rfl,OC (PY (wpAny_point (ON ⟨e,dc,t,rfl,hC',he,hE⟩)))⟩
end
structure zw (K:OF) (x:OO) (C:OG):Prop where
 i:nB K x C
 cls:Rn K (.ref C) "__class__"=some (some (.builtin "object.__class__"))
 ga:Rn K (.ref C) "__getattribute__"=some (some (.builtin "BaseException.__getattribute__"))
 gt:Rn K (.ref C) "__getattr__"=some none
 t1:R6 K (.ref C) (.type "NoneType")=some false
 t2:R6 K (.ref C) (.type "bool")=some false
 t3:R6 K (.ref C) (.type "int")=some false
 t4:R6 K (.ref C) (.type "str")=some false
 t5:R6 K (.ref C) (.type "tuple")=some false
 t6:R6 K (.ref C) (.type "list")=some false
 t7:R6 K (.ref C) (.type "dict")=some false
 ve:R6 K (.ref C) (.type "ValueError")=some true
 self:R6 K (.ref C) (.ref C)=some true
def zw.xc{K:OF}{x:OO}{C:OG}(Z:zw K x C):XC K x C :=
 ⟨Z.i.ns,⟨Z.cls,Z.ga,Z.gt,Z.i.ob,Z.i.be⟩,λT hT=>by
  refine CH (mO T hT) ?_;simp only[fM,OU,PR,or_false]at hT;rcases hT with rfl|rfl|rfl|rfl|rfl|rfl|rfl
  all_goals first|exact Z.t1|exact Z.t2|exact Z.t3|exact Z.t4|exact Z.t5|exact Z.t6|exact Z.t7⟩
def HI{K:OF}{C fn:OG}{ks:bv}(z:HA K C fn)(sa:Rn K (.ref C) "__setattr__"=some (some (.builtin "object.__setattr__")))(hd:TJ K C=true)(no:∀f∈ks,mq K C f):DV K C ks:=by
 obtain⟨CE,nm,qn,N,bs,hdct,sn,sub,ab,col,dd,k0,k1,k2,k3,k5,ho,_⟩:=z.ex;refine⟨sa,hd,?_,no⟩;unfold W.clsIn;rw[ho];rfl
section
variable {P:O5}{w:Pt}{K:OF}{mg:OO->Option OB}{base:OL}{N:bv}{qual:OO}{scope:RA}{f:OG}{cd:OB}{A:Pu}{outer:List PQ}{s0:OE}{H0:Hp}{E:XK}{He η:Hp}
def CU{H:Hp}{h:OL}{e dx:OG}{o1 o2:HO}(ok:fv P w (upd (upd H e o1) dx o2) h)(he:H e=none)(hd:H dx=none)(n1:∀b,o1≠.own b)(n2:∀b,o2≠.own b)(m1:∀b,o1≠.tup b)(m2:∀b,o2≠.tup b):fv P w H h:=λa o q=>by
 have a1:a≠e:=λz=>by subst z;rw[he]at q;cases q
 have a2:a≠dx:=λz=>by subst z;rw[hd]at q;cases q
 refine(ok a o (by rw[aE a2,aE a1];exact q)).stay (λb u _ z=>z) (λb z=>?_) λb xs z=>?_
 .by_cases b2:b=dx
  .subst b2;rw[aG]at z;exact absurd (PK z) (n2 _)
  .rw[aE b2]at z
   by_cases b1:b=e
   .subst b1;rw[aG]at z;exact absurd (PK z) (n1 _)
   .rw[aE b1]at z;exact z
 .by_cases b2:b=dx
  .subst b2;rw[aG]at z;exact absurd (PK z) (m2 _)
  .rw[aE b2]at z
   by_cases b1:b=e
   .subst b1;rw[aG]at z;exact absurd (PK z) (m1 _)
   .rw[aE b1]at z;exact z
def AZ{fs:List OG}{H H2:Hp}{h h2:OL}(u:Un fs [] H H2 h h2):Un fs [] H H h h2:=⟨u.keep,u.slot,λ_ _ _ n _=>n,u.there,λ_ _ q=>q,λ_ _ _ q=>q,λ_ ps q=>⟨#[],by rw[q];simp⟩⟩
end
def Hq(e:TC):Bool:=match e.key with
 |.str _ _=>true
 |_=>false
def Bb{K:OF}{C CE fn N:OG}{nm q:OO}{bs sub:List OB}{hdct ab:Bool}{sn:bv}{col:Option Bool}{dd dn:Option OG}{k0 k1 k2 k3 k5:Option OB}{cn:OB}{es:Array TC}{ep:Nat}{st:Array (Option OB)}
  (xl:K.lookup C=some (excClassObj nm q C N bs [.ref CE,.type "ValueError",.type "Exception",.type "BaseException",.type "object"] hdct sn sub ab col dd k0 k1 k2 k3 k5 "ValueError.__new__"))(xn:K.lookup N=some ⟨cn,dn,.dict es ep,st⟩)(xk:es.toList.all Hq=true)(xv:Qg K N "__init__"=some (some (.ref fn)))
  (xb:Ta K CE [.type "ValueError",.type "Exception",.type "BaseException",.type "object"] "ValueError.__new__"=true):HA K C fn:=by
 refine⟨CE,nm,q,N,bs,hdct,sn,sub,ab,col,dd,k0,k1,k2,k3,k5,xl,?_,xv,xb⟩;unfold W.nsOkIn;rw[xn];rw[Array.all_toList]at xk;exact xk
theorem pd{α β:Type}{f g:α->Option β}:∀{l:List α},(∀x∈l,f x=g x)->l.filterMap f=l.filterMap g
 |[],_=>rfl
 |a::l,h=>by
  rw[Qq,Qq,h a Pc,pd λx hx=>h x (OZ _ hx)]
def uO(its:List OB):slicePick its.toArray none none (some (-1))=its.reverse.toArray:=by
 have h1:(sliceBounds none none (some (-1)) its.toArray.size)=((its.length:Int)-1,-1,-1):=by
  unfold sliceBounds;simp
 unfold slicePick;rw[h1]
 congr 1
 unfold sliceRange;simp only[show ¬((-1:Int) > 0) by decide,if_false];have hc:((if(its.length:Int)-1 > -1 then((its.length:Int)-1 - -1 - -1-1) / (- -1) else 0)).toNat=its.length:=by
  rw[show(- -1:Int)=1 from rfl,UC];split<;>omega
 rw[hc];rw[RK];have hall:∀k∈PL its.length,((λx=>its.toArray[x]?)∘λ(k:Nat)=>((its.length:Int)-1 + -1*(k:Int)).toNat) k=its.reverse[k]?:=λk hk=>by
  have hk:=QJ.mp hk;show its.toArray[((its.length:Int)-1 + -1*(k:Int)).toNat]?=_;rw[List.getElem?_reverse hk,show((its.length:Int)-1 + -1*(k:Int)).toNat=its.length-1-k by omega];simp
 rw[pd hall];have hr:(PL its.length).filterMap (λk=>its.reverse[k]?)=its.reverse:=by
  have hh:=QY (as:=its);generalize its.reverse=r at hh ⊢;rw[←hh];clear hh hall hc h1
  induction r with
  |nil=>rfl
  |cons a r ih=>
   rw[Pw,RX,Qq];simp only[Qw,RK]
   congr 1
 exact hr
def GI(x:D):aj D:=match x with
 |.lst ds=>.ok (.lst ds.reverse)
 |_=>.stuck
theorem Reps.rev{K:OF}{H:Hp}:∀{ds:ac}{vs:ad},Reps K H ds vs->Reps K H ds.reverse vs.reverse
 |[],vs,h=>by rw[Reps.nil_iff.mp h];exact Reps.nil
 |d::ds,vs,h=>by
  obtain⟨v,r,rfl,h1,h2⟩:=aC.mp h;rw[Sm,Sm];exact(Reps.rev h2).app (Reps.cons h1 Reps.nil)
theorem bq.rev:∀{vs:ad}{us:List OB},bq vs us->bq vs.reverse us.reverse
 |_,_,.nil=>.nil
 |_,_,.cons h t=>by rw[Sm,Sm];exact(bq.rev t).append (.cons h .nil)
section
variable {X:Cx}{E:XK}{e a st:Pd}{f:al}{te:TE}{pos p2:Pos}
def MY(K:OF)(te:TE):TE:=λσ H Q=>te σ H λx H1=>∃a xs,x=.ref a/\df K H1 a xs/\∀p,H1 p=none->Q (.ref p) (upd H1 p (.lst xs.reverse))
def IJ(he:PE X e te)(hst:∀(π:List (OG×Obj)) (s:OE) (σ:L2.St) (H:Hp) (Q:VK),Inv X π σ H s->Q (.int (-1)) H->OS (OW X.prog X.w) X.A (eval st X.env) (EP X π σ Q) X.xe s):PE X (.Subscript e (.Slice none none (some st) p2) pos) (MY X.K te):=by
 intro π s σ H Q I h;refine Subscript_ (cM (he π s σ H _ I h) λv s1 ⟨x,H1,I1,r1,a,xs,ex,hx,q⟩=>?_);subst ex;cases r1;refine wpAny_Slice (wpAny_evalPart_none (wpAny_evalPart_none ?_));show OS _ _ (eval st X.env) _ _ _;refine cM (hst π s1 σ H1 (λv H2=>v=.int (-1)/\H2=H1) I1 ⟨rfl,rfl⟩) λvs s3 ⟨u,H3,I3,pu,eu,eh⟩=>?_;subst eu eh;obtain⟨t,rfl⟩:=pu;have I4:Inv X π σ H3 { s3 with heap:=s3.heap.push { cls:=.type "slice",data:=.fields #[.none,.none,.int (-1) t] } }:=I3.kept (t':=s3.toks) λb ob q=>OD _ q;obtain⟨its,r,ht,hz⟩:=I4.list hx;have hg:OS (OW X.prog X.w) X.A (getItem (.ref a) (.ref s3.heap.objs.size)) (EP X π σ Q) X.xe { s3 with heap:=s3.heap.push { cls:=.type "slice",data:=.fields #[.none,.none,.int (-1) t] } }:=by
  refine wpAny_getItem_list_slice ht.isList (S7 ..) .none .none (.int (-1) t) (by simp) ?_ (by rw[O3,←r.length];exact hz);rw[uO];refine⟨.ref _,_,I4.laid (t':=s3.toks) (o:=.lst xs.reverse) (λb ob q=>OD _ q) (O0 _) ?_,rfl,q _ (I4.hok.fresh (O0 _))⟩;exact⟨by rw[QY];exact hz,_,0,bq.rev r,Pf _ rfl⟩
 exact tail_any (ops:=[.ref a,.ref s3.heap.objs.size]) ht.isList.typeIs slot_list_getitem.lookup hg (by with_unfolding_all rfl)
def J5{p3 p4:Pos}{k:Nat}(ha:DE X E a f):DE X E (.Subscript a (.Slice none none (some (.UnaryOp .USub (.Constant (.int 1) k p3) p4)) p2) pos) (bh f GI):=by
 refine⟨aX (IJ ha.o λπ s σ H Q I q=>Hk (pos:=p4) Bj (sJ (i:=1) (j:=k) (pos:=p3)) π s σ H Q I ⟨1,rfl,q⟩) λσ H Q z9=>?_⟩;obtain⟨Ha,ρ,hs,hr,q⟩:=z9;refine⟨Ha,ρ,hs,hr,?_⟩;unfold bh at q;cases e1:f ρ with
 |stuck|exn x=>rw[e1]at q;exact q
 |ok d=>
  rw[e1]at q;intro v H1 H01 g1 r1;cases d with
  |lst ds=>
   obtain⟨p,vs,rfl,h1,h2⟩:=aA.mp r1;exact⟨p,vs,rfl,aF.sqL g1.sub h1,λn hn=>q _ _ _ (g1.trans (aL g1.sub hn)) (aA.mpr ⟨n,_,rfl,df.of aG,(Reps.rev h2).mono (aL g1.sub hn).z⟩)⟩
  |_=>exact q.elim
end
section
variable {X:Cx}{E:XK}{a b o:Pd}{f g fo:al}{pos:Pos}
def zj:D->D->aj D:=sX (λ_ _=>true) λi j=>.int (Sj i j)
def GD(ha:DE X E a f)(hb:DE X E b g):DE X E (.BinOp a .BitAnd b pos) (aa f g zj):=mT IV (eI λ_ _ _ _=>ri _) ha hb
end
def fQ(x:OO)(ks:bv)(fa:Ev->aj (ac)):am:=λρ=>(fa (gu ρ)).bind λds=>if ds.length=ks.length then .exn ⟨x,ks.zip ds⟩ else .stuck
theorem uc{K:OF}{H:Hp}:∀{ks:bv}{ds:ac}{vs:ad}{n:OO}{d:D},Reps K H ds vs->(ks.zip ds).lookup n=some d->∃v,(ks.zip vs).lookup n=some v/\Rep K H d v
 |[],ds,vs,n,d,r,h=>by rw[List.zip_nil_left]at h;cases h
 |k::ks,[],vs,n,d,r,h=>by rw[List.zip_nil_right]at h;cases h
 |k::ks,e::ds,vs,n,d,r,h=>by
  obtain⟨v,vs',rfl,r1,r2⟩:=aC.mp r;rw[Qu,R5]at h;rw[Qu];cases q:n==k with
  |true=>rw[q]at h;cases h;exact⟨v,by rw[R5,q],r1⟩
  |false=>
   rw[q]at h;obtain⟨u,h1,h2⟩:=uc r2 h;exact⟨u,by rw[R5,q];exact h1,h2⟩
def fv.xd{P:O5}{w:Pt}{H:Hp}{g:OL}(ok:fv P w H g){a:OG}{fs:List (OO×V)}(hn:H a=none)(p:wa a fs g):fv P w (upd H a (.xd fs)) g:=λb u e=>by
 by_cases hb:b=a
 .subst hb;rw[aG]at e;cases e;obtain⟨m,n,r,_⟩:=p;exact⟨m,n,r⟩
 .rw[aE hb]at e
  exact(ok b u e).stay (λc v _ q=>q) (λc q=>by rw[aE (aR q hn)];exact q) λc xs q=>by rw[aE (aR q hn)];exact q
section
variable {P:O5}{w:Pt}{K:OF}{mg:OO->Option OB}{base:OL}{N:bv}{qual:OO}{scope:RA}{f:OG}{cd:OB}{A:Pu}{outer:List PQ}{s0:OE}{H0:Hp}{E:XK}{He η:Hp}
def eZ{x:OO}{C fn:OG}{np cpos pos:Pos}{e:Pd}{es:List Pd}{fa:Ev->aj (ac)}{k:Nat}{fd:Pz}{ps ks:bv}(xc:XC K x C)(z:HA K C fn)(st:DV K C ks)(hfn:W.isFn K (.ref fn)=true)(F:FnOk P w K mg base CX0 k fn fd ps (EI K ks))(hb:iX K fd ps [])(hks:ks.length<=60)(hnd:ks.Nodup)(hr:c5 (k+1) (bV (dN P w) P w K mg base N qual scope f cd A outer s0 H0 E).A)(hm:mg x=some (.ref C))(hh:A.handled=none)
  (hg:Gl (bV (dN P w) P w K mg base N qual scope f cd A outer s0 H0 E) x)(ha:DA (bV (dN P w) P w K mg base N qual scope f cd A outer s0 H0 E) E (e::es) fa)
  (hdb:(x==("__debug__" : OO))=false:=by decide)(he:OJ (e::es) (bV (dN P w) P w K mg base N qual scope f cd A outer s0 H0 E).env=(false,eval e (bV (dN P w) P w K mg base N qual scope f cd A outer s0 H0 E).env)::OJ es (bV (dN P w) P w K mg base N qual scope f cd A outer s0 H0 E).env:=by exact aM rfl)
  (hpl:(PN cpos (OJ es (bV (dN P w) P w K mg base N qual scope f cd A outer s0 H0 E).env)).any (·.1)=false:=by exact bw rfl) :
  DS (bV (dN P w) P w K mg base N qual scope f cd A outer s0 H0 E) E He η (.Raise (some (.Call (.Name x np) (e::es) [] cpos)) none pos) (fQ x ks fa):=by
 refine⟨?_⟩;intro π s σ H D I ⟨Ha,ρ,hr',q⟩;obtain⟨bm,Nn,nm,qn,bs,hdct,sn,sub,ab,col,dd,k0,k1,k2,k3,k5,mN,hC,hN,hi,T⟩:=(xW I.ok.mod.kin z).ex;obtain⟨oI,hoI,hoc⟩:∃oI,base.get? fn=some oI/\oI.cls=.type "function":=by
  have:=beq_iff_eq.mp hfn;obtain⟨o,ho,hc⟩:=Ux.mp this;exact⟨o,I.ok.mod.kin _ _ ho,hc⟩
 refine Be (C:=C) (nm:=nm) (q:=qn) (N:=Nn) (bs:=bs) (bm:=bm) (hdct:=hdct) (sn:=sn) (sub:=sub) (ab:=ab) (col:=col) (dd:=dd) (k0:=k0) (k1:=k1) (k2:=k2) (k3:=k3) (k5:=k5)
  Qh (mN:=mN) (oI:=oI) (T.hasType Qh.hasBase) hh (by rw[he];show(false||(PN cpos (OJ es (bV (dN P w) P w K mg base N qual scope f cd A outer s0 H0 E).env)).any (·.1))=false;rw[hpl];rfl) hi (gC I hg hm ⟨rfl,?_⟩ hdb)
 have hq:oG K E H (frz He Ha H) (fa (gu ρ)) (λvs H1=>vs.length=ks.length/\∀dx,H1 dx=none->E (.ref C) (some dx) (upd H1 dx (.xd (ks.zip vs)))):=by
  unfold fQ at q;cases e1:fa (gu ρ) with
  |stuck=>rw[e1]at q;exact q|exn z=>rw[e1]at q;exact λC ox H' Ha' g ex=>q C ox H' Ha' (hr'.frz_grow.trans g) ex
  |ok ds=>
   rw[e1]at q;intro vs H1 H01 g rp;have q:bM K E He η Ha (if ds.length=ks.length then aj.exn ⟨x,ks.zip ds⟩ else .stuck) D:=q
   by_cases hl:ds.length=ks.length
   .rw[if_pos hl]at q
    refine⟨by rw[←rp.length];exact hl,λdx hdx=>?_⟩;have ga:=aL (o:=.xd (ks.zip vs)) g.sub hdx;refine q (.ref C) (some dx) _ _ (hr'.frz_grow.trans (g.trans ga)) ⟨⟨C,rfl,xc⟩,ks.zip vs,aG,λn d hn=>?_⟩;obtain⟨v,k1,k2⟩:=uc rp hn;exact⟨v,k1,k2.mono ga.z⟩
   .rw[if_neg hl]at q;exact q.elim
 have h1:=ha.o cpos π s σ H _ I ⟨frz He Ha H,gu ρ,hr'.frz_le,hr'.looks,hq⟩;rw[he]at h1 ⊢;refine Rq (PH h1 (λus s2 h2=>?_) λ_ _ y=>y);obtain⟨vs,H1,I1,rv,hl,hE⟩:=h2;have hz:us.length<=sizeLine:=by rw[←rv.length,hl,sizeLine_eq];omega
 refine⟨rfl,hz,I1.bk _ _ hC,hN.keeps I1.bk,T.keeps I1.bk,I1.bk _ _ hoI,hoc,λh' ee hx=>?_⟩;have hn:H1 ee=none:=by
  cases q:H1 ee with|none=>rfl|some o=>obtain⟨u,hu⟩:=bB.there (I1.hok ee o q);rw[hx.new]at hu;cases hu
 obtain⟨t,ht,_,_⟩:=hx.there;have hxn:qo ee C none h':=⟨t,ht⟩
 have un1:Un (fH (bV (dN P w) P w K mg base N qual scope f cd A outer s0 H0 E).stack) [] H1 (upd H1 ee (.ext (qo ee C none))) s2.heap h':=Un.ext (Un.kept hx.keeps) hn hx.new;have I2:Inv (bV (dN P w) P w K mg base N qual scope f cd A outer s0 H0 E) π σ (upd H1 ee (.ext (qo ee C none))) { s2 with heap:=h' } :=
  I1.call' (ch:=[]) rfl un1 (fv.ext (I1.hok.kept hx.keeps) hn hxn ⟨_,ht⟩ ph) I1.bare (λ_ z=>nomatch z)
 have rv2:bq (V.ref ee::vs) (Ph ee::us):=.cons rfl rv;have hsp:EI K ks (V.ref ee::vs) (upd H1 ee (.ext (qo ee C none))) (λv H2=>v=.non/\∃dx,H1 dx=none/\dx≠ee/\H2=upd (upd (upd H1 ee (.ext (qo ee C none))) ee (.ext (qo ee C (some dx)))) dx (.ext (wa dx (putAll ks vs [])))) E :=
  ⟨ee,C,fn,vs,rfl,hl,aG,st,z,λdx hdx=>by
   have c:dx≠ee:=λc=>by rw[c,aG]at hdx;cases hdx
   rw[aE c]at hdx;exact⟨rfl,dx,hdx,c,rfl⟩⟩
 have hl2:(Ph ee::us).length=ps.length:=by rw[←rv2.length];exact F.len _ _ _ _ hsp
 have hbb:=hb { s2 with heap:=h' } (Ph ee::us) I2.kIn (by simpa using hl2);rw[QM]at hbb;refine wpAny_call (codeAny_mono (F.run _ _ { s2 with heap:=h' } _ ⟨Ph ee::us,[]⟩ (Ph ee::us) _ _ E (hr.make C us []) (I2.env0.make C us []) hbb rv2 hsp) λr s3 hq3=>?_);cases r with
 |error e=>exact Qi hq3
 |ok fl=>
  cases fl with
  |next|brk|cont=>exact Qi hq3
  |ret u=>
   obtain⟨v,H2,os3,bare3,un3,hok3,rel3,rfl,dx,hdx,hdne,rfl⟩:=hq3;obtain rfl:u=PZ:=rel3;rw[lP]at hok3 un3;have un4:=AZ (un1.trans un3);have hok4:fv P w H1 s3.heap:=CU hok3 hn hdx (λ_ z=>by cases z) (λ_ z=>by cases z) (λ_ z=>by cases z) (λ_ z=>by cases z);obtain⟨⟨t3,ht3⟩,_,_⟩:=(show bB P w _ s3.heap ee (.ext (qo ee C (some dx))) from hok3 ee _ (by rw[aE hdne.symm,aG]))
   have I3:=I1.call' (ch:=[]) os3 un4 hok4 bare3 (λ_ z=>nomatch z);refine⟨rfl,I3.bk _ _ hC,⟨_,t3,ht3⟩,?_⟩;have hin:=tq (l:=envOfC qual scope s0.heap.objs.size f cd::outer);have hfr:s3.heap.FunFrames (Rb s3.heap (ee::fH (envOfC qual scope s0.heap.objs.size f cd::outer))) (envOfC qual scope s0.heap.objs.size f cd::outer):=Tu I3.stack λenv he a hf=>OZ _ (hin env he a hf);have hst:(Rb s3.heap (ee::fH (envOfC qual scope s0.heap.objs.size f cd::outer))).StaysIn s3.heap:=λb o q=>RT _ q;have hen:(Rb s3.heap (ee::fH (envOfC qual scope s0.heap.objs.size f cd::outer))).get? ee=none:=W.hideAll_none _ (.head _);obtain⟨pX,_,_⟩:=(show bB P w _ s3.heap dx (.ext (wa dx (putAll ks vs []))) from hok3 dx _ aG)
   rw[oF hnd (λ_ _ z=>by simp at z) hl.symm,SJ]at pX;have hok5:=fv.xd hok4 hdx pX;have dfresh:s2.heap.get? dx=none:=by
    cases qd:s2.heap.get? dx with
    |none=>rfl
    |some o=>
     have:=un3.free dx o (hx.keeps dx o qd) (by rw[aE hdne];exact hdx) (by simp);rw[aG]at this;cases this
   have un5:=Un.ext (o:=.xd (ks.zip vs)) un4 hdx dfresh;refine pf (a0:=.ref t3) I3.ok.frames hfr rfl ht3 hst hen rfl rfl rfl (λ_=>rfl) λh4 fl4 up4 dc4=>?_;refine yY rfl I1 (s1:=s3) (H1:=upd H1 dx (.xd (ks.zip vs))) os3 bare3 un5 hok5 (by rw[aE hdne.symm];exact hn) hst hfr (λb hb hy=>?_) fl4 up4 ⟨some dx,⟨some dx,dc4,.inr rfl⟩,hE dx hdx⟩;have hbe:b≠ee:=λc=>by
    subst c;rcases hy with hy|⟨o,hy⟩
    .exact hy (by rw[aE hdne.symm];exact hn)
    .rw[hx.new]at hy;cases hy
   have hth:∃o,s3.heap.get? b=some o:=by
    rcases hy with hy|⟨o,hy⟩
    .cases q:(upd H1 dx (.xd (ks.zip vs))) b with
     |none=>exact absurd q hy
     |some o=>exact bB.there (hok5 b o q)
    .exact un4.there b o hy (by simp)
   obtain⟨o,q⟩:=hth;exact⟨o,SU _ q (List.not_mem_cons_of_ne_of_not_mem hbe hb)⟩
end
def N0{α:Type}{us:List α}(h:us.length=1):∃a,us=[a]:=List.length_eq_one_iff.mp h
def NZ{α:Type}{us:List α}(h:us.length=2):∃a b,us=[a,b]:=by
 cases us with|nil=>cases h|cons a us=>obtain⟨b,rfl⟩:=N0 (Nat.succ.inj h);exact⟨a,b,rfl⟩
def NY{α:Type}{us:List α}(h:us.length=3):∃a b c,us=[a,b,c]:=by
 cases us with|nil=>cases h|cons a us=>obtain⟨b,c,rfl⟩:=NZ (Nat.succ.inj h);exact⟨a,b,c,rfl⟩
end DL
namespace DL
open PySem PySem.Spec PyProof.Rows
def j6:entryFor table "dict.update.loop"=some Builtin.«dict.update.loop»:=entryFor_of_tree (by kernel_rfl)
end DL
namespace DL
open PySem PySem.Spec PyProof.Rows L2
structure FT (K:OF) (mg:OO->Option OB) (x:OO) (st:Qt) (ps:bv) (a:OG) (d:Pz):Prop where
 F:D1 K x x st a d
 b:iX K d ps []
 g:mg x=some (.ref a)
noncomputable def QA(K:OF) (x:OO) (st:Qt) (a:OG):Prop:=Qg K O6 x=some (some (.ref a))/\Sh K (.ref a)=true/\∃oc kV dc pm cd ct od an sl,K.lookup a=some ⟨oc,od,.func (RJ x x (defArgs st) (defBody st) (defScope st) .none kV dc pm an cd ct),sl⟩/\T5 K cd x=true
def LQ{K:OF}{h:OL}{mg:OO->Option OB}{x:OO}{st:Qt}{ps:bv}{a:OG}(X:K.In h)(G:h.Ns O6 mg)(q:QA K x st a)
  (hb:∀(kV doc pm:OB) (an:Option OG) (cdv ct:OB) (us:List OB),us.length=ps.length->bindArgs (RJ x x (defArgs st) (defBody st) (defScope st) .none kV doc pm an cdv ct) ⟨us,[]⟩=pure (ps.zip us)) :
  ∃d,FT K mg x st ps a d/\∃kV doc pm an cdv ct,d=RJ x x (defArgs st) (defBody st) (defScope st) .none kV doc pm an cdv ct:=by
 obtain⟨e1,e4,oc,kV,dc,pm,cd,ct,od,an,sl,e2,e3⟩:=q;exact⟨_,⟨tm e2 e3 e4,(tm (st:=st) e2 e3 e4).binds hb,QV X G e1⟩,_,_,_,_,_,_,rfl⟩
section
variable {X:Cx}{E:XK}{e:Pd}{es:List Pd}{fa:Ev->aj (ac)}{f g h i j:al}{pos:Pos}{CX:qp}{k n:Nat}{fn:OG}{fd:Pz}{ps:bv}{m:ac->aj D}{x:OO}{p:Pos}{st:Qt}
def MI(ρ:Ev)(ds:ac)(h:ag f aB ρ=.ok ds):ds.length=1:=mj (λ_ h=>DU h) h
def MH(ρ:Ev)(ds:ac)(q:ag f (ag g aB) ρ=.ok ds):ds.length=2:=mj (MI ρ) q
def ND(ρ:Ev)(ds:ac)(q:ag f (ag g (ag h aB)) ρ=.ok ds):ds.length=3:=mj (MH ρ) q
end
def lV(fa:Ev->aj (ac))(m:ac->aj D):am:=λρ=>match fa ρ with
 |.ok ds=>(m ds).bind λ_=>.ok (.nx ρ)
 |_=>.stuck
section
variable {X:Cx}{e:Pd}{es:List Pd}{fa:Ev->aj (ac)}{pos:Pos}{k n:Nat}{fn:OG}{fd:Pz}{ps:bv}{m:ac->aj D}{x:OO}{p:Pos}{st:Qt}
def EA{cpos:Pos}(F:FnOk X.prog X.w X.K X.mg X.base (dN X.prog X.w) k fn fd ps (spD X.K n m))(hr:c5 k X.A)(hg:Gl X x)(hm:X.mg x=some (.ref fn))
  (hk:Sh X.K (.ref fn)=true)(hb:iX X.K fd ps [])(ha:DA X.nox E0 (e::es) fa)(hn:(e::es).length=n:=by rfl)(hl:∀ρ ds,fa ρ=.ok ds->ds.length=(e::es).length)
  (hdb:(x==("__debug__" : OO))=false:=by decide)(he:OJ (e::es) X.env=(false,eval e X.env)::OJ es X.env:=by exact aM rfl)(hpl:(PN cpos (OJ es X.env)).any (·.1)=false:=by exact bw rfl)
  (hs:P1 (.Call (.Name x p) (e::es) [] cpos) none pos.line X.env=pure false:=by rfl):TB X (.Expr (.Call (.Name x p) (e::es) [] cpos) pos) (lV fa m):=by
 refine⟨λπ s σ H He η Ha ρ D XE I h q hx=>?_⟩;refine wpAny_Expr_any (cM (GQ (Q:=λv H1=>D.nx σ H1) F hr hg hm hk hb ha.o I ?_ hx hdb he hpl) λv s1 ⟨y,H1,I1,r1,q1⟩=>⟨σ,H1,I1,q1⟩) I.quiet hs;refine⟨Ha,ρ,h.g.sub,h.rd,?_⟩;unfold lV at q ⊢;cases e1:fa ρ with
 |stuck=>rw[e1]at q;exact q|exn x=>rw[e1]at q;exact q.elim
 |ok ds=>
  rw[e1]at q;intro vs H1 H01 g1 r1;refine⟨?_,H01,ds,g1.sub,r1,?_⟩
  .have:=r1.length
   have:=hl ρ ds e1;omega
  .show post _ _ _ _ (m ds) _
   cases e2:m ds with
   |stuck=>simp only[e2]at q;exact q
   |exn x=>exact λC ox H' Ha' g ex=>⟨x,Ha',by simp only[e2];rfl,g1.z.trans g.z,h.grow (g1.trans g),ex⟩
   |ok d=>
    simp only[e2]at q;exact λv H' Ha' g rp=>q _ H' Ha' (g1.z.trans g.z) (h.grow (g1.trans g))
end
def tU:bv->ac->OO->Option D
 |k::ks,d::ds,x=>if k=x then some d else tU ks ds x
 |_,_,_=>none
def cc(x y:D):aj D:=match x,y with
 |.dic ks ds,.str k=>match tU ks ds k with
  |some d=>.ok d
  |none=>.stuck
 |_,_=>.stuck
def xH(x y:D):aj D:=match x,y with
 |.str k,.dic ks ds=>.ok (.bl (tU ks ds k).isSome)
 |_,_=>.stuck
def k8(x y:D):aj D:=match x,y with
 |.str k,.dic ks ds=>.ok (.bl (!(tU ks ds k).isSome))
 |_,_=>.stuck
theorem tR{K:OF}{H:Hp}{k:OO}:∀{ks:bv}{ds:ac}{vs:ad},ks.length=vs.length->Reps K H ds vs ->
  (∀d,tU ks ds k=some d->∃v,nk ((ks.map Pn).zip vs) (Pn k:Key)=some v/\Rep K H d v)/\(tU ks ds k=none->nk ((ks.map Pn).zip vs) (Pn k:Key)=none)
 |[],ds,vs,hl,r=>by
  exact⟨λd e=>(nomatch e),λ_=>rfl⟩
 |x::ks,ds,vs,hl,r=>by
  cases vs with
  |nil=>cases hl
  |cons v vs=>
   cases ds with
   |nil=>have:=Reps.nil_iff.mp r;cases this
   |cons d ds=>
    obtain⟨v',vr,e0,h1,h2⟩:=aC.mp r;cases e0;obtain⟨i1,i2⟩:=tR (k:=k) (ks:=ks) (ds:=ds) (vs:=vs) (by simpa using hl) h2;rw[OY,Qu]
    by_cases hx:x=k
    .subst hx
     refine⟨λd' e=>?_,λe=>?_⟩
     .rw[tU,if_pos rfl]at e;cases e
      exact⟨v,kA rfl,h1⟩
     .rw[tU,if_pos rfl]at e;cases e
    .have hne:¬(Pn x:Key)=Pn k:=λz=>hx (TK z)
     refine⟨λd' e=>?_,λe=>?_⟩
     .rw[tU,if_neg hx]at e
      rw[jb hne];exact i1 d' e
     .rw[tU,if_neg hx]at e
      rw[jb hne];exact i2 e
section
variable {X:Cx}{E:XK}{a b:Pd}{f g:al}{pos:Pos}
abbrev Lc:R2:=λx y H Q=>∃p v,x=.ref p/\tZ H p y (some v)/\Q v H
abbrev La:R2:=λy x H Q=>∃p o,x=.ref p/\tZ H p y o/\Q (.bl o.isSome) H
abbrev yn:R2:=λy x H Q=>∃p o,x=.ref p/\tZ H p y o/\Q (.bl (!o.isSome)) H
def Fo:ub X.K E Lc cc:=by
 intro x y v u H Ha Q hs r1 r2 q;unfold cc at q;cases x with
 |dic ks ds=>
  cases y with
  |str k=>
   rw[Rep]at r1;obtain⟨p,kvs,vs,rfl,h1,rfl,hl,h4⟩:=r1;rw[Rep.str_iff.mp r2];cases e:tU ks ds k with
   |none=>simp only[e]at q;exact q.elim
   |some d=>
    simp only[e]at q;obtain⟨v,hv,rv⟩:=(tR hl h4).1 d e;exact⟨p,v,rfl,.inl ⟨_,.inr k,aF.rd hs h1,rfl,hv.symm⟩,bG hs q rv⟩
  |_=>exact q.elim
 |_=>exact q.elim
def yR{k:OO}{ks:bv}{ds:ac}{v u:V}{H Ha:Hp}{K:OF}(hs:aF Ha H)(r1:Rep K Ha (.str k) v)(r2:Rep K Ha (.dic ks ds) u):∃p o,u=.ref p/\tZ H p v o/\o.isSome=(tU ks ds k).isSome:=by
 rw[Rep]at r2;obtain⟨p,kvs,vs,rfl,h1,rfl,hl,h4⟩:=r2;rw[Rep.str_iff.mp r1];refine⟨p,_,rfl,.inl ⟨_,.inr k,aF.rd hs h1,rfl,rfl⟩,?_⟩;cases e:tU ks ds k with|none=>rw[(tR hl h4).2 e];rfl|some d=>obtain⟨v,hv,_⟩:=(tR hl h4).1 d e;rw[hv];rfl
def Cm:ub X.K E La xH:=by
 intro x y v u H Ha Q hs r1 r2 q;unfold xH at q;cases x with
 |str k=>
  cases y with
  |dic ks ds=>
   obtain⟨p,o,e1,e2,e3⟩:=yR hs r1 r2;exact⟨p,o,e1,e2,by rw[e3];exact bG hs q (rb _)⟩
  |_=>exact q.elim
 |_=>exact q.elim
def Ai:ub X.K E yn k8:=by
 intro x y v u H Ha Q hs r1 r2 q;unfold k8 at q;cases x with
 |str k=>
  cases y with
  |dic ks ds=>
   obtain⟨p,o,e1,e2,e3⟩:=yR hs r1 r2;exact⟨p,o,e1,e2,by rw[e3];exact bG hs q (rb _)⟩
  |_=>exact q.elim
 |_=>exact q.elim
def Ci(hu:X.A.units+1<QU):fN X (PX .In) La:=by
 intro π s σ H x y v u Q I rx ry h;obtain⟨p,o,rfl,g,q⟩:=h;cases ry;exact NC hu I g rx λs' I'=>⟨.bl o.isSome,H,I',rfl,q⟩
def Ae(hu:X.A.units+1<QU):fN X (PX .NotIn) yn:=by
 intro π s σ H x y v u Q I rx ry h;obtain⟨p,o,rfl,g,q⟩:=h;cases ry;exact GF hu I g rx λs' I'=>⟨.bl (!o.isSome),H,I',rfl,q⟩
def dZ(hu:X.A.units+1<QU)(ha:DE X E a f)(hb:DE X E b g)(hs:Kj b:=by intro _ _;rfl):DE X E (.Subscript a b pos) (aa f g cc) :=
 ⟨aX (Fc hu ha.o hb.o hs) (gU Fo)⟩
end
section
variable {K:OF}{E:XK}{He η Ha H H1:Hp}{σ:L2.St}{ρ:Ev}
def dJ.putOwnG(h:dJ K He η Ha σ H ρ){i:Nat}{dn:D}{p:OG}(hp:∀(j:Nat) (a:OG),σ[j]?=some (some (V.ref a))->a=p->∀d:D,ρ[j]?≠some (Sl.ow d))(he:He p=none)(h0:Ha p=none)(ho:G0 K Ha H p dn)(hx:∀(i j:Nat) (ds:ac) (a:OG) (P:Nat->OG),ρ[i]?=some (.ox j ds)->σ[i]?=some (some (.ref a))->Mv K He Ha H a j ds P->∀l,qz j l=true->p≠P l) :
  dJ K He η Ha (σ.set i (some (.ref p))) H (ρ.set i (.ow dn)):=by
 have key:∀(j:Nat) (s:Sl),(ρ.set i (.ow dn))[j]?=some s->(j=i/\s=.ow dn/\i<σ.length)∨(j≠i/\ρ[j]?=some s):=λj s e=>by
  by_cases hj:i=j
  .subst hj
   rw[Q1]at e;cases q:ρ[i]? with
   |none=>rw[q]at e;cases e
   |some s'=>
    rw[q]at e;cases e;refine .inl ⟨rfl,rfl,?_⟩;rw[←h.ln];exact(OP.mp q).1
  .rw[OQ hj]at e
   exact .inr ⟨λz=>hj z.symm,e⟩
 have other:∀(k:Nat) (d2:D),k≠i->ρ[k]?=some (.ow d2)->some (some (V.ref p))≠σ[k]?:=λk d2 hk e2 z=>by
  obtain⟨a,h1,_⟩:=h.ow k d2 e2;rw[h1]at z;cases z;exact hp k p h1 rfl d2 e2
 refine⟨h.g,λj d' e=>?_,λj d' e=>?_,λj k d1 d2 hn e1 e2=>?_,by simp[h.ln],h.ex.upd (λj s e=>?_) (aF.refl _) (λa vs _ e=>e) λp us _ h0 hp _=>⟨hp,h0⟩⟩
 rotate_left 3
 .rcases key j _ e with⟨rfl,e',hl⟩|⟨hj,e'⟩
  .exact .inr (.inr (.inr ⟨dn,p,e',by rw[Pq hl],hx⟩))
  .exact .inl ⟨e',by rw[OQ (Px hj)]⟩
 .rcases key j _ e with⟨rfl,e',hl⟩|⟨hj,e'⟩
  .cases e'
  .obtain⟨v',h1,h2⟩:=h.rd j d' e'
   exact⟨v',by rw[OQ (Px hj)];exact h1,h2⟩
 .rcases key j _ e with⟨rfl,e',hl⟩|⟨hj,e'⟩
  .cases e'
   exact⟨p,by rw[Pq hl],he,h0,ho⟩
  .obtain⟨a,h1,h2⟩:=h.ow j d' e'
   exact⟨a,by rw[OQ (Px hj)];exact h1,h2⟩
 .rcases key j _ e1 with⟨rfl,_,hl⟩|⟨hj,e1'⟩
  .rcases key k _ e2 with⟨rfl,_,_⟩|⟨hk,e2'⟩
   .exact absurd rfl hn
   .rw[Pq hl,OQ (Px hk)]
    exact other k d2 hk e2'
  .rcases key k _ e2 with⟨rfl,_,hl⟩|⟨hk,e2'⟩
   .rw[Pq hl,OQ (Px hj)]
    exact λz=>other j d1 hj e1' z.symm
   .rw[OQ (Px hj),OQ (Px hk)]
    exact h.ap j k d1 d2 hn e1' e2'
def dJ.writeG(h:dJ K He η Ha σ H ρ){i:Nat}{d:D}{p:OG}{dn:D}{o:HO}(e:ρ[i]?=some (.ow d))(es:σ[i]?=some (some (.ref p)))(ho:G0 K Ha (upd H p o) p dn) :
  dJ K He η Ha σ (upd H p o) (ρ.set i (.ow dn)):=by
 obtain⟨a,h1,h2,h3,h4⟩:=h.ow i d e;rw[h1]at es;cases es;have hil:i<ρ.length:=(OP.mp e).1;have key:∀(j:Nat) (s:Sl),(ρ.set i (.ow dn))[j]?=some s->(j=i/\s=.ow dn)∨(j≠i/\ρ[j]?=some s):=λj s e=>by
  by_cases hj:i=j
  .subst hj
   rw[Pq hil]at e;cases e;exact .inl ⟨rfl,rfl⟩
  .rw[OQ hj]at e
   exact .inr ⟨λz=>hj z.symm,e⟩
 refine⟨⟨λb o' eb=>?_,h.g.z,λb o' eb=>?_,h.g.nw⟩,λj d' e'=>?_,λj d' e'=>?_,λj k d1 d2 hn e1 e2=>?_,by simp[h.ln],h.ex.upd (λj s e'=>?_) (aF.refl _) (λb us _ eb=>?_) λq us _ q0 hq hd=>?_⟩
 rotate_left 5
 .rcases key j _ e' with⟨rfl,e''⟩|⟨hj,e''⟩
  .exact .inr (.inr (.inr ⟨dn,p,e'',h1,λi' j' ds' a' P' x1 x2 x3 l ol=>by
    obtain⟨a2,P2,y1,y2,y3,_⟩:=h.ex.1 i' j' ds' x1;rw[x2]at y1;cases y1;have:P2 l=P' l:=by
     obtain⟨vs1,_,z1,_,y5,_⟩:=x3;obtain⟨vs2,_,z3,_,y4,_⟩:=y2;rw[z1]at z3;cases z3;obtain⟨_,_,_,_,_,z2,_⟩:=y5 l ol;obtain⟨_,_,_,_,_,z4,_⟩:=y4 l ol;rw[z2]at z4;injection z4 with z4;injection z4 with z4;exact z4.symm
    rw[←this];intro zz;rw[zz]at h1;exact y3 j d l ol e h1⟩))
  .exact .inl ⟨e'',rfl⟩
 .rw[aE (by
   intro z;subst z;cases d with
   |lst ds'|dic ks ds'=>obtain⟨vs',h5,_⟩:=h4;rw[h5]at eb;cases eb
   |ob kk ds'=>
    cases kk with|dint ks=>obtain⟨vs',h5,_⟩:=h4;rw[h5]at eb;cases eb| _=>exact h4.elim
   |_=>exact h4)];exact eb
 .have hq':q≠p:=by
   intro z;subst z;exact hd i d e h1
  exact⟨by rw[aE hq'];exact hq,q0⟩
 .rw[aE (by intro z;subst z;rw[h2]at eb;cases eb)];exact h.g.s _ _ eb
 .rw[aE (by intro z;subst z;rw[h3]at eb;cases eb)];exact h.g.sub _ _ eb
 .rcases key j _ e' with⟨rfl,e''⟩|⟨hj,e''⟩
  .cases e''
  .exact h.rd j d' e''
 .rcases key j _ e' with⟨rfl,e''⟩|⟨hj,e''⟩
  .cases e''
   exact⟨p,h1,h2,h3,ho⟩
  .obtain⟨b,k1,k2,k3,k4⟩:=h.ow j d' e''
   refine⟨b,k1,k2,k3,?_⟩;have hb:b≠p:=by
    intro z;subst z;exact h.ap j i d' d hj e'' e (by rw[k1,h1])
   cases d' with
   |lst ds'=>
    obtain⟨vs',h5,h6⟩:=k4;exact⟨vs',by rw[aE hb];exact h5,h6⟩
   |dic ks ds'=>
    obtain⟨vs',h5,hl,h6⟩:=k4;exact⟨vs',by rw[aE hb];exact h5,hl,h6⟩
   |ob kk ds'=>
    cases kk with
    |dint ks=>
     obtain⟨vs',h5,hl,h6⟩:=k4;exact⟨vs',by rw[aE hb];exact h5,hl,h6⟩
    |_=>exact k4.elim
   |_=>exact k4.elim
 .rcases key j _ e1 with⟨rfl,e1'⟩|⟨hj,e1'⟩
  .rcases key k _ e2 with⟨rfl,_⟩|⟨hk,e2'⟩
   .exact absurd rfl hn
   .exact h.ap j k d d2 hn e e2'
  .rcases key k _ e2 with⟨rfl,_⟩|⟨hk,e2'⟩
   .exact h.ap j k d1 d hn e1' e
   .exact h.ap j k d1 d2 hn e1' e2'
end
def wB:bv->ac->OO->D->ac
 |k::ks,e::ds,x,d=>(if k=x then d else e)::wB ks ds x d
 |_,ds,_,_=>ds
def nu(ks:bv)(ds:ac)(k:OO)(d:D):D:=if k∈ks then .dic ks (wB ks ds k d) else .dic (ks++[k]) (ds++[d])
theorem zo{k:OO}:∀{ks:bv}{vs:ad},ks.length=vs.length->(((ks.map Pn).zip vs).any λkv=>decide (kv.1=(Pn k:Key)))=decide (k∈ks)
 |[],_,_=>rfl
 |x::ks,[],h=>nomatch h
 |x::ks,v::vs,h=>by
  rw[OY,Qu,QX,zo (by simpa using h)]
  by_cases hx:x=k
  .subst hx;simp
  .have:¬k=x:=λz=>hx z.symm
   simp[hx,this]
theorem ym{K:OF}{H:Hp}{k:OO}{d:D}{v:V}(r:Rep K H d v):∀{ks:bv}{ds:ac}{vs:ad},ks.length=vs.length->Reps K H ds vs ->
  ∃vs',(((ks.map Pn).zip vs).map λkv=>if kv.1=(Pn k:Key) then(kv.1,v) else kv)=(ks.map Pn).zip vs'/\ks.length=vs'.length/\Reps K H (wB ks ds k d) vs'
 |[],ds,vs,hl,h=>⟨vs,rfl,hl,by cases ds<;>exact h⟩
 |x::ks,ds,[],hl,h=>nomatch hl
 |x::ks,[],v'::vs,hl,h=>by have:=Reps.nil_iff.mp h;cases this
 |x::ks,e::ds,v'::vs,hl,h=>by
  obtain⟨v2,vr,e0,h1,h2⟩:=aC.mp h;cases e0;obtain⟨vs',i1,i2,i3⟩:=ym r (ks:=ks) (ds:=ds) (vs:=vs) (by simpa using hl) h2;rw[OY,Qu,OY,i1]
  by_cases hx:x=k
  .subst hx
   refine⟨v::vs',by rw[if_pos rfl];rfl,by simp[i2],?_⟩;rw[wB,if_pos rfl];exact Reps.cons r i3
  .have hne:¬(Pn x:Key)=Pn k:=λz=>hx (TK z)
   refine⟨v'::vs',by rw[if_neg hne];rfl,by simp[i2],?_⟩;rw[wB,if_neg hx];exact Reps.cons h1 i3
theorem Reps.snoc{K:OF}{H:Hp}{d:D}{v:V}(r:Rep K H d v):∀{ds:ac}{vs:ad},Reps K H ds vs->Reps K H (ds++[d]) (vs++[v])
 |[],vs,h=>by rw[Reps.nil_iff.mp h];exact Reps.cons r Reps.nil
 |e::ds,vs,h=>by
  obtain⟨v2,vr,rfl,h1,h2⟩:=aC.mp h;exact Reps.cons h1 (Reps.snoc r h2)
def ET{K:OF}{Ha H:Hp}{k:OO}{d:D}{v:V}{ks:bv}{ds:ac}{vs:ad}{p:OG}(hl:ks.length=vs.length)(h:Reps K Ha ds vs)(r:Rep K Ha d v):G0 K Ha (upd H p (.dK (jh ((ks.map Pn).zip vs) (Pn k) v))) p (nu ks ds k d):=by
 unfold nu;rw[show ∀(kvs:List (Key×V)) (u:V),jh kvs (Pn k:Key) u=if(kvs.any λkv=>decide (kv.1=(Pn k:Key)))=true then kvs.map (λkv=>if kv.1=(Pn k:Key) then(kv.1,u) else kv) else kvs++[((Pn k:Key),u)] from λ_ _=>rfl];rw[zo hl]
 by_cases hk:k∈ks
 .rw[if_pos hk,if_pos (decide_eq_true hk)]
  obtain⟨vs',i1,i2,i3⟩:=ym (k:=k) r hl h;exact⟨vs',by rw[aG,i1],i2,i3⟩
 .rw[if_neg hk,if_neg (by rw[decide_eq_false hk];decide)]
  refine⟨vs++[v],by rw[aG,PF,List.zip_append (by rw[OH];exact hl)];rfl,by simp[hl],Reps.snoc r h⟩
noncomputable def Oc(K:OF) (E:XK) (f:al):TE:=λσ H Q=>∃Ha ρ,aF Ha H/\eU K Ha σ ρ/\match f ρ with
 |.ok (.dic ks ds)=>∀p vs H' Ha',bf H Ha H' Ha'->H p=none->Ha' p=none->H' p=some (.dK ((ks.map Pn).zip vs))->ks.length=vs.length->Reps K Ha' ds vs->Q (.ref p) H'
 |.ok _=>False
 |.exn x=>∀C ox H' Ha',bf H Ha H' Ha'->tY K Ha' x C ox->E C ox H'
 |.stuck=>False
structure MA (X:Cx) (E:XK) (e:Pd) (f:al):Prop where
 o:PE X e (Oc X.K E f)
def yA(i:Nat)(ρ:Ev)(d:D):aj Fl:=match d with
 |.dic ks ds=>.ok (.nx (ρ.set i (.ow (.dic ks ds))))
 |_=>.stuck
def jg(i:Nat)(f:al):am:=λρ=>(f ρ).bind (yA i ρ)
section
variable {X:Cx}{E:XK}{He η:Hp}{e b:Pd}{pos:Pos}{f k:al}
def nR{i:Nat}{x:OO}{pos':Pos}(hN:X.N.Nodup)(hi:X.N[i]?=some x)(hx:A6 X.env.scope x)(he:MA X E e f)(hs:P1 e (some (.Name x pos')) pos.line X.env=pure false:=by rfl)
  (hf:X.fn x=true∨X.env.scope.names.lookup x=some .local := by first|exact .inl rfl|exact .inr rfl|assumption):DS X E He η (.Assign [.Name x pos'] e pos) (jg i f):=by
 refine⟨?_⟩;refine cu (lX hN hi hx he.o hs hf) λD σ H z9=>?_;obtain⟨Ha,ρ,h,q⟩:=z9;refine⟨Ha,ρ,h.g.sub,h.rd,?_⟩
 unfold jg at q;cases e1:f ρ with
 |stuck=>rw[e1]at q;exact q|exn x=>rw[e1]at q;exact λC ox H' Ha' g ex=>q C ox H' Ha' (h.g.trans g) ex
 |ok d=>
  rw[e1]at q;cases d with
  |dic ks ds=>
   intro p vs H' Ha' g hp h0 hv hl rp;refine q _ H' Ha' g.z ((h.grow g).putOwnG (dn:=.dic ks ds) (λj a ej ea d ed=>?_) (h.g.s.free hp) h0 ⟨vs,hv,hl,rp⟩ (h.fresh_x g.s hp));subst ea;obtain⟨a',k1,_,_,k4⟩:=h.ow j d ed;rw[ej]at k1;cases k1;cases d with
   |lst ds'|dic ks ds'=>obtain⟨vs',h5,_⟩:=k4;rw[hp]at h5;cases h5
   |ob kk ds'=>
    cases kk with|dint ks=>obtain⟨vs',h5,_⟩:=k4;rw[hp]at h5;cases h5| _=>exact k4.elim
   |_=>exact k4.elim
  |_=>exact q.elim
def zh:MA X E (.Dict [] [] pos) (dC (.dic [] [])):=by
 refine⟨aX Ca λσ H Q ⟨Ha,ρ,hs,hr,q⟩=>λp hp=>?_⟩;have q:∀p vs H' Ha',bf H Ha H' Ha'->H p=none->Ha' p=none->H' p=some (.dK ((([]:bv).map Pn).zip vs))->([]:bv).length=vs.length->Reps X.K Ha' [] vs->Q (.ref p) H':=q;have h0:Ha p=none:=hs.free hp;refine q p [] _ Ha ⟨λb o q=>by rw[aE (aR q hp)];exact q,aF.refl _,λb o q=>?_,λa h1 h2=>absurd h2 h1⟩ hp h0 aG rfl Reps.nil;rw[aE (by intro z;subst z;rw[h0]at q;cases q)];exact hs _ _ q
end
def Dw(k d:D):aj D:=match k with
 |.str x=>.ok (.dic [x] [d])
 |_=>.stuck
def vF(kf vf:al):al:=aa kf vf Dw
def wM(ρ:Ev)(i:Nat)(k:bv->ac->aj Fl):aj Fl:=match ρ[i]? with
 |some (.ow (.dic ks ds))=>k ks ds
 |_=>.stuck
def kJ(i:Nat)(ρ:Ev)(ks:bv)(ds:ac)(d j:D):aj Fl:=match j with
 |.str x=>if ks.length<line then .ok (.nx (ρ.set i (.ow (nu ks ds x d)))) else .stuck
 |_=>.stuck
def jf(i:Nat)(f k:al):am:=λρ=>wM ρ i λks ds=>(f ρ).bind λd=>(k ρ).bind (kJ i ρ ks ds d)
section
variable {X:Cx}{E:XK}{He η:Hp}{e b:Pd}{pos:Pos}{f k:al}
def AE(hk:DE X E b k)(hv:DE X E e f):MA X E (.Dict [some b] [e] pos) (vF k f):=by
 refine⟨?_⟩;refine aX (Fb (BW hk.o hv.o EY) rfl rfl (by simp) (by simp)) λσ H Q ⟨Ha,ρ,hs,hr,q⟩ p hpn=>?_;have h0:Ha p=none:=hs.free hpn;have hs2:aF Ha (upd H p (.dK [])):=λb o e=>by rw[aE (by intro z;subst z;rw[h0]at e;cases e)];exact hs _ _ e
 have back:∀{H' Ha':Hp},bf (upd H p (.dK [])) Ha H' Ha'->bf H Ha H' Ha':=λg=>⟨λb o e=>g.s _ _ (by rw[aE (aR e hpn)];exact e),g.z,g.sub,λa k1 k2=>by
   have:=g.nw a k1 k2
   by_cases ha:a=p
   .subst ha;exact hpn
   .rw[aE ha]at this;exact this⟩
 refine⟨Ha,ρ,hs2,hr,?_⟩;unfold vF aa at q;cases e1:k ρ with
 |stuck=>rw[e1]at q;exact q|exn z=>rw[e1]at q;exact λC ox H' Ha' g ex=>q C ox H' Ha' (back g) ex
 |ok kd=>
  rw[e1]at q;intro xk H1 H01 g1 r1;refine⟨H01,ρ,g1.sub,hr.mono g1.z,?_⟩;cases e2:f ρ with
  |stuck=>rw[e2]at q;exact q|exn z=>rw[e2]at q;exact λC ox H' Ha' g ex=>q C ox H' Ha' (back (g1.trans g)) ex
  |ok d=>
   rw[e2]at q;intro v H2 H02 g2 r2;cases kd with
   |str x=>
    have G:=g1.trans g2;have hp2:H2 p=some (.dK []):=G.s _ _ aG;have n02:H02 p=none:=by
     cases qq:H02 p with|none=>rfl|some o=>have:=G.nw p (by rw[qq];simp) h0;rw[aG]at this;cases this
    rw[Rep.str_iff.mp r1];refine⟨hp2,[(Pn x,v)],rfl,by simp,?_⟩;have q:∀p vs H' Ha',bf H Ha H' Ha'->H p=none->Ha' p=none->H' p=some (.dK (([x].map Pn).zip vs))->[x].length=vs.length->Reps X.K Ha' [d] vs->Q (.ref p) H':=q;refine q p [v] _ H02 ⟨λb o e=>?_,G.z,λb o e=>?_,(back G).nw⟩ hpn n02 aG rfl (Reps.cons r2 Reps.nil)
    .rw[aE (aR e hpn)];exact(back G).s _ _ e
    .rw[aE (by intro z;subst z;rw[n02]at e;cases e)];exact G.sub _ _ e
   |_=>exact q.elim
def Ab{K:OF}{Ha H:Hp}{σ:L2.St}{ρ:Ev}{i:Nat}{k:bv->ac->aj Fl}{D':gr}(h:dJ K He η Ha σ H ρ)(q:bM K E He η Ha (wM ρ i k) D') :
  ∃ks ds p vs,ρ[i]?=some (.ow (.dic ks ds))/\σ[i]?=some (some (.ref p))/\H p=some (.dK ((ks.map Pn).zip vs))/\ks.length=vs.length/\Reps K Ha ds vs/\bM K E He η Ha (k ks ds) D':=by
 unfold wM at q;cases e:ρ[i]? with
 |none=>rw[e]at q;exact q.elim
 |some s=>
  rw[e]at q;cases s with
  |no|sh d|ox j ds|pt a=>exact q.elim
  |ow d=>
   cases d with
   |dic ks ds=>
    obtain⟨p,h1,h2,h3,vs,h4,h5,h6⟩:=h.ow i _ e;exact⟨ks,ds,p,vs,rfl,h1,h4,h5,h6,q⟩
   |_=>exact q.elim
def BQ{K:OF}{Ha H:Hp}{σ:L2.St}{ρ:Ev}{i:Nat}{D':gr}{ks:bv}{ds:ac}{d j:D}{p:OG}{vs:ad}{v u:V}(h:dJ K He η Ha σ H ρ)(e1:ρ[i]?=some (.ow (.dic ks ds)))(e2:σ[i]?=some (some (.ref p)))(e5:H p=some (.dK ((ks.map Pn).zip vs)))(el:ks.length=vs.length)(e6:Reps K Ha ds vs)
  (rp:Rep K Ha d v)(rj:Rep K Ha j u)(q:bM K E He η Ha (kJ i ρ ks ds d j) D'):∃a H4,V.ref p=.ref a/\A2 H a u v H4/\D'.nx σ H4:=by
 unfold kJ at q;cases j with
 |str x=>
  by_cases hl:ks.length<line
  .simp only[if_pos hl]at q
   rw[Rep.str_iff.mp rj];refine⟨p,_,rfl,A2.k (k:=.inr x) e5 ?_,?_⟩
   .rw[Sb,OH,←el,Nat.min_self]
    have:line<=sizeLine:=cV (O0 _);omega
   .exact q σ _ Ha (aF.refl _) (h.writeG e1 e2 (ET el e6 rp))
  .simp only[if_neg hl]at q;exact q.elim
 |_=>exact q.elim
def nQ{i:Nat}{x:OO}{p1 p2:Pos}(hu:X.A.units+1<QU)(hN:X.N[i]?=some x)(hv:zy X.env.scope x)(he:DE X E e f)(hk:DE X E b k)
  (hd:(x==("__debug__" : OO))=false:=by decide)(hcd:(x==("__classdict__" : OO))=false:=by decide)
  (hs:P1 e (some (.Subscript (.Name x p1) b p2)) pos.line X.env=pure false:=by rfl):DS X E He η (.Assign [.Subscript (.Name x p1) b p2] e pos) (jf i f k):=by
 refine⟨?_⟩;refine cu (EX hu (fE hN hv hd hcd) hk.o he.o hs) λD σ H z9=>?_;obtain⟨Ha,ρ,h,q⟩:=z9;refine⟨Ha,ρ,h.g.sub,h.rd,?_⟩
 obtain⟨ks,ds,p,vs,e1,e2,e5,el,e6,q⟩:=Ab h q;refine plain (k:=λd=>(k ρ).bind (kJ i ρ ks ds d)) h q λd v H1 H01 _ g1 r1 q1=>⟨.ref p,e2,?_⟩
 have h1':=h.grow g1;refine⟨H01,ρ,h1'.g.sub,h1'.rd,plain (k:=kJ i ρ ks ds d) h1' q1 λj u H2 H02 _ g2 r2 q2=>?_⟩;exact BQ (h1'.grow g2) e1 e2 (g2.s _ _ (g1.s _ _ e5)) el ((e6.mono g1.z).mono g2.z) (r1.mono g2.z) r2 q2
end
mutual
def nd:D->Bool
 |.lst ds=>nds ds
 |.tup ds=>nds ds
 |.dic _ _=>false
 |.exc _=>false
 |.ob _ _=>false
 |_=>true
def nds:ac->Bool
 |[]=>true
 |d::ds=>nd d&&nds ds
end
mutual
theorem Rep.nd_to{K:OF}{H H':Hp}(et:∀a vs,Rd H a (.tup vs)->Rd H' a (.tup vs))(el:∀a vs,Rd H a (.lst vs)->Rd H' a (.lst vs)):∀{d:D}{v:V},nd d=true->Rep K H d v->Rep K H' d v
 |.non,_,_,h=>by unfold Rep at h ⊢;exact h
 |.bl _,_,_,h=>by unfold Rep at h ⊢;exact h
 |.int _,_,_,h=>by unfold Rep at h ⊢;exact h
 |.str _,_,_,h=>by unfold Rep at h ⊢;exact h
 |.tup ds,_,f,h=>by
  unfold nd at f;obtain⟨a,vs,e1,e2,e3⟩:=aI.mp h;refine aI.mpr ⟨a,vs,e1,?_,Reps.nd_to et el f e3⟩;rcases e2 with e2|e2
  .exact .inl (et _ _ e2)
  .exact .inr e2
 |.lst ds,_,f,h=>by
  unfold nd at f;obtain⟨a,vs,e1,e2,e3⟩:=aA.mp h;refine aA.mpr ⟨a,vs,e1,?_,Reps.nd_to et el f e3⟩;rcases e2 with e2|e2
  .exact .inl (el _ _ e2)
  .exact .inr e2
 |.dic ks ds,_,f,h=>by unfold nd at f;cases f
 |.exc x,_,f,h=>by unfold nd at f;cases f
 |.ob k ds,_,f,h=>by unfold nd at f;cases f
theorem Reps.nd_to{K:OF}{H H':Hp}(et:∀a vs,Rd H a (.tup vs)->Rd H' a (.tup vs))(el:∀a vs,Rd H a (.lst vs)->Rd H' a (.lst vs)):∀{ds:ac}{vs:ad},nds ds=true->Reps K H ds vs->Reps K H' ds vs
 |[],_,_,h=>by unfold Reps at h ⊢;exact h
 |d::ds,_,f,h=>by
  unfold nds at f;rw[O4]at f;obtain⟨v,r,e1,e2,e3⟩:=aC.mp h;exact aC.mpr ⟨v,r,e1,Rep.nd_to et el f.1 e2,Reps.nd_to et el f.2 e3⟩
end
def mi(Ha J:Hp):Hp:=λa=>match Ha a with
 |some o=>some o
 |none=>match J a with
  |some (.dK _)=>none
  |o=>o
def uQ(ρ:Ev):Bool:=ρ.all λs=>match s with
 |.ow (.lst _)=>false
 |.ox _ _=>false
 |.pt _=>false
 |_=>true
section
variable {K:OF}{E:XK}{He η Ha H H1 J:Hp}{σ:L2.St}{ρ:Ev}
def GX(h:aF Ha J):∀a o,mi Ha J a=some o->J a=some o:=λa o e=>by
 unfold mi at e;cases q:Ha a with
 |some u=>rw[q]at e;cases e;exact h _ _ q
 |none=>
  rw[q]at e;cases q2:J a with
  |none=>rw[q2]at e;cases e
  |some u=>rw[q2]at e;cases u<;>first|(cases e;rfl)|cases e
def zv(h:aF Ha J){a:OG}{o:HO}(e:J a=some o)(hn:∀kvs,o≠.dK kvs):mi Ha J a=some o:=by
 unfold mi;cases q:Ha a with
 |some u=>have:=h _ _ q;rw[e]at this;cases this;rfl
 |none=>rw[e];cases o<;>first|rfl|exact absurd rfl (hn _)
def zu(h:aF Ha J){u:HO}(hu:∀kvs,u≠.dK kvs)(a:OG)(e:Rd J a u):Rd (mi Ha J) a u:=by
 rcases e with e|⟨o,e⟩
 .exact .inl (zv h e hu)
 .exact .inr ⟨o,zv h e λ_ z=>nomatch z⟩
def dJ.behindS(h:dJ K He η Ha σ H ρ)(ho:uQ ρ=true)(g:bf H (frz He Ha H) H1 J):dJ K He η (mi Ha J) σ H1 ρ:=by
 have hJ:aF Ha J:=h.frz_sub.trans g.z;have le:=GX (Ha:=Ha) (J:=J) hJ;have z:aF Ha (mi Ha J):=λb o e=>by unfold mi;rw[e]
 have ok:∀(i:Nat) (s:Sl),ρ[i]?=some s->(match s with|.ow (.lst _)=>false|.ox _ _|.pt _=>false|_=>true)=true:=λi s e=>Pr.mp ho s (O1 e);refine⟨⟨h.g.s.trans g.s,h.g.z.trans z,λb o e=>g.sub _ _ (le b o e),λa h1 h2=>?_⟩,h.rd.mono z,λi d e=>?_,h.ap,h.ln,OX.none (λi j ds e=>by have:=ok i _ e;cases this) (λi a e=>by have:=ok i _ e;cases this)⟩
 .cases q:mi Ha J a with
  |none=>exact absurd q h1
  |some o=>
   have hj:=le a o q;exact(h.frz_grow.trans g).nw a (by rw[hj];simp) h2
 .obtain⟨a,k1,k2,k3,k4⟩:=h.ow i d e
  cases d with
  |lst ds=>have:=ok i _ e;cases this
  |dic ks ds=>
   obtain⟨vs,h5,hl,h6⟩:=k4;refine⟨a,k1,k2,?_,vs,g.s _ _ h5,hl,h6.mono z⟩;have:frz He Ha H a=some (.dK ((ks.map Pn).zip vs)):=by unfold frz;rw[k2];exact h5
   have:=g.z _ _ this;unfold mi;rw[k3,this]
  |ob kk ds=>
   cases kk with
   |dint ks=>
    obtain⟨vs,h5,hl,h6⟩:=k4;refine⟨a,k1,k2,?_,vs,g.s _ _ h5,hl,h6.mono z⟩;have:frz He Ha H a=some (.dK ((ks.map RU).zip vs)):=by unfold frz;rw[k2];exact h5
    have:=g.z _ _ this;unfold mi;rw[k3,this]
   |_=>exact k4.elim
  |_=>exact k4.elim
end
def yh(i:Nat)(ρ:Ev)(d:D):aj Fl:=if nd d=true/\uQ ρ=true then .ok (.nx (ρ.set i (.sh d))) else .stuck
def yi(i:Nat)(f:al):am:=λρ=>(f (gu ρ)).bind (yh i ρ)
section
variable {X:Cx}{E:XK}{He η:Hp}{e b o:Pd}{pos apos cpos:Pos}{f k g:al}
def Gr{i:Nat}{x:OO}{pos':Pos}(hN:X.N.Nodup)(hi:X.N[i]?=some x)(hx:A6 X.env.scope x)(he:DE X E e f)(hs:P1 e (some (.Name x pos')) pos.line X.env=pure false:=by rfl)
  (hf:X.fn x=true∨X.env.scope.names.lookup x=some .local := by first|exact .inl rfl|exact .inr rfl|assumption):DS X E He η (.Assign [.Name x pos'] e pos) (yi i f):=by
 refine⟨?_⟩;refine cu (lX hN hi hx he.o hs hf) λD σ H z9=>?_;obtain⟨Ha,ρ,h,q⟩:=z9;refine⟨frz He Ha H,gu ρ,h.frz_le,h.looks,?_⟩
 refine look h q λd v H' J _ g rp q'=>?_;unfold yh at q'
 by_cases fl:nd d=true/\uQ ρ=true
 .rw[if_pos fl]at q'
  have hJ:aF Ha J:=h.frz_sub.trans g.z;refine q' _ H' (mi Ha J) (λb o e=>by unfold mi;rw[e]) ((h.behindS fl.2 g).put (rp.nd_to (λa vs e=>zu hJ (λ_ z=>by cases z) a e) (λa vs e=>zu hJ (λ_ z=>by cases z) a e) fl.1))
 .rw[if_neg fl]at q';exact q'.elim
def un1{n:Nat}(h:n+64<QU):n+1<QU:=P6 (by omega) h
end
section
variable {X:Cx}{E:XK}{a b:Pd}{f g:al}{pos:Pos}
def Ml(x y:D):aj D:=match x,y with
 |.tup [],.tup es=>.ok (.tup es)
 |.tup ds,.tup es=>if ds.isEmpty=false/\ds.length+es.length<=line then .ok (.tup (ds++es)) else .stuck
 |_,_=>.stuck
end
structure Rw where
 x:OO
 st:Qt
 N:bv
 n:Nat
abbrev Rw.ps(r:Rw):bv:=r.N.take r.n
instance {N P:bv}{sc:RA}:Decidable (fw N P sc) :=
 decidable_of_iff (sc.kind=.function/\sc.isCoroutine=false/\sc.isGenerator=false/\N.Nodup/\N.take P.length=P/\(∀x∈P,sc.names.lookup x=some .local ∨ sc.names.lookup x=some .cell)/\∀y∈sc.names,y.2≠.free)
  ⟨λ⟨a,b,c,d,e,f,g⟩=>⟨a,b,c,d,e,f,g⟩,λ⟨a,b,c,d,e,f,g⟩=>⟨a,b,c,d,e,f,g⟩⟩
def ML(rows:List Rw):Prop:=∀r∈rows,fw r.N r.ps (defScope r.st)
instance {rows:List Rw}:Decidable (ML rows):=inferInstanceAs (Decidable (∀r∈rows,_))
def TG(rows:List Rw)(K:OF)(mg:OO->Option OB)(A:Nat->OG)(Q:Nat->Pz):Prop:=∀i r,rows[i]?=some r->FT K mg r.x r.st r.ps (A i) (Q i)
def MC(r:Rw):Prop:=∀(kV doc pm:OB) (an:Option OG) (cdv ct:OB) (us:List OB),us.length=r.ps.length->bindArgs (RJ r.x r.x (defArgs r.st) (defBody r.st) (defScope r.st) .none kV doc pm an cdv ct) ⟨us,[]⟩=pure (r.ps.zip us)
def QAs(K:OF):List Rw->List OG->Prop
 |[],_=>True
 |r::rs,a::as=>QA K r.x r.st a/\QAs K rs as
 |_::_,[]=>False
def QAs.cons{K:OF}{x:OO}{st:Qt}{N:bv}{n:Nat}{rs:List Rw}{a:OG}{as:List OG}(q:QA K x st a)(t:QAs K rs as):QAs K (⟨x,st,N,n⟩::rs) (a::as):=⟨q,t⟩
theorem G7{K:OF}{h:OL}{mg:OO->Option OB}(X:K.In h)(G:h.Ns O6 mg):∀{rows:List Rw}{as:List OG},(∀r∈rows,MC r)->QAs K rows as ->
  ∃Q:Nat->Pz,∀i r,rows[i]?=some r->FT K mg r.x r.st r.ps (as.getD i 0) (Q i)/\∃kV doc pm an cdv ct,Q i=RJ r.x r.x (defArgs r.st) (defBody r.st) (defScope r.st) .none kV doc pm an cdv ct
 |[],as,_,_=>⟨λ_=>default,λi r e=>by simp at e⟩
 |r::rs,[],_,q=>q.elim
 |r::rs,a::as,hb,q=>by
  obtain⟨Q,h⟩:=G7 X G (λr hr=>hb r (OZ _ hr)) q.2;obtain⟨d,h1,h2⟩:=LQ X G q.1 (hb r Pc);refine⟨λi=>match i with|0=>d|i+1=>Q i,λi r' e=>?_⟩;cases i with|zero=>rw[Qw]at e;cases e;exact⟨h1,h2⟩|succ i=>rw[Qe]at e;exact h i r' e
structure fP (P:O5) (w:Pt) (K:OF) (mg:OO->Option OB) (base:OL) (CX:qp) (k:Nat) (fn:OG) (fd:Pz) (ps:bv) (sp:Sp) (x:OO) (st:Qt):Prop where
 F:FnOk P w K mg base CX k fn fd ps sp
 t:FT K mg x st ps fn fd
section
variable {P:O5}{w:Pt}{K:OF}{mg:OO->Option OB}{base:OL}{rows:List Rw}{A:Nat->OG}{Q:Nat->Pz}{i k n:Nat}{r:Rw}{s:am}{sM:OG->Ev->ac->aj MFl}
variable (T:TG rows K mg A Q) (S:ML rows) (h:rows[i]?=some r)
include T S h
theorem oD(b:∀(cdv:OB) (A':Pu) (outer:List PQ) (s0:OE) (H Ha:Hp) (E:XK),c5 k (A'.deeper (envOfC r.x (defScope r.st) s0.heap.objs.size (A i) cdv)) ->
   wb (bV CX0 P w K mg base r.N r.x (defScope r.st) (A i) cdv A' outer s0 H E).nox E H Ha (defBody r.st) s):fP P w K mg base CX0 (k+1) (A i) (Q i) r.ps (spD K r.ps.length (cm r.N.length s)) r.x r.st :=
 ⟨Ay (T i r h).F (S r (O1 h)) b,T i r h⟩
theorem oE(b:∀(cdv:OB) (A':Pu) (outer:List PQ) (s0:OE) (H Ha:Hp) (E:XK),c5 k (A'.deeper (envOfC r.x (defScope r.st) s0.heap.objs.size (A i) cdv)) ->
   wb (bV (dN P w) P w K mg base r.N r.x (defScope r.st) (A i) cdv A' outer s0 H E) E H Ha (defBody r.st) s):fP P w K mg base (dN P w) (k+1) (A i) (Q i) r.ps (spD K r.ps.length (cm r.N.length s)) r.x r.st :=
 ⟨xg (T i r h).F (S r (O1 h)) b,T i r h⟩
end
section
variable {P:O5}{w:Pt}{K:OF}{mg:OO->Option OB}{base:OL}{CX:qp}{k:Nat}{fn:OG}{fd:Pz}{ps:bv}{n:Nat}{m:ac->aj D}{x:OO}{st:Qt}
def fP.noX(B:fP P w K mg base (dN P w) k fn fd ps (spD K n m) x st):fP P w K mg base CX0 k fn fd ps (spD K n (DL.noX m)) x st:=⟨DL.FnOk.noX B.F,B.t⟩
end
section
variable {X:Cx}{E:XK}{e:Pd}{es:List Pd}{fa:Ev->aj (ac)}{pos:Pos}{CX:qp}{k k0 n:Nat}{fn:OG}{fd:Pz}{ps:bv}{m:ac->aj D}{x:OO}{p:Pos}{st:Qt}
def rC(B:fP X.prog X.w X.K X.mg X.base CX k0 fn fd ps (spD X.K n m) x st)(hr:c5 k X.A)(ha:DA X E (e::es) fa)(hle:k0<=k:=by decide)(hx:jD CX X E:=by first|exact Hl|exact pass0E|exact yy)(hl:∀ρ ds,fa ρ=.ok ds->ds.length=(e::es).length:=by first|exact MI|exact MH|exact ND|exact al4|exact al5)(hn:(e::es).length=n:=by rfl)
  (hg:Gl X x:=by exact rfl)(hdb:(x==("__debug__" : OO))=false:=by decide)(he:OJ (e::es) X.env=(false,eval e X.env)::OJ es X.env:=by exact aM rfl)(hpl:(PN pos (OJ es X.env)).any (·.1)=false:=by exact bw rfl) :
  DE X E (.Call (.Name x p) (e::es) [] pos) (aq fa m):=GC (B.F.mono hle) hr hg B.t.g B.t.F.kp B.t.b hx ha hn hl hdb he hpl
def rD{cpos:Pos}(B:fP X.prog X.w X.K X.mg X.base (dN X.prog X.w) k0 fn fd ps (spD X.K n m) x st)(hr:c5 k X.A)(ha:DA X.nox E0 (e::es) fa)(hle:k0<=k:=by decide)(hl:∀ρ ds,fa ρ=.ok ds->ds.length=(e::es).length:=by first|exact MI|exact MH|exact ND|exact al4|exact al5)(hn:(e::es).length=n:=by rfl)
  (hg:Gl X x:=by exact rfl)(hdb:(x==("__debug__" : OO))=false:=by decide)(he:OJ (e::es) X.env=(false,eval e X.env)::OJ es X.env:=by exact aM rfl)(hpl:(PN cpos (OJ es X.env)).any (·.1)=false:=by exact bw rfl)
  (hs:P1 (.Call (.Name x p) (e::es) [] cpos) none pos.line X.env=pure false:=by rfl):TB X (.Expr (.Call (.Name x p) (e::es) [] cpos) pos) (lV fa m):=EA (B.F.mono hle) hr hg B.t.g B.t.F.kp B.t.b ha hn hl hdb he hpl hs
end
def Ov{r:Rw}(hn:r.ps.length=1:=by rfl)(hb:∀(kV doc pm:OB) (an:Option OG) (cdv ct b:OB),bindArgs (RJ r.x r.x (defArgs r.st) (defBody r.st) (defScope r.st) .none kV doc pm an cdv ct) ⟨[b],[]⟩=pure (r.ps.zip [b]):=by intros;rfl):MC r:=λ_ _ _ _ _ _ us hl=>by
 obtain⟨b,rfl⟩:=N0 (hl.trans hn);exact hb ..
def Ou{r:Rw}(hn:r.ps.length=2:=by rfl)(hb:∀(kV doc pm:OB) (an:Option OG) (cdv ct b c:OB),bindArgs (RJ r.x r.x (defArgs r.st) (defBody r.st) (defScope r.st) .none kV doc pm an cdv ct) ⟨[b,c],[]⟩=pure (r.ps.zip [b,c]):=by intros;rfl):MC r:=λ_ _ _ _ _ _ us hl=>by
 obtain⟨b,c,rfl⟩:=NZ (hl.trans hn);exact hb ..
def Ot{r:Rw}(hn:r.ps.length=3:=by rfl)(hb:∀(kV doc pm:OB) (an:Option OG) (cdv ct b c d:OB),bindArgs (RJ r.x r.x (defArgs r.st) (defBody r.st) (defScope r.st) .none kV doc pm an cdv ct) ⟨[b,c,d],[]⟩=pure (r.ps.zip [b,c,d]):=by intros;rfl):MC r:=λ_ _ _ _ _ _ us hl=>by
 obtain⟨b,c,d,rfl⟩:=NY (hl.trans hn);exact hb ..
def C3{P:O5}{w:Pt}{K:OF}{mg:OO->Option OB}{base:OL}{CX:qp}{k n:Nat}{f:OG}{fd:Pz}{ps:bv}:FnOk P w K mg base CX k f fd ps (spD K n λ_=>.stuck) :=
 ⟨λ_ _ _ _ ⟨_,_,_,_,_,q⟩=>q.elim,λ_ _ _ _ _ _ _ _ _ _ _ _ _ ⟨_,_,_,_,_,q⟩=>q.elim⟩
def oS{P:O5}{w:Pt}{K:OF}{mg:OO->Option OB}{base:OL}{CX:qp}{k n:Nat}{rows:List Rw}{A:Nat->OG}{Q:Nat->Pz}{i:Nat}{r:Rw}(T:TG rows K mg A Q)(h:rows[i]?=some r):fP P w K mg base CX k (A i) (Q i) r.ps (spD K n λ_=>.stuck) r.x r.st:=⟨C3,T i r h⟩
end DL
namespace DL
open PySem PySem.Spec PyProof.Rows
def wq{kvs:List (L2.Key×OB)}{k:L2.Key}{x:OB}(h:k∉kvs.map (·.1)):stored kvs k x=kvs++[(k,x)]:=by
 unfold stored;rw[if_neg];intro c;obtain⟨kv,h1,h2⟩:=List.any_eq_true.mp c;exact h (Pp.mpr ⟨kv,h1,of_decide_eq_true h2⟩)
end DL
namespace DL
open PySem PySem.Spec PyProof.Rows L2
section
variable {X:Cx}{E:XK}{a:Pd}{f:al}{te:TE}{p p2 p3 pos:Pos}{π:List (OG×Obj)}{σ:L2.St}{H:Hp}{s:OE}
theorem ud{α β γ:Type}{g:α->γ}:∀{ks:List α}{ys:List β},ks.length=ys.length->((ks.map g).zip ys).map (·.1)=ks.map g
 |[],[],_=>rfl
 |k::ks,y::ys,h=>by
  rw[OY,Qu,OY,ud (by simpa using h)]
end
def Ew(Ts:List String)(x:D):Bool:=Ts.any λT=>ua x==T||(ua x=="bool"&&T=="int")
def wI:D->Bool
 |.exc _=>false
 |.ob _ _=>false
 |_=>true
def tN(Ts:List String)(x:D):aj D:=if wI x=true then .ok (.bl (Ew Ts x)) else .stuck
theorem cL{K:OF}{S:String}(hS:S∈["NoneType","bool","int","str","tuple","list","dict"]):∀{Ts:List String},(∀T∈Ts,iW K T)->W.kitAny K (.type S) (Ts.map SX)=some (Ts.any λT=>S==T||(S=="bool"&&T=="int"))
 |[],_=>rfl
 |T::Ts,h=>by
  have h1:=h T Pc S hS;have ih:=cL hS (Ts:=Ts) λU hU=>h U (OZ _ hU);rw[OY,W.kitAny,h1,QX];cases (S==T||(S=="bool"&&T=="int")) with
  |true=>rfl
  |false=>rw[SW];exact ih
theorem n9:∀{Ts:List String}{us:List OB},bq (Ts.map V.ty) us->us=Ts.map SX
 |[],_,.nil=>rfl
 |T::Ts,_,.cons r t=>by rw[n9 t];obtain rfl:_=SX T:=r;rfl
section
variable {X:Cx}{E:XK}{e a:Pd}{es:List Pd}{f:al}{pos:Pos}
def FA{Ts:List String}(hk:∀T∈Ts,iW X.K T):gK X (.builtin "isinstance") (λvs H Q=>∃x v p,vs=[v,.ref p]/\H p=some (.tup (Ts.map V.ty))/\Rep X.K H x v/\wI x=true/\Q (.bl (Ew Ts x)) H):=by
 intro π s σ H xs us Q I r h;obtain⟨x,v,p,rfl,hp,h1,h2,q⟩:=h;cases r with
 |cons r1 r2=>
  cases r2 with
  |cons r3 r4=>
   cases r4;rename_i u1 u2;obtain rfl:u2=Ph p:=r3;obtain⟨_,its,rv,ob,k1,k2,n,k3⟩:=I.hok p _ hp;obtain rfl:=n9 rv;obtain⟨oc,od,odt,osl⟩:=ob;cases k2;cases k3;have fin:∀tk,∃w' H',L2.Inv X π σ H' { s with toks:=tk }/\bA w' (.bool (Ew Ts x))/\Q w' H':=λtk=>⟨.bl (Ew Ts x),H,I.tok _,rfl,q⟩
   cases x with
   |non=>rw[aP.mp h1]at r1;cases (show u1=PZ from r1);exact Sy W.kitx_none I.kIn Qa k1 (cL (by simp) hk) (λz=>nomatch z) fin|bl b=>rw[aH.mp h1]at r1;cases (show u1=P5 b from r1);exact Sy W.kitx_bool I.kIn Qa k1 (cL (by simp) hk) (λz=>nomatch z) fin|int b=>rw[aD.mp h1]at r1;obtain⟨t,q⟩:=(show ∃t,u1=QF b t from r1);cases q;exact Sy W.kitx_int I.kIn Qa k1 (cL (by simp) hk) (λz=>nomatch z) fin|str b=>rw[Rep.str_iff.mp h1]at r1;obtain⟨t,q⟩:=(show ∃t,u1=QE b t from r1);cases q;exact Sy W.kitx_str I.kIn Qa k1 (cL (by simp) hk) (λz=>nomatch z) fin
   |tup ds=>
    obtain⟨a,vs,its,rfl,rfl,h1,h2,h3,h4,_⟩:=bo I h1 r1;obtain⟨o,k1',k2',_⟩:=h4;exact Sy Ut I.kIn ⟨o,k1',k2'⟩ k1 (cL (by simp) hk) (λz=>nomatch z) fin
   |lst ds=>
    obtain⟨a,vs,its,rfl,rfl,h1,h2,h3,h4,_⟩:=aU I h1 r1;obtain⟨o,k1',k2',_⟩:=h4;exact Sy TH I.kIn ⟨o,k1',k2'⟩ k1 (cL (by simp) hk) (λz=>nomatch z) fin
   |dic ks ds=>
    rw[Rep]at h1;obtain⟨a,kvs,vs,rfl,h1,h2,_⟩:=h1;cases (show u1=Ph a from r1);obtain⟨_,_,vs',_,p'⟩:=h1.ok I.hok;obtain⟨o,es,ep,k1',k2',_⟩:=p';exact Sy SK I.kIn ⟨o,k1',k2'.1⟩ k1 (cL (by simp) hk) (λz=>nomatch z) fin
   |exc _|ob _ _=>cases h2
structure TN (X:Cx) (es:List Pd) (Ts:List String):Prop where
 o:PA X es (λσ H Q=>Q (Ts.map V.ty) H)
 k:∀T∈Ts,iW X.K T
def HQ:TN X [] []:=⟨eF,λ_ h=>nomatch h⟩
def xZ{x:OO}{p:Pos}{T:String}{Ts:List String}(hk:iW X.K T)(hg:Gl X x)(hm:X.mg x=none)(hv:bootBuiltins x=some (.type T))(h:TN X es Ts)(hn:x≠"__name__":=by decide)(hdb:(x==("__debug__" : OO))=false:=by decide):TN X (.Name x p::es) (T::Ts) :=
 ⟨cw (yx (v:=.ty T) hg hm hv rfl hn hdb) h.o (aM rfl),λU hU=>by
  rcases OU.mp hU with rfl|hU
  .exact hk
  .exact h.k U hU⟩
def GA{p1 p2:Pos}{k2}{Ts:List String}(hc:TN X es Ts)(hgi:Gl X "isinstance")(hmi:X.mg "isinstance"=none)(ha:DE X E a f)(hl:Ts.length<=30:=by decide)
  (he:OJ [a,.Tuple es k2 p2] X.env=(false,eval a X.env)::OJ [.Tuple es k2 p2] X.env:=by exact aM rfl)(he2:OJ [.Tuple es k2 p2] X.env=(false,eval (.Tuple es k2 p2) X.env)::OJ [] X.env:=by exact aM rfl)(hpl:(PN pos (OJ [.Tuple es k2 p2] X.env)).any (·.1)=false:=by exact bw rfl) :
  DE X E (.Call (.Name "isinstance" p1) [a,.Tuple es k2 p2] [] pos) (bh f (tN Ts)):=by
 refine⟨?_⟩;refine aX (oN (FA hc.k) hgi hmi PyProof.Rows.Boot.«isinstance» (cw ha.o (cw (B3 hc.o) eF he2) he) (by decide) (by decide) he hpl) λσ H Q z9=>?_;obtain⟨Ha,ρ,hs,hr,q⟩:=z9;refine⟨Ha,ρ,hs,hr,?_⟩
 unfold bh at q;cases e1:f ρ with
 |stuck|exn x=>rw[e1]at q;exact q
 |ok d=>
  rw[e1]at q;intro v H1 H01 g1 r1;have q:post X.K E H Ha (tN Ts d) Q:=q;unfold tN at q
  by_cases hp:wI d=true
  .rw[if_pos hp]at q
   refine⟨?_,λp hp'=>?_⟩
   .rw[OH];exact Pe hl (by decide)
   .have ga:=aL (o:=.tup (Ts.map V.ty)) g1.sub hp'
    exact⟨d,v,p,rfl,aG,(r1.mono g1.sub).mono ga.s,hp,q _ _ _ (g1.trans ga) (rb _)⟩
  .rw[if_neg hp]at q;exact q.elim
end
mutual
def bQ:D->Bool
 |.tup ds=>plainDs ds
 |.lst ds=>plainDs ds
 |.dic _ _=>false
 |.exc _=>false
 |.ob _ _=>false
 |_=>true
def plainDs:ac->Bool
 |[]=>true
 |d::ds=>bQ d&&plainDs ds
end
mutual
/-- the cells of a tree -/
def Ft(K:OF)(H:Hp):D->V->OG->Prop
 |.tup ds,v,b=>∃a vs,v=.ref a/\((b=a/\Rd H a (.tup vs))∨(gT K H a vs/\Fts K H ds vs b))
 |.lst ds,v,b=>∃a vs,v=.ref a/\((b=a/\Rd H a (.lst vs)/\Reps K H ds vs)∨(df K H a vs/\Reps K H ds vs/\Fts K H ds vs b))
 |_,_,_=>False
def Fts(K:OF)(H:Hp):ac->ad->OG->Prop
 |d::ds,v::vs,b=>Ft K H d v b∨Fts K H ds vs b
 |_,_,_=>False
end
open Classical in
noncomputable def rst(H:Hp) (S:OG->Prop):Hp:=λb=>if S b then H b else none
def lW{H:Hp}{S:OG->Prop}{b:OG}(h:S b):rst H S b=H b:=if_pos h
def BF{H:Hp}{S:OG->Prop}:aF (rst H S) H:=λb o e=>by
 unfold rst at e;split at e
 .exact e
 .cases e
def yl{H:Hp}{S:OG->Prop}{b:OG}(h:rst H S b≠none):S b:=by
 unfold rst at h;split at h
 .assumption
 .exact absurd rfl h
def BG{H:Hp}{S:OG->Prop}{b:OG}{u:HO}(h:S b)(r:Rd H b u):Rd (rst H S) b u:=by
 unfold Rd;rw[lW h];exact r
mutual
theorem Rep.rst{K:OF}{H:Hp}{S:OG->Prop}:∀{d:D}{v:V},bQ d=true->Rep K H d v->(∀b,Ft K H d v b->S b)->Rep K (rst H S) d v
 |.non,_,_,h,_=>by unfold Rep at h ⊢;exact h
 |.bl _,_,_,h,_=>by unfold Rep at h ⊢;exact h
 |.int _,_,_,h,_=>by unfold Rep at h ⊢;exact h
 |.str _,_,_,h,_=>by unfold Rep at h ⊢;exact h
 |.tup ds,_,p,h,s=>by
  obtain⟨a,vs,rfl,e2,e3⟩:=aI.mp h;unfold bQ at p;refine aI.mpr ⟨a,vs,rfl,?_,Reps.rst p e3 λb hb=>s b (by unfold Ft;exact⟨a,vs,rfl,.inr ⟨e2,hb⟩⟩)⟩;rcases e2 with e2|e2
  .exact .inl (BG (s a (by unfold Ft;exact⟨a,vs,rfl,.inl ⟨rfl,e2⟩⟩)) e2)
  .exact .inr e2
 |.lst ds,_,p,h,s=>by
  obtain⟨a,vs,rfl,e2,e3⟩:=aA.mp h;unfold bQ at p;refine aA.mpr ⟨a,vs,rfl,?_,Reps.rst p e3 λb hb=>s b (by unfold Ft;exact⟨a,vs,rfl,.inr ⟨e2,e3,hb⟩⟩)⟩;rcases e2 with e2|e2
  .exact .inl (BG (s a (by unfold Ft;exact⟨a,vs,rfl,.inl ⟨rfl,e2,e3⟩⟩)) e2)
  .exact .inr e2
 |.dic _ _,_,p,_,_=>by unfold bQ at p;cases p
 |.exc _,_,p,_,_=>by unfold bQ at p;cases p
 |.ob _ _,_,p,_,_=>by unfold bQ at p;cases p
theorem Reps.rst{K:OF}{H:Hp}{S:OG->Prop}:∀{ds:ac}{vs:ad},plainDs ds=true->Reps K H ds vs->(∀b,Fts K H ds vs b->S b)->Reps K (rst H S) ds vs
 |[],_,_,h,_=>by rw[Reps.nil_iff.mp h];exact Reps.nil
 |d::ds,_,p,h,s=>by
  obtain⟨v,r,rfl,h1,h2⟩:=aC.mp h;unfold plainDs at p;rw[O4]at p;exact Reps.cons (Rep.rst p.1 h1 λb hb=>s b (by unfold Fts;exact .inl hb)) (Reps.rst p.2 h2 λb hb=>s b (by unfold Fts;exact .inr hb))
end
def Vw(A:OG->Prop)(H H2:Hp):Prop:=∀c,H2 c=H c∨(A c/\∃o u,H c=some (.frz o u)/\H2 c=some u)
def Vw.keep{A:OG->Prop}{H H2:Hp}(v:Vw A H H2){c:OG}{u:HO}(e:H c=some u)(n:∀o w,u≠.frz o w):H2 c=some u:=by
 rcases v c with h|⟨_,o,w,h,_⟩
 .rw[h];exact e
 .rw[e]at h;cases h;exact absurd rfl (n o w)
def Vw.rd{A:OG->Prop}{H H2:Hp}(v:Vw A H H2){c:OG}{u:HO}(r:Rd H c u)(n:∀o w,u≠.frz o w):Rd H2 c u:=by
 rcases r with r|⟨o,r⟩
 .exact .inl (v.keep r n)
 .rcases v c with h|⟨_,o',w,h,h2⟩
  .exact .inr ⟨o,by rw[h];exact r⟩
  .rw[r]at h;cases h;exact .inl h2
def Vw.none{A:OG->Prop}{H H2:Hp}(v:Vw A H H2){c:OG}(e:H c=TL):H2 c=TL:=by
 rcases v c with h|⟨_,o',w,h,h2⟩
 .rw[h];exact e
 .rw[e]at h;cases h
theorem vY.view{K:OF}{A:OG->Prop}{H H':Hp}(e:Vw A H H'):∀{k:Kd}{a:OG}{vs:ad},vY K H k a vs->vY K H' k a vs
 |.ins c ks,a,vs,⟨C,dx,h0,h1,h2,h3⟩=>⟨C,dx,h0,h1,e.keep h2 (λ_ _ z=>by cases z),h3⟩
 |.dint ks,a,vs,⟨kvs,h1,h2,h3⟩=>⟨kvs,e.rd h1 (λ_ _ z=>by cases z),h2,h3⟩
 |.exf c ks,a,vs,⟨C,dx,fs,h1,h2,h3,h4⟩=>⟨C,dx,fs,h1,e.rd h2 (λ_ _ z=>by cases z),e.keep h3 (λ_ _ z=>by cases z),h4⟩
 |.pl,a,vs,h=>e.keep h (λ_ _ z=>by cases z)
mutual
theorem Rep.view{K:OF}{A:OG->Prop}{H H':Hp}(e:Vw A H H'):∀{d:D}{v:V},Rep K H d v->Rep K H' d v
 |.non,_,h=>by unfold Rep at h ⊢;exact h
 |.bl _,_,h=>by unfold Rep at h ⊢;exact h
 |.int _,_,h=>by unfold Rep at h ⊢;exact h
 |.str _,_,h=>by unfold Rep at h ⊢;exact h
 |.tup ds,_,h=>by
  unfold Rep at h ⊢;obtain⟨a,vs,e1,e2,e3⟩:=h;exact⟨a,vs,e1,e2.imp (λr=>e.rd r (λ_ _ z=>by cases z)) id,Reps.view e e3⟩
 |.lst ds,_,h=>by
  unfold Rep at h ⊢;obtain⟨a,vs,e1,e2,e3⟩:=h;exact⟨a,vs,e1,e2.imp (λr=>e.rd r (λ_ _ z=>by cases z)) id,Reps.view e e3⟩
 |.dic ks ds,_,h=>by
  unfold Rep at h ⊢;obtain⟨a,kvs,vs,e1,e2,e3,e4,e5⟩:=h;exact⟨a,kvs,vs,e1,e.rd e2 (λ_ _ z=>by cases z),e3,e4,Reps.view e e5⟩
 |.exc x,_,h=>by
  unfold Rep at h ⊢;obtain⟨a,C,dc,e1,e2,e3⟩:=h;exact⟨a,C,dc,e1,e2,e.rd e3 (λ_ _ z=>by cases z)⟩
 |.ob k ds,_,h=>by
  unfold Rep at h ⊢;obtain⟨a,vs,e1,e2,e3⟩:=h;exact⟨a,vs,e1,e2.view e,Reps.view e e3⟩
theorem Reps.view{K:OF}{A:OG->Prop}{H H':Hp}(e:Vw A H H'):∀{ds:ac}{vs:ad},Reps K H ds vs->Reps K H' ds vs
 |[],_,h=>by unfold Reps at h ⊢;exact h
 |d::ds,_,h=>by
  unfold Reps at h ⊢;obtain⟨v,r,e1,e2,e3⟩:=h;exact⟨v,r,e1,Rep.view e e2,Reps.view e e3⟩
end
def bB.view{P:O5}{w:Pt}{A:OG->Prop}{H H2:Hp}{h:OL}{a:OG}{o:HO}(v:Vw A H H2)(x:bB P w H h a o):bB P w H2 h a o :=
 x.stay (λb u _ q=>q) (λb q=>v.keep q (λ_ _ z=>by cases z)) λb xs q=>v.keep q (λ_ _ z=>by cases z)
def A4(ρ:Ev):Bool:=ρ.all λs=>match s with
 |.ow _=>false
 |.ox _ _=>false
 |_=>true
section
variable {K:OF}{He η Ha H H2:Hp}{σ:L2.St}{ρ:Ev}{a:OG}{st:ac}{vs:ad}
def A4.ow(h:A4 ρ=true){i:Nat}{d:D}(e:ρ[i]?=some (.ow d)):False:=by
 have:=Pr.mp h _ (O1 e);cases this
def A4.ox(h:A4 ρ=true){i j:Nat}{ds:ac}(e:ρ[i]?=some (.ox j ds)):False:=by
 have:=Pr.mp h _ (O1 e);cases this
def dJ.poke(h:dJ K He η Ha σ H ρ)(n:A4 ρ=true)(hs:aF He H2)(hz:aF Ha H2):dJ K He η Ha σ H2 ρ :=
 ⟨⟨hs,h.g.z,hz,h.g.nw⟩,h.rd,λi d e=>(A4.ow n e).elim,λi j d d' _ e=>(A4.ow n e).elim,h.ln,⟨λi j ds e=>(A4.ox n e).elim,h.ex.2⟩⟩
def dJ.dropT(h:dJ K He η Ha σ H ρ){i:Nat}{v:V}:dJ K He η Ha (σ.set i (some v)) H (ρ.set i .no):=by
 have key:∀(j:Nat) (s:Sl),(ρ.set i .no)[j]?=some s->s=.no∨(j≠i/\ρ[j]?=some s):=λj s e=>by
  by_cases hj:i=j
  .subst hj
   rw[Q1]at e;cases q:ρ[i]? with|none=>rw[q]at e;cases e|some s'=>rw[q]at e;cases e;exact .inl rfl
  .rw[OQ hj]at e
   exact .inr ⟨λz=>hj z.symm,e⟩
 refine⟨h.g,λj d' e=>?_,λj d' e=>?_,λj k d1 d2 hn e1 e2=>?_,by simp[h.ln],h.ex.upd (λj s e=>?_) (aF.refl _) (λa vs _ e=>e) λp us _ h0 hp _=>⟨hp,h0⟩⟩
 .rcases key j _ e with e'|⟨hj,e'⟩
  .cases e'
  .obtain⟨v',h1,h2⟩:=h.rd j d' e'
   exact⟨v',by rw[OQ (Px hj)];exact h1,h2⟩
 .rcases key j _ e with e'|⟨hj,e'⟩
  .cases e'
  .obtain⟨b,h1,h2⟩:=h.ow j d' e'
   exact⟨b,by rw[OQ (Px hj)];exact h1,h2⟩
 .rcases key j _ e1 with e'|⟨hj,e1'⟩
  .cases e'
  rcases key k _ e2 with e'|⟨hk,e2'⟩
  .cases e'
  rw[OQ (Px hj),OQ (Px hk)];exact h.ap j k d1 d2 hn e1' e2'
 .rcases key j _ e with e'|⟨hj,e'⟩
  .exact .inr (.inr (.inl e'))
  .exact .inl ⟨e',by rw[OQ (Px hj)]⟩
end
def C0{He Ha H H':Hp}(s:aF H H'):aF (frz He Ha H) (frz He Ha H'):=λc o e=>by
 unfold frz at e ⊢;cases q:He c with|none=>rw[q]at e;exact s _ _ e|some _=>rw[q]at e;exact e
def vx(x:Nat)(d:D)(ρ:Ev):Ev:=(gu ρ).set x (.sh d)
section
variable {X:Cx}{E:XK}{He η:Hp}{a:OG}{x:Nat}{st:Qt}{rest:List Qt}{e b c:Pd}{pos:Pos}{f fk:al}{g:D->Ev->ac->aj MFl}{s r:Ev->ac->aj MFl}
def rm(js:cr)(ρ:Ev):Ev:=ρ.mapIdx λi s=>if js.contains i then s else .no
def CI{js:cr}{ρ:Ev}{i:Nat}{d:D}(h:(rm js ρ)[i]?=some (.sh d)):i∈js/\ρ[i]?=some (.sh d):=by
 unfold rm at h;rw[List.getElem?_mapIdx]at h;cases q:ρ[i]? with
 |none=>rw[q]at h;cases h
 |some s=>
  rw[q]at h;simp only[Q7,Qx]at h
  by_cases c:js.contains i=true
  .rw[if_pos c]at h;exact⟨by simpa using c,by rw[h]⟩
  .rw[if_neg c]at h;cases h
end
mutual
/-- .. seen as any list -/
def fgt:D->D
 |.tup ds=>.tup (fgts ds)
 |.lst ds=>.lst (fgts ds)
 |.dic ks ds=>.dic ks (fgts ds)
 |.ob k ds=>match k with
  |.pl=>.lst (fgts ds)
  |k=>.ob k (fgts ds)
 |.non=>.non
 |.bl b=>.bl b
 |.int i=>.int i
 |.str x=>.str x
 |.exc x=>.exc x
def fgts:ac->ac
 |[]=>[]
 |d::ds=>fgt d::fgts ds
end
mutual
theorem Rep.fgt{K:OF}{H:Hp}:∀{d:D}{v:V},Rep K H d v->Rep K H (fgt d) v
 |.non,_,h=>by rw[DL.fgt];exact h
 |.bl _,_,h=>by rw[DL.fgt];exact h
 |.int _,_,h=>by rw[DL.fgt];exact h
 |.str _,_,h=>by rw[DL.fgt];exact h
 |.exc _,_,h=>by rw[DL.fgt];exact h
 |.tup ds,_,h=>by
  obtain⟨a,vs,e1,e2,e3⟩:=aI.mp h;rw[DL.fgt];exact aI.mpr ⟨a,vs,e1,e2,Reps.fgt e3⟩
 |.lst ds,_,h=>by
  obtain⟨a,vs,e1,e2,e3⟩:=aA.mp h;rw[DL.fgt];exact aA.mpr ⟨a,vs,e1,e2,Reps.fgt e3⟩
 |.dic ks ds,_,h=>by
  rw[Rep]at h;obtain⟨a,kvs,vs,e1,e2,e3,e4,e5⟩:=h;rw[DL.fgt,Rep];exact⟨a,kvs,vs,e1,e2,e3,e4,Reps.fgt e5⟩
 |.ob k ds,_,h=>by
  obtain⟨a,vs,e1,e2,e3⟩:=ck.mp h;cases k with
  |pl=>rw[DL.fgt];exact aA.mpr ⟨a,vs,e1,df.of e2,Reps.fgt e3⟩
  |ins c ks=>rw[DL.fgt]<;>first|exact ck.mpr ⟨a,vs,e1,e2,Reps.fgt e3⟩|(intro z;cases z)
  |dint ks=>rw[DL.fgt]<;>first|exact ck.mpr ⟨a,vs,e1,e2,Reps.fgt e3⟩|(intro z;cases z)
  |exf c ks=>rw[DL.fgt]<;>first|exact ck.mpr ⟨a,vs,e1,e2,Reps.fgt e3⟩|(intro z;cases z)
theorem Reps.fgt{K:OF}{H:Hp}:∀{ds:ac}{vs:ad},Reps K H ds vs->Reps K H (fgts ds) vs
 |[],_,h=>by rw[fgts];exact h
 |d::ds,_,h=>by
  obtain⟨v,r,rfl,h1,h2⟩:=aC.mp h;rw[fgts];exact Reps.cons (Rep.fgt h1) (Reps.fgt h2)
end
section
variable {X:Cx}{E:XK}{e:Pd}{f:al}
def DD(f:al):al:=λρ=>(f ρ).bind λd=>.ok (fgt d)
def tM(he:DE X E e f):DE X E e (DD f):=⟨aX he.o λσ H Q ⟨Ha,ρ,hs,hr,q⟩=>⟨Ha,ρ,hs,hr,by
 unfold DD at q;cases e1:f ρ with
 |stuck|exn x=>rw[e1]at q;exact q
 |ok d=>rw[e1]at q;exact λv H' Ha' g r=>q v H' Ha' g r.fgt⟩⟩
def Nk(d:D):aj D:=match d with
 |.lst ds=>.ok (.ob .pl ds)
 |_=>.stuck
def wK(f:al):al:=λρ=>(f ρ).bind Nk
def Mh(he:DF X E e f):DE X E e (wK f):=⟨aX he.o λσ H Q ⟨Ha,ρ,hs,hr,q⟩=>⟨Ha,ρ,hs,hr,by
 unfold wK at q;cases e1:f ρ with
 |stuck|exn x=>rw[e1]at q;exact q
 |ok d=>
  rw[e1]at q;cases d with
  |lst ds=>
   intro p vs H' Ha' g hp h0 hv rp;have z:aF Ha' (upd Ha' p (.lst vs)):=λb o e=>by rw[aE (by intro z;subst z;rw[h0]at e;cases e)];exact e
   refine q (.ref p) H' (upd Ha' p (.lst vs)) ⟨g.s,g.z.trans z,λb o e=>?_,λb h1 h2=>?_⟩ (ck.mpr ⟨p,vs,rfl,aG,rp.mono z⟩)
   .by_cases c:b=p
    .subst c;rw[aG]at e;cases e;exact hv
    .rw[aE c]at e;exact g.sub _ _ e
   .by_cases c:b=p
    .subst c;exact hp
    .rw[aE c]at h1;exact g.nw b h1 h2
  |_=>exact q.elim⟩⟩
end
def NN(J Jf:Hp):Prop:=∀c,Jf c=J c∨∃us o,J c=some (.lst us)/\Jf c=some (.frz o (.lst us))
mutual
theorem Rep.frv{K:OF}{J Jf:Hp}(e:NN J Jf):∀{d:D}{v:V},bQ d=true->Rep K J d v->Rep K Jf d v
 |.non,_,_,h=>by unfold Rep at h ⊢;exact h
 |.bl _,_,_,h=>by unfold Rep at h ⊢;exact h
 |.int _,_,_,h=>by unfold Rep at h ⊢;exact h
 |.str _,_,_,h=>by unfold Rep at h ⊢;exact h
 |.tup ds,_,p,h=>by
  obtain⟨a,vs,rfl,e2,e3⟩:=aI.mp h;unfold bQ at p;refine aI.mpr ⟨a,vs,rfl,e2.imp (λr=>?_) id,Reps.frv e p e3⟩;rcases e a with q|⟨us,o,q,_⟩
  .unfold Rd;rw[q];exact r
  .rcases r with r|⟨_,r⟩<;>rw[q]at r<;>cases r
 |.lst ds,_,p,h=>by
  obtain⟨a,vs,rfl,e2,e3⟩:=aA.mp h;unfold bQ at p;refine aA.mpr ⟨a,vs,rfl,e2.imp (λr=>?_) id,Reps.frv e p e3⟩;rcases e a with q|⟨us,o,q,q2⟩
  .unfold Rd;rw[q];exact r
  .rcases r with r|⟨_,r⟩
   .rw[q]at r;cases r;exact .inr ⟨o,q2⟩
   .rw[q]at r;cases r
 |.dic _ _,_,p,_=>by unfold bQ at p;cases p
 |.exc _,_,p,_=>by unfold bQ at p;cases p
 |.ob _ _,_,p,_=>by unfold bQ at p;cases p
theorem Reps.frv{K:OF}{J Jf:Hp}(e:NN J Jf):∀{ds:ac}{vs:ad},plainDs ds=true->Reps K J ds vs->Reps K Jf ds vs
 |[],_,_,h=>by rw[Reps.nil_iff.mp h];exact Reps.nil
 |d::ds,_,p,h=>by
  obtain⟨v,r,rfl,h1,h2⟩:=aC.mp h;unfold plainDs at p;rw[O4]at p;exact Reps.cons (Rep.frv e p.1 h1) (Reps.frv e p.2 h2)
end
open Classical in
noncomputable def qB(h:OL) (S:OG->Prop) (H:Hp):Hp:=λc=>match H c with
 |some (.lst us)=>if S c then(match h.get? c with|some o=>some (.frz o (.lst us))|none=>some (.lst us)) else some (.lst us)
 |o=>o
open Classical in
noncomputable def mZ(S:OG->Prop) (H H1:Hp):Hp:=λc=>if S c/\∃us,H c=some (.lst us) then H c else H1 c
section
variable {h:OL}{S:OG->Prop}{H H1:Hp}{c:OG}
def yV{us:ad}{o:Obj}(hc:S c)(e:H c=some (.lst us))(eo:h.get? c=some o):qB h S H c=some (.frz o (.lst us)):=by
 unfold qB;rw[e];simp only;rw[if_pos hc,eo]
def ig(hc:¬(S c/\∃us,H c=some (.lst us))):qB h S H c=H c:=by
 unfold qB;cases q:H c with
 |none=>rfl
 |some o=>
  cases o with|lst us=>simp only;rw[if_neg λz=>hc ⟨z,us,q⟩]| _=>rfl
def lu(hc:S c/\∃us,H c=some (.lst us)):mZ S H H1 c=H c:=if_pos hc
def iw(hc:¬(S c/\∃us,H c=some (.lst us))):mZ S H H1 c=H1 c:=if_neg hc
def FF{P:O5}{w:Pt}(ok:fv P w H h):fv P w (qB h S H) h:=λa o e=>by
 have st:∀{u:HO},bB P w H h a u->bB P w (qB h S H) h a u:=λx=>x.stay (λb u _ q=>q) (λb q=>by rw[ig (λz=>by obtain⟨_,us,z⟩:=z;rw[q]at z;cases z)];exact q) λb xs q=>by rw[ig (λz=>by obtain⟨_,us,z⟩:=z;rw[q]at z;cases z)];exact q
 by_cases hc:S a/\∃us,H a=some (.lst us)
 .obtain⟨h1,us,ea⟩:=hc
  have x:=ok a _ ea;obtain⟨_,its,n,_,eo⟩:=id x;rw[yV h1 ea eo]at e;cases e;exact⟨eo,st x⟩
 .rw[ig hc]at e;exact st (ok a o e)
end
mutual
theorem Ft.some_of{K:OF}{H:Hp}{b:OG}:∀{d:D}{v:V},Ft K H d v b->H b≠none
 |.non,_,h=>by unfold Ft at h;exact h.elim
 |.bl _,_,h=>by unfold Ft at h;exact h.elim
 |.int _,_,h=>by unfold Ft at h;exact h.elim
 |.str _,_,h=>by unfold Ft at h;exact h.elim
 |.dic _ _,_,h=>by unfold Ft at h;exact h.elim
 |.exc _,_,h=>by unfold Ft at h;exact h.elim
 |.ob _ _,_,h=>by unfold Ft at h;exact h.elim
 |.tup ds,_,h=>by
  unfold Ft at h;obtain⟨a,vs,rfl,⟨rfl,h⟩|⟨_,h⟩⟩:=h
  .rcases h with h|⟨_,h⟩<;>rw[h]<;>simp
  .exact Fts.some_of h
 |.lst ds,_,h=>by
  unfold Ft at h;obtain⟨a,vs,rfl,⟨rfl,h,_⟩|⟨_,_,h⟩⟩:=h
  .rcases h with h|⟨_,h⟩<;>rw[h]<;>simp
  .exact Fts.some_of h
theorem Fts.some_of{K:OF}{H:Hp}{b:OG}:∀{ds:ac}{vs:ad},Fts K H ds vs b->H b≠none
 |[],_,h=>by unfold Fts at h;exact h.elim
 |d::ds,[],h=>by unfold Fts at h;exact h.elim
 |d::ds,v::vs,h=>by
  unfold Fts at h;rcases h with h|h
  .exact Ft.some_of h
  .exact Fts.some_of h
end
def NV(r:Fl):aj Fl:=match r with
 |.rt d=>.ok (.rt d)
 |_=>.stuck
end DL
namespace Zt
open PySem PySem.Spec PyProof.Rows
def nn{a b c d:OG}(h:c=a∨c=b)(h1:a≠d)(h2:b≠d):c≠d:=by
 rcases h with h|h<;>rw[h]<;>assumption
structure jU (P:O5) (w:Pt) (i l:OG) (xs:Array OB) (St:Nat->OL->Prop):Prop where
 stay:∀{k:Nat}{h h':OL},St k h->(∀c o,c=i∨c=l->h.get? c=some o->h'.get? c=some o)->St k h'
 there:∀{k:Nat}{h:OL},St k h->∃o,h.get? i=some o/\∀v,o.data≠.cell v
 draw:∀{A:Pu}{E:OB->OE->Prop}{s:OE}{k:Nat}{x:OB}{Q:OB->OE->Prop},St k s.heap->xs[k]?=some x->(∀h',St (k+1) h'->QI i s.heap h'->Q x { s with heap:=h' }) ->
  OS (OW P w) A (Pk (.ref i)) Q E s
 over:∀{A:Pu}{E:OB->OE->Prop}{s:OE}{k:Nat}{Q:OB->OE->Prop},A.handled=none->St k s.heap->xs[k]?=none ->
  (∀h' e,QW i s.heap h'->(∃o,h'.get? e=some o/\o.cls=.type "StopIteration")->E (.ref e) { s with heap:=h' })->OS (OW P w) A (Pk (.ref i)) Q E s
section
variable {P:O5}{w:Pt}{A:Pu}{E:OB->OE->Prop}{s:OE}
def Bm{i t:OG}{k:Nat}{xs:Array OB}{x:OB}{Q:OB->OE->Prop}(hi:s.heap.IsTupleIter i t k)(ht:s.heap.IsTuple t xs)(hx:xs[k]?=some x)
  (hq:∀h',h'.IsTupleIter i t (k+1)->QI i s.heap h'->Q x { s with heap:=h' }):OS (OW P w) A (Pk (.ref i)) Q E s:=by
 obtain⟨oi,gi,ci,di⟩:=id hi;obtain⟨ot,gt,_,nt,dt⟩:=ht;unfold Pk;refine OC (wpAny_callSpecial?_slot (name:=RV "__next__") hi.typeIs Rp (wpAny_call_entry Rp hi.typeIs T4 ?_ (TX _)));show OS _ _ (field (.ref i) 0 >>= _) _ _ s;refine OC (wpAny_field gi di (x:=.ref t) rfl ?_);show OS _ _ (if(Ph t==PZ)=true then _ else _) _ _ s;rw[if_neg (show ¬((Ph t==PZ)=true) from λz=>nomatch z)];show OS _ _ (field (.ref i) 1 >>= _) _ _ s;refine OC (wpAny_field gi di (x:=.int k 0) rfl ?_);show OS _ _ (seqItems? (.ref t) >>= _) _ _ s;refine OC (wpAny_seqItems gt dt ?_);simp only[Qs,hx];refine OC (wpAny_setField gi di (by simp) (ON ⟨x,rfl,ON (hq _ ⟨_,Qb _ gi (Rg (QG di _)),(Tf ..).trans ci,?_⟩ (U6 ..))⟩));rw[QG di];simp[rawInt]
def Bl{i t:OG}{k:Nat}{xs:Array OB}{Q:OB->OE->Prop}(hA:A.handled=none)(hi:s.heap.IsTupleIter i t k)(ht:s.heap.IsTuple t xs)(hx:xs[k]?=none)
  (he:∀h' e,QW i s.heap h'->(∃o,h'.get? e=some o/\o.cls=.type "StopIteration")->E (.ref e) { s with heap:=h' }):OS (OW P w) A (Pk (.ref i)) Q E s:=by
 obtain⟨oi,gi,ci,di⟩:=id hi;obtain⟨ot,gt,_,nt,dt⟩:=ht;unfold Pk;refine OC (wpAny_callSpecial?_slot (name:=RV "__next__") hi.typeIs Rp (wpAny_call_entry Rp hi.typeIs T4 ?_ (TX _)));show OS _ _ (field (.ref i) 0 >>= _) _ _ s;refine OC (wpAny_field gi di (x:=.ref t) rfl ?_);show OS _ _ (if(Ph t==PZ)=true then _ else _) _ _ s;rw[if_neg (show ¬((Ph t==PZ)=true) from λz=>nomatch z)];show OS _ _ (field (.ref i) 1 >>= _) _ _ s;refine OC (wpAny_field gi di (x:=.int k 0) rfl ?_);show OS _ _ (seqItems? (.ref t) >>= _) _ _ s;refine OC (wpAny_seqItems gt dt ?_);simp only[Qs,hx];refine OC (wpAny_rule (OC (wpAny_setField gi di (by simp) ?_)));show OS _ _ (newExc (.type "StopIteration") [] >>= _) _ _ _;refine OC ?_;simp only[newExc,newTuple];refine OC (wpAny_newObj_type ?_ (by size_fits));refine OC (m:=firstArgMember _ _) (wpAny_of_eq (a:=PZ) (by first|rfl|(simp only[firstArgMember];rfl)) (wpAny_newObj_type ?_ (by size_fits)));simp only[raiseNew];refine OC (wpAny_handled ?_)
 first|rw[show A.in1.handled=none from hA]|rw[hA]
 refine OC (ON (wpAny_throw (he _ _ (((U6 ..).extBut.push _).push _) ⟨_,Pf _ rfl,rfl⟩)))
def nL(i t:OG)(xs:Array OB):jU P w i t xs λk h=>h.IsTupleIter i t k/\h.IsTuple t xs where
 stay:=λ⟨⟨o,e,r⟩,⟨o2,e2,r2⟩⟩ kp=>⟨⟨o,kp _ _ (.inl rfl) e,r⟩,⟨o2,kp _ _ (.inr rfl) e2,r2⟩⟩
 there:=λ⟨⟨o,e,_,d⟩,_⟩=>⟨o,e,λv z=>by rw[d]at z;cases z⟩
 draw:=λ{A E s k x Q} ⟨h1,h2⟩ hx hq=>by
  by_cases c:t=i
  .exfalso
   obtain⟨o,e,q,_⟩:=h1;obtain⟨o2,e2,q2,_⟩:=h2;subst c;rw[e]at e2;cases e2;rw[q]at q2;simp at q2
  .exact Bm h1 h2 hx λh' a b=>hq h' ⟨a,h2.extBut b.extBut c⟩ b
 over:=λhA ⟨h1,h2⟩ hx he=>Bl hA h1 h2 hx he
variable {z ti tO i j l m:OG}{k:Nat}{xs ys:Array OB}{S S':Nat->OL->Prop}{a b x y:OB}
def A8(D:ZipApart z ti tO i j l m)(I:jU P w i l xs S)(J:jU P w j m ys S'){Q:OB->OE->Prop}
  (hz:IsZip s.heap z ti tO .none)(hti:IsPair s.heap ti (.ref i) (.ref j))(hto:IsPair s.heap tO a b)(h1:S k s.heap)(h2:S' k s.heap)(hx:xs[k]?=some x)(hy:ys[k]?=some y)
  (hq:∀h',IsZip h' z ti tO (rawInt s.heap.objs.size)->IsPair h' tO x y->S (k+1) h'->S' (k+1) h'->IsPair h' s.heap.objs.size x y->h'.objs.size=s.heap.objs.size+1 ->
   (∀c o,c≠z->c≠tO->c≠i->c≠j->s.heap.get? c=some o->h'.get? c=some o)->Q (.ref s.heap.objs.size) { s with heap:=h' }) :
  OS (OW P w) A (Builtin.«zip.__next__» ⟨[.ref z],[]⟩) (λfin s'=>∃v,fin=.done (.ret v)/\Q v s') E s:=by
 have off:∀{k:Nat}{u u':OL}{c:OG},S k u->QW c u u'->i≠c->l≠c->S k u':=λst e n1 n2=>I.stay st λd o hd g=>e d o (nn hd n1 n2) g;have off':∀{k:Nat}{u u':OL}{c:OG},S' k u->QW c u u'->j≠c->m≠c->S' k u':=λst e n1 n2=>J.stay st λd o hd g=>e d o (nn hd n1 n2) g;show OS _ _ (field (.ref z) 2 >>= _) _ _ _;refine OC (wpAny_field hz rfl (x:=.bool false) rfl ?_);show OS _ _ (field (.ref z) 3 >>= _) _ _ _;refine OC (wpAny_field hz rfl (x:=.ref ti) rfl (OC (wpAny_seqItems hti rfl ?_)));show OS _ _ (Py (.ref z) >>= _) _ _ _;refine OC ?_;unfold Py;refine OC (wpAny_field hz rfl (x:=.none) rfl (ON ?_));simp only[if_true];refine OC (wpAny_rule (OC (wpAny_field hz rfl (x:=.ref tO) rfl (OC (wpAny_setField_rec hz (by simp) λu1 z1 e1=>OC ?_)))));replace z1:IsZip u1 z ti tO .ellipsis:=z1;simp only[List.zipIdx_cons,List.zipIdx_nil,Sd,SO];refine OC (OC (wpAny_onRaise ?_));show OS _ _ (Pk (.ref i) >>= _) _ _ _;refine OC (I.draw (off h1 e1.extBut D.i1z D.l1z) hx λu2 n2 e2=>ON ?_);have p2:IsPair u2 tO a b:=e2.extBut _ _ D.TOi1 (e1.extBut _ _ D.TOz hto);refine OC (wpAny_seqItems p2 rfl (OC (wpAny_updateSeq_pair p2 λu3 p3 e3=>?_)));replace p3:IsPair u3 tO x b:=p3;refine OC (wpAny_letGo (ON (OC (OC (wpAny_onRaise ?_)))));show OS _ _ (Pk (.ref j) >>= _) _ _ _;refine OC (J.draw (off' (off' (off' h2 e1.extBut D.i2z D.l2z) e2.extBut D.i12.symm D.l2i1) e3.extBut D.TOi2.symm D.l2TO) hy λu4 n4 e4=>ON ?_);have p4:IsPair u4 tO x b:=e4.extBut _ _ D.TOi2 p3;refine OC (wpAny_seqItems p4 rfl (OC (wpAny_updateSeq_pair p4 λu5 p5 e5=>?_)));replace p5:IsPair u5 tO x y:=p5;refine OC (wpAny_letGo (ON (ON (OC (wpAny_seqItems p5 rfl (OC (wpAny_newTuple ?_)))))));have sz:u5.objs.size=s.heap.objs.size:=by rw[e5.1,e4.1,e3.1,e2.1,e1.1]
 have z5:IsZip u5 z ti tO .ellipsis:=e5.extBut _ _ D.TOz.symm (e4.extBut _ _ D.i2z.symm (e3.extBut _ _ D.TOz.symm (e2.extBut _ _ D.i1z.symm z1)));have kp:∀c o,c≠z->c≠tO->c≠i->c≠j->s.heap.get? c=some o->u5.get? c=some o:=λc o c1 c2 c3 c4 g=>e5.extBut _ _ c2 (e4.extBut _ _ c4 (e3.extBut _ _ c2 (e2.extBut _ _ c3 (e1.extBut _ _ c1 g))));have s5:S (k+1) u5:=off (off (off n2 e3.extBut D.TOi1.symm D.l1TO) e4.extBut D.i12 D.l1i2) e5.extBut D.TOi1.symm D.l1TO;have t5:S' (k+1) u5:=off' n4 e5.extBut D.TOi2.symm D.l2TO;have zl:z<u5.objs.size:=OT z5;show OS _ _ (SS (.ref z) (.ref u5.objs.size) >>= _) _ _ _;refine OC ?_;unfold SS;have z6:IsZip (u5.push { cls:=.type "tuple",data:=.seq #[x,y] }) z ti tO .ellipsis:=OD _ z5;refine OC (wpAny_setField_rec z6 (by simp) λu7 z7 e7=>?_);replace z7:IsZip u7 z ti tO (rawInt u5.objs.size):=z7;refine wpAny_setField_rec z7 (by simp) λu8 z8 e8=>?_;replace z8:IsZip u8 z ti tO (rawInt u5.objs.size):=z8;have up:∀c o,c≠z->u5.get? c=some o->u8.get? c=some o:=λc o c1 g=>e8.extBut _ _ c1 (e7.extBut _ _ c1 (OD _ g));have t8:IsPair u8 u5.objs.size x y:=e8.extBut _ _ (Qd zl) (e7.extBut _ _ (Qd zl) (Pf _ rfl));have s8:u8.objs.size=u5.objs.size+1:=by rw[e8.1,e7.1,Ro]
 rw[sz]at z8 t8 s8;refine ON ⟨_,rfl,?_⟩;show Q (.ref u5.objs.size) _;rw[sz];exact hq u8 z8 (up _ _ D.TOz p5) (I.stay s5 λc o hc g=>up c o (nn hc D.i1z D.l1z) g) (J.stay t5 λc o hc g=>up c o (nn hc D.i2z D.l2z) g) t8 s8 λc o c1 c2 c3 c4 g=>up c o c1 (kp c o c1 c2 c3 c4 g)
def A7(D:ZipApart z ti tO i j l m)(I:jU P w i l xs S)(J:jU P w j m ys S'){Q:Fin->OE->Prop}(hA:A.handled=none)
  (hz:IsZip s.heap z ti tO .none)(hti:IsPair s.heap ti (.ref i) (.ref j))(hto:IsPair s.heap tO a b)(h1:S k s.heap)(h2:S' k s.heap)(hend:xs[k]?=none∨ys[k]?=none)
  (hE:∀h' e,(∀c o,c≠z->c≠tO->c≠i->c≠j->s.heap.get? c=some o->h'.get? c=some o)->(∃o,h'.get? e=some o/\o.cls=.type "StopIteration")->E (.ref e) { s with heap:=h' }) :
  OS (OW P w) A (Builtin.«zip.__next__» ⟨[.ref z],[]⟩) Q E s:=by
 have off:∀{k:Nat}{u u':OL}{c:OG},S k u->QW c u u'->i≠c->l≠c->S k u':=λst e n1 n2=>I.stay st λd o hd g=>e d o (nn hd n1 n2) g;have off':∀{k:Nat}{u u':OL}{c:OG},S' k u->QW c u u'->j≠c->m≠c->S' k u':=λst e n1 n2=>J.stay st λd o hd g=>e d o (nn hd n1 n2) g;show OS _ _ (field (.ref z) 2 >>= _) _ _ _;refine OC (wpAny_field hz rfl (x:=.bool false) rfl ?_);show OS _ _ (field (.ref z) 3 >>= _) _ _ _;refine OC (wpAny_field hz rfl (x:=.ref ti) rfl (OC (wpAny_seqItems hti rfl ?_)));show OS _ _ (Py (.ref z) >>= _) _ _ _;refine OC ?_;unfold Py;refine OC (wpAny_field hz rfl (x:=.none) rfl (ON ?_));simp only[if_true];refine OC (wpAny_rule (OC (wpAny_field hz rfl (x:=.ref tO) rfl (OC (wpAny_setField_rec hz (by simp) λu1 z1 e1=>OC ?_)))));replace z1:IsZip u1 z ti tO .ellipsis:=z1;simp only[List.zipIdx_cons,List.zipIdx_nil,Sd,SO];refine OC (OC (wpAny_onRaise ?_));show OS _ _ (Pk (.ref i) >>= _) _ _ _;cases hx:xs[k]? with
 |none=>
  refine OC (I.over hA (off h1 e1.extBut D.i1z D.l1z) hx λu2 e e2 z9=>?_);obtain⟨oe,ge,ce⟩:=z9;have z2:IsZip u2 z ti tO .ellipsis:=e2 _ _ D.i1z.symm z1;have ne:e≠z:=λq=>by subst q;rw[z2]at ge;cases ge;simp at ce
  exact wpAny_setField_rec z2 (by simp) λu3 _ e3=>hE u3 e (λc o c1 _ c3 _ g=>e3.extBut _ _ c1 (e2 _ _ c3 (e1.extBut _ _ c1 g))) ⟨oe,e3.extBut _ _ ne ge,ce⟩
 |some x=>
  have hy:ys[k]?=none:=by rcases hend with q|q;rw[hx]at q;cases q;exact q
  refine OC (I.draw (off h1 e1.extBut D.i1z D.l1z) hx λu2 n2 e2=>ON ?_);have p2:IsPair u2 tO a b:=e2.extBut _ _ D.TOi1 (e1.extBut _ _ D.TOz hto);refine OC (wpAny_seqItems p2 rfl (OC (wpAny_updateSeq_pair p2 λu3 p3 e3=>?_)));refine OC (wpAny_letGo (ON (OC (OC (wpAny_onRaise ?_)))));show OS _ _ (Pk (.ref j) >>= _) _ _ _;refine OC (J.over hA (off' (off' (off' h2 e1.extBut D.i2z D.l2z) e2.extBut D.i12.symm D.l2i1) e3.extBut D.TOi2.symm D.l2TO) hy λu4 e e4 z9=>?_);obtain⟨oe,ge,ce⟩:=z9;have z4:IsZip u4 z ti tO .ellipsis:=e4 _ _ D.i2z.symm (e3.extBut _ _ D.TOz.symm (e2.extBut _ _ D.i1z.symm z1));have ne:e≠z:=λq=>by subst q;rw[z4]at ge;cases ge;simp at ce
  exact wpAny_setField_rec z4 (by simp) λu5 _ e5=>hE u5 e (λc o c1 c2 c3 c4 g=>e5.extBut _ _ c1 (e4 _ _ c4 (e3.extBut _ _ c2 (e2.extBut _ _ c3 (e1.extBut _ _ c1 g))))) ⟨oe,e5.extBut _ _ ne ge,ce⟩
def rf(D:ZipApart z ti tO i j l m)(I:jU P w i l xs S)(J:jU P w j m ys S'){Q:Option OB->OE->Prop}
  (hz:IsZip s.heap z ti tO .none)(hti:IsPair s.heap ti (.ref i) (.ref j))(hto:IsPair s.heap tO a b)(h1:S k s.heap)(h2:S' k s.heap)(hx:xs[k]?=some x)(hy:ys[k]?=some y)
  (hq:∀h',IsZip h' z ti tO (rawInt s.heap.objs.size)->IsPair h' tO x y->S (k+1) h'->S' (k+1) h'->IsPair h' s.heap.objs.size x y->h'.objs.size=s.heap.objs.size+1 ->
   (∀c o,c≠z->c≠tO->c≠i->c≠j->s.heap.get? c=some o->h'.get? c=some o)->Q (some (.ref s.heap.objs.size)) { s with heap:=h' }):OS (OW P w) A (RQ (.ref z)) Q E s:=by
 have ty:s.TypeIs (.ref z) "zip":=⟨_,hz,rfl⟩
 unfold RQ;exact OC (wpAny_attempt (wpAny_callSpecial?_slot (name:=RV "__next__") ty QT (wpAny_call_entry QT ty SE
  (A8 D I J hz hti hto h1 h2 hx hy λh' b1 b2 b3 b4 b5 b6 b7=>ON (hq h' b1 b2 b3 b4 b5 b6 b7)) (So _))))
def q9(D:ZipApart z ti tO i j l m)(I:jU P w i l xs S)(J:jU P w j m ys S'){Q:Option OB->OE->Prop}(hA:A.handled=none)
  (hz:IsZip s.heap z ti tO .none)(hti:IsPair s.heap ti (.ref i) (.ref j))(hto:IsPair s.heap tO a b)(h1:S k s.heap)(h2:S' k s.heap)(hend:xs[k]?=none∨ys[k]?=none)
  (hq:∀h',(∀c o,c≠z->c≠tO->c≠i->c≠j->s.heap.get? c=some o->h'.get? c=some o)->Q none { s with heap:=h' }):OS (OW P w) A (RQ (.ref z)) Q E s:=by
 have ty:s.TypeIs (.ref z) "zip":=⟨_,hz,rfl⟩
 unfold RQ;refine OC (wpAny_attempt (wpAny_callSpecial?_slot (name:=RV "__next__") ty QT (wpAny_call_entry QT ty SE (A7 D I J hA hz hti hto h1 h2 hend λh' e kp ⟨o,go,co⟩=>?_) (So _))));exact OC (wpAny_isInstance (T:="StopIteration") (b:=true) ⟨o,go,co⟩ isSubtype_stop (ON (hq _ kp)))
abbrev n1(h:OL)(l:OG):OL:=h.push { cls:=.type "tuple_iterator",data:=.fields #[.ref l,.int 0 0] }
abbrev n2(h:OL)(l m:OG):OL:=n1 (n1 h l) m
abbrev n3(h:OL)(l m:OG):OL:=(n2 h l m).push { cls:=.type "tuple",data:=.seq #[.ref h.objs.size,.ref (n1 h l).objs.size] }
abbrev n4(h:OL)(l m:OG):OL:=(n3 h l m).push { cls:=.type "tuple",data:=.seq #[.none,.none] }
abbrev n5(h:OL)(l m:OG):OL:=(n4 h l m).push { cls:=.type "zip",data:=.fields #[.none,.bool false,.bool false,.ref (n2 h l m).objs.size,.ref (n3 h l m).objs.size] }
def Np(l m:OG)(xs ys:Array OB) :
  Meets (Builtin.«zip.__new__» ⟨[.type "zip",.ref l,.ref m],[]⟩) (λ_ R s=>s.heap.IsTuple l xs/\s.heap.IsTuple m ys/\R (.ok (.ret (.ref (n4 s.heap l m).objs.size))) { s with heap:=n5 s.heap l m }) :=
 .of_wp λprog w A R s h=>by
  obtain⟨hp,g,d,tk,os⟩:=s;obtain⟨t1,t2,h⟩:=h;have hsub:=sub_zip;have u1:UE (UR ⟨hp,g,d,tk,os⟩) l xs:=t1;have u2:UE (UR ⟨hp.push { cls:=.type "tuple_iterator",data:=.fields #[.ref l,.int 0 0] },g,d,tk,os⟩) m ys:=UE.push t2 _
  wp_walk using wpAny_pyIter_tuple u1,wpAny_pyIter_tuple u2
  exact⟨_,rfl,h⟩
end
end Zt
namespace Zt
open PySem PySem.Spec PyProof.Rows L2 DL
section
variable {P:O5}{w:Pt}{A:Pu}{E:OB->OE->Prop}{s:OE}
def call_tups{l m:OG}{xs ys:Array OB}{Q:OB->OE->Prop}(t1:s.heap.IsTuple l xs)(t2:s.heap.IsTuple m ys)
  (h:∀h',IsZip h' (s.heap.objs.size+4) (s.heap.objs.size+2) (s.heap.objs.size+3) .none->IsPair h' (s.heap.objs.size+2) (.ref s.heap.objs.size) (.ref (s.heap.objs.size+1)) ->
   IsPair h' (s.heap.objs.size+3) .none .none->h'.IsTupleIter s.heap.objs.size l 0->h'.IsTupleIter (s.heap.objs.size+1) m 0->(∀c o,s.heap.get? c=some o->h'.get? c=some o)->Q (.ref (s.heap.objs.size+4)) { s with heap:=h' }) :
  OS (OW P w) A (call (.type "zip") [.ref l,.ref m]) Q E s:=by
 refine callType_new F.called_zip (by decide) (F.typeCall_zip_2 _ _) (F.newCall_zip_2 _ _) (λobj=>F.args_object_init_3 obj _ _) F.entry_zip_new (Np l m xs ys) ⟨t1,t2,?_⟩;have y1:(n1 s.heap l).objs.size=s.heap.objs.size+1:=Ro ..;have y2:(n2 s.heap l m).objs.size=s.heap.objs.size+2:=by rw[Ro,y1]
 have y3:(n3 s.heap l m).objs.size=s.heap.objs.size+3:=by rw[Ro,y2]
 have y4:(n4 s.heap l m).objs.size=s.heap.objs.size+4:=by rw[Ro,y3]
 have b5:(n5 s.heap l m).get? (n4 s.heap l m).objs.size=some _:=Pf _ rfl;have b4:(n5 s.heap l m).get? (n3 s.heap l m).objs.size=some _:=OD _ (Pf _ rfl);have b3:(n5 s.heap l m).get? (n2 s.heap l m).objs.size=some _:=OD _ (OD _ (Pf _ rfl));have b2:(n5 s.heap l m).get? (n1 s.heap l).objs.size=some _:=OD _ (OD _ (OD _ (Pf _ rfl)));have b1:(n5 s.heap l m).get? s.heap.objs.size=some _:=OD _ (OD _ (OD _ (OD _ (Pf _ rfl))));show _/\_;rw[y2,y3,y4]at b5;rw[y1,y2]at b3;rw[y3]at b4;rw[y1]at b2;rw[y4];exact⟨⟨_,b5,rfl⟩,h _ b5 b3 b4 ⟨_,b1,rfl,rfl⟩ ⟨_,b2,rfl,rfl⟩ λc o g=>OD _ (OD _ (OD _ (OD _ (OD _ g))))⟩
end
noncomputable def ItzT(K:OF) (a b:OG):It :=
 ⟨λi H=>∃xs ys x y,gT K H a xs/\gT K H b ys/\xs[i]?=some x/\ys[i]?=some y,λi H x H'=>∃p y z,H p=none/\x=.ref p/\(∀xs,gT K H a xs->xs[i]?=some y)/\(∀xs,gT K H b xs->xs[i]?=some z)/\H'=upd H p (.tup [y,z]),
  λi H=>∃xs ys,gT K H a xs/\gT K H b ys/\min xs.length ys.length<=i⟩
def ye{X:Cx}{π:List (OG×Obj)}{σ:L2.St}{H:Hp}{s:OE}{a:OG}{xs ys:ad}(I:Inv X π σ H s)(h:gT X.K H a xs)(h':gT X.K H a ys):xs=ys:=by
 obtain⟨its,r,p,_⟩:=I.tuple h;obtain⟨jts,r',p',_⟩:=I.tuple h';obtain⟨o,g,_,n,d⟩:=p;obtain⟨o',g',_,n',d'⟩:=p';rw[g]at g';cases g';rw[d]at d';cases d';exact r.inj r'
def turn_zipT{P:O5}{w:Pt}{K:OF}{elts:List Pd}{k:Nat}{pos:Pos}(z TI TO i1 i2 a b:OG)(D:ZipApart z TI TO i1 i2 a b) :
  vS P w K (.Tuple elts k pos) (ItzT K a b) [z,TI,TO,i1,i2] z (λi h=>IsZip h z TI TO .none/\IsPair h TI (.ref i1) (.ref i2)/\(∃a b,IsPair h TO a b)/\h.IsTupleIter i1 a i/\h.IsTupleIter i2 b i) where
 mem:=by simp
 obj:=λi h st b hb=>by
  obtain⟨hz,hTI,⟨a',b',hTO⟩,⟨o1,e1,c1,d1⟩,⟨o2,e2,c2,d2⟩⟩:=st;simp only[OU,PR,or_false]at hb;rcases hb with rfl|rfl|rfl|rfl|rfl
  .exact⟨_,hz,λv z=>by cases z⟩
  .exact⟨_,hTI,λv z=>by cases z⟩
  .exact⟨_,hTO,λv z=>by cases z⟩
  .exact⟨_,e1,λv z=>by rw[d1]at z;cases z⟩
  .exact⟨_,e2,λv z=>by rw[d2]at z;cases z⟩
 keep:=λi h h' st k=>by
  obtain⟨hz,hTI,⟨a',b',hTO⟩,h1,h2⟩:=st;exact⟨k z (by simp) _ hz,k TI (by simp) _ hTI,⟨a',b',k TO (by simp) _ hTO⟩,h1.at λo y=>k i1 (by simp) o y,h2.at λo y=>k i2 (by simp) o y⟩
 item:=by
  intro X hP hw hK hc i π s σ H E I hf st hg;subst hP hw hK;obtain⟨xs,ys,x,y,hqx,hqy,hx,hy⟩:=hg;obtain⟨its,rv,p,hz⟩:=I.tuple hqx;obtain⟨jts,rw_,p',hz'⟩:=I.tuple hqy;obtain⟨u,hu,ru⟩:=rv.get hx;obtain⟨u',hu',ru'⟩:=rw_.get hy;have st0:=st;obtain⟨hZ,hTI,⟨a',b',hTO⟩,h1,h2⟩:=st;refine rf D (nL i1 a its.toArray) (nL i2 b jts.toArray) hZ hTI hTO (k:=i) (x:=u) (y:=u') ⟨h1,p⟩ ⟨h2,p'⟩ (by simpa using hu) (by simpa using hu') λh' q1 q2 q3 q4 q5 q6 q7=>?_;refine⟨_,rfl,wpAny_letOwnedTupleGo_zip q1 λh'' r1 r2=>?_⟩;have lt:s.heap.objs.size≠z:=Qd (OT hZ);have kp:∀c o,c∉[z,TI,TO,i1,i2]->s.heap.get? c=some o->h''.get? c=some o:=λc o hc g=>r2.extBut _ _ (λq=>hc (by simp[q])) (q7 c o (λq=>hc (by simp[q])) (λq=>hc (by simp[q])) (λq=>hc (by simp[q])) (λq=>hc (by simp[q])) g);have hT:IsPair h'' s.heap.objs.size u u':=r2.extBut _ _ lt q5;have fr:H s.heap.objs.size=none:=I.hok.fresh (O0 _);refine⟨.ref s.heap.objs.size,upd H s.heap.objs.size (.tup [x,y]),lR (s:=s) (h':=h'') (t':=s.toks) I kp hf (O0 _) ⟨by show 2<=sizeLine;decide,[u,u'],.cons ru (.cons ru' .nil),_,hT,rfl,_,rfl⟩,rfl,⟨_,x,y,fr,rfl,λws hw=>?_,λws hw=>?_,rfl⟩,⟨r1,?_,?_,?_,?_⟩,λc hc=>?_⟩
  .rw[ye I hw hqx];exact hx
  .rw[ye I hw hqy];exact hy
  .exact r2.extBut _ _ D.TIz (q7 _ _ D.TIz D.TITO D.TIi1 D.TIi2 hTI)
  .exact⟨_,_,r2.extBut _ _ D.TOz q2⟩
  .exact q3.1.extBut r2.extBut D.i1z
  .exact q4.1.extBut r2.extBut D.i2z
  .have c0:=(hf c hc).1
   obtain⟨ob,hob⟩:∃o,s.heap.get? c=some o:=by
    obtain⟨hz,hTI,⟨a',b',hTO⟩,⟨o1,e1,c1,d1⟩,⟨o2,e2,c2,d2⟩⟩:=st0;simp only[OU,PR,or_false]at hc;rcases hc with rfl|rfl|rfl|rfl|rfl
    .exact⟨_,hz⟩
    .exact⟨_,hTI⟩
    .exact⟨_,hTO⟩
    .exact⟨_,e1⟩
    .exact⟨_,e2⟩
   rw[aE (Pj (OT hob))];exact c0
 done:=by
  intro X hP hw hK hc i π s σ H E I hf st hg;subst hP hw hK;obtain⟨xs,ys,hqx,hqy,hx⟩:=hg;obtain⟨its,rv,p,hz⟩:=I.tuple hqx;obtain⟨jts,rw_,p',hz'⟩:=I.tuple hqy;have hl:=rv.length;have hl':=rw_.length;obtain⟨hZ,hTI,⟨a',b',hTO⟩,h1,h2⟩:=st;refine q9 D (nL i1 a its.toArray) (nL i2 b jts.toArray) (I.ok.hd hc) hZ hTI hTO (k:=i) ⟨h1,p⟩ ⟨h2,p'⟩ ?_ λh' hk=>⟨rfl,r8 (t':=s.toks) I (λc o hb e=>hk c o (λx=>hb (by simp[x])) (λx=>hb (by simp[x])) (λx=>hb (by simp[x])) (λx=>hb (by simp[x])) e) hf⟩
  by_cases hle:xs.length<=ys.length
  .left;simp;omega
  .right;simp;omega
 self:=λ_ _ _ _ _ st h=>by
  obtain⟨hz,_⟩:=st;exact wpAny_pyIter_zip hz h
end Zt
namespace DL
open PySem PySem.Spec PyProof.Rows L2
section
variable {X:Cx}{E:XK}{elts:List Pd}{k:Nat}{tp:Pos}{e a b:Pd}{f g:al}
def LL(K:OF)(ta:TA):TI:=λσ H R=>ta σ H λvs H1=>∃a b,vs=[.ref a,.ref b]/\(((∃xs,df K H1 a xs)/\(∃xs,df K H1 b xs)/\R (NL K a b) H1)∨((∃xs,gT K H1 a xs)/\(∃xs,gT K H1 b xs)/\R (Zt.ItzT K a b) H1))
def E4{ta:TA}{p pos:Pos}(hg:Gl X "zip")(hm:X.mg "zip"=none)(ha:PA X [a,b] ta)(hs:OJ [a,b] X.env=[(false,eval a X.env),(false,eval b X.env)]:=by rfl)(hs2:OJ [b] X.env=[(false,eval b X.env)]:=by rfl) :
  PI X (.Tuple elts k tp) (.Call (.Name "zip" p) [a,b] [] pos) (LL X.K ta):=by
 intro π s σ H R I h;refine Call_ (iE I hg hm PyProof.Rows.Boot.«zip» (Qc (cM (ha pos π s σ H _ I h) λus s1 ⟨vs,H1,I1,r1,q1⟩=>?_) (by rw[hs,hs2]) (by rw[hs2];rfl)));obtain⟨l,l',e,q⟩:=q1;subst e;cases r1 with
 |cons r rr=>
  cases rr with
  |cons r' rr=>
   cases rr;cases r;cases r';rcases q with⟨⟨xs,hq⟩,⟨ys,hq'⟩,q⟩|⟨⟨xs,hq⟩,⟨ys,hq'⟩,q⟩
   .obtain⟨its,rv,p,hz⟩:=I1.list hq
    obtain⟨jts,rv',p',hz'⟩:=I1.list hq';have hlt:l<s1.heap.objs.size:=by obtain⟨o,n,e,_⟩:=p;exact OT e
    have hlt':l' < s1.heap.objs.size:=by obtain⟨o,n,e,_⟩:=p';exact OT e
    refine call_zip_2 p.isList p'.isList λh' hz hTI hTO hi1 hi2 hsz hk=>?_;refine wpAny_pyIter_zip hz ?_;refine⟨s1.heap.objs.size+4,[s1.heap.objs.size+4,s1.heap.objs.size+2,s1.heap.objs.size+3,s1.heap.objs.size,s1.heap.objs.size+1],_,_,H1,rfl,I1.kept (t':=s1.toks) hk,uw _ _ _ _ _ l l' (zipApart_new hlt hlt'),⟨hz,hTI,⟨_,_,hTO⟩,hi1,hi2⟩,λb hb=>?_,q⟩;have hb':s1.heap.objs.size<=b:=by
     simp only[OU,PR,or_false]at hb;rcases hb with rfl|rfl|rfl|rfl|rfl<;>omega
    exact I1.fpOk hb' (I1.hok.fresh hb')
   .obtain⟨its,rv,p,hz⟩:=I1.tuple hq
    obtain⟨jts,rv',p',hz'⟩:=I1.tuple hq';refine Zt.call_tups p p' λh' hz hTI hTO hi1 hi2 hk=>?_;refine wpAny_pyIter_zip hz ?_;refine⟨s1.heap.objs.size+4,[s1.heap.objs.size+4,s1.heap.objs.size+2,s1.heap.objs.size+3,s1.heap.objs.size,s1.heap.objs.size+1],_,_,H1,rfl,I1.kept (t':=s1.toks) hk,Zt.turn_zipT _ _ _ _ _ l l' (zipApart_new p.lt p'.lt),⟨hz,hTI,⟨_,_,hTO⟩,hi1,hi2⟩,λb hb=>?_,q⟩;have hb':s1.heap.objs.size<=b:=by
     simp only[OU,PR,or_false]at hb;rcases hb with rfl|rfl|rfl|rfl|rfl<;>omega
    exact I1.fpOk hb' (I1.hok.fresh hb')
def mB(f g:al):Ev->aj (ac):=λρ=>(f ρ).bind λd=>(g ρ).bind λe=>match d,e with
 |.lst ds,.lst es=>.ok (bJ ds es)
 |.tup ds,.tup es=>.ok (bJ ds es)
 |_,_=>.stuck
def Gv{p pos:Pos}(hg:Gl X "zip")(hm:X.mg "zip"=none)(h:DE X E a f)(h':DE X E b g)(hn:D7 a=true:=by exact rfl)(hn':D7 b=true:=by exact rfl):DI X E (.Tuple elts k tp) (.Call (.Name "zip" p) [a,b] [] pos) (mB f g):=by
 refine⟨jK (E4 hg hm (cw h.o (cw h'.o eF (cX hn')) (aM hn)) (by rw[aM hn,cX hn']) (cX hn')) λσ H R z9=>?_⟩;obtain⟨Ha,ρ,hs,hr,q⟩:=z9;refine⟨Ha,ρ,hs,hr,?_⟩;unfold mB at q;cases e1:f ρ with
 |stuck|exn x=>rw[e1]at q;exact q
 |ok d=>
  rw[e1]at q;intro v H1 H01 g1 r1;refine⟨H01,ρ,g1.sub,hr.mono g1.z,?_⟩;replace q:match ((g ρ).bind λe=>match d,e with
   |.lst ds,.lst es=>aj.ok (bJ ds es)
   |.tup ds,.tup es=>aj.ok (bJ ds es)
   |_,_=>.stuck) with
    |.ok ds=>∀J H' Ha',bf H Ha H' Ha'->Kr X.K ds J Ha'->R J H'
    |.exn x=>∀C ox H' Ha',bf H Ha H' Ha'->tY X.K Ha' x C ox->E C ox H'
    |.stuck=>False:=q
  cases e2:g ρ with
  |stuck=>rw[e2]at q;exact q|exn x=>rw[e2]at q;exact λC ox H' Ha' g2=>q C ox H' Ha' (g1.trans g2)
  |ok d2=>
   rw[e2]at q;intro v2 H2 H02 g2 r2;cases d with
   |lst ds=>
    cases d2 with
    |lst es=>
     obtain⟨l,vs,rfl,hv,hrv⟩:=aA.mp (r1.mono g2.z);obtain⟨l',vs',rfl,hv',hrv'⟩:=aA.mp r2;refine⟨l,l',rfl,.inl ⟨⟨vs,aF.sqL g2.sub hv⟩,⟨vs',aF.sqL g2.sub hv'⟩,q _ H2 H02 (g1.trans g2) ⟨λi H' Ha' s1 s2 hi=>?_,λi H' Ha' x H2 d s1 s2 hd hy=>?_,λi H' Ha' s1 s2 hi=>?_⟩⟩⟩
     .rw[er]at hi
      have h1:=hrv.length;have h2:=hrv'.length;exact⟨vs,vs',vs[i]'(by omega),vs'[i]'(by omega),aF.sqL (s1.trans s2) hv,aF.sqL (s1.trans s2) hv',by simp,by simp⟩
     .obtain⟨p,y,z,hp,rfl,hy,hz,rfl⟩:=hy
      obtain⟨d1,d2,k1,k2,rfl⟩:=eX _ _ _ _ hd;obtain⟨u,m1,m2⟩:=hrv.get k1;obtain⟨u',m1',m2'⟩:=hrv'.get k2;have:=hy vs (aF.sqL (s1.trans s2) hv);rw[m1]at this;cases this;have:=hz vs' (aF.sqL (s1.trans s2) hv');rw[m1']at this;cases this;exact nE s2 hp (Reps.cons (m2.mono s1) (Reps.cons (m2'.mono s1) Reps.nil))
     .rw[er]at hi
      have h1:=hrv.length;have h2:=hrv'.length;exact⟨vs,vs',aF.sqL (s1.trans s2) hv,aF.sqL (s1.trans s2) hv',by omega⟩
    |_=>exact q.elim
   |tup ds=>
    cases d2 with
    |tup es=>
     obtain⟨l,vs,rfl,hv,hrv⟩:=aI.mp (r1.mono g2.z);obtain⟨l',vs',rfl,hv',hrv'⟩:=aI.mp r2;refine⟨l,l',rfl,.inr ⟨⟨vs,aF.sqT g2.sub hv⟩,⟨vs',aF.sqT g2.sub hv'⟩,q _ H2 H02 (g1.trans g2) ⟨λi H' Ha' s1 s2 hi=>?_,λi H' Ha' x H2 d s1 s2 hd hy=>?_,λi H' Ha' s1 s2 hi=>?_⟩⟩⟩
     .rw[er]at hi
      have h1:=hrv.length;have h2:=hrv'.length;exact⟨vs,vs',vs[i]'(by omega),vs'[i]'(by omega),aF.sqT (s1.trans s2) hv,aF.sqT (s1.trans s2) hv',by simp,by simp⟩
     .obtain⟨p,y,z,hp,rfl,hy,hz,rfl⟩:=hy
      obtain⟨d1,d2,k1,k2,rfl⟩:=eX _ _ _ _ hd;obtain⟨u,m1,m2⟩:=hrv.get k1;obtain⟨u',m1',m2'⟩:=hrv'.get k2;have:=hy vs (aF.sqT (s1.trans s2) hv);rw[m1]at this;cases this;have:=hz vs' (aF.sqT (s1.trans s2) hv');rw[m1']at this;cases this;exact nE s2 hp (Reps.cons (m2.mono s1) (Reps.cons (m2'.mono s1) Reps.nil))
     .rw[er]at hi
      have h1:=hrv.length;have h2:=hrv'.length;exact⟨vs,vs',aF.sqT (s1.trans s2) hv,aF.sqT (s1.trans s2) hv',by omega⟩
    |_=>exact q.elim
   |_=>exact q.elim
end
end DL
namespace Rh
open PySem PySem.Spec PyProof.Rows
def qG:entryFor table "proto.unchain"=some Builtin.«proto.unchain»:=entryFor_of_tree (by kernel_rfl)
section
variable {P:O5}{w:Pt}{A:Pu}{E:OB->OE->Prop}{s:OE}{env:PQ}
def ctx(g:OL)(e c:OG):OL:=g.update e (Ss (·.setIfInBounds 2 (.ref c)))
def Ct{α:Type}{e c:OG}{oc oe:Obj}{vs ws:Array OB}{Q:α->OE->Prop}(hA:A.handled=some (.ref c))(ne:c≠e)(gc:s.heap.get? c=some oc)(dc:oc.data=.fields vs)(c2:vs[2]?=some .none)
  (ge:s.heap.get? e=some oe)(de:oe.data=.fields ws)(hz:2<ws.size)(hE:E (.ref e) { s with heap:=ctx s.heap e c }):OS (OW P w) A (raiseNew (.ref e):Sem α) Q E s:=by
 unfold raiseNew;refine OC (wpAny_handled ?_);rw[hA];have hb:(Ph c != Ph e)=true:=by simp[ne]
 show OS _ _ (if(Ph c != Ph e)=true then _ else _) _ _ _;rw[if_pos hb];refine OC (PY (runValue_entry qG ?_));show OS _ _ (field (.ref c) 2 >>= _) _ _ _;refine OC (wpAny_field gc dc c2 ?_);show OS _ _ (if(PZ==PZ)=true then _ else _) _ _ _;rw[if_pos (by rfl)];refine OC (ON (ON ⟨_,rfl,?_⟩));refine OC ?_;unfold updateField;refine OC (wpAny_load ge ?_);rw[de];simp only[hz,if_true];exact wpAny_update ge (wpAny_throw hE)
variable {nm q:OO}{C N c:OG}{bs bm bmB:List OB}{hdct:Bool}{sn:bv}{sub:List OB}{ab:Bool}{col:Option Bool}{dd:Option OG}{k0 k1 k2 k3 k5:Option OB}{B newId initId:String}
def zO{x:Sem OB}{Q:Flow->OE->Prop}(hbase:bm.contains (.type "BaseException")=true)(hA:A.handled=some (.ref c))
  (h:OS (OW P w) A x (λv sg=>∃e t oc vs,v=.ref e/\sg.heap.get? C=some (excClassObj nm q C N bs bm hdct sn sub ab col dd k0 k1 k2 k3 k5 newId) /\
   sg.heap.get? e=some { cls:=.ref C,data:=.fields #[.ref t,.none,.none,.none,.bool false,.none] }/\c≠e/\sg.heap.get? c=some oc/\oc.data=.fields vs/\vs[2]?=some .none/\E (.ref e) { sg with heap:=ctx sg.heap e c }) E s) :
  OS (OW P w) A (raiseStmt env (some x) none) Q E s:=by
 have isB:(Ph C::bm).contains (.type "BaseException")=true:=by rw[S4,hbase,UH]
 unfold raiseStmt;refine OC (PH h (λv sg ⟨e,t,oc,vs,ev,hC,he,ne,gc,dc,c2,hE⟩=>?_) λ_ _ y=>y);subst ev;obtain⟨hp,gn,dr,tk,os⟩:=sg
 repeat (first|with_reducible refine Qr he ?_|with_reducible refine Qr hC ?_|(with_reducible refine wpAny_isSubtype_exc hC ?_;rw[isB])|wp_step)
 exact Ct hA ne gc dc c2 he rfl (by simp) hE
def exec_some(F:ExcBaseFacts B newId initId bmB){mN:OO->Option OB}{x:OO}{np cpos pos:Pos}{args:List Pd}{Q:Flow->OE->Prop}
  (hbase:bm.contains (.type "BaseException")=true)(hA:A.handled=some (.ref c))(hplain:(PN cpos (OJ args env)).any (·.1)=false)(hni:mN "__init__"=none)
  (h:OS (OW P w) A (eval (.Name x np) env) (λf sg=>f=.ref C/\OS (OW P w) A (evalArgs (.ref C) true (PN cpos (OJ args env)) [])
   (λa si=>a.kw=[]/\a.pos.length<=sizeLine/\si.heap.get? C=some (excClassObj nm q C N bs bm hdct sn sub ab col dd k0 k1 k2 k3 k5 newId)/\si.heap.Ns N mN/\OwnTail si.heap bmB bm/\(∃oc vs,si.heap.get? c=some oc/\oc.data=.fields vs/\vs[2]?=some .none) /\
    ∀h' e,R0 si.heap h' e (.ref C) a.pos->E (.ref e) { si with heap:=ctx h' e c }) E sg) E s) :
  OS (OW P w) A (exec (.Raise (some (.Call (.Name x np) args [] cpos)) none pos) env) Q E s:=by
 rw[arm_exec_Raise];simp only[evalOpt,Option.map];refine OC (wpAny_standAt (zO (C:=C) (nm:=nm) (q:=q) (N:=N) (bs:=bs) (bm:=bm) (hdct:=hdct) (sn:=sn) (sub:=sub) (ab:=ab) (col:=col) (dd:=dd) (k0:=k0) (k1:=k1) (k2:=k2) (k3:=k3) (k5:=k5) (newId:=newId) hbase hA ?_));refine OC (PH (wpAny_Call_ofName (PH h (λf sg h₁=>?_) λ_ _ y=>y)) (λv sj hW=>OC (wpAny_standAt (ON hW))) λ_ _ y=>y);obtain⟨rfl,h₁⟩:=h₁;unfold UO;refine OC (PY (PH h₁ (λa si hV=>OC (wpAny_standAt ?_)) λ_ _ y=>y));obtain⟨ap,ak⟩:=a;obtain⟨hk,hl,hC,hn,T,⟨oc,vs,gc,dc,c2⟩,hV⟩:=hV;obtain rfl:ak=[]:=hk;obtain⟨hp,gn,dr,tk,os⟩:=si;simp only[hplain];refine OC (wpAny_keeperOf_exc hC (OC (wpAny_call_exc_subT (hrest:=hl) F T hC hn hni λh' e hm=>OC (PY (wpAny_point (ON ?_))))));obtain⟨t,ht,_,_⟩:=hm.there;refine⟨e,t,oc,vs,rfl,hm.keeps _ _ hC,ht,λz=>?_,hm.keeps _ _ gc,dc,c2,hV h' e hm⟩;subst z;have:=hm.new;rw[show(UR ⟨hp,gn,dr,tk,os⟩).get? c=some oc from gc]at this;cases this
end
end Rh
namespace DL
open PySem PySem.Spec PyProof.Rows L2
section
variable {M:Model}{A:Pu}{E:OB->OE->Prop}{s:OE}{base:OL}{env:PQ}{l:List PQ}{L e:OG}{cls a0 fl:OB}{dc:Option OG}
def FI{E':OB->OE->Prop}(hf:env.frame=some L)(kb:base.StaysIn s.heap)(hl:s.heap.FunFrames base l)(ht:s.heap.TracedAtW base e cls a0 fl)(hc:iQ s.heap e dc)
  (h:∀h',base.StaysIn h'->h'.FunFrames base l->h'.TracedAtW base e cls a0 (rawInt L)->(∀b o,s.heap.get? b=some o->(∀vs,o.data≠.fields vs)->h'.get? b=some o)->iQ h' e dc->E' (.ref e) { s with heap:=h' }):cameBackBy M A env E' (.ref e) s:=by
 obtain⟨oe,vs,T,oT,ts,he,hcl,hd,h1,hnT,hTe,hT,dT,h3⟩:=ht;have z3:3<ts.size:=(QR.mp h3).1;have oth:∀(f:Obj->Obj) (b:OG),b≠T->(s.heap.update T f).get? b=s.heap.get? b:=λf b hb=>Qo _ _ (Px hb);have ne:∀b o,s.heap.get? b=some o->(∀vs,o.data≠.fields vs)->b≠T:=λb o q z c=>by subst c;rw[hT]at q;cases q;exact z ts dT
 unfold cameBackBy;refine OC (wpAny_field he hd h1 ?_);rw[if_neg (by simp)];rw[hf];unfold setFlight;refine OC (wpAny_field he hd h1 ?_);rw[if_pos (by simp)];obtain⟨o',q',rfl,cx⟩:=hc;refine wpAny_setField hT dT z3 (h _ (λb o q=>(oth _ b λc=>by subst c;rw[hnT]at q;cases q).trans (kb b o q)) (hl.of_keeps λb o q z=>⟨o,(oth _ b (ne b o q z)).trans q,rfl⟩) ?_ (λb o q z=>(oth _ b (ne b o q z)).trans q) ⟨o',(oth _ e (Px hTe)).trans q',rfl,cx⟩);exact⟨oe,vs,T,_,_,(oth _ e (Px hTe)).trans he,hcl,hd,h1,hnT,hTe,Qb _ hT (Rg (QG dT _)),QG dT _,by simp[z3]⟩
end
section
variable {P:O5}{w:Pt}{K:OF}{mg:OO->Option OB}{base:OL}{N:bv}{qual:OO}{scope:RA}{f:OG}{cd:OB}{A:Pu}{outer:List PQ}{s0:OE}{H0:Hp}{E:XK}
 {π:List (OG×Obj)}{σ:L2.St}{H:Hp}{s:OE}
def vg(I:Inv (bV (dN P w) P w K mg base N qual scope f cd A outer s0 H0 E) π σ H s){h1:OL}{e c C:OG}{vs:List OB}(hx:R0 s.heap h1 e (.ref C) vs)(hE:E (.ref C) none H) :
  notedBy (OW P w) ((bV (dN P w) P w K mg base N qual scope f cd A outer s0 H0 E).A.mark (some (.ref c))) (bV (dN P w) P w K mg base N qual scope f cd A outer s0 H0 E).env
   (λx s2=>cameBackBy (OW P w) (bV (dN P w) P w K mg base N qual scope f cd A outer s0 H0 E).A (bV (dN P w) P w K mg base N qual scope f cd A outer s0 H0 E).env (bV (dN P w) P w K mg base N qual scope f cd A outer s0 H0 E).xe x s2) (.ref e) { s with heap:=Rh.ctx h1 e c }:=by
 have hin:=tq (l:=envOfC qual scope s0.heap.objs.size f cd::outer);have hl:s.heap.FunFrames (Rb s.heap (fH (envOfC qual scope s0.heap.objs.size f cd::outer))) (envOfC qual scope s0.heap.objs.size f cd::outer):=Tu I.stack hin;have hn:H e=none:=by
  cases q:H e with|none=>rfl|some o=>obtain⟨u,hu⟩:=bB.there (I.hok e o q);rw[hx.new]at hu;cases hu
 obtain⟨t,he,_,_⟩:=hx.there;have hen:(Rb s.heap (fH (envOfC qual scope s0.heap.objs.size f cd::outer))).get? e=none:=by
  cases q:(Rb s.heap (fH (envOfC qual scope s0.heap.objs.size f cd::outer))).get? e with|none=>rfl|some o=>have:=RT _ q;rw[hx.new]at this;cases this
 have kc:∀b o,s.heap.get? b=some o->(Rh.ctx h1 e c).get? b=some o:=λb o q=>by
  have hb:b≠e:=by intro z;subst z;rw[hx.new]at q;cases q
  unfold Rh.ctx;rw[Qo _ _ (Px hb)];exact hx.keeps b o q
 have d2:=QG (o:={ cls:=.ref C,data:=.fields #[.ref t,.none,.none,.none,.bool false,.none] }) rfl (·.setIfInBounds 2 (.ref c));have hec:(Rh.ctx h1 e c).get? e=some (Ss (·.setIfInBounds 2 (.ref c)) { cls:=.ref C,data:=.fields #[.ref t,.none,.none,.none,.bool false,.none] }):=Qb _ he (Rg d2);have hfr:(Rh.ctx h1 e c).FunFrames (Rb s.heap (fH (envOfC qual scope s0.heap.objs.size f cd::outer))) (envOfC qual scope s0.heap.objs.size f cd::outer):=hl.of_keeps λb o hb _=>⟨o,kc b o hb,rfl⟩
 have hst:(Rb s.heap (fH (envOfC qual scope s0.heap.objs.size f cd::outer))).StaysIn (Rh.ctx h1 e c):=λb o q=>kc b o (RT _ q);unfold notedBy;refine vm (s:={ s with heap:=Rh.ctx h1 e c }) (a0:=.ref t) I.ok.frames hfr rfl hec hst hen d2 rfl rfl (λz=>absurd (gj _ _) z) λg ⟨k1,k2,k3,k4⟩ dg=>?_;rw[gj]at dg;refine FI (s:={ s with heap:=g }) rfl k1 k2 k3 dg λg2 m1 m2 m3 m4 dg2=>?_;show OS (OW P w) _ (leaving (envOfC qual scope s0.heap.objs.size f cd) (.ref e)) _ _ _;unfold leaving;refine OC (wpAny_noteFrame_againW rfl m3 ?_);refine ij (s:={ s with heap:=g2 }) m1 m2 m3 dg2 λh' x1 x2 x3 x4 dh=>?_;have up:(Rh.ctx h1 e c).UpToSlots h':=λb o q z=>by
  obtain⟨sl,y⟩:=k4 b o q z;exact⟨sl,x4 b _ (m4 b _ y z) z⟩
 obtain⟨_,_,x2'⟩:=x2;have hcl:(Ss (·.setIfInBounds 2 (.ref c)) { cls:=.ref C,data:=.fields #[.ref t,.none,.none,.none,.bool false,.none] }:Obj).cls=.ref C:=Tf _ _;rw[hcl]at x3;refine yY rfl I (s1:={ s with heap:=Rh.ctx h1 e c }) (H1:=H) rfl I.bare (Un.kept kc) (I.hok.kept kc) hn hst hfr (λb hb h=>?_) ⟨x1,hen,x2',x3⟩ up ⟨none,⟨_,dh,.inl rfl⟩,hE⟩;have:∃o,s.heap.get? b=some o:=by
  rcases h with h|h
  .cases q:H b with
   |none=>exact absurd q h
   |some o=>exact bB.there (I.hok b o q)
  .exact h
 obtain⟨o,q⟩:=this;exact⟨o,SU _ q hb⟩
end
section
variable {X:Cx}{π:List (OG×Obj)}{σ:L2.St}{H:Hp}{s:OE}{e:OG}
def GO{H1:Hp}{s1 s':OE}{Ex:XK}{ev:OB}{c:OO}{np hpos:Pos}{ba:Qt}{suite:List Qt}{rest:List ExceptHandler}{cv:OB}{D:gr}(hstk:X.stack=X.env::X.outer/\X.env.frame=some X.env.locals)(I:Inv X π σ H1 s1)
  (h:dN X.prog X.w X.stack H1 s1 Ex ev s')(hg:Gl X c)(hm:X.mg c=some cv)(hx:∀C ox H',Ex (.ref C) ox H'->W.exmOne X.K (.ref C) cv=some true)
  (hs:∀ea C dc oc ox H' s2,Ex (.ref C) ox H'->(ox=none∨ox=dc)->H' ea=none->iQ s2.heap ea dc->s2.heap.get? ea=some oc->Inv (DL.hand X ea) π σ (upd H' ea (.ext (λg=>g.get? ea=some oc))) s2 ->
   OS (OW X.prog X.w) (X.A.mark (some (.ref ea))) (execs (ba::suite) X.env) (SP (DL.hand X ea) π D) (notedBy (OW X.prog X.w) (X.A.mark (some (.ref ea))) X.env λx s3=>cameBackBy (OW X.prog X.w) X.A X.env X.xe x s3) s2)
  (hdb:(c==("__debug__" : OO))=false:=by decide) :
  OS (OW X.prog X.w) X.A (noteFrame ev X.env) (λ_ si=>OS (OW X.prog X.w) X.A (setFlight ev none) (λ_ sj=>
   OS (OW X.prog X.w) X.A (handleBy ev X.env (.ExceptHandler (some (.Name c np)) none (ba::suite) hpos::rest)) (SP X π D) X.xe sj) X.xe si) X.xe s':=by
 obtain⟨ea,C,a0,B,H',rfl,os,bare,un,hok,hne,fl,hB,ox,⟨dc,hdc,hox⟩,hE⟩:=h;have hA:X.A.frames=some (X.env::X.outer):=by rw[←hstk.1];exact I.ok.frames
 have fl0:=fl;rw[hstk.1]at fl;have hf1:∀b∈fH X.stack,H' b=none:=λb hb=>by
  obtain⟨_,o,ho,_⟩:=I.stack.mem hb;exact un.free b o ho (I.stkFree b hb) (by simp)
 have hnew:s1.heap.get? ea=none:=by
  cases q:s1.heap.get? ea with
  |none=>rfl
  |some o=>
   by_cases hb:ea∈fH X.stack
   .obtain⟨_,o',ho',hd⟩:=fl0.2.2.1.mem hb
    obtain⟨oe,vs,he,_,hd',_⟩:=fl0.first
    rw[ho']at he;cases he;exact absurd hd' (hd vs)
   .obtain⟨u,hu⟩:=hB ea hb (.inr ⟨o,q⟩)
    rw[fl.2.1]at hu;cases hu
 have inv:∀g,B.StaysIn g->s'.heap.UpToSlots g->Inv X π σ H' { s' with heap:=g }:=λg k up=>
  I.call' (ch:=[]) os (Un.fly un fl0.1 fl0.2.2.1 hB k up) (fv.fly hok hf1 fl0.1 hB k) bare (λ_ z=>nomatch z)
 have invx:∀g oc,B.StaysIn g->s'.heap.UpToSlots g->g.get? ea=some oc->Inv X π σ (upd H' ea (.ext (λg=>g.get? ea=some oc))) { s' with heap:=g }:=λg oc k up p=>
  I.call' (ch:=[]) os (Un.ext (Un.fly un fl0.1 fl0.2.2.1 hB k up) hne hnew) (fv.ext (fv.fly hok hf1 fl0.1 hB k) hne p ⟨oc,p⟩ (λg1 g2 x y=>y oc x)) bare (λ_ z=>nomatch z)
 refine C6 hA hstk.2 fl hdc λh4 held4 up4 dc4=>?_;refine C7 held4 dc4 λh5 fl5 up5 dc5=>?_;have I5:Inv (DL.hand X ea) π σ H' { s' with heap:=h5 }:=Inv.hand (inv h5 fl5.1 (up4.trans up5));refine wpAny_handleBy_cons (codeAny_handlers_test ?_) (by intro q;cases q);refine gC I5 hg hm ?_ hdb;obtain⟨ob,hob,hoc⟩:=fl5.there;have LT:SR (OW X.prog X.w) h5 (typeOf (.ref ea)) (.ref C):=hoc▸(SR.ld hob).andThen .now;refine(W.exm_one I5.kIn LT (hx C ox H' hE)).here ?_;refine codeAny_handlers_suite ?_;refine C8 fl5 dc5 λh6 fl6 up6 dc6=>?_;obtain⟨oe,vs,he,hc,hd,_⟩:=fl6.first
 have I6:Inv (DL.hand X ea) π σ (upd H' ea (.ext (λg=>g.get? ea=some oe))) { s' with heap:=h6 }:=Inv.hand (invx h6 oe fl6.1 ((up4.trans up5).trans up6) he);refine PH (hs ea C dc oe ox H' _ hE hox hne dc6 he I6) (λf s8 h8=>?_) λ_ _ z=>z;cases f with|next|brk|cont=>obtain⟨σ',H2,J,q⟩:=h8;exact⟨σ',H2,gq I.ok J,q⟩|ret u=>obtain⟨v,σ',H2,J,r,q⟩:=h8;exact⟨v,σ',H2,gq I.ok J,r,q⟩
end
def Bn(hit:OO->Bool)(x:OO)(fa:Ev->aj (ac))(ρ:Ev)(y:NO):aj Fl:=if hit y.cls=true/\y.flds.isEmpty=false then(match fa ρ with|.ok ds=>if ds.length<=line then .exn ⟨x,[]⟩ else .stuck|_=>.stuck) else .stuck
def qP(g:am)(hit:OO->Bool)(x:OO)(fa:Ev->aj (ac)):am:=λρ=>match g ρ with
 |.exn y=>Bn hit x fa ρ y
 |r=>r
section
variable {P:O5}{w:Pt}{K:OF}{mg:OO->Option OB}{base:OL}{N:bv}{qual:OO}{scope:RA}{f:OG}{cd:OB}{A:Pu}{outer:List PQ}{s0:OE}{H0:Hp}{E:XK}{He η:Hp}
def Gq{st:Qt}{g:am}{hit:OO->Bool}{c x:OO}{np xp cpos rpos hpos pos:Pos}{cv:OB}{C:OG}{e:Pd}{es:List Pd}{fa:Ev->aj (ac)}(hb:TB (bV (dN P w) P w K mg base N qual scope f cd A outer s0 H0 E) st g)
  (hg:Gl (bV (dN P w) P w K mg base N qual scope f cd A outer s0 H0 E) c)(hm:mg c=some cv)(hhit:∀x C,hit x=true->XC K x C->W.exmOne K (.ref C) cv=some true)
  (k:DX K x C)(hmx:mg x=some (.ref C))(hgx:Gl (bV (dN P w) P w K mg base N qual scope f cd A outer s0 H0 E) x)
  (ha:∀ea,DA (DL.hand (bV (dN P w) P w K mg base N qual scope f cd A outer s0 H0 E) ea) E0 (e::es) fa)(hdb:(c==("__debug__" : OO))=false:=by decide)(hdx:(x==("__debug__" : OO))=false:=by decide)
  (he:OJ (e::es) (bV (dN P w) P w K mg base N qual scope f cd A outer s0 H0 E).env=(false,eval e (bV (dN P w) P w K mg base N qual scope f cd A outer s0 H0 E).env)::OJ es (bV (dN P w) P w K mg base N qual scope f cd A outer s0 H0 E).env:=by exact aM rfl)
  (hpl:(PN cpos (OJ es (bV (dN P w) P w K mg base N qual scope f cd A outer s0 H0 E).env)).any (·.1)=false:=by exact bw rfl) :
  DS (bV (dN P w) P w K mg base N qual scope f cd A outer s0 H0 E) E He η (.Try [st] [.ExceptHandler (some (.Name c np)) none [.Raise (some (.Call (.Name x xp) (e::es) [] cpos)) none rpos] hpos] [] [] pos) (qP g hit x fa):=by
 refine⟨?_⟩;intro π s σ H D I ⟨Ha,ρ,h,q⟩;have hq:Br K He η Ha (g ρ) D:=by
  unfold qP at q;cases e1:g ρ with
  |exn x=>trivial|stuck=>rw[e1]at q;exact q
  |ok r=>rw[e1]at q;cases r<;>exact q
 refine wpAny_Try_except (wpAny_execs_cons (cM (hb.o π s σ H He η Ha ρ D _ I h hq λH1 s1 ev s' I1 hc=>?_) λfl s1 hf=>?_))
 .have hit1:∀y,g ρ=.exn y->(hit y.cls=true/\y.flds.isEmpty=false)/\∃ds,fa ρ=.ok ds/\ds.length<=line/\bM K E He η Ha (.exn ⟨x,[]⟩) D:=λy e1=>by
   unfold qP at q;rw[e1]at q;have q:bM K E He η Ha (Bn hit x fa ρ y) D:=q;unfold Bn at q
   by_cases z:hit y.cls=true/\y.flds.isEmpty=false
   .rw[if_pos z]at q
    refine⟨z,?_⟩;cases e2:fa ρ with
    |stuck|exn u=>rw[e2]at q;exact q.elim
    |ok ds=>
     rw[e2]at q;have q:bM K E He η Ha (if ds.length<=line then aj.exn ⟨x,[]⟩ else .stuck) D:=q
     by_cases hl:ds.length<=line
     .rw[if_pos hl]at q;exact⟨ds,rfl,hl,q⟩
     .rw[if_neg hl]at q;exact q.elim
   .rw[if_neg z]at q;exact q.elim
  refine GO ⟨rfl,rfl⟩ I1 hc hg hm (λC ox H' ⟨y,Ha',e1,_,_,⟨⟨c',ec,xc⟩,_⟩⟩=>?_) (λea C' dc oc ox H' s2 ⟨y,Ha',e1,sm,srx,⟨⟨c',ec,xc⟩,hm2⟩⟩ hox hne hdc hoc I2=>?_) hdb
  .cases ec;exact hhit _ _ (hit1 y e1).1.1 xc
  .cases ec
   obtain⟨⟨_,hfl⟩,ds,e2,hl,q2⟩:=hit1 y e1;have hdn:dc≠none:=by
    rintro rfl;have:ox=none:=by rcases hox with z|z<;>exact z
    subst this;have hm2:y.flds=[]:=hm2;rw[hm2]at hfl;cases hfl
   obtain⟨oc',go,_,cx⟩:=hdc;rw[hoc]at go;cases go;obtain⟨vs2,dv,c2⟩:=cx hdn;have srx2:=srx.grow (aL (o:=.ext (λg=>g.get? ea=some oc)) srx.g.sub hne);refine wpAny_execs_cons ?_;obtain⟨bm,Nn,nm,qn,bs,hdct,sn,sub,ab,col,dd,k0,k1,k2,k3,k5,mN,hC,hN,hni,T⟩:=k.obj I2.ok.mod.kin;refine Rh.exec_some (C:=C) (c:=ea) (nm:=nm) (q:=qn) (N:=Nn) (bs:=bs) (bm:=bm) (hdct:=hdct) (sn:=sn) (sub:=sub) (ab:=ab) (col:=col) (dd:=dd) (k0:=k0) (k1:=k1) (k2:=k2) (k3:=k3) (k5:=k5)
    Qh (mN:=mN) (T.hasType Qh.hasBase) rfl (by rw[he];show(false||(PN cpos (OJ es (bV (dN P w) P w K mg base N qual scope f cd A outer s0 H0 E).env)).any (·.1))=false;rw[hpl];rfl) hni (gC I2 hgx hmx ⟨rfl,?_⟩ hdx)
   have h1:=(ha ea).o cpos π s2 σ _ (λus H2=>us.length<=sizeLine/\aF (upd H' ea (.ext (λg=>g.get? ea=some oc))) H2/\∃H02,bf He η H2 H02) I2 ⟨upd Ha' ea (.ext (λg=>g.get? ea=some oc)),ρ,srx2.g.sub,srx2.rd,by
    rw[e2];exact λus H2 H02 g2 rp=>⟨by rw[←rp.length];exact cV hl,g2.s,H02,srx2.g.trans g2⟩⟩
   have h1:OS (OW P w) ((bV (dN P w) P w K mg base N qual scope f cd A outer s0 H0 E).A.mark (some (.ref ea))) (spliced (PN cpos (OJ (e::es) (bV (dN P w) P w K mg base N qual scope f cd A outer s0 H0 E).env))) _ _ s2:=h1;rw[he]at h1 ⊢;refine Rq (PH h1 (λus s3 h2=>?_) λ_ _ y=>y.elim);obtain⟨us',H2,I3,rv,hl2,sm2,H02,G2⟩:=h2;have I3:Inv (bV (dN P w) P w K mg base N qual scope f cd A outer s0 H0 E) π σ H2 s3:=gq I.ok I3;have gE:∃oc vs,s3.heap.get? ea=some oc/\oc.data=.fields vs/\vs[2]?=some .none:=by
    obtain⟨z,_,_⟩:=(show bB P w H2 s3.heap ea (.ext (λg=>g.get? ea=some oc)) from I3.hok ea _ (sm2 _ _ aG))
    exact⟨oc,vs2,z,dv,c2⟩
   exact⟨rfl,by rw[←rv.length];exact hl2,I3.bk _ _ hC,hN.keeps I3.bk,T.keeps I3.bk,gE,λh' ee hx=>vg I3 hx (q2 (.ref C) none H2 H02 G2 ⟨⟨C,rfl,k.xc⟩,rfl⟩)⟩
 .cases fl with
  |next=>exact wpAny_execs_nil (wpAny_execs_nil hf)
  |brk=>exact hf
  |cont=>exact hf
  |ret u=>exact hf
end
end DL
namespace Zt
open PySem PySem.Spec PyProof.Rows
abbrev gS(h:OL)(z ti tO T:OG)(f:Bool):Prop:=h.get? z=some { cls:=.type "zip",dict:=none,data:=.fields #[rawInt T,.bool f,.bool false,.ref ti,.ref tO],slots:=#[] }
section
variable {P:O5}{w:Pt}{A:Pu}{E:OB->OE->Prop}{s:OE}{z ti tO i j l m T:OG}{k:Nat}{xs ys:Array OB}{S S':Nat->OL->Prop}{x y a b:OB}{f:Bool}{oT:Obj}
def vj{Q:Bool->OE->Prop}(hz:gS s.heap z ti tO T f)(hT:s.heap.get? T=some oT)(hq:∀h',gS h' z ti tO T true->QI z s.heap h'->Q false { s with heap:=h' }) :
  OS (OW P w) A (Py (.ref z)) Q E s:=by
 unfold Py;refine OC (wpAny_field hz rfl (x:=rawInt T) rfl ?_);show OS _ _ (loadIfAlive ((T:Int).toNat) >>= _) _ _ _;rw[Qs];refine OC (W.kdx_alive hT ?_);simp only[Option.isNone_some,RM,if_false];refine OC (wpAny_field hz rfl (x:=.bool f) rfl ?_);cases f with|true=>rw[if_neg (show ¬((P5 true != P5 true)=true) from Qj)];exact ON (hq _ hz (QI.refl _ _))|false=>rw[if_pos (show(P5 false != P5 true)=true from rfl)];exact OC (wpAny_setField_rec hz (by simp) λh₅ he₅ hs₅=>ON (hq h₅ he₅ hs₅))
def zC(D:ZipApart z ti tO i j l m)(I:jU P w i l xs S)(J:jU P w j m ys S'){Q:OB->OE->Prop}
  (hz:gS s.heap z ti tO T f)(hT:s.heap.get? T=some oT)(hti:IsPair s.heap ti (.ref i) (.ref j))(h1:S k s.heap)(h2:S' k s.heap)(hx:xs[k]?=some x)(hy:ys[k]?=some y)
  (hq:∀h',gS h' z ti tO T true->S (k+1) h'->S' (k+1) h'->IsPair h' s.heap.objs.size x y->h'.objs.size=s.heap.objs.size+1 ->
   (∀c o,c≠z->c≠i->c≠j->s.heap.get? c=some o->h'.get? c=some o)->Q (.ref s.heap.objs.size) { s with heap:=h' }) :
  OS (OW P w) A (Builtin.«zip.__next__» ⟨[.ref z],[]⟩) (λfin s'=>∃v,fin=.done (.ret v)/\Q v s') E s:=by
 have off:∀{k:Nat}{u u':OL}{c:OG},S k u->QW c u u'->i≠c->l≠c->S k u':=λst e n1 n2=>I.stay st λd o hd g=>e d o (nn hd n1 n2) g;have off':∀{k:Nat}{u u':OL}{c:OG},S' k u->QW c u u'->j≠c->m≠c->S' k u':=λst e n1 n2=>J.stay st λd o hd g=>e d o (nn hd n1 n2) g;show OS _ _ (field (.ref z) 2 >>= _) _ _ _;refine OC (wpAny_field hz rfl (x:=.bool false) rfl ?_);show OS _ _ (field (.ref z) 3 >>= _) _ _ _;refine OC (wpAny_field hz rfl (x:=.ref ti) rfl (OC (wpAny_seqItems hti rfl ?_)));show OS _ _ (Py (.ref z) >>= _) _ _ _;refine OC (vj hz hT λu1 z1 e1=>?_);simp only[RM,if_false];refine OC ?_;rw[←Array.forIn_toList];simp only[Sd,SO];refine OC (OC (PY ?_));show OS _ _ (Pk (.ref i) >>= _) _ _ _;refine OC (I.draw (off h1 e1.extBut D.i1z D.l1z) hx λu2 n2 e2=>ON (ON ?_));refine OC (OC (PY ?_));show OS _ _ (Pk (.ref j) >>= _) _ _ _;refine OC (J.draw (off' (off' h2 e1.extBut D.i2z D.l2z) e2.extBut D.i12.symm D.l2i1) hy λu3 n3 e3=>ON (ON (ON ?_)));refine OC (wpAny_newTuple (hsz:=show 2<=sizeLine by decide) (ON ⟨_,rfl,?_⟩));have sz:u3.objs.size=s.heap.objs.size:=by rw[e3.1,e2.1,e1.1]
 have z3:gS u3 z ti tO T true:=e3.extBut _ _ D.i2z.symm (e2.extBut _ _ D.i1z.symm z1);have s3:S (k+1) u3:=off n2 e3.extBut D.i12 D.l1i2;show Q (.ref u3.objs.size) _;have tt:(u3.push { cls:=.type "tuple",data:=.seq #[x,y] }).get? s.heap.objs.size=some { cls:=.type "tuple",data:=.seq #[x,y] }:=by rw[←sz];exact Pf _ rfl
 rw[sz];exact hq _ (OD _ z3) (I.stay s3 λc o _ g=>OD _ g) (J.stay n3 λc o _ g=>OD _ g) tt (by rw[Ro,sz])
  λc o c1 c2 c3 g=>OD _ (e3.extBut _ _ c3 (e2.extBut _ _ c2 (e1.extBut _ _ c1 g)))
def zB(D:ZipApart z ti tO i j l m)(I:jU P w i l xs S)(J:jU P w j m ys S'){Q:Fin->OE->Prop}(hA:A.handled=none)
  (hz:gS s.heap z ti tO T f)(hT:s.heap.get? T=some oT)(hti:IsPair s.heap ti (.ref i) (.ref j))(h1:S k s.heap)(h2:S' k s.heap)(hend:xs[k]?=none∨ys[k]?=none)
  (hE:∀h' e,(∀c o,c≠z->c≠i->c≠j->s.heap.get? c=some o->h'.get? c=some o)->(∃o,h'.get? e=some o/\o.cls=.type "StopIteration")->E (.ref e) { s with heap:=h' }) :
  OS (OW P w) A (Builtin.«zip.__next__» ⟨[.ref z],[]⟩) Q E s:=by
 have off:∀{k:Nat}{u u':OL}{c:OG},S k u->QW c u u'->i≠c->l≠c->S k u':=λst e n1 n2=>I.stay st λd o hd g=>e d o (nn hd n1 n2) g;have off':∀{k:Nat}{u u':OL}{c:OG},S' k u->QW c u u'->j≠c->m≠c->S' k u':=λst e n1 n2=>J.stay st λd o hd g=>e d o (nn hd n1 n2) g;show OS _ _ (field (.ref z) 2 >>= _) _ _ _;refine OC (wpAny_field hz rfl (x:=.bool false) rfl ?_);show OS _ _ (field (.ref z) 3 >>= _) _ _ _;refine OC (wpAny_field hz rfl (x:=.ref ti) rfl (OC (wpAny_seqItems hti rfl ?_)));show OS _ _ (Py (.ref z) >>= _) _ _ _;refine OC (vj hz hT λu1 z1 e1=>?_);simp only[RM,if_false];refine OC ?_;rw[←Array.forIn_toList];simp only[Sd,SO];refine OC (OC (PY ?_));show OS _ _ (Pk (.ref i) >>= _) _ _ _;cases hx:xs[k]? with
 |none=>exact OC (I.over hA (off h1 e1.extBut D.i1z D.l1z) hx λu2 e e2 he=>hE u2 e (λc o c1 c3 _ g=>e2 _ _ c3 (e1.extBut _ _ c1 g)) he)
 |some x=>
  have hy:ys[k]?=none:=by rcases hend with q|q;rw[hx]at q;cases q;exact q
  refine OC (I.draw (off h1 e1.extBut D.i1z D.l1z) hx λu2 n2 e2=>ON (ON ?_));refine OC (OC (PY ?_));show OS _ _ (Pk (.ref j) >>= _) _ _ _;exact OC (J.over hA (off' (off' h2 e1.extBut D.i2z D.l2z) e2.extBut D.i12.symm D.l2i1) hy λu3 e e3 he=>hE u3 e (λc o c1 c2 c3 g=>e3 _ _ c3 (e2.extBut _ _ c2 (e1.extBut _ _ c1 g))) he)
def wR(D:ZipApart z ti tO i j l m)(I:jU P w i l xs S)(J:jU P w j m ys S'){Q:Option OB->OE->Prop}
  (hz:gS s.heap z ti tO T f)(hT:s.heap.get? T=some oT)(hti:IsPair s.heap ti (.ref i) (.ref j))(h1:S k s.heap)(h2:S' k s.heap)(hx:xs[k]?=some x)(hy:ys[k]?=some y)
  (hq:∀h',gS h' z ti tO T true->S (k+1) h'->S' (k+1) h'->IsPair h' s.heap.objs.size x y->h'.objs.size=s.heap.objs.size+1 ->
   (∀c o,c≠z->c≠i->c≠j->s.heap.get? c=some o->h'.get? c=some o)->Q (some (.ref s.heap.objs.size)) { s with heap:=h' }):OS (OW P w) A (RQ (.ref z)) Q E s:=by
 have ty:s.TypeIs (.ref z) "zip":=⟨_,hz,rfl⟩
 unfold RQ;exact OC (wpAny_attempt (wpAny_callSpecial?_slot (name:=RV "__next__") ty QT (wpAny_call_entry QT ty SE
  (zC D I J hz hT hti h1 h2 hx hy λh' b1 b2 b3 b4 b5 b6=>ON (hq h' b1 b2 b3 b4 b5 b6)) (So _))))
def wQ(D:ZipApart z ti tO i j l m)(I:jU P w i l xs S)(J:jU P w j m ys S'){Q:Option OB->OE->Prop}(hA:A.handled=none)
  (hz:gS s.heap z ti tO T f)(hT:s.heap.get? T=some oT)(hti:IsPair s.heap ti (.ref i) (.ref j))(h1:S k s.heap)(h2:S' k s.heap)(hend:xs[k]?=none∨ys[k]?=none)
  (hq:∀h',(∀c o,c≠z->c≠i->c≠j->s.heap.get? c=some o->h'.get? c=some o)->Q none { s with heap:=h' }):OS (OW P w) A (RQ (.ref z)) Q E s:=by
 have ty:s.TypeIs (.ref z) "zip":=⟨_,hz,rfl⟩
 unfold RQ;refine OC (wpAny_attempt (wpAny_callSpecial?_slot (name:=RV "__next__") ty QT (wpAny_call_entry QT ty SE (zB D I J hA hz hT hti h1 h2 hend λh' e kp ⟨o,go,co⟩=>?_) (So _))));exact OC (wpAny_isInstance (T:="StopIteration") (b:=true) ⟨o,go,co⟩ isSubtype_stop (ON (hq _ kp)))
def At(B:OG)(h:OL)(z ti tO:OG):Prop:=(IsZip h z ti tO .none/\∃a b,IsPair h tO a b)∨∃T f o,gS h z ti tO T f/\h.get? T=some o/\B<=T
def Om{a b B:OG}(h1:a<B)(h2:B<=b):b≠a:=Qd (OR h1 h2)
def Cs{B:OG}(D:ZipApart z ti tO i j l m)(I:jU P w i l xs S)(J:jU P w j m ys S')(bz:z<B)(bi:i<B)(bj:j<B){Q:Option OB->OE->Prop}(hB:B<=s.heap.objs.size)
  (hz:At B s.heap z ti tO)(hti:IsPair s.heap ti (.ref i) (.ref j))(h1:S k s.heap)(h2:S' k s.heap)(hx:xs[k]?=some x)(hy:ys[k]?=some y)
  (hq:∀h',At B h' z ti tO->S (k+1) h'->S' (k+1) h'->IsPair h' s.heap.objs.size x y->h'.objs.size=s.heap.objs.size+1 ->
   (∀c o,c≠z->c≠tO->c≠i->c≠j->s.heap.get? c=some o->h'.get? c=some o)->Q (some (.ref s.heap.objs.size)) { s with heap:=h' }):OS (OW P w) A (RQ (.ref z)) Q E s:=by
 rcases hz with⟨hz,a,b,ho⟩|⟨T,f,o,hz,hT,bT⟩
 .exact rf D I J hz hti ho h1 h2 hx hy λh' b1 b2 b3 b4 b5 b6 b7=>hq h' (.inr ⟨s.heap.objs.size,false,_,b1,b5,hB⟩) b3 b4 b5 b6 b7
 .refine wR D I J hz hT hti h1 h2 hx hy λh' b1 b2 b3 b4 b5 b6=>hq h' (.inr ⟨T,true,o,b1,b6 _ _ ?_ ?_ ?_ hT,bT⟩) b2 b3 b4 b5 λc o c1 _ c3 c4 g=>b6 c o c1 c3 c4 g
  .exact Qd (OR bz bT)
  .exact Qd (OR bi bT)
  .exact Qd (OR bj bT)
def Cr{B:OG}(D:ZipApart z ti tO i j l m)(I:jU P w i l xs S)(J:jU P w j m ys S'){Q:Option OB->OE->Prop}(hA:A.handled=none)
  (hz:At B s.heap z ti tO)(hti:IsPair s.heap ti (.ref i) (.ref j))(h1:S k s.heap)(h2:S' k s.heap)(hend:xs[k]?=none∨ys[k]?=none)
  (hq:∀h',(∀c o,c≠z->c≠tO->c≠i->c≠j->s.heap.get? c=some o->h'.get? c=some o)->Q none { s with heap:=h' }):OS (OW P w) A (RQ (.ref z)) Q E s:=by
 rcases hz with⟨hz,a,b,ho⟩|⟨T,f,o,hz,hT,bT⟩
 .exact q9 D I J hA hz hti ho h1 h2 hend hq
 .exact wQ D I J hA hz hT hti h1 h2 hend λh' b6=>hq h' λc o c1 _ c3 c4 g=>b6 c o c1 c3 c4 g
def At.to{B:OG}{h h':OL}(hz:At B h z ti tO)(k1:∀o,h.get? z=some o->h'.get? z=some o)(k2:∀o,h.get? tO=some o->h'.get? tO=some o)(k3:∀c o,B<=c->h.get? c=some o->h'.get? c=some o):At B h' z ti tO:=by
 rcases hz with⟨hz,a,b,ho⟩|⟨T,f,o,hz,hT,bT⟩
 .exact .inl ⟨k1 _ hz,a,b,k2 _ ho⟩
 .exact .inr ⟨T,f,o,k1 _ hz,k3 _ _ bT hT,bT⟩
def itr_lst(i t:OG)(xs:Array OB):jU P w i t xs λk h=>h.IsListIter i t k/\h.IsList t xs where
 stay:=λ⟨⟨o,e,r⟩,⟨o2,e2,r2⟩⟩ kp=>⟨⟨o,kp _ _ (.inl rfl) e,r⟩,⟨o2,kp _ _ (.inr rfl) e2,r2⟩⟩
 there:=λ⟨⟨o,e,_,d⟩,_⟩=>⟨o,e,λv z=>by rw[d]at z;cases z⟩
 draw:=λ{A E s k x Q} ⟨h1,h2⟩ hx hq=>by
  by_cases c:t=i
  .exfalso
   obtain⟨o,e,q,_⟩:=h1;obtain⟨o2,e2,q2,_⟩:=h2;subst c;rw[e]at e2;cases e2;rw[q]at q2;simp at q2
  .exact wpAny_nextOf_list_item h1 h2 hx λh' a b=>hq h' ⟨a,h2.extBut b.extBut c⟩ b
 over:=λhA ⟨h1,h2⟩ hx he=>wpAny_nextOf_list_end hA h1 h2 hx he
end
end Zt
namespace DL
open PySem PySem.Spec PyProof.Rows L2
section
variable {X:Cx}{E:XK}{a b e:Pd}{f g:al}
theorem gb:∀{vs:ad}{us:List OB},vs.length=us.length->(∀(i:Nat) (v:V) (u:OB),vs[i]?=some v->us[i]?=some u->bA v u)->bq vs us
 |[],[],_,_=>.nil
 |v::vs,u::us,hl,h=>.cons (h 0 v u rfl rfl) (gb (by simpa using hl) λi v' u' e1 e2=>h (i+1) v' u' e1 e2)
theorem mF{α β:Type}{F:α->β->Prop}:∀{lc:List α}{lg:List β}{i:Nat}{a:α}{b:β},Paired F lc lg->lc[i]?=some a->lg[i]?=some b->F a b
 |_,_,_,_,_,.nil,h,_=>by simp at h
 |_,_,0,_,_,.cons r _,h,h'=>by simp at h h';subst h h';exact r
 |_,_,i+1,_,_,.cons _ t,h,h'=>mF t (by simpa using h) (by simpa using h')
def l7(x:D):aj D:=match x with
 |.dic ks ds=>.ok (.lst (ks.map D.str))
 |.ob (.dint ks) ds=>.ok (.lst (ks.map D.int))
 |_=>.stuck
def pW(hc:X.calm=true):gK X (.type "list") (λxs H Q=>∃p kvs,xs=[.ref p]/\Rd H p (.dK kvs)/\∀l,H l=none->Q (.ref l) (upd H l (.lst (kvs.map λkv=>kV kv.1)))):=by
 intro π s σ H xs us Q I r h;obtain⟨p,kvs,rfl,hq,q⟩:=h;obtain⟨u,rfl,rx⟩:=mz r;cases rx;obtain⟨hz,ns,vs,kv,dd⟩:=hq.ok I.hok;obtain⟨o,es,ep,d1,d2,d3,d4⟩:=dd;have da:s.heap.DictAt (mixKind X.prog X.w) p vs ep:=⟨o,es,d1,d2,d3,d4⟩
 have hl:vs.length=kvs.length:=(SV kv).symm;refine W.kdl_call (W.kdl_dict ns) (I.ok.hd hc) da (by rw[hl];exact hz) λh' tk acc c kp e it=>?_;refine⟨.ref s.heap.objs.size,_,I.laid (t':=tk) kp (O0 _) (show bB X.prog X.w _ h' _ (.lst (kvs.map λkv=>kV kv.1)) from⟨by rw[OH];exact hz,acc.toList,c,?_,e⟩),rfl,q _ (I.hok.fresh (O0 _))⟩;refine gb (by rw[OH,show acc.toList.length=vs.length from by rw[Se];exact it.1,hl]) λi v u e1 e2=>?_;obtain⟨k,x,ek,isk⟩:=it.2 i u (by rw[←Array.getElem?_toList];exact e2);rw[OM]at e1;cases e3:kvs[i]? with
 |none=>rw[e3]at e1;cases e1
 |some kw=>
  rw[e3]at e1;cases e1;have:=(mF kv e3 ek).1;simp only at this;show bA (kV kw.1) u;rw[this];rcases cB isk with⟨j,t,rfl,rfl⟩|⟨y,t,rfl,rfl⟩
  .exact⟨t,rfl⟩
  .exact⟨t,rfl⟩
def DK:iz X E (λxs H Q=>∃p kvs,xs=[.ref p]/\Rd H p (.dK kvs)/\∀l,H l=none->Q (.ref l) (upd H l (.lst (kvs.map λkv=>kV kv.1)))) (m1 l7):=by
 intro ds vs H Ha Q hs rp q;cases ds with
 |nil=>exact q.elim
 |cons d ds=>
  cases ds with
  |cons _ _=>exact q.elim
  |nil=>
   obtain⟨v,r,rfl,r1,r2⟩:=aC.mp rp;rw[Reps.nil_iff.mp r2];have q:post X.K E H Ha (l7 d) Q:=q;unfold l7 at q;cases d with
   |dic ks es=>
    rw[Rep]at r1;obtain⟨p,kvs,vs,rfl,h1,rfl,hl,h4⟩:=r1;refine⟨p,_,rfl,aF.rd hs h1,λl hl'=>q _ _ _ (aL hs hl') (aA.mpr ⟨l,_,rfl,df.of aG,?_⟩)⟩;rw[show(((ks.map Pn).zip vs).map λkv:Key×V=>kV kv.1)=ks.map V.str from by
     rw[show(λkv:Key×V=>kV kv.1)=kV∘Prod.fst from rfl,←P7,List.map_fst_zip (by simp;omega),P7];rfl]
    exact sD (by simp) λi d v e1 e2=>by
     rw[OM]at e1 e2;cases e3:ks[i]? with|none=>rw[e3]at e1;cases e1|some k=>rw[e3]at e1 e2;cases e1;cases e2;exact Rep.str_iff.mpr rfl
   |ob k es=>
    cases k with
    |dint ks=>
     obtain⟨p,vs,rfl,⟨kvs,h1,rfl,hl⟩,h4⟩:=ck.mp r1;refine⟨p,_,rfl,aF.rd hs h1,λl hl'=>q _ _ _ (aL hs hl') (aA.mpr ⟨l,_,rfl,df.of aG,?_⟩)⟩;rw[show(((ks.map RU).zip vs).map λkv:Key×V=>kV kv.1)=ks.map V.int from by
      rw[show(λkv:Key×V=>kV kv.1)=kV∘Prod.fst from rfl,←P7,List.map_fst_zip (by simp;omega),P7];rfl]
     exact ml ks
    |_=>exact q.elim
   |_=>exact q.elim
end
section
variable {X:Cx}{E:XK}
def pJ(x:D):aj D:=match x with
 |.dic ks ds=>.ok (.dic ks ds)
 |_=>.stuck
def xM:gK X (.type "dict") (λxs H Q=>∃p kvs,xs=[.ref p]/\Rd H p (.dK kvs)/\∀l,H l=none->Q (.ref l) (upd H l (.dK kvs))):=by
 intro π s σ H xs us Q I r h;obtain⟨p,kvs,rfl,hq,q⟩:=h;obtain⟨u,rfl,rx⟩:=mz r;cases rx;exact DC I hq λl s' hl I'=>⟨.ref l,_,I',rfl,q l hl⟩
def DM:iz X E (λxs H Q=>∃p kvs,xs=[.ref p]/\Rd H p (.dK kvs)/\∀l,H l=none->Q (.ref l) (upd H l (.dK kvs))) (m1 pJ):=pY λx v H Ha Q hs r q=>by
 unfold pJ at q;cases x with
 |dic ks es=>
  rw[Rep]at r;obtain⟨p,kvs,vs,rfl,h1,rfl,hl,h4⟩:=r;refine⟨p,_,rfl,aF.rd hs h1,λl hl'=>q _ _ _ (aL hs hl') ?_⟩;rw[Rep];exact⟨l,_,vs,rfl,.inl aG,rfl,hl,h4.mono (aL hs hl').z⟩
 |_=>exact q.elim
def An(a b:OO):Bool:=ltCps a.cps.toList b.cps.toList
def xa(a:OO):bv->bv
 |[]=>[a]
 |b::l=>if An b a then b::xa a l else a::b::l
def iR:bv->bv
 |[]=>[]
 |a::l=>xa a (iR l)
def wX(a b:OO):An a b=decide (a.cps.toList<b.cps.toList):=ltCps_eq _ _
def CC{a b c:OO}(h1:An b a=false)(h2:An c b=false):An c a=false:=by
 rw[wX,decide_eq_false_iff_not]at *;have h1:a.cps.toList<=b.cps.toList:=SN.mp h1;have h2:b.cps.toList<=c.cps.toList:=SN.mp h2;exact SN.mpr (List.le_trans h1 h2)
def Jb{a b:OO}(h1:An b a=false)(h2:An a b=false):a=b:=by
 rw[wX,decide_eq_false_iff_not]at *;have e:a.cps.toList=b.cps.toList:=List.le_antisymm (SN.mp h1) (SN.mp h2);exact Str.ext' (Array.toList_inj.mp e)
def Ja{a b:OO}(h:An a b=true):An b a=false:=by
 rw[wX]at *;exact decide_eq_false (List.lt_asymm (of_decide_eq_true h))
theorem l3(a:OO):∀l:bv,(xa a l).Perm (a::l)
 |[]=>.refl _
 |b::l=>by
  unfold xa;split
  .exact((l3 a l).cons b).trans (.swap a b l)
  .exact .refl _
theorem kj:∀l:bv,(iR l).Perm l
 |[]=>.refl _
 |a::l=>by unfold iR;exact(l3 a _).trans ((kj l).cons a)
abbrev Jc(a b:OO):Prop:=An b a=false
theorem mQ(a:OO):∀l:bv,l.Pairwise Jc->(xa a l).Pairwise Jc
 |[],_=>by simp[xa]
 |b::l,h=>by
  unfold xa;rw[QP]at h;split
  .next c=>
   rw[QP];refine⟨λx hx=>?_,mQ a l h.2⟩;rcases OU.mp ((l3 a l).mem_iff.mp hx) with rfl|hx
   .exact Ja c
   .exact h.1 x hx
  .next c=>
   have c:An b a=false:=by simpa using c
   rw[QP,QP];refine⟨λx hx=>?_,h⟩;rcases OU.mp hx with rfl|hx
   .exact c
   .exact CC c (h.1 x hx)
theorem kE:∀l:bv,(iR l).Pairwise Jc
 |[]=>.nil
 |a::l=>by unfold iR;exact mQ a _ (kE l)
theorem qR:∀(l:bv) (p:OO),risingS p l=true->(p::l).Pairwise Jc
 |[],p,_=>by simp
 |x::l,p,h=>by
  unfold risingS at h;rw[O4]at h;have ih:=qR l x h.2;rw[QP];have px:An x p=false:=by unfold An;simpa using h.1
  refine⟨λy hy=>?_,ih⟩;rcases OU.mp hy with rfl|hy
  .exact px
  .exact CC px ((QP.mp ih).1 y hy)
def zQ{l:bv}(h:sortedS l=true):l.Pairwise Jc:=by
 cases l with|nil=>exact .nil|cons x l=>exact qR l x h
theorem mC:∀{l m:bv},l.Perm m->l.Pairwise Jc->m.Pairwise Jc->l=m
 |[],m,p,_,_=>p.nil_eq
 |a::l,m,p,hl,hm=>by
  cases m with
  |nil=>exact absurd p.symm.nil_eq (by simp)
  |cons b m=>
   rw[QP]at hl hm;have e:a=b:=by
    rcases OU.mp (p.mem_iff.mp Pc) with h1|h1
    .exact h1
    .rcases OU.mp (p.mem_iff.mpr Pc) with h2|h2
     .exact h2.symm
     .exact Jb (hl.1 b h2) (hm.1 a h1)
   subst e;rw[mC (List.Perm.cons_inv p) hl.2 hm.2]
def kC:ac->Option (bv)
 |[]=>some []
 |.str z::ds=>(kC ds).map (z::·)
 |_::_=>none
def jr(x:D):aj D:=match x with
 |.lst ds=>match kC ds with
  |some zs=>if zs.length<64 then .ok (.lst ((iR zs).map D.str)) else .stuck
  |none=>.stuck
 |_=>.stuck
theorem yc{K:OF}{H:Hp}:∀{ds:ac}{zs:bv}{vs:ad}{us:List OB},kC ds=some zs->Reps K H ds vs->bq vs us->StrsAre us zs
 |[],zs,vs,us,h,r,q=>by
  cases h;rw[Reps.nil_iff.mp r]at q;cases q;exact .nil
 |d::ds,zs,vs,us,h,r,q=>by
  obtain⟨v,vr,rfl,h1,h2⟩:=aC.mp r;cases q with
  |cons q1 q2=>
   cases d with
   |str z=>
    unfold kC at h;cases e:kC ds with
    |none=>rw[e]at h;cases h
    |some zr=>
     rw[e]at h;cases h;rw[Rep.str_iff.mp h1]at q1;obtain⟨t,rfl⟩:=q1;exact .cons _ _ (yc e h2 q2)
   |_=>cases h
theorem qL:∀{us:List OB}{zs:bv},StrsAre us zs->bq (zs.map V.str) us
 |_,_,.nil=>.nil
 |_,_,.cons _ t h=>.cons ⟨_,rfl⟩ (qL h)
theorem uz:∀{us:List OB}{zs:bv},StrsAre us zs->us.length=zs.length
 |_,_,.nil=>rfl
 |_,_,.cons _ _ h=>by simp[uz h]
def BJ(K:OF):ad->Hp->VK->Prop:=λxs H Q=>∃p ds zs,xs=[.ref p]/\Rep K H (.lst ds) (.ref p)/\kC ds=some zs/\zs.length<64/\∀l,H l=none->Q (.ref l) (upd H l (.lst ((iR zs).map V.str)))
def pV:gK X (.builtin "sorted") (BJ X.K):=by
 intro π s σ H xs us Q I r h;obtain⟨p,ds,zs,rfl,hr,hi,hl,q⟩:=h;obtain⟨u,rfl,ru⟩:=r.one;obtain⟨a,vs,its,ea,rfl,h1,h2,h3,h4,_⟩:=aU I hr ru;have hI:=yc hi h2 h3;refine sorted_strs h4 hI (by rw[uz hI];exact hl) λout zs' a1 a2 a3=>?_;obtain⟨e,he⟩:=sortedAll_at s.heap its out;have en:zs'=iR zs:=mC (a2.trans (kj zs).symm) (zQ a3) (kE zs);subst en;have hz:(iR zs).length=zs.length:=(kj zs).length_eq;refine⟨.ref (s.heap.objs.size+1),upd H (s.heap.objs.size+1) (.lst ((iR zs).map V.str)),I.laid (o:=.lst ((iR zs).map V.str)) (t':=s.toks) (λb o e=>sortedAll_old e) (UU _) ⟨?_,out.toList,e,qL a1,?_⟩,rfl,q _ (I.hok.fresh (UU _))⟩
 .rw[OH,hz];exact Pe (RW hl) (by decide)
 .simpa[seqObj] using he
theorem uG{K:OF}{H:Hp}:∀zs:bv,Reps K H (zs.map D.str) (zs.map V.str)
 |[]=>Reps.nil
 |z::zs=>Reps.cons (Rep.str_iff.mpr rfl) (uG zs)
def vM:iz X E (BJ X.K) (m1 jr):=pY λx v H Ha Q hs r q=>by
 cases x with
 |lst ds=>
  unfold jr at q;cases e:kC ds with
  |none=>simp only[e]at q;exact q.elim
  |some zs=>
   simp only[e]at q
   by_cases c:zs.length<64
   .rw[if_pos c]at q
    obtain⟨p,vs,rfl,h1,h2⟩:=aA.mp r;exact⟨p,ds,zs,rfl,r.mono hs,e,c,λl hl=>q _ _ _ (aL hs hl) (aA.mpr ⟨l,_,rfl,df.of aG,uG _⟩)⟩
   .rw[if_neg c]at q;exact q.elim
 |_=>exact q.elim
end
def BY(its:List OB):slicePick its.toArray none none (some 1)=its.toArray:=by
 have h1:(sliceBounds none none (some 1) its.toArray.size)=(0,(its.length:Int),1):=by
  unfold sliceBounds;simp
 unfold slicePick;rw[h1]
 congr 1
 unfold sliceRange;simp only[show(1:Int) > 0 by decide,if_true];have hc:(if(0:Int)<(its.length:Int) then((its.length:Int)-0+1-1) / 1 else 0).toNat=its.length:=by
  rw[UC];split<;>omega
 rw[hc,RK];have hall:∀k∈PL its.length,((λx=>its.toArray[x]?)∘λ(k:Nat)=>((0:Int)+1*(k:Int)).toNat) k=its[k]?:=λk hk=>by
  show its.toArray[((0:Int)+1*(k:Int)).toNat]?=_;rw[show((0:Int)+1*(k:Int)).toNat=k by omega];simp
 rw[pd hall];clear hall hc h1
 induction its with
 |nil=>rfl
 |cons a r ih=>
  rw[Pw,RX,Qq];simp only[Qw,RK]
  congr 1
section
variable {X:Cx}{E:XK}{a st:Pd}{f g:al}{te ts:TE}{pos p2:Pos}
def oj(i:Int)(xs:ad):ad:=if i=1 then xs else xs.reverse
def KD(K:OF)(te ts:TE):TE:=λσ H Q=>te σ H λx H1=>ts σ H1 λy H2=>∃a xs i,x=.ref a/\y=.int i/\df K H2 a xs/\(i=1∨i=-1)/\∀p,H2 p=none->Q (.ref p) (upd H2 p (.lst (oj i xs)))
def E8(he:PE X a te)(hst:PE X st ts):PE X (.Subscript a (.Slice none none (some st) p2) pos) (KD X.K te ts):=by
 intro π s σ H Q I h;refine Subscript_ (cM (he π s σ H _ I h) λv s1 ⟨x,H1,I1,r1,h1⟩=>?_);refine wpAny_Slice (wpAny_evalPart_none (wpAny_evalPart_none ?_));show OS _ _ (eval st X.env) _ _ _;refine cM (hst π s1 σ H1 _ I1 h1) λvs s3 ⟨u,H3,I3,pu,a,xs,i,ex,eu,hx,hi,q⟩=>?_;subst ex eu;cases r1;obtain⟨t,rfl⟩:=pu;have I4:Inv X π σ H3 { s3 with heap:=s3.heap.push { cls:=.type "slice",data:=.fields #[.none,.none,.int i t] } }:=I3.kept (t':=s3.toks) λb ob q=>OD _ q;obtain⟨its,r,ht,hz⟩:=I4.list hx;have hg:OS (OW X.prog X.w) X.A (getItem (.ref a) (.ref s3.heap.objs.size)) (EP X π σ Q) X.xe { s3 with heap:=s3.heap.push { cls:=.type "slice",data:=.fields #[.none,.none,.int i t] } }:=by
  refine wpAny_getItem_list_slice ht.isList (S7 ..) .none .none (.int i t) (by rcases hi with rfl|rfl<;>simp) ?_ (by rw[O3,←r.length];exact hz);have fin:∀(us:List OB) (ys:ad),bq ys us->ys.length<=sizeLine->ys=oj i xs->EP X π σ Q (.ref (s3.heap.push { cls:=.type "slice",data:=.fields #[.none,.none,.int i t] }).objs.size) { s3 with heap:=(s3.heap.push { cls:=.type "slice",data:=.fields #[.none,.none,.int i t] }).push { cls:=.type "list",data:=.seq us.toArray } }:=λus ys hv hl e=>by
   refine⟨.ref _,_,I4.laid (t':=s3.toks) (o:=.lst (oj i xs)) (λb ob q=>OD _ q) (O0 _) ?_,rfl,q _ (I4.hok.fresh (O0 _))⟩;rw[←e];exact⟨hl,us,0,hv,Pf _ rfl⟩
  rcases hi with rfl|rfl
  .rw[BY];exact fin its xs r hz rfl
  .rw[uO];exact fin its.reverse xs.reverse (bq.rev r) (by rw[QY];exact hz) rfl
 exact tail_any (ops:=[.ref a,.ref s3.heap.objs.size]) ht.isList.typeIs slot_list_getitem.lookup hg (by with_unfolding_all rfl)
def kZ(x y:D):aj D:=match x,y with
 |.lst ds,.int i=>if i=1 then .ok (.lst ds) else if i=-1 then .ok (.lst ds.reverse) else .stuck
 |_,_=>.stuck
def Gy(ha:DE X E a f)(hb:DE X E st g):DE X E (.Subscript a (.Slice none none (some st) p2) pos) (aa f g kZ):=by
 refine⟨aX (E8 ha.o hb.o) λσ H Q z9=>?_⟩;obtain⟨Ha,ρ,hs,hr,q⟩:=z9;refine⟨Ha,ρ,hs,hr,?_⟩;unfold aa at q;cases e1:f ρ with
 |stuck|exn x=>rw[e1]at q;exact q
 |ok x=>
  rw[e1]at q;intro v H1 H01 g1 r1;refine⟨H01,ρ,g1.sub,hr.mono g1.z,?_⟩;replace q:post X.K E H Ha ((g ρ).bind λy=>kZ x y) Q:=q;replace q:=q.grow g1;cases e2:g ρ with
  |stuck|exn x=>rw[e2]at q;exact q
  |ok y=>
   rw[e2]at q;intro u H2 H02 g2 r2;replace q:post X.K E H1 H01 (kZ x y) Q:=q;replace q:=q.grow g2;unfold kZ at q;split at q
   .next ds i=>
    obtain⟨b,xs,rfl,h1,h2⟩:=aA.mp (r1.mono g2.z);rw[aD.mp r2]
    by_cases c1:i=1
    .rw[if_pos c1]at q
     refine⟨b,xs,i,rfl,rfl,aF.sqL g2.sub h1,.inl c1,λp hp=>?_⟩;have G:=aL (o:=.lst (oj i xs)) g2.sub hp;refine q _ _ _ G (aA.mpr ⟨p,_,rfl,df.of aG,?_⟩);exact(congrArg (λz=>Reps _ _ _ z) (show oj i xs=xs from if_pos c1)).mpr (h2.mono G.z)
    .rw[if_neg c1]at q
     by_cases c2:i=-1
     .rw[if_pos c2]at q
      refine⟨b,xs,i,rfl,rfl,aF.sqL g2.sub h1,.inr c2,λp hp=>?_⟩;have G:=aL (o:=.lst (oj i xs)) g2.sub hp;refine q _ _ _ G (aA.mpr ⟨p,_,rfl,df.of aG,?_⟩);exact(congrArg (λz=>Reps _ _ _ z) (show oj i xs=xs.reverse from if_neg c1)).mpr ((Reps.rev h2).mono G.z)
     .rw[if_neg c2]at q;exact q.elim
   .exact q.elim
end
def My(S:OG->Prop)(H Hf:Hp):Prop:=∀c,((S c/\∃us,H c=some (.lst us))->∃us o,H c=some (.lst us)/\Hf c=some (.frz o (.lst us)))/\(¬(S c/\∃us,H c=some (.lst us))->Hf c=H c)
def Jp{P:O5}{w:Pt}{h:OL}{S:OG->Prop}{H:Hp}(ok:fv P w H h):My S H (qB h S H):=λc=>
 ⟨λz9=>by
  obtain⟨h1,us,e⟩:=z9;obtain⟨_,its,n,_,eo⟩:=ok c _ e;exact⟨us,_,e,yV h1 e eo⟩,λhc=>ig hc⟩
def xT{X:Cx}{π:List (OG×Obj)}{σ:List (Option V)}{H:Hp}{s:OE}{S:OG->Prop}(I:Inv X π σ H s):Inv X π σ (qB s.heap S H) s:=by
 have hout:∀c,H c=none->qB s.heap S H c=none:=λc e=>by
  rw[ig (λz=>by obtain⟨_,us,z⟩:=z;rw[e]at z;cases z)];exact e
 have keep:∀b u,H b=some u->(∀us,u≠.lst us)->qB s.heap S H b=some u:=λb u e n=>by
  rw[ig (λz=>by obtain⟨_,us,z⟩:=z;rw[e]at z;cases z;exact n us rfl)];exact e
 refine⟨I.ok,I.os,I.bare,⟨I.base.keep,I.base.slot,λb o e n hx=>hout _ (I.base.free b o e n hx),I.base.there,λb xs e=>keep _ _ (I.base.tups b xs e) (λ_ z=>by cases z),λb o u e=>keep _ _ (I.base.frzs b o u e) (λ_ z=>by cases z),λb ps e=>?_⟩,I.loc,I.cell,hout _ I.free,λx c e=>hout _ (I.freeC x c e),λp hp=>?_,FF I.hok,I.len⟩
 .obtain⟨m,h1⟩:=I.base.tbls b ps e
  exact⟨m,keep _ _ h1 (λ_ z=>by cases z)⟩
 .obtain⟨h1,h2,h3⟩:=I.pin p hp
  exact⟨h1,hout _ h2,h3⟩
def wF{X:Cx}{st:List Qt}{t:TS}(h:ql X st t):ql X st λG σ H=>∃S,∀Hf,My S H Hf->t G σ Hf :=
 λπ s σ H G I ⟨S,q⟩=>h π s σ _ G (xT I) (q _ (Jp I.hok))
def A1{X:Cx}{π:List (OG×Obj)}{σ:List (Option V)}{H H2:Hp}{s:OE}(v:Vw (λc=>∀o u,X.Ha c≠some (.frz o u)) H H2)(I:Inv X π σ H s):Inv X π σ H2 s:=by
 refine⟨I.ok,I.os,I.bare,⟨I.base.keep,I.base.slot,λb o e n hx=>v.none (I.base.free b o e n hx),I.base.there,λb xs e=>v.keep (I.base.tups b xs e) (λ_ _ z=>by cases z),λb o u e=>?_,λb ps e=>?_⟩,I.loc,I.cell,v.none I.free,λx c e=>v.none (I.freeC x c e),λp hp=>?_,λa o e=>?_,I.len⟩
 .have h1:=I.base.frzs b o u e
  rcases v b with h|⟨h,_⟩
  .rw[h];exact h1
  .exact absurd e (h o u)
 .obtain⟨m,h1⟩:=I.base.tbls b ps e
  exact⟨m,v.keep h1 (λ_ _ z=>by cases z)⟩
 .obtain⟨h1,h2,h3⟩:=I.pin p hp
  exact⟨h1,v.none h2,h3⟩
 .rcases v a with h|⟨_,ob,u,h,h2⟩
  .rw[h]at e;exact bB.view v (I.hok a o e)
  .rw[h2]at e;obtain rfl:u=o:=PK e
   obtain⟨_,q⟩:=(show bB X.prog X.w H s.heap a (.frz ob u) from I.hok a _ h)
   exact bB.view v q
def zX{X:Cx}{st:List Qt}{t:TS}(h:ql X st t):ql X st λG σ H=>∃H2,Vw (λc=>∀o u,X.Ha c≠some (.frz o u)) H H2/\t G σ H2 :=
 λπ s σ H G I ⟨H2,v,q⟩=>h π s σ H2 G (A1 v I) q
structure TP (K:OF) (He Ha:Hp) (σ:L2.St) (H:Hp) (x:Nat) (d:D):Prop where
 p:∃t a0 us0 a1 us1 wr,σ[x]?=some (some (.ref t))/\gT K H t (.ref a0::.ref a1::wr)/\Rep K (frz He Ha H) d (.ref t)/\H a0=some (.lst us0)/\He a0=none/\Ha a0=none/\H a1=some (.lst us1)/\He a1=none/\Ha a1=none/\us1.length<line
def TP.same{K:OF}{He Ha H H':Hp}{σ:L2.St}{x:Nat}{d:D}(h:TP K He Ha σ H x d)(s:aF H H'):TP K He Ha σ H' x d:=by
 obtain⟨t,a0,us0,a1,us1,wr,h1,h2,h3,h4,h5,h6,h7,h8,h9,hl⟩:=h;exact⟨t,a0,us0,a1,us1,wr,h1,aF.sqT s h2,h3.mono (C0 s),s _ _ h4,h5,h6,s _ _ h7,h8,h9,hl⟩
def TP.looks{K:OF}{He η Ha H:Hp}{σ:L2.St}{ρ:Ev}{x:Nat}{d:D}(t:TP K He Ha σ H x d)(h:dJ K He η Ha σ H ρ):eU K (frz He Ha H) σ (vx x d ρ):=λi d' e=>by
 obtain⟨t,a0,us0,a1,us1,wr,h1,h2,h3,_⟩:=t;unfold vx at e
 by_cases c:x=i
 .subst c
  rw[Q1]at e;cases q:(gu ρ)[x]? with|none=>rw[q]at e;cases e|some s=>rw[q]at e;cases e;exact⟨_,h1,h3⟩
 .rw[OQ c]at e
  exact h.looks i d' e
def Oa(K:OF)(E:XK)(He η:Hp)(x:Nat)(g:D->am):TS:=λG σ H=>∃Ha ρ d,dJ K He η Ha σ H ρ/\TP K He Ha σ H x d/\bM K E He η Ha (g d ρ) G
structure MK (X:Cx) (E:XK) (He η:Hp) (x:Nat) (st:List Qt) (g:D->am):Prop where
 o:ql X st (Oa X.K E He η x g)
def Lr(js:cr)(ρ:Ev):Bool:=js.all λj=>match ρ[j]? with
 |some (.sh d)=>bQ d
 |_=>true
def Ko(d:D):Bool:=match d with
 |.tup (.ob .pl _::.ob .pl es::_)=>decide (es.length<line)
 |_=>false
section
variable {X:Cx}{E:XK}{He η:Hp}{x:Nat}{st:Qt}{rest:List Qt}{e c:Pd}{pos:Pos}{f:al}{g:D->am}{s r:am}
def oa(x:Nat)(f:al)(s:am)(g:D->am):D->am:=λd ρ=>(f (vx x d ρ)).bind λb=>match b with
 |.bl true=>(s ρ).bind NV
 |.bl false=>g d ρ
 |_=>.stuck
def G6{body:List Qt}(hc:DT X E c f)(hb:wb X E He η body s)(hr:MK X E He η x rest g):MK X E He η x (.If c body [] pos::rest) (oa x f s g):=by
 refine⟨?_⟩;refine dP (dQ (Hj hc.o hb.o nH) hr.o) λG σ H ⟨Ha,ρ,d,h,t,q⟩=>?_;refine⟨frz He Ha H,vx x d ρ,h.frz_le,t.looks h,?_⟩;unfold oa at q;cases e1:f (vx x d ρ) with
 |stuck=>rw[e1]at q;exact q|exn y=>rw[e1]at q;exact λC ox H' Ha' g1 ex=>q C ox H' Ha' (h.frz_grow.trans g1) ex
 |ok y=>
  rw[e1]at q;cases y with
  |bl y=>
   cases y with
   |true=>
    intro H' J g1;show if true=true then _ else _
    rw[if_pos rfl];refine⟨Ha,ρ,h.same g1.s,?_⟩;replace q:bM X.K E He η Ha ((s ρ).bind NV) G:=q;cases e2:s ρ with
    |stuck|exn z=>rw[e2]at q;exact q
    |ok z=>
     rw[e2]at q;cases z with|rt d'=>exact q| _=>exact q.elim
   |false=>
    intro H' J g1;show if false=true then _ else _
    rw[if_neg (by decide)];exact⟨Ha,ρ,d,h.same g1.s,t.same g1.s,q⟩
  |_=>exact q.elim
def jG(r:am):D->am:=λ_ ρ=>if A4 ρ=true then r ρ else .stuck
def Bo{y:OO}{k k':Int}{jj jk jn}{p0 p1 p2 p3 p4 p5 q0 q1 q2 q3 q4 q5 q6:Pos}(hk:k=0)(hk':k'=1)(hN:X.N[x]?=some y)(hv:zy X.env.scope y)(hr:wb X E He η rest r)
  (hd:(y==("__debug__" : OO))=false:=by decide)(hcd:(y==("__classdict__" : OO))=false:=by decide)(hix:lH (.Constant (.int k) jj p4):=by exact λ_ _=>rfl)(hix':lH (.Constant (.int k') jk q4):=by exact λ_ _=>rfl)
  (hbase:Ra (.Subscript (.Name y p1) (.Constant (.int k) jj p4) p0) "clear" X.env (eval (.Subscript (.Name y p1) (.Constant (.int k) jj p4) p0) X.env)=eval (.Subscript (.Name y p1) (.Constant (.int k) jj p4) p0) X.env:=by rfl)(hline:(p2.endLine==p3.line)=true:=by rfl)
  (hw:P1 (.Call (.Attribute (.Subscript (.Name y p1) (.Constant (.int k) jj p4) p0) "clear" p2) [] [] p3) none p5.line X.env=pure false:=by rfl)
  (hbase':Ra (.Subscript (.Name y q1) (.Constant (.int k') jk q4) q0) "append" X.env (eval (.Subscript (.Name y q1) (.Constant (.int k') jk q4) q0) X.env)=eval (.Subscript (.Name y q1) (.Constant (.int k') jk q4) q0) X.env:=by rfl)
  (hfew:((PN q3 (OJ [.Constant .none jn q6] X.env)).all (λx=>!x.1)&&(Sx q3 (Rm [] X.env)).all (λx=>x.1.isSome)
  &&decide ([(.Constant .none jn q6:Pd)].length+([]:List R7).length+(if([]:List R7).isEmpty then 0 else 1)<30))=true:=by exact kQ rfl)
  (hline':(q2.endLine==q3.line)=true:=by rfl) (hs:OJ [.Constant .none jn q6] X.env=(false,eval (.Constant .none jn q6) X.env)::OJ [] X.env:=by exact aM rfl) (hplain:(PN q3 (OJ [] X.env)).any (·.1)=false:=by exact bw rfl)
  (hw':P1 (.Call (.Attribute (.Subscript (.Name y q1) (.Constant (.int k') jk q4) q0) "append" q2) [.Constant .none jn q6] [] q3) none q5.line X.env=pure false:=by rfl) :
  MK X E He η x (.Expr (.Call (.Attribute (.Subscript (.Name y p1) (.Constant (.int k) jj p4) p0) "clear" p2) [] [] p3) p5::.Expr (.Call (.Attribute (.Subscript (.Name y q1) (.Constant (.int k') jk q4) q0) "append" q2) [.Constant .none jn q6] [] q3) q5::rest) (jG r):=by
 refine⟨?_⟩;have h1:=jJ (Cb RO PySem.F.slot_list_clear PySem.F.type_list_clear Cz (B8 w4 (fE hN hv hd hcd) sJ hix) hbase hline) hw;have h2:=jJ (yw RO Uk Uj lY (B8 w4 (fE hN hv hd hcd) sJ hix') (cw (B6 (j:=jn) (pos:=q6)) eF hs) hbase' hfew hline' hs hplain) hw';refine dP (dQ h1 (dQ h2 hr.o)) λG σ H ⟨Ha,ρ,d,h,t,q⟩=>?_;unfold jG at q
 by_cases hn:A4 ρ=true
 rotate_left
 .rw[if_neg hn]at q;exact q.elim
 rw[if_pos hn]at q;obtain⟨t,a0,us0,a1,us1,wr,e1,ht,_,c0,n0,m0,c1,n1,m1,hl⟩:=t;refine⟨.ref t,e1,?_⟩;refine⟨t,.ref a0::.ref a1::wr,k,.ref a0,rfl,rfl,ht,by rw[hk];exact eg (j:=0) rfl,.inl ⟨rfl,us0,df.of c0⟩,a0,us0,rfl,rfl,c0,?_⟩;have htn:gT X.K (upd H a0 (.lst [])) t (.ref a0::.ref a1::wr):=by
  rcases ht with z|z
  .refine .inl ?_
   rcases z with z|⟨o,z⟩
   .exact .inl (by rw[aE (by intro y;subst y;rw[c0]at z;cases z)];exact z)
   .exact .inr ⟨o,by rw[aE (by intro y;subst y;rw[c0]at z;cases z)];exact z⟩
  .exact .inr z
 obtain⟨us,hu,hul⟩:∃us,upd H a0 (.lst []) a1=some (.lst us)/\us.length<sizeLine:=by
  by_cases c:a1=a0
  .subst c;exact⟨[],aG,by decide⟩
  .exact⟨us1,by rw[aE c];exact c1,OR hl (by decide)⟩
 refine⟨.ref t,e1,?_⟩;refine⟨t,.ref a0::.ref a1::wr,k',.ref a1,rfl,rfl,htn,by rw[hk'];exact eg (j:=1) rfl,.inl ⟨rfl,us,df.of hu⟩,?_⟩;refine⟨a1,us,.non,rfl,rfl,hu,hul,?_⟩;have kp:∀b o,b≠a0->b≠a1->H b=some o->upd (upd H a0 (.lst [])) a1 (.lst (us++[.non])) b=some o:=λb o z0 z1 eb=>by rw[aE z1,aE z0];exact eb
 exact⟨Ha,ρ,h.poke hn (λb o eb=>kp b o (by intro z;subst z;rw[n0]at eb;cases eb) (by intro z;subst z;rw[n1]at eb;cases eb) (h.g.s _ _ eb)) (λb o eb=>kp b o (by intro z;subst z;rw[m0]at eb;cases eb) (by intro z;subst z;rw[m1]at eb;cases eb) (h.g.sub _ _ eb)),q⟩
def lU(x:Nat)(js:cr)(f:al)(g:D->am):am:=λρ=>match f (rm js ρ) with
 |.ok d=>if Lr js ρ=true/\Ko d=true/\x<ρ.length then g d (ρ.set x .no) else .stuck
 |_=>.stuck
def AA(js:cr){y:OO}{pos':Pos}(hN:X.N.Nodup)(hi:X.N[x]?=some y)(hx:A6 X.env.scope y)(hE:aF X.Ha He)(he:DE X E e f)(hr:MK X E He η x rest g)(hs:P1 e (some (.Name y pos')) pos.line X.env=pure false:=by rfl)
  (hf:X.fn y=true∨X.env.scope.names.lookup y=some .local := by first|exact .inl rfl|exact .inr rfl|assumption):wb X E He η (.Assign [.Name y pos'] e pos::rest) (lU x js f g):=by
 refine⟨?_⟩;refine dP (wF (dQ (lX hN hi hx he.o hs hf) (zX hr.o))) λG σ H ⟨Ha,ρ,h,q⟩=>?_;unfold lU at q;cases e1:f (rm js ρ) with
 |stuck|exn z=>rw[e1]at q;exact q.elim
 |ok d=>
  rw[e1]at q;replace q:bM X.K E He η Ha (if Lr js ρ=true/\Ko d=true/\x<ρ.length then g d (ρ.set x .no) else .stuck) G:=q
  by_cases hc:Lr js ρ=true/\Ko d=true/\x<ρ.length
  rotate_left
  .rw[if_neg hc]at q;exact q.elim
  rw[if_pos hc]at q;obtain⟨hp,hd,hxl⟩:=hc
  let S:OG->Prop:=λb=>∃j∈js,∃dj v,ρ[j]?=some (.sh dj)/\σ[j]?=some (some v)/\Ft X.K Ha dj v b
  have s0:∀b,S b->Ha b≠none:=λb ⟨_,_,_,_,_,_,hb⟩=>Ft.some_of hb;refine⟨S,λHf hF=>?_⟩;have hfr:NN (rst Ha S) (rst Hf S):=λc=>by
   by_cases sc:S c
   .rw[lW sc,lW sc]
    cases q0:Ha c with
    |none=>exact absurd q0 (s0 c sc)
    |some o=>
     have hH:=h.g.sub _ _ q0
     by_cases hc:S c/\∃us,H c=some (.lst us)
     .obtain⟨us,ob,z,z2⟩:=(hF c).1 hc
      rw[hH]at z;cases z;exact .inr ⟨us,ob,rfl,z2⟩
     .exact .inl (by rw[(hF c).2 hc,hH])
   .left;unfold rst;rw[if_neg sc,if_neg sc]
  have pj:∀j∈js,∀d',ρ[j]?=some (.sh d')->bQ d'=true:=λj hj d' ej=>by
   have:=Pr.mp hp j hj;rw[ej]at this;exact this
  refine⟨rst Hf S,rm js ρ,BF,λi di ei=>?_,?_⟩
  .obtain⟨hj,ei⟩:=CI ei
   obtain⟨v,h1,h2⟩:=h.rd i di ei;exact⟨v,h1,Rep.frv hfr (pj i hj di ei) (Rep.rst (pj i hj di ei) h2 λb hb=>⟨i,hj,di,v,ei,h1,hb⟩)⟩
  rw[e1];intro v H' Hm g1 rp;have hout:∀c,H c=none->Hf c=none:=λc z=>by rw[(hF c).2 (λy=>by obtain⟨_,us,y⟩:=y;rw[z]at y;cases y)];exact z
  have hin:∀c,Hf c=none->H c=none:=λc z=>by
   by_cases hc:S c/\∃us,H c=some (.lst us)
   .obtain⟨us,ob,z1,z2⟩:=(hF c).1 hc
    rw[z]at z2;cases z2
   .rw[←(hF c).2 hc];exact z
  have vw:∀{J:Hp},(∀c,S c->Hf c≠none->J c=Hf c)->Vw (λc=>∀o u,X.Ha c≠some (.frz o u)) J (mZ S H J):=λ{J} hJ c=>by
   by_cases hc:S c/\∃us,H c=some (.lst us)
   .obtain⟨us,ob,z1,z2⟩:=(hF c).1 hc
    refine .inr ⟨λo u z=>?_,ob,.lst us,by rw[hJ c hc.1 (by rw[z2];simp)];exact z2,by rw[lu hc];exact z1⟩;have:=h.g.s _ _ (hE _ _ z);rw[z1]at this;cases this
   .exact .inl (iw hc)
  have sH:aF H (mZ S H H'):=λc o z=>by
   by_cases hc:S c/\∃us,H c=some (.lst us)
   .rw[lu hc];exact z
   .rw[iw hc];exact g1.s _ _ (by rw[(hF c).2 hc];exact z)
  have nopl:∀c us,Hm c=some (.lst us)->H c=none/\H' c=some (.lst us):=λc us z=>by
   refine⟨?_,g1.sub _ _ z⟩;cases q0:rst Hf S c with
   |none=>exact hin _ (g1.nw c (by rw[z];simp) q0)
   |some o=>
    exfalso;have y:=g1.z _ _ q0;rw[z]at y;cases y;have sc:S c:=yl (by rw[q0];simp);rw[lW sc]at q0
    by_cases hc:S c/\∃us,H c=some (.lst us)
    .obtain⟨us',ob,z1,z2⟩:=(hF c).1 hc
     rw[z2]at q0;cases q0
    .exact hc ⟨sc,us,by rw[←(hF c).2 hc];exact q0⟩
  have hback:∀{c:OG},H c=none->∀{J:Hp},mZ S H J c=J c:=λ{c} z {J}=>iw (λ⟨_,us,y⟩=>by rw[z]at y;cases y);have h1:=(h.same sH).dropT (i:=x) (v:=v);have hJm:∀c,S c->Hf c≠none->Hm c=Hf c:=λc sc n=>by
   cases q0:Hf c with|none=>exact absurd q0 n|some o=>exact g1.z _ _ (by rw[lW sc];exact q0)
  have hJ':∀c,S c->Hf c≠none->H' c=Hf c:=λc sc n=>by
   cases q0:Hf c with|none=>exact absurd q0 n|some o=>exact g1.s _ _ q0
  have sF:aF (mZ S H Hm) (frz He Ha (mZ S H H')):=λc o z=>by
   unfold frz
   by_cases hc:S c/\∃us,H c=some (.lst us)
   .rw[lu hc]at z
    cases q1:He c with
    |none=>simp only;rw[lu hc];exact z
    |some o1=>
     simp only;cases q2:Ha c with|none=>exact absurd q2 (s0 c hc.1)|some o2=>rw[←z];exact(h.g.sub _ _ q2).symm
   .rw[iw hc]at z
    cases q1:He c with
    |none=>simp only;rw[iw hc];exact g1.sub _ _ z
    |some o1=>
     simp only;have hH:=h.g.s _ _ q1;cases q2:rst Hf S c with
     |none=>
      have:=hin _ (g1.nw c (by rw[z];simp) q2);rw[hH]at this;cases this
     |some o2=>
      have y:=g1.z _ _ q2;rw[z]at y;cases y;have sc:S c:=yl (by rw[q2];simp);rw[lW sc,(hF c).2 hc]at q2;cases q3:Ha c with|none=>exact absurd q3 (s0 c sc)|some o3=>rw[←q2];exact(h.g.sub _ _ q3).symm
  have rp2:=(rp.view (vw hJm)).mono sF;unfold Ko at hd;split at hd
  rotate_left
  .cases hd
  rename_i es0 es dr;have hl:es.length<line:=by simpa using hd
  obtain⟨t,ws,rfl,ht,hw⟩:=aI.mp rp;obtain⟨v0,_,rfl,r0,hw⟩:=aC.mp hw;obtain⟨v1,wr,rfl,r1,hw⟩:=aC.mp hw;obtain⟨a0,us0,rfl,c0,_⟩:=ck.mp r0;obtain⟨a1,us1,rfl,c1,rs1⟩:=ck.mp r1;have k0:=nopl a0 us0 c0;have k1:=nopl a1 us1 c1;refine⟨mZ S H H',vw hJ',Ha,ρ.set x .no,_,h1,⟨t,a0,us0,a1,us1,wr,by rw[Pq (by rw[←h.ln];exact hxl)],?_,rp2,?_,h.g.s.free k0.1,h.g.sub.free k0.1,?_,h.g.s.free k1.1,h.g.sub.free k1.1,by rw[←rs1.length];exact hl⟩,q⟩
  .refine ht.imp (λz=>?_) id
   exact(vw hJ').rd (aF.rd g1.sub z) (λ_ _ z=>by cases z)
  .rw[hback k0.1];exact k0.2
  .rw[hback k1.1];exact k1.2
end
end DL
namespace Zt
open PySem PySem.Spec PyProof.Rows DL
def ue:entryFor table "zip.__getattribute__"=some Builtin.«object.__getattribute__» :=
 entryFor_alias (id':="object.__getattribute__") (by kernel_rfl) (by decide +kernel) (by decide +kernel) (by kernel_rfl)
def ng:RI (.type "zip") "__getattr__"=pure none:=by rw[typeLookup_type,builtinLookup_eq_fast];kernel_rfl
def rV:RI (.type "zip") "keys"=pure none:=by rw[typeLookup_type,builtinLookup_eq_fast];kernel_rfl
def qr(a:OG)(vs:Array OB)(sl:Array (Option OB))(u:Tok) :
  Meets (Builtin.«object.__getattribute__» ⟨[.ref a,.str "keys" u],[]⟩) (λA R s=>s.heap.get? a=some { cls:=.type "zip",dict:=none,data:=.fields vs,slots:=sl }/\raisesAttr (.ref a) "keys" A R s) :=
 Meets.of_wp λprog w A R s hs=>by
  obtain⟨hp,g,d,tk,os⟩:=s;obtain⟨hx,hs⟩:=hs;have hT:(⟨hp,g,d,tk,os⟩:OE).TypeIs (.ref a) "zip":=⟨_,hx,rfl⟩
  have f1:=rV;unfold Builtin.«object.__getattribute__»
  repeat (any_goals (first|assumption|wp_step))
  exact wpAny_raiseAttrError hs.1 hs.2 (attrMsg_fits (by decide +kernel) (by size_fits))
section
variable {prog:O5}{w:Pt}{A:Pu}{E:OB->OE->Prop}{s:OE}
def Ec{a:OG}{vs:Array OB}{sl:Array (Option OB)}{Q:Option OB->OE->Prop}
  (hx:s.heap.get? a=some { cls:=.type "zip",dict:=none,data:=.fields vs,slots:=sl })(hA:A.handled=none)
  (h:∀h' tk,(∀b ob,s.heap.get? b=some ob->h'.get? b=some ob)->Q none { s with heap:=h',toks:=tk }) :
  OS (OW prog w) A (getAttr? (.ref a) "keys") Q E s:=by
 obtain⟨hp,g,d,tk,os⟩:=s;have hT:∀tk',(⟨hp,g,d,tk',os⟩:OE).TypeIs (.ref a) "zip":=λ_=>⟨_,hx,rfl⟩
 have f1:=sub_AttributeError;have f3:=SD.lookup;have f4:=SD.bind (.ref a);have f5:=ng;unfold getAttr? getAttrBy? getAttrBy
 repeat (any_goals (first|assumption|exact hT _|((with_reducible show OS _ _ (call (Sq "zip.__getattribute__") _ _) _ _ _);refine call_meets SD (hT _) ue (F.args_zip_getattribute_2 _ _) (qr a vs sl _) ⟨hx,hA,λh' tk' e hx'=>?_⟩)|wp_step))
 obtain⟨t',u',he⟩:=hx'.there;show OS _ _ (getattributeRaised _ _ _ _ _ _ _) _ _ _;unfold getattributeRaised
 repeat (any_goals (first|assumption|wp_step))
 exact h _ _ hx'.keeps
end
section
variable {P:O5}{w:Pt}{A:Pu}{E:OB->OE->Prop}{s:OE}{z ti tO i j l m:OG}{xs ys:Array OB}{S S':Nat->OL->Prop}{a b:OB}
def Ms(P:O5)(w:Pt)(xs ys:Array OB)(k:Nat)(r:List (L2.Key×OB)):Prop:=k+r.length=min xs.size ys.size/\∀c kv,r[c]?=some kv->∃ku,xs[k+c]?=some ku/\(L2.mixKind P w).is kv.1 ku=true/\ys[k+c]?=some kv.2
def Ed{R:Tv->OE->Prop}{B d:OG}(hA:A.handled=none)(D:ZipApart z ti tO i j l m)(I:jU P w i l xs S)(J:jU P w j m ys S')(bz:z<B)(bi:i<B)(bj:j<B)(bO:tO<B)(bt:ti<B)(bd:d<B)
  (dz:d≠z)(di:d≠i)(dj:d≠j)(dO:d≠tO)(dt:d≠ti)(dl:d≠l)(dm:d≠m) :
  ∀(r done:List (L2.Key×OB)) (k:Nat) (s:OE),Ms P w xs ys k r->done.length+r.length<=sizeLine->((done++r).map (·.1)).Nodup->B<=s.heap.objs.size->At B s.heap z ti tO->IsPair s.heap ti (.ref i) (.ref j)->S k s.heap->S' k s.heap->s.heap.DictOf (L2.mixKind P w) d done ->
   (∀h' tk,h'.DictOf (L2.mixKind P w) d (done++r)->(∀b o,b≠d->b≠z->b≠tO->b≠i->b≠j->s.heap.get? b=some o->h'.get? b=some o)->R (.ok (.ret .none)) { s with heap:=h',toks:=tk }) ->
   Rt (OW P w) A (.builtin "dict.update.loop" ⟨[.ref d,.ref z,rawInt k,.none],[]⟩) R s:=by
 intro r
 induction r with
 |nil=>
  intro done k s hr hsz hnd hB hz hti h1 h2 hd hR;refine codeAny_builtin j6 ?_;unfold Builtin.«dict.update.loop»;show OS _ _ (RQ (.ref z) >>= _) _ _ s;have hk:=hr.1;simp only[Q8,Th]at hk;have hend:xs[k]?=none∨ys[k]?=none:=by
   by_cases q:xs.size<=k
   .exact .inl (UJ q)
   .exact .inr (UJ (by omega))
  refine OC (Cr D I J (by first|exact hA|(show A.handled=none;exact hA)) hz hti h1 h2 hend λh' kp=>?_);show OS _ _ (Builtin.Dict.addKeywords d [] >>= _) _ _ _;refine OC (ON (ON (hR h' s.toks ?_ λb o _ c1 c2 c3 c4 q=>kp b o c1 c2 c3 c4 q)));rw[QM];obtain⟨o,es,ep,q,y⟩:=hd;exact⟨o,es,ep,kp d o dz dO di dj q,y⟩
 |cons kv r ih=>
  intro done k s hr hsz hnd hB hz hti h1 h2 hd hR;obtain⟨ku,hx,hk,hy⟩:=hr.2 0 kv rfl;rw[Th]at hx hy;refine codeAny_builtin j6 ?_;unfold Builtin.«dict.update.loop»;show OS _ _ (RQ (.ref z) >>= _) _ _ s;refine OC (Cs D I J bz bi bj hB hz hti h1 h2 hx hy λh' n1 n2 n3 n4 n5 kp=>?_);show OS _ _ (TZ [.ref s.heap.objs.size] _ >>= _) _ _ _;refine OC (PY (OC (wpAny_tryCatch ?_)));unfold Builtin.Dict.pairItems;have hT:({ s with heap:=h' }:OE).TypeIs (.ref s.heap.objs.size) "tuple":=⟨_,n4,rfl⟩
  refine OC (wpAny_typeOf hT ?_);rw[if_pos (by decide)];refine OC (wpAny_seqItems n4 rfl (ON ?_));show OS _ _ (TZ [ku,kv.2] (dictSet d ku kv.2)) _ _ _;have hd':h'.DictOf (L2.mixKind P w) d done:=by
   obtain⟨o,es,ep,q,y⟩:=hd;exact⟨o,es,ep,kp d o dz dO di dj q,y⟩
  simp only[Pw]at hsz;refine PY (wpAny_dictSet_pairs (hsz:=by omega) (k:=kv.1) hk hd' λh'' hd'' hs''=>?_);have hkn:kv.1∉done.map (·.1):=by
   rw[PF,OY]at hnd;exact λc=>(Tj.mp hnd).2.2 _ c _ Pc rfl
  rw[wq hkn]at hd'';refine ON ⟨RL _ (by decide +kernel),?_⟩;have up:∀b o,b≠d->h'.get? b=some o->h''.get? b=some o:=λb o hb e=>(hs''.2 b hb).trans e;refine ih (done++[(kv.1,kv.2)]) (k+1) _ ⟨?_,λc kv' e=>?_⟩ (by simp;omega) (by rw[Sn];exact hnd) ?_ (n1.to (λo q=>up _ o dz.symm q) (λo q=>up _ o dO.symm q) λc o bc q=>up c o (Om bd bc) q) (up _ _ dt.symm (kp _ _ D.TIz D.TITO D.TIi1 D.TIi2 hti)) (I.stay n2 λc o hc g=>up c o (nn hc di.symm dl.symm) g) (J.stay n3 λc o hc g=>up c o (nn hc dj.symm dm.symm) g) hd'' λh3 tk q1 q2=>hR h3 tk (by rw[Sn]at q1;exact q1) λb o m0 m1 m2 m3 m4 q=>q2 b o m0 m1 m2 m3 m4 (up b o m0 (kp b o m1 m2 m3 m4 q))
  .have:=hr.1;simp only[Pw]at this;omega
  .obtain⟨ku',y1,y2,y3⟩:=hr.2 (c+1) kv' e
   exact⟨ku',by rw[←y1];congr 1;omega,y2,by rw[←y3];congr 1;omega⟩
  .show B<=h''.objs.size
   rw[hs''.1];show B<=h'.objs.size;rw[n5];exact Nat.le_succ_of_le hB
def call_dict_zip{Q:OB->OE->Prop}{kx:List (L2.Key×OB)}(hA:A.handled=none)(D:ZipApart z ti tO i j l m)(I:jU P w i l xs S)(J:jU P w j m ys S')(hz:IsZip s.heap z ti tO .none)(ho:IsPair s.heap tO a b)(hti:IsPair s.heap ti (.ref i) (.ref j))(h1:S 0 s.heap)(h2:S' 0 s.heap)(hl:l<s.heap.objs.size)(hm:m<s.heap.objs.size)(hi:i<s.heap.objs.size)(hj:j<s.heap.objs.size)(hn:kx.length<=sizeLine)(hr:Ms P w xs ys 0 kx)(hnd:(kx.map (·.1)).Nodup)
  (hQ:∀h' tk,h'.DictOf (L2.mixKind P w) s.heap.objs.size kx->(∀b o,b≠z->b≠tO->b≠i->b≠j->s.heap.get? b=some o->h'.get? b=some o)->Q (.ref s.heap.objs.size) { s with heap:=h',toks:=tk }) :
  OS (OW P w) A (call (.type "dict") [.ref z]) Q E s:=by
 refine callType_codes (Q₁:=λobj sg=>obj=.ref s.heap.objs.size/\sg={ s with heap:=s.heap.push { cls:=.type "dict",data:=.dict #[] } }) PySem.F.kt_called_dict (PySem.F.kt_typeCall_dict_1 _) PySem.F.entry_dict_init (kt_code_dict_new _ ⟨rfl,rfl⟩) ?_;rintro obj sg ⟨rfl,rfl⟩;have hnew:(s.heap.push { cls:=.type "dict",data:=.dict #[] }).DictOf (L2.mixKind P w) s.heap.objs.size []:=Heap.DictOf.new s.heap;have lz:z<s.heap.objs.size:=OT hz;have lO:tO<s.heap.objs.size:=OT ho;have lt:ti<s.heap.objs.size:=OT hti;have hz':IsZip (s.heap.push { cls:=.type "dict",data:=.dict #[] }) z ti tO .none:=OD _ hz;refine⟨hnew.typeIs,PySem.F.args_dict_init_2 _ _,?_⟩;unfold Builtin.«dict.__init__»;refine OC ?_;unfold Builtin.Dict.selfAndRest;refine OC (wpAny_notOrdered_dict hnew.typeIs ?_);show OS _ _ (pure (s.heap.objs.size,[Ph z])) _ _ _;refine ON ?_;show OS _ _ (Us "dict.__init__" s.heap.objs.size (.ref z) [] .none) _ _ _;unfold Us;refine OC (wpAny_typeOf (T:="zip") ⟨_,hz',rfl⟩ ?_);rw[if_pos (by decide)];refine OC (Ec hz' (by first|exact hA|(show A.handled=none;exact hA)) λu1 tk1 hk1=>?_);rw[if_pos (by rfl)];refine OC (wpAny_rule ?_);have hk2:∀b o,s.heap.get? b=some o->u1.get? b=some o:=λb o q=>hk1 b o (OD _ q);refine OC (wpAny_pyIter_zip (hk1 _ _ hz') ?_);refine ON ⟨RL _ (by decide +kernel),?_⟩;have hd1:u1.DictOf (L2.mixKind P w) s.heap.objs.size []:=by
  obtain⟨o,es,ep,q,r⟩:=hnew;exact⟨o,es,ep,hk1 _ o q,r⟩
 have hB:s.heap.objs.size+1<=u1.objs.size:=by
  obtain⟨o,es,ep,q,r⟩:=hd1;exact OT q
 refine Ed (B:=s.heap.objs.size+1) (by first|exact hA|(show A.handled=none;exact hA)) D I J (Rj lz) (Rj hi) (Rj hj) (Rj lO) (Rj lt) (Rv _) (Qd lz) (Qd hi) (Qd hj) (Qd lO) (Qd lt) (Qd hl) (Qd hm) kx [] 0 _ hr (by simpa using hn) (by simpa using hnd) hB (.inl ⟨hk2 _ _ hz,a,b,hk2 _ _ ho⟩) (hk2 _ _ hti) (I.stay h1 λc o _ g=>hk2 c o g) (J.stay h2 λc o _ g=>hk2 c o g) hd1 λh' tk q1 q2=>⟨rfl,hQ h' tk q1 λb o m1 m2 m3 m4 q=>q2 b o (Pj (OT q)) m1 m2 m3 m4 (hk2 b o q)⟩
end
end Zt
namespace DL
open PySem PySem.Spec PyProof.Rows L2
theorem xV{P:O5}{w:Pt}:∀{ks:bv}{ys:ad}{its jts:List OB},ks.length=ys.length->bq (ks.map V.str) its->bq ys jts->KV ((ks.map Pn).zip ys) ((ks.map (Pn:OO->Key)).zip jts)/\∀(c:Nat) (kv:Key×OB),((ks.map (Pn:OO->Key)).zip jts)[c]?=some kv->∃ku,its[c]?=some ku/\(L2.mixKind P w).is kv.1 ku=true/\jts[c]?=some kv.2
 |[],[],_,_,_,.nil,.nil=>⟨.nil,λc kv e=>by simp at e⟩
 |k::ks,y::ys,_,_,hl,.cons r1 r2,.cons q1 q2=>by
  obtain⟨i1,i2⟩:=xV (P:=P) (w:=w) (by simpa using hl) r2 q2;refine⟨.cons ⟨rfl,q1⟩ i1,λc kv e=>?_⟩;cases c with|zero=>cases e;exact⟨_,rfl,o5 (k:=.inr k) r1,rfl⟩|succ c=>exact i2 c kv e
section
variable {X:Cx}{E:XK}{a b:Pd}{f g:al}
noncomputable def Od(K:OF) (ta:TA):TE:=λσ H Q=>ta σ H λvs H1=>∃(p q:OG) (ks:bv) (ys:ad),vs=[.ref p,.ref q]/\df K H1 p (ks.map V.str)/\df K H1 q ys/\ks.length=ys.length/\ks.Nodup/\∀n,H1 n=none->Q (.ref n) (upd H1 n (.dK ((ks.map Pn).zip ys)))
def wL{ta:TA}{p p2 pos pos2:Pos}(hc:X.calm=true)(hg:Gl X "dict")(hm:X.mg "dict"=none)(hg2:Gl X "zip")(hm2:X.mg "zip"=none)(ha:PA X [a,b] ta)(hs:OJ [a,b] X.env=(false,eval a X.env)::OJ [b] X.env:=by exact aM rfl)(hs2:(PN pos2 (OJ [b] X.env)).any (·.1)=false:=by exact bw rfl)
  (he:OJ [.Call (.Name "zip" p2) [a,b] [] pos2] X.env=(false,eval (.Call (.Name "zip" p2) [a,b] [] pos2) X.env)::OJ [] X.env:=by exact aM rfl)(hpl:(PN pos (OJ [] X.env)).any (·.1)=false:=by exact bw rfl) :
  PE X (.Call (.Name "dict" p) [.Call (.Name "zip" p2) [a,b] [] pos2] [] pos) (Od X.K ta):=by
 intro π s σ H Q I hq;refine wpAny_Call_Name_kw (iE I hg hm PyProof.Rows.Boot.«dict» ?_ (by decide) (by decide));refine Qc ?_ he hpl;rw[he];show OS _ _ (spliced ((false,eval (.Call (.Name "zip" p2) [a,b] [] pos2) X.env)::PN pos (OJ [] X.env))) _ _ s;refine Calls.spliced_cons ?_;refine Call_ (iE I hg2 hm2 PyProof.Rows.Boot.«zip» (Qc (cM (ha pos2 π s σ H _ I hq) λus s1 z9=>?_) hs hs2));obtain⟨vs,H1,I1,r1,q1⟩:=z9;obtain⟨p,q,ks,ys,e,hx,hy,hl,hnd,q1⟩:=q1;subst e;cases r1 with
 |cons r rr=>
  cases rr with
  |cons r' rr=>
   cases rr;cases r;cases r';obtain⟨its,v1,l1,z1⟩:=I1.list hx;obtain⟨jts,v2,l2,z2⟩:=I1.list hy;have hp:=OT (h:=s1.heap) (a:=p) (l1.isList.choose_spec.1);have hq:=OT (h:=s1.heap) (a:=q) (l2.isList.choose_spec.1);refine call_zip_2 l1.isList l2.isList λh1 k1 k2 k3 k4 k5 k6 k7=>?_;refine Calls.spliced_nil ?_;have I2:Inv X π σ H1 { s1 with heap:=h1 }:=I1.kept (t':=s1.toks) k7;have n1:=v1.length;have n2:=v2.length;rw[OH]at n1;obtain⟨hkv,hrest⟩:=xV (P:=X.prog) (w:=X.w) hl v1 v2;have hlen:((ks.map (Pn:OO->Key)).zip jts).length=ks.length:=by rw[Sb,OH];omega
   have hlen':((ks.map (Pn:OO->Key)).zip ys).length=ks.length:=by rw[Sb,OH];omega
   refine Zt.call_dict_zip (s:={ s1 with heap:=h1 }) (kx:=(ks.map (Pn:OO->Key)).zip jts) (I2.ok.hd hc) (zipApart_new hp hq) (Zt.itr_lst _ _ its.toArray) (Zt.itr_lst _ _ jts.toArray) k1 k3 k2 ⟨k4,?_⟩ ⟨k5,?_⟩ ?_ ?_ ?_ ?_ (by rw[hlen];omega) ⟨by rw[hlen];simp;omega,λc kv e=>?_⟩ ?_ λh2 tk hd kp=>?_
   .obtain⟨o,ho,r⟩:=l1.isList;exact⟨o,k7 _ _ ho,r⟩
   .obtain⟨o,ho,r⟩:=l2.isList;exact⟨o,k7 _ _ ho,r⟩
   .show p<h1.objs.size;rw[k6];exact OR hp (Sz _ _)
   .show q<h1.objs.size;rw[k6];exact OR hq (Sz _ _)
   .show s1.heap.objs.size<h1.objs.size;rw[k6];exact Nat.lt_add_of_pos_right (by decide)
   .show s1.heap.objs.size+1<h1.objs.size;rw[k6];exact Nat.add_lt_add_left (by decide) _
   .obtain⟨ku,y1,y2,y3⟩:=hrest c kv e
    exact⟨ku,by simpa using y1,y2,by simpa using y3⟩
   .rw[ud (by omega)]
    exact Rk.mpr (Tn (λh c=>h (TK c)) hnd)
   have hk2:∀b o,s1.heap.get? b=some o->h2.get? b=some o:=λb u g=>by
    have bl:=OT g;have nb:∀n,b≠s1.heap.objs.size+n:=λn z=>by rw[z]at bl;exact absurd bl (Nat.not_lt_of_le (Sz _ _))
    exact kp b u (nb 4) (nb 3) (nb 0) (nb 1) (k7 _ _ g)
   have le:s1.heap.objs.size<=h1.objs.size:=by rw[k6];exact Sz _ _
   have I3:Inv X π σ (upd H1 h1.objs.size (.dK ((ks.map Pn).zip ys))) { s1 with heap:=h2,toks:=tk }:=by
    refine I1.laid (t':=tk) hk2 le (pF (by rw[hlen'];omega) ?_ hkv hd);exact beq_eq_false_iff_ne.mpr (Px (Pj I2.big))
   exact⟨.ref _,_,I3,rfl,q1 _ (I1.hok.fresh le)⟩
def sr:ac->Option (bv)
 |[]=>some []
 |.str x::r=>(sr r).map (x::·)
 |_=>none
theorem yd:∀{ds:ac}{ks:bv},sr ds=some ks->ds=ks.map D.str
 |[],_,h=>by cases h;rfl
 |d::ds,ks,h=>by
  cases d with
  |str x=>
   unfold sr at h;cases e:sr ds with|none=>rw[e]at h;cases h|some r=>rw[e]at h;cases h;rw[yd e];rfl
  |_=>unfold sr at h;cases h
theorem uB:∀{ks:bv},sr (ks.map D.str)=some ks
 |[]=>rfl
 |k::ks=>by rw[OY,sr,uB];rfl
theorem lG{K:OF}{H:Hp}:∀{ks:bv}{vs:ad},Reps K H (ks.map D.str) vs->vs=ks.map V.str
 |[],vs,h=>Reps.nil_iff.mp h
 |n::ns,vs,h=>by
  obtain⟨v,r,rfl,h1,h2⟩:=aC.mp h;rw[Rep.str_iff.mp h1,lG h2];rfl
def pH(x y:D):aj D:=match x,y with
 |.lst xs,.lst ys=>match sr xs with
  |some ks=>if ks.length=ys.length/\ks.Nodup then .ok (.dic ks ys) else .stuck
  |none=>.stuck
 |_,_=>.stuck
def xE{p p2 pos pos2:Pos}(hc:X.calm=true)(hg:Gl X "dict")(hm:X.mg "dict"=none)(hg2:Gl X "zip")(hm2:X.mg "zip"=none)(ha:DE X E a f)(hb:DE X E b g)(hs:OJ [a,b] X.env=(false,eval a X.env)::OJ [b] X.env:=by exact aM rfl)(hs1:OJ [b] X.env=(false,eval b X.env)::OJ [] X.env:=by exact aM rfl)(hs2:(PN pos2 (OJ [b] X.env)).any (·.1)=false:=by exact bw rfl)
  (he:OJ [.Call (.Name "zip" p2) [a,b] [] pos2] X.env=(false,eval (.Call (.Name "zip" p2) [a,b] [] pos2) X.env)::OJ [] X.env:=by exact aM rfl)(hpl:(PN pos (OJ [] X.env)).any (·.1)=false:=by exact bw rfl) :
  DE X E (.Call (.Name "dict" p) [.Call (.Name "zip" p2) [a,b] [] pos2] [] pos) (aa f g pH):=by
 refine⟨aX (wL hc hg hm hg2 hm2 (cw ha.o (cw hb.o eF hs1) hs) hs hs2 he hpl) λσ H Q z9=>?_⟩;obtain⟨Ha,ρ,hs,hr,q⟩:=z9;refine⟨Ha,ρ,hs,hr,?_⟩;unfold aa at q;cases e1:f ρ with
 |stuck|exn x=>rw[e1]at q;exact q
 |ok x=>
  rw[e1]at q;intro v H1 H01 g1 r1;refine⟨H01,ρ,g1.sub,hr.mono g1.z,?_⟩;replace q:post X.K E H Ha ((g ρ).bind λy=>pH x y) Q:=q;replace q:=q.grow g1;cases e2:g ρ with
  |stuck|exn x=>rw[e2]at q;exact q
  |ok y=>
   rw[e2]at q;intro u H2 H02 g2 r2;replace q:post X.K E H1 H01 (pH x y) Q:=q;replace q:=q.grow g2;unfold pH at q;cases x with
   |lst xs=>
    cases y with
    |lst ys=>
     cases e3:sr xs with
     |none=>simp only[e3]at q;exact q.elim
     |some ks=>
      simp only[e3]at q
      by_cases hl:ks.length=ys.length/\ks.Nodup
      .rw[if_pos hl]at q
       rw[yd e3]at r1;obtain⟨pa,vs,rfl,sa,ra⟩:=aA.mp (r1.mono g2.z);obtain⟨pb,us,rfl,sb,rb⟩:=aA.mp r2;have ev:=lG ra;subst ev;have lb:=rb.length;refine⟨pa,pb,ks,us,rfl,aF.sqL g2.sub sa,aF.sqL g2.sub sb,by omega,hl.2,λn hn=>?_⟩;have G:=aL (o:=.dK ((ks.map Pn).zip us)) g2.sub hn;exact q _ _ _ G (jC.mpr ⟨n,_,us,rfl,.inl aG,rfl,by omega,rb.mono G.z⟩)
      .rw[if_neg hl]at q;exact q.elim
    |_=>exact q.elim
   |_=>exact q.elim
end
noncomputable def IE(K:OF) (E:XK) (He η Ha:Hp) (r:aj Fl) (D:gr):Prop:=match r with
 |.ok (.rt (.dic ks es))=>∀p us H Ha',bf He η H Ha'->He p=none->Ha' p=none->H p=some (.dK ((ks.map Pn).zip us))->ks.length=us.length->Reps K Ha' es us->D.rt (.ref p) H
 |.exn x=>∀C ox H Ha',bf He η H Ha'->tY K Ha' x C ox->E C ox H
 |_=>False
def MX(K:OF)(E:XK)(He η:Hp)(g:am):TS:=λD σ H=>∃Ha ρ,dJ K He η Ha σ H ρ/\IE K E He η Ha (g ρ) D
structure v7 (X:Cx) (E:XK) (He η:Hp) (st:List Qt) (g:am):Prop where
 o:ql X st (MX X.K E He η g)
section
variable {X:Cx}{E:XK}{He η:Hp}{st:Qt}{rest:List Qt}{s t:am}{pos:Pos}
def ko(h1:DS X E He η st s)(h2:v7 X E He η rest t):v7 X E He η (st::rest) (oy s t):=by
 refine⟨?_⟩;refine dP (dQ h1.o h2.o) λD σ H z9=>?_;obtain⟨Ha,ρ,h,q⟩:=z9;refine⟨Ha,ρ,h,?_⟩
 unfold oy at q;cases e1:s ρ with
 |stuck|exn x=>rw[e1]at q;exact q
 |ok r=>
  rw[e1]at q;cases r with|nx ρ'=>exact λσ' H' Ha' s' h'=>⟨Ha',ρ',h',q⟩|rt d|bk ρ'|ct ρ'=>exact q.elim
def K1(s:Option Sl):aj Fl:=match s with
 |some (.ow (.dic ks ds))=>.ok (.rt (.dic ks ds))
 |_=>.stuck
def wy(i:Nat):am:=λρ=>K1 ρ[i]?
def AB{i:Nat}{x:OO}{p1:Pos}(hN:X.N[i]?=some x)(hv:zy X.env.scope x)(hd:(x==("__debug__" : OO))=false:=by decide)(hcd:(x==("__classdict__" : OO))=false:=by decide) :
  v7 X E He η [.Return (some (.Name x p1)) pos] (wy i):=by
 refine⟨?_⟩;refine dP (dQ (BV (fE hN hv hd hcd)) nH) λD σ H ⟨Ha,ρ,h,q⟩=>?_;unfold wy at q;cases e1:ρ[i]? with
 |none=>rw[e1]at q;exact q.elim
 |some s=>
  rw[e1]at q;cases s with
  |ow d=>
   cases d with
   |dic ks ds=>
    obtain⟨p,h1,h2,h3,vs,h4,h5,h6⟩:=h.ow i _ e1;exact⟨.ref p,h1,q p vs H Ha h.g h2 h3 h4 h5 h6⟩
   |_=>exact q.elim
  |_=>exact q.elim
def EO:V->ad->Hp->VK->Prop:=λx vs H Q=>∃l kvs,x=.ref l/\vs=[]/\H l=some (.dK kvs)/\Q .non (upd H l (.dK []))
def Am:NJ X "dict.clear" EO:=by
 intro π s σ H x vs v us Q I rx rv h;obtain⟨l,kvs,rfl,rfl,hH,q⟩:=h;cases rx;have hus:=rv.zero;subst hus;exact GG I hH λs' I'=>⟨.non,_,I',rfl,q⟩
def Mn(i:Nat)(ρ:Ev)(s:Option Sl):aj Fl:=match s with
 |some (.ow (.dic _ _))=>.ok (.nx (ρ.set i .no))
 |_=>.stuck
def qQ(i:Nat):am:=λρ=>Mn i ρ ρ[i]?
def Gu{i:Nat}{x:OO}{p1 p2 p3:Pos}(hN:X.N[i]?=some x)(hv:zy X.env.scope x)
  (hd:(x==("__debug__" : OO))=false:=by decide)(hcd:(x==("__classdict__" : OO))=false:=by decide)
  (hbase:Ra (.Name x p1) "clear" X.env (eval (.Name x p1) X.env)=eval (.Name x p1) X.env:=by rfl)(hline:(p2.endLine==p3.line)=true:=by rfl)
  (hw:P1 (.Call (.Attribute (.Name x p1) "clear" p2) [] [] p3) none pos.line X.env=pure false:=by rfl) :
  DS X E He η (.Expr (.Call (.Attribute (.Name x p1) "clear" p2) [] [] p3) pos) (qQ i):=by
 refine⟨?_⟩;refine cu (jJ (Cb PySem.F.plainAttrs_dict Up PySem.F.type_dict_clear Am (fE hN hv hd hcd) hbase hline) hw) λD σ H ⟨Ha,ρ,h,q⟩=>?_;unfold qQ at q;cases e1:ρ[i]? with
 |none=>rw[e1]at q;exact q.elim
 |some s=>
  rw[e1]at q;cases s with
  |ow d=>
   cases d with
   |dic ks ds=>
    obtain⟨p,h1,h2,h3,vs,h4,h5,h6⟩:=h.ow i _ e1;refine⟨.ref p,h1,.inr (.inr (.inl ⟨rfl,.inl ⟨_,h4⟩⟩)),p,_,rfl,rfl,h4,?_⟩;have w:=h.writeG (dn:=.dic [] []) (o:=.dK []) e1 h1 ⟨[],aG,rfl,Reps.nil⟩;have w2:=w.dropT (i:=i) (v:=.ref p);have es:σ.set i (some (.ref p))=σ:=by
     refine RY λj=>?_
     by_cases hj:i=j
     .subst hj
      rw[Pq (OP.mp h1).1,h1]
     .rw[OQ hj]
    rw[es,List.set_set]at w2;exact q σ _ Ha (aF.refl _) w2
   |_=>exact q.elim
  |_=>exact q.elim
end
def Hn(r:Fl):aj D:=match r with
 |.rt (.dic ks es)=>.ok (.dic ks es)
 |_=>.stuck
def yk(n:Nat)(s:am)(ds:ac):aj D:=(s (ds.map Sl.sh++O7 (n-ds.length) .no)).bind Hn
noncomputable def ID(K:OF) (E:XK) (H Ha:Hp) (r:aj D) (Q:VK):Prop:=match r with
 |.ok (.dic ks es)=>∀p us H' Ha',bf H Ha H' Ha'->H p=none->Ha' p=none->H' p=some (.dK ((ks.map Pn).zip us))->ks.length=us.length->Reps K Ha' es us->Q (.ref p) H'
 |.exn x=>∀C ox H' Ha',bf H Ha H' Ha'->tY K Ha' x C ox->E C ox H'
 |_=>False
def om(K:OF)(n:Nat)(m:ac->aj D):Sp:=λvs H Q E=>vs.length=n/\∃Ha ds,aF Ha H/\Reps K Ha ds vs/\ID K E H Ha (m ds) Q
def tu{P:O5}{w:Pt}{K:OF}{mg:OO->Option OB}{base:OL}{x qual:OO}{st:Qt}{f:OG}{fd:Pz}{N ps:bv}{k:Nat}{s:am}(F:D1 K x qual st f fd)(S:fw N ps (defScope st))
  (hbody:∀(cdv:OB) (A:Pu) (outer:List PQ) (s0:OE) (H Ha:Hp) (E:XK),c5 k (A.deeper (envOfC qual (defScope st) s0.heap.objs.size f cdv)) ->
   v7 (bV (dN P w) P w K mg base N qual (defScope st) f cdv A outer s0 H E) E H Ha (defBody st) s):FnOk P w K mg base (dN P w) (k+1) f fd ps (om K ps.length (yk N.length s)):=by
 have hpl:ps.length<=N.length:=by have:=congrArg TM S.pre;rw[PJ]at this;omega
 obtain⟨oc,od,kV,doc,pm,an,cdv,ct,osl,rfl,lk,hcd⟩:=F.ex;refine C4 lk hcd S (λvs H Q E h=>h.1) λA outer s0 H vs Q E hr h=>?_;obtain⟨hn,Ha,ds,hs,hv,q⟩:=h;refine⟨_,(hbody cdv A outer s0 H Ha E hr).o,Ha,ds.map Sl.sh++O7 (N.length-ds.length) .no,?_,?_⟩
 .refine⟨bf.refl hs,jc hv,λi d e=>?_,λi j d d' hij e=>?_,?_,OX.none lS ki⟩
  .by_cases hi:i<ds.length
   .rw[O8 (by simpa using hi),OM]at e
    cases q:ds[i]? with|none|some d'=>rw[q]at e;cases e
   .rw[O9 (by simpa using hi),Pm]at e
    split at e<;>cases e
  .by_cases hi:i<ds.length
   .rw[O8 (by simpa using hi),OM]at e
    cases q:ds[i]? with|none|some d'=>rw[q]at e;cases e
   .rw[O9 (by simpa using hi),Pm]at e
    split at e<;>cases e
  .unfold L2.start
   have:=hv.length;simp only[PU,OH,QD];omega
 .unfold yk at q
  cases e1:s (ds.map Sl.sh++O7 (N.length-ds.length) .no) with
  |stuck|exn x=>rw[e1]at q;exact q
  |ok r=>
   rw[e1]at q;cases r with
   |rt d=>
    cases d with|dic ks es=>exact λp us H' Ha' g hp h0 hv' hl rr=>q p us H' Ha' g hp h0 hv' hl rr| _=>exact q.elim
   |_=>exact q.elim
def uD{K:OF}{n:Nat}{m:ac->aj D}{vs:ad}{H:Hp}{Q:VK}{E E':XK}(h:om K n (noX m) vs H Q E):om K n m vs H Q E':=by
 obtain⟨hn,Ha,ds,hs,hv,q⟩:=h;refine⟨hn,Ha,ds,hs,hv,?_⟩;unfold noX at q;cases e:m ds with
 |stuck=>rw[e]at q;exact q|exn x=>rw[e]at q;exact q.elim
 |ok d=>rw[e]at q;cases d<;>first|exact q|exact q.elim
theorem FnOk.noXFd{P:O5}{w:Pt}{K:OF}{mg:OO->Option OB}{base:OL}{k n:Nat}{f:OG}{fd:Pz}{ps:bv}{m:ac->aj D}(F:FnOk P w K mg base (dN P w) k f fd ps (om K n m)) :
  FnOk P w K mg base CX0 k f fd ps (om K n (DL.noX m)) :=
 ⟨λvs H Q E h=>F.len vs H Q E0 (uD h),λA outer s H args us vs Q E hr he hb hv h=>codeAny_mono (F.run A outer s H args us vs Q E0 hr he hb hv (uD h)) λr s' q=>by
  cases r with
  |ok fl=>cases fl<;>exact q
  |error e=>obtain⟨_,_,_,_,_,_,_,_,_,_,_,_,_,_,_,hE⟩:=q;exact hE.elim⟩
section
variable {X:Cx}{E:XK}{He η:Hp}{e:Pd}{es:List Pd}{f:al}{fa:Ev->aj (ac)}{pos:Pos}
def Dx{CX:qp}{k n:Nat}{fn:OG}{fd:Pz}{ps:bv}{m:ac->aj D}{x:OO}{p:Pos}(F:FnOk X.prog X.w X.K X.mg X.base CX k fn fd ps (om X.K n m))(hr:c5 k X.A)(hg:Gl X x)(hm:X.mg x=some (.ref fn))
  (hk:Sh X.K (.ref fn)=true)(hb:iX X.K fd ps [])(hx:jD CX X E)(ha:DA X E (e::es) fa)(hn:(e::es).length=n:=by rfl)(hl:∀ρ ds,fa ρ=.ok ds->ds.length=(e::es).length)
  (hdb:(x==("__debug__" : OO))=false:=by decide)(he:OJ (e::es) X.env=(false,eval e X.env)::OJ es X.env:=by exact aM rfl)(hpl:(PN pos (OJ es X.env)).any (·.1)=false:=by exact bw rfl) :
  MA X E (.Call (.Name x p) (e::es) [] pos) (aq fa m):=by
 refine⟨?_⟩;refine aX (yu F hr hg hm hk hb .nil hx ha.o hdb he hpl) λσ H Q h=>?_;obtain⟨Ha,ρ,hs,hr,q⟩:=h;refine⟨Ha,ρ,hs,hr,?_⟩;unfold aq at q;cases e1:fa ρ with
 |stuck|exn x=>rw[e1]at q;exact q
 |ok ds=>
  rw[e1]at q;intro v H1 H01 g1 r1;refine⟨?_,H01,ds,g1.sub,by simpa using r1,?_⟩
  .have:=r1.length
   have:=hl ρ ds e1;simp only[QM];omega
  .replace q:match m ds with
    |.ok (.dic ks ds)=>∀p vs H' Ha',bf H Ha H' Ha'->H p=none->Ha' p=none->H' p=some (.dK ((ks.map Pn).zip vs))->ks.length=vs.length->Reps X.K Ha' ds vs->Q (.ref p) H'
    |.ok _=>False
    |.exn x=>∀C ox H' Ha',bf H Ha H' Ha'->tY X.K Ha' x C ox->E C ox H'
    |.stuck=>False:=q
   cases e2:m ds with
   |stuck=>rw[e2]at q;exact q|exn x=>rw[e2]at q;exact λC ox H' Ha' g ex=>q C ox H' Ha' (g1.trans g) ex
   |ok d=>
    rw[e2]at q;cases d with|dic ks es=>exact λp us H' Ha' g hp h0 hv hl rr=>q p us H' Ha' (g1.trans g) (g1.s.free hp) h0 hv hl rr| _=>exact q.elim
end
section
variable {P:O5}{w:Pt}{K:OF}{mg:OO->Option OB}{base:OL}{rows:List Rw}{A:Nat->OG}{Q:Nat->Pz}{i k n:Nat}{r:Rw}{s:am}
variable (T:TG rows K mg A Q) (S:ML rows) (h:rows[i]?=some r)
include T S h
theorem Nm(b:∀(cdv:OB) (A':Pu) (outer:List PQ) (s0:OE) (H Ha:Hp) (E:XK),c5 k (A'.deeper (envOfC r.x (defScope r.st) s0.heap.objs.size (A i) cdv)) ->
   v7 (bV (dN P w) P w K mg base r.N r.x (defScope r.st) (A i) cdv A' outer s0 H E) E H Ha (defBody r.st) s):fP P w K mg base (dN P w) (k+1) (A i) (Q i) r.ps (om K r.ps.length (yk r.N.length s)) r.x r.st :=
 ⟨tu (T i r h).F (S r (O1 h)) b,T i r h⟩
end
def fP.noXFd{P:O5}{w:Pt}{K:OF}{mg:OO->Option OB}{base:OL}{k:Nat}{fn:OG}{fd:Pz}{ps:bv}{n:Nat}{m:ac->aj D}{x:OO}{st:Qt}(B:fP P w K mg base (dN P w) k fn fd ps (om K n m) x st):fP P w K mg base CX0 k fn fd ps (om K n (DL.noX m)) x st:=⟨DL.FnOk.noXFd B.F,B.t⟩
section
variable {X:Cx}{E:XK}{e:Pd}{es:List Pd}{fa:Ev->aj (ac)}{pos:Pos}{CX:qp}{k k0 n:Nat}{fn:OG}{fd:Pz}{ps:bv}{m:ac->aj D}{x:OO}{p:Pos}{st:Qt}
def Oj(B:fP X.prog X.w X.K X.mg X.base CX k0 fn fd ps (om X.K n m) x st)(hr:c5 k X.A)(ha:DA X E (e::es) fa)(hle:k0<=k:=by decide)(hx:jD CX X E:=by first|exact Hl|exact pass0E|exact yy)(hl:∀ρ ds,fa ρ=.ok ds->ds.length=(e::es).length:=by first|exact MI|exact MH|exact ND|exact al4|exact al5)(hn:(e::es).length=n:=by rfl)
  (hg:Gl X x:=by exact rfl)(hdb:(x==("__debug__" : OO))=false:=by decide)(he:OJ (e::es) X.env=(false,eval e X.env)::OJ es X.env:=by exact aM rfl)(hpl:(PN pos (OJ es X.env)).any (·.1)=false:=by exact bw rfl) :
  MA X E (.Call (.Name x p) (e::es) [] pos) (aq fa m):=Dx (B.F.mono hle) hr hg B.t.g B.t.F.kp B.t.b hx ha hn hl hdb he hpl
end
theorem mw:∀{ks:bv}{us:ad}{zs:List (Key×OB)},ks.Nodup->KV ((ks.map (Pn:OO->Key)).zip us) zs->∀(j:Nat) (k:OO) (u:V),ks[j]?=some k->us[j]?=some u->∃z,valueAt zs (Pn k)=some z/\bA u z
 |[],us,zs,_,h,j,k,u,e,_=>by simp at e
 |k0::ks,[],zs,_,h,j,k,u,_,e=>by simp at e
 |k0::ks,w::us,zs,hn,h,j,k,u,e1,e2=>by
  rw[OY,Qu]at h;cases h with
  |@cons _ q _ r h1 h2=>
   obtain⟨qk,qv⟩:=q;obtain⟨h1a,h1b⟩:=h1;simp only at h1a h1b;subst h1a;cases j with
   |zero=>
    simp only[Qw,Qx]at e1 e2;subst e1 e2;exact⟨qv,by simp[valueAt],h1b⟩
   |succ j=>
    rw[Qe]at e1 e2;obtain⟨z,hz,rz⟩:=mw (Qk.mp hn).2 h2 j k u e1 e2;refine⟨z,?_,rz⟩;unfold valueAt at hz ⊢;rw[List.find?_cons_of_neg]
    .exact hz
    .simp only[decide_eq_true_eq,Pn.injEq]
     intro c;subst c;exact(Qk.mp hn).1 (O1 e1)
section
variable {X:Cx}{E:XK}{π:List (OG×Obj)}{σ:L2.St}{H:Hp}{s:OE}
theorem vc(I:Inv X π σ H s)(hu:X.A.units+64<QU){kb:List (Key×OB)}:∀{ks:bv}{es fs:ac}{vs us:ad}{zs:List (Key×OB)},ks.length=vs.length->ks.length=us.length->KV ((ks.map (Pn:OO->Key)).zip vs) zs->Reps X.K H es vs->Reps X.K H fs us->es.all (aW 39)=true->fs.all (aW 39)=true ->
  (∀(j:Nat) (k:OO) (u:V),ks[j]?=some k->us[j]?=some u->∃z,valueAt kb (Pn k)=some z/\bA u z)->W.KeqHits X.A.in1 s kb zs (eqDs es fs)
 |[],es,fs,[],[],zs,_,_,h,r1,r2,_,_,_=>by
  cases h;have l1:=r1.length;have l2:=r2.length;cases es with
  |nil=>
   cases fs with|nil=>rw[eqDs];exact .nil|cons _ _=>simp at l2
  |cons _ _=>simp at l1
 |k::ks,[],fs,v::vs,us,zs,_,_,h,r1,_,_,_,_=>by have:=r1.length;simp at this
 |k::ks,e::es,[],vs,u::us,zs,_,_,h,_,r2,_,_,_=>by have:=r2.length;simp at this
 |k::ks,e::es,f::fs,v::vs,u::us,zs,l1,l2,h,r1,r2,s1,s2,g=>by
  rw[OY,Qu]at h;cases h with
  |@cons _ q _ r h1 h2=>
   obtain⟨qk,qv⟩:=q;obtain⟨h1a,h1b⟩:=h1;simp only at h1a h1b;subst h1a;obtain⟨_,_,e0,a1,a2⟩:=aC.mp r1;cases e0;obtain⟨_,_,e0,b1,b2⟩:=aC.mp r2;cases e0;rw[Rc,O4]at s1 s2;obtain⟨y,e1,ry⟩:=g 0 k u rfl rfl;rw[eqDs];exact .hit e1 (EN I 39 X.A.in1 (by show X.A.units+1+39<QU;omega) _ _ _ _ _ _ s1.1 s2.1 a1 b1 h1b ry).2.1 (vc I hu (by simpa using l1) (by simpa using l2) h2 a2 b2 s1.2 s2.2 λj k' u' x1 x2=>g (j+1) k' u' x1 x2)
def K3(K:OF):R2:=λv u H Q=>∃ks es fs,Rep K H (.dic ks es) v/\Rep K H (.dic ks fs) u/\ks.Nodup/\es.all (aW 39)=true/\fs.all (aW 39)=true/\Q (.bl (!(eqDs es fs))) H
def Ce(hu:X.A.units+64<QU):fN X (PX .NotEq) (K3 X.K):=by
 intro π s σ H x y v u Q I rx ry h;obtain⟨ks,es,fs,h1,h2,hn,sx,sy,q⟩:=h;obtain⟨a,kvs,vs,rfl,k1,rfl,k3,k4⟩:=jC.mp h1;obtain⟨b,kus,us,rfl,j1,rfl,j3,j4⟩:=jC.mp h2;cases rx;cases ry;obtain⟨_,n1,zs,c1,d1⟩:=(show bB X.prog X.w H s.heap a (.dK _) from k1.ok I.hok)
 obtain⟨_,n2,ws,c2,d2⟩:=(show bB X.prog X.w H s.heap b (.dK _) from j1.ok I.hok)
 have z1:zs.length=ks.length:=by
  have:=c1.length;rw[Sb,OH]at this;omega
 have z2:ws.length=ks.length:=by
  have:=c2.length;rw[Sb,OH]at this;omega
 refine W.keq_ne n1 n2 d1 d2 (r:=eqDs es fs) (by omega) (λ_=>vc I hu k3 j3 c1 k4 j4 sx sy (mw hn c2)) ⟨.bl _,H,I,?_,q⟩;rw[z1,z2,beq_self_eq_true,R8];rfl
def vC(x y:D):aj D:=match x,y with
 |.dic ks es,.dic ls fs=>if ks=ls/\ks.Nodup/\es.all (aW 39)=true/\fs.all (aW 39)=true then .ok (.bl (!(eqDs es fs))) else .stuck
 |_,_=>.stuck
def Cj:ub X.K E (K3 X.K) vC:=by
 intro x y v u H Ha Q hs r1 r2 q;unfold vC at q;split at q
 .split at q
  .rename_i c
   obtain⟨c1,c2,c3,c4⟩:=c;subst c1;exact⟨_,_,_,r1.mono hs,r2.mono hs,c2,c3,c4,bG hs q (aH.mpr rfl)⟩
  .exact q.elim
 .exact q.elim
end
def Dr{X:Cx}{E:XK}{He η:Hp}{e:Pd}{f:al}{pos:Pos}{i:Nat}{x:OO}{pos':Pos}(hN:X.N.Nodup)(hi:X.N[i]?=some x)(hx:X.env.scope.names.lookup x=some .local)(he:Ks X E e f)(hs:P1 e (some (.Name x pos')) pos.line X.env=pure true:=by rfl):DS X E He η (.Assign [.Name x pos'] e pos) (aV i (wK f)):=by
 refine⟨cu (he.st hN hi hx hs) λD σ H z9=>?_⟩;obtain⟨Ha,ρ,h,q⟩:=z9;refine⟨Ha,ρ,h.g.sub,h.rd,?_⟩;unfold aV wK at q;cases e1:f ρ with
 |stuck=>rw[e1]at q;exact q|exn x=>rw[e1]at q;exact λC ox H' Ha' g ex=>q C ox H' Ha' (h.g.trans g) ex
 |ok d=>
  rw[e1]at q;cases d with
  |lst ds=>
   intro p vs H' Ha' g hp h0 hv rp;have z:aF Ha' (upd Ha' p (.lst vs)):=λb o e=>by rw[aE (by intro z;subst z;rw[h0]at e;cases e)];exact e
   have g':bf H Ha H' (upd Ha' p (.lst vs)):=by
    refine⟨g.s,g.z.trans z,λb o e=>?_,λb h1 h2=>?_⟩
    .by_cases c:b=p
     .subst c;rw[aG]at e;cases e;exact hv
     .rw[aE c]at e;exact g.sub _ _ e
    .by_cases c:b=p
     .subst c;exact hp
     .rw[aE c]at h1;exact g.nw b h1 h2
   exact q _ H' _ g'.z ((h.grow g').put (ck.mpr ⟨p,vs,rfl,aG,rp.mono z⟩))
  |_=>exact q.elim
end DL
namespace DL
open PySem L2
section
variable {α β:Type}
def Rf(a b:aj α):Prop:=a=.stuck∨a=b
def cQ{a b:aj α}{f g:α->aj β}(h:Rf a b)(k:∀x,Rf (f x) (g x)):Rf (a.bind f) (b.bind g):=by
 rcases h with rfl|rfl
 .exact .inl rfl
 .cases a with
  |ok x=>exact k x
  |exn x=>exact .inr rfl
  |stuck=>exact .inl rfl
structure jT (f g:Ev->aj α):Prop where
 o:∀ρ,Rf (f ρ) (g ρ)
end
structure HD (f g:ac->aj D):Prop where
 o:∀ds,Rf (f ds) (g ds)
def HD.ok{f g:ac->aj D}(h:HD f g){ds:ac}{d:D}(e:f ds=.ok d):g ds=.ok d:=by
 rcases h.o ds with q|q
 .rw[q]at e;cases e
 .rw[←q];exact e
def rfm_refl{f:ac->aj D}:HD f f:=⟨λ_=>.inr rfl⟩
def rf_refl{α:Type}{f:Ev->aj α}:jT f f:=⟨λ_=>.inr rfl⟩
section
variable {s s' t t':am}{c c' f f':al}{fa fa':Ev->aj (ac)}{m m':ac->aj D}
def rf_stuck:jT gM s:=⟨λ_=>.inl rfl⟩
def rf_seq(h1:jT s s')(h2:jT t t'):jT (ar s t) (ar s' t'):=⟨λρ=>cQ (h1.o ρ) λr=>by
 cases r with
 |nx ρ'=>exact h2.o ρ'
 |_=>exact .inr rfl⟩
def rf_if(hc:jT c c')(h1:jT s s')(h2:jT t t'):jT (dX c s t) (dX c' s' t'):=⟨λρ=>cQ (hc.o _) λr=>by
 cases r with
 |bl b=>cases b with
  |true=>exact h1.o ρ
  |false=>exact h2.o ρ
 |_=>exact .inr rfl⟩
theorem nF{tg:Ev->D->aj Ev}(h:jT s s'):∀(ds:ac) (ρ:Ev),Rf (cW tg s ds ρ) (cW tg s' ds ρ)
 |[],ρ=>.inr rfl
 |d::r,ρ=>by
  unfold cW;refine cQ (.inr rfl) λρ1=>cQ (h.o ρ1) λx=>?_;cases x with|nx ρ2|ct ρ2=>exact nF h r ρ2|bk ρ2|rt d=>exact .inr rfl
def rf_for{tg:Ev->D->aj Ev}(hf:jT f f')(h:jT s s'):jT (kG f tg s) (kG f' tg s'):=⟨λρ=>cQ (hf.o ρ) λd=>by
 cases d with
 |lst ds=>exact nF h ds ρ
 |_=>exact .inr rfl⟩
def rf_forI{tg:Ev->D->aj Ev}{src:Ev->aj (ac)}(h:jT s s'):jT (gW src tg s) (gW src tg s'):=⟨λρ=>cQ (.inr rfl) λds=>nF h ds ρ⟩
def rf_drop(h:jT f f'):jT (kH f) (kH f'):=⟨λρ=>cQ (h.o _) λ_=>.inr rfl⟩
def rf_ret(h:jT f f'):jT (bC f) (bC f'):=⟨λρ=>cQ (h.o _) λ_=>.inr rfl⟩
def rf_set{i:Nat}(h:jT f f'):jT (aV i f) (aV i f'):=⟨λρ=>cQ (h.o _) λ_=>.inr rfl⟩
def rf_b1{op:D->aj D}(h:jT f f'):jT (bh f op) (bh f' op):=⟨λρ=>cQ (h.o _) λ_=>.inr rfl⟩
def rf_not(h:jT f f'):jT (cj f) (cj f'):=rf_b1 h
def rf_b2{op:D->D->aj D}(h:jT f f')(h2:jT c c'):jT (aa f c op) (aa f' c' op):=⟨λρ=>cQ (h.o _) λ_=>cQ (h2.o _) λ_=>.inr rfl⟩
def rf_bA(h:jT fa fa')(hm:HD m m'):jT (aq fa m) (aq fa' m'):=⟨λρ=>cQ (h.o _) λds=>hm.o ds⟩
def rf_cons(h:jT f f')(h2:jT fa fa'):jT (ag f fa) (ag f' fa'):=⟨λρ=>cQ (h.o _) λ_=>cQ (h2.o _) λ_=>.inr rfl⟩
def wA{n:Nat}(h:jT s s'):HD (cm n s) (cm n s'):=⟨λds=>cQ (h.o _) λr=>.inr rfl⟩
end
end DL
local macro_rules|`(tactic|open_line with[rf_go])=>`(tactic|repeat (first|with_reducible exact DL.rf_refl|with_reducible exact DL.rf_stuck|with_reducible assumption|with_reducible exact DL.rfm_refl|with_reducible refine DL.rf_seq ?_ ?_|with_reducible refine DL.rf_if ?_ ?_ ?_|with_reducible refine DL.rf_for ?_ ?_|with_reducible refine DL.rf_forI ?_|with_reducible refine DL.rf_drop ?_|with_reducible refine DL.rf_ret ?_|with_reducible refine DL.rf_set ?_|with_reducible refine DL.rf_not ?_|with_reducible refine DL.rf_bA ?_ ?_|with_reducible refine DL.rf_cons ?_ ?_|with_reducible refine DL.rf_b1 ?_|with_reducible refine DL.rf_b2 ?_ ?_))
namespace Nwb
open PySem L2 DL Com
noncomputable def b_look_at_places:am :=
 (ar (dX (gs (cj (bh (ae 0) (cK "list"))) (cj (iL Kp Kp (dC (.int 2)) (aq (ag (ae 0) aB) (m1 cY)) (dC (.int 7)))))
 (ar (fQ "NoWeb" ["part","number"] (ag (dC (.str "places")) (ag (dC (.non)) aB)))
 av)
 av)
 (ar (gW (nr (ae 0)) (dy [1,2])
 (ar (dX (gs (cj (aq (ag (ae 2) aB) m_is_name)) (aa (ae 2) (eQ (ae 0) dw (bW (ae 1))) v9))
 (ar (fQ "NoWeb" ["part","number"] (ag (dC (.str "places")) (ag (ae 1) aB)))
 av)
 av)
 av))
 av))
def m_look_at_places:ac->aj D:=cm 3 b_look_at_places
noncomputable def b_look_at_ties:am :=
 (ar (dX (gs (cj (bh (ae 0) (cK "list"))) (aa (aq (ag (ae 0) aB) (m1 cY)) (dC (.int 14)) Kq))
 (ar (fQ "NoWeb" ["part","number"] (ag (dC (.str "ties")) (ag (dC (.non)) aB)))
 av)
 av)
 (ar (gW (nr (ae 0)) (dy [2,3])
 (ar (dX (gs (cj (aq (ag (ae 3) aB) m_is_tie)) (gs (aa (aa (ae 3) (dC (.int 0)) aK) (ae 1) cE) (aa (aa (ae 3) (dC (.int 1)) aK) (ae 1) cE)))
 (ar (fQ "NoWeb" ["part","number"] (ag (dC (.str "ties")) (ag (ae 2) aB)))
 av)
 av)
 av))
 av))
def m_look_at_ties:ac->aj D:=cm 4 b_look_at_ties
noncomputable def b_look_at_web:am :=
 (ar (dX (gs (cj (bh (ae 0) (cK "tuple"))) (aa (aq (ag (ae 0) aB) (m1 cY)) (dC (.int 4)) jt))
 (ar (fQ "NoWeb" ["part","number"] (ag (dC (.str "web")) (ag (dC (.non)) aB)))
 av)
 av)
 (ar (kH (aq (ag (aa (ae 0) (dC (.int 0)) aK) aB) m_look_at_places))
 (ar (kH (aq (ag (aa (ae 0) (dC (.int 1)) aK) (ag (aa (ae 0) (dC (.int 0)) aK) aB)) m_look_at_ties))
 (ar (dX (cj (aq (ag (aa (ae 0) (dC (.int 2)) aK) (ag (aa (ae 0) (dC (.int 0)) aK) aB)) m_is_place))
 (ar (fQ "NoWeb" ["part","number"] (ag (dC (.str "first")) (ag (dC (.non)) aB)))
 av)
 av)
 (ar (dX (gs (cj (aq (ag (aa (ae 0) (dC (.int 3)) aK) (ag (aa (ae 0) (dC (.int 0)) aK) aB)) m_is_place)) (aa (aa (ae 0) (dC (.int 3)) aK) (aa (ae 0) (dC (.int 2)) aK) jW))
 (ar (fQ "NoWeb" ["part","number"] (ag (dC (.str "last")) (ag (dC (.non)) aB)))
 av)
 av)
 av)))))
def m_look_at_web:ac->aj D:=cm 1 b_look_at_web
def qS:HD Com.m_look_at_places m_look_at_places:=wA (by unfold Com.b_look_at_places b_look_at_places;open_line with[rf_go])
def EL:HD Com.m_look_at_ties m_look_at_ties:=wA (by unfold Com.b_look_at_ties b_look_at_ties;open_line with[rf_go])
def Im:HD Com.m_look_at_web m_look_at_web:=by
 have h1:=qS;have h2:=EL;exact wA (by unfold Com.b_look_at_web b_look_at_web;open_line with[rf_go])
def webX{w:iP}(W:eV w):m_look_at_web [aN w]=.ok .non:=Im.ok (HM W)
def placesX{zs:bv}(h2:2<=zs.length)(h7:zs.length<=7)(nm:dk zs):m_look_at_places [.lst (zs.map D.str)]=.ok .non:=qS.ok (qV h2 h7 nm)
end Nwb
namespace K59
open PySem L2 DL
def nI:List (OO×Bool):=[("NoTurn",false),("NoWeb",true)]
abbrev bL:ac->aj D:=Cod.bL
abbrev bX:ac->aj D:=Cod.bX
abbrev cy:ac->aj D:=Cod.cy
abbrev cC:ac->aj D:=Cod.cC
abbrev cf:ac->aj D:=Cod.cf
abbrev bP:ac->aj D:=Cod.bP
abbrev cN:ac->aj D:=Cod.cN
noncomputable def cT:am :=
 (ar (aV 2 (aq (ag (eQ (ae 1) (bW (dC (.int 6))) dw) (ag (aq (ag (aa (ae 0) (dC (.int 0)) aK) aB) (m1 cY)) aB)) bX))
 (ar (aV 3 (aa (aa (ae 1) (dC (.int 1)) aK) (aq (ag (aa (ae 0) (dC (.int 0)) aK) aB) (m1 cY)) cP))
 (ar (aV 4 (aa (eQ (aa (ae 0) (dC (.int 0)) aK) (bW (ae 3)) dw) (eQ (aa (ae 0) (dC (.int 0)) aK) dw (bW (ae 3))) bI))
 (ar (dX (aa (aa (ae 1) (dC (.int 0)) aK) (dC (.int 0)) jW)
 (ar (bC (ae 2))
 av)
 av)
 (ar (dX (aa (aa (ae 1) (dC (.int 0)) aK) (dC (.int 1)) jW)
 (ar (bC (aa (ae 4) (aa (dC (.int 1)) (aa (dC (.int 2)) (aa (ae 1) (dC (.int 5)) aK) cq) i7) kZ))
 av)
 av)
 (ar (sC 5 (aq aB cI))
 (ar (mD (aq (ag (ae 4) aB) (m1 cY)) (eM 6)
 (ar (aV 7 (aa (ae 2) (ae 6) aK))
 (ar (dX (fK (aa (ae 6) (aa (aa (ae 1) (dC (.int 2)) aK) (aq (ag (ae 4) aB) (m1 cY)) cP) Mk) (aa (aa (ae 4) (ae 6) aK) (ae 2) cE))
 (ar (aV 7 (aa (ae 4) (ae 6) aK))
 av)
 av)
 (ar (dY 5 (ae 7))
 av))))
 (ar (bC (ae 5))
 av))))))))
def aZ:ac->aj D:=cm 8 cT
noncomputable def kh:am :=
 (ar (EK [2,3,4,5] (ae 0))
 (ar (sC 6 (aq aB cI))
 (ar (kG (ae 3) (dy [7,8,9,10,11])
 (ar (dY 6 (aq (ag (aa (ae 1) (eR (ae 2) (ae 7)) aK) (ag (aa (ae 1) (eR (ae 2) (ae 8)) aK) (ag (ae 9) (ag (ae 10) (ag (ae 11) aB))))) gw))
 av))
 (ar (bC (aq (ag (aq (ag (ae 1) aB) (m1 j7)) (ag (ae 6) (ag (aa (ae 1) (eR (ae 2) (ae 4)) aK) (ag (aa (ae 1) (eR (ae 2) (ae 5)) aK) aB)))) gw))
 av))))
def dU:ac->aj D:=cm 12 kh
abbrev m_is_name:ac->aj D:=Com.m_is_name
abbrev m_look_at_places:ac->aj D:=Nwb.m_look_at_places
abbrev m_is_whole:ac->aj D:=Com.m_is_whole
abbrev m_common_divisor:ac->aj D:=Com.m_common_divisor
abbrev m_is_ratio:ac->aj D:=Com.m_is_ratio
abbrev m_is_length:ac->aj D:=Com.m_is_length
abbrev m_is_worth:ac->aj D:=Com.m_is_worth
abbrev m_is_tie:ac->aj D:=Com.m_is_tie
abbrev m_look_at_ties:ac->aj D:=Nwb.m_look_at_ties
abbrev m_is_place:ac->aj D:=Com.m_is_place
abbrev m_look_at_web:ac->aj D:=Nwb.m_look_at_web
noncomputable def jA:am :=
 (ar (kH (aq (ag (ae 0) aB) m_look_at_web))
 (ar (qP (lV (ag (ae 1) aB) m_look_at_places) (vd nI) "NoTurn" (ag (dC (.str "names are a list of unlike ones, each of one to eight small letters")) aB))
 (ar (dX (aa (aq (ag (ae 1) aB) (m1 cY)) (aq (ag (aa (ae 0) (dC (.int 0)) aK) aB) (m1 cY)) jt)
 (ar (wz "NoTurn" (ag (dC (.str "there are as many names as places")) aB))
 av)
 av)
 (ar (bC (aa (aa (ae 0) (dC (.int 0)) aK) (ae 1) pH))
 av))))
def cS:ac->aj D:=cm 2 jA
noncomputable def lA:am :=
 (ar (bC (aq (ag (aa (ae 1) (aa (ae 0) (dC (.int 0)) aK) cc) (ag (aa (ae 1) (aa (ae 0) (dC (.int 1)) aK) cc) (ag (aa (ae 0) (dC (.int 2)) aK) (ag (aa (ae 0) (dC (.int 3)) aK) (ag (aa (ae 0) (dC (.int 4)) aK) aB))))) gw))
 av)
def fR:ac->aj D:=cm 2 lA
noncomputable def rP:am :=
 (ar (aV 2 (aq (ag (ae 0) (ag (ae 1) aB)) cS))
 (ar (aV 3 (wK (eC 1 [2] (EH (aa (ae 0) (dC (.int 1)) aK)) (eM 0) mYes (aq (ag (ae 0) (ag (ae 1) aB)) fR))))
 (ar (bC (aq (ag (wK (aq (ag (ae 1) aB) (m1 j7))) (ag (ae 3) (ag (aa (ae 2) (aa (ae 0) (dC (.int 2)) aK) cc) (ag (aa (ae 2) (aa (ae 0) (dC (.int 3)) aK) cc) aB)))) gw))
 av)))
def cR:ac->aj D:=cm 4 rP
noncomputable def bY(mR:ac->aj D):am :=
 (ar (dX (bh (ae 1) (tN ["tuple","list"]))
 (ar (dX (aa (bh (ae 0) (cK "tuple")) (bh (ae 1) (cK "tuple")) jt)
 (ar (bC (dC (.bl false)))
 av)
 av)
 (ar (dX (gs (aa (bh (ae 0) (cK "list")) (bh (ae 1) (cK "list")) jt) (aa (aq (ag (ae 0) aB) (m1 cY)) (aq (ag (ae 1) aB) (m1 cY)) jt))
 (ar (bC (dC (.bl false)))
 av)
 av)
 (ar (bC (aq (ag (eC 2 [] (mB (ae 0) (ae 1)) (dy [0,1]) mYes (aq (ag (ae 0) (ag (ae 1) aB)) mR)) aB) (m1 vG)))
 av)))
 av)
 (ar (dX (gs (aa (ae 1) (dC (.non)) vE) (bh (ae 1) (cK "str")))
 (ar (bC (fK (aa (ae 0) (ae 1) jW) (aa (bh (ae 0) (cK "str")) (bh (ae 1) (cK "str")) jW)))
 av)
 av)
 (ar (bC (fK (bh (ae 0) (cK "int")) (fK (cj (bh (ae 0) (cK "bool"))) (aa (ae 0) (ae 1) jW))))
 av)))
def aJ:Nat->ac->aj D
 |0=>λ_=>.stuck
 |n+1=>cm 2 (bY (aJ n))
abbrev bb:ac->aj D:=aJ 5
noncomputable def m6:am :=
 (ar (bC (aq (ag (aa (aa (aa (ae 0) (dC (.int 0)) aK) (aa (ae 1) (dC (.int 1)) aK) cq) (aa (aa (ae 2) (aa (ae 1) (dC (.int 0)) aK) cq) (aa (ae 0) (dC (.int 1)) aK) cq) bI) (ag (aa (aa (ae 0) (dC (.int 1)) aK) (aa (ae 1) (dC (.int 1)) aK) cq) aB)) cC))
 av)
def fA:ac->aj D:=cm 3 m6
def gI:am :=
 (ar (bC (aa (aa (aa (ae 0) (dC (.int 0)) aK) (aa (ae 1) (dC (.int 1)) aK) cq) (aa (aa (ae 1) (dC (.int 0)) aK) (aa (ae 0) (dC (.int 1)) aK) cq) Mk))
 av)
def cU:ac->aj D:=cm 2 gI
noncomputable def ke:am :=
 (ar (jg 2 (vF (aa (ae 0) (dC (.int 2)) aK) (aq (ag (dC (.int 0)) (ag (dC (.int 1)) aB)) gw)))
 (ar (mD (aq (ag (aa (ae 0) (dC (.int 0)) aK) aB) (m1 cY)) (eM 3)
 (ar (gW (nr (aa (ae 0) (dC (.int 1)) aK)) (dy [4,5])
 (ar (kG (eQ (aq (ag (aq (ag (aa (ae 5) (dC (.int 0)) aK) (ag (aa (ae 5) (dC (.int 1)) aK) aB)) gw) (ag (aq (ag (aa (ae 5) (dC (.int 1)) aK) (ag (aa (ae 5) (dC (.int 0)) aK) aB)) gw) aB)) cI) dw (bW (aa (dC (.int 1)) (aq (ag (aa (aa (ae 5) (dC (.int 2)) aK) (dC (.str "both")) jW) aB) (m1 pI)) bI))) (dy [6,7])
 (ar (dX (fK (aa (ae 4) (ae 1) cE) (aa (ae 6) (ae 2) xH))
 (ar (yi 8 (aq (ag (aa (ae 2) (ae 6) cc) (ag (aa (ae 5) (dC (.int 3)) aK) (ag (dC (.int 1)) aB))) fA))
 (ar (dX (gs (aa (ae 7) (ae 2) k8) (aq (ag (ae 8) (ag (aa (ae 2) (ae 7) cc) aB)) cU))
 (ar (jf 2 (ae 8) (ae 7))
 av)
 av)
 av))
 av)
 av))
 av))
 av))
 (ar (bC (ae 2))
 av)))
def dS:ac->aj D:=cm 9 ke
noncomputable def ka:am :=
 (ar (aV 3 (aq (ag (ae 0) (ag (ae 1) aB)) dS))
 (ar (jg 4 (dC (.dic [] [])))
 (ar (kG (bh (aa (ae 0) (dC (.int 0)) aK) GI) (eM 5)
 (ar (jf 4 (dC (.non)) (ae 5))
 (ar (dX (aa (ae 5) (ae 3) xH)
 (ar (jf 4 (aq (ag (aa (aa (aa (ae 3) (ae 5) cc) (dC (.int 0)) aK) (ae 2) cq) (ag (aa (aa (aa (ae 3) (ae 5) cc) (dC (.int 1)) aK) (dC (.int 4)) cq) aB)) cC) (ae 5))
 av)
 av)
 av)))
 (ar (bC (ae 4))
 av))))
def dR:ac->aj D:=cm 6 ka
def m7:am :=
 (ar (bC (eC 2 [1] (nr (aa (ae 0) (dC (.int 1)) aK)) (dy [0,1]) (fK (aa (aa (ae 1) (dC (.int 4)) aK) (dC (.non)) rB) (aa (aa (aa (ae 2) (ae 0) GH) (dC (.int 1)) zj) (dC (.int 1)) jW)) (ae 0)))
 av)
def fB:ac->aj D:=cm 2 m7
noncomputable def ff:am :=
 (oy (aV 3 (aq (ag (ae 0) (ag (ae 1) aB)) cS))
 (oy (jg 4 (dC (.dic [] [])))
 (oy (kG (aa (ae 0) (dC (.int 0)) aK) (eM 5)
 (ar (jf 4 (aa (ae 2) (ae 5) cc) (aa (ae 3) (ae 5) cc))
 av))
 (wy 4))))
def dE:ac->aj D:=yk 6 ff
noncomputable def Hz:am :=
 (ar (aV 1 (aq (ag (ae 0) aB) cN))
 (ar (aV 2 (aq (ag (ae 0) aB) cN))
 (ar (kG (aa (eQ (aa (aq (ag (ae 0) aB) cy) (dC (.int 1)) aK) dw (bW (dC (.int 30)))) (aq (ag (dC (.int 7)) aB) cI) bI) (eM 3)
 (ar (aV 4 (aq (ag (ae 3) (ag (aa (aq (ag (dC (.int 3)) (ag (dC (.int 420)) (ag (dC (.int 420)) (ag (dC (.int 16384)) (ag (dC (.int 5)) (ag (dC (.int 2)) aB)))))) cI) (kI (aa (aq (ag (dC (.int 8)) (ag (dC (.int 3)) aB)) cI) (kI (aq (ag (dC (.int 26)) aB) cI) (dC (.int 8))) pK) (dC (.int 7))) bI) aB)) bL))
 (ar (aV 5 (aq (ag (ae 1) (ag (ae 4) aB)) aZ))
 (ar (aV 6 (aq (ag (ae 1) (ag (ae 5) aB)) dU))
 (lU 7 [2,5] (aq (ag (ae 2) (ag (ae 5) aB)) (noX cR))
 (oa 7 (gs (cj (aq (ag (DD (ae 7)) (ag (ae 6) aB)) bb)) (aa (ae 5) (aq (ag (ae 1) (ag (ae 4) aB)) aZ) jt))
 (ar (bC (dC (.bl false)))
 av)
 (oa 7 (cj (aq (ag (DD (aq (ag (DD (ae 7)) (ag (aa (ae 1) (dC (.int 0)) aK) aB)) (noX cR))) (ag (ae 1) aB)) bb))
 (ar (bC (dC (.bl false)))
 av)
 (jG
 (ar (dX (gs (aa (ae 5) (aq (ag (ae 1) (ag (ae 4) aB)) aZ) jt) (cj (aq (ag (ae 2) (ag (ae 1) aB)) bb)))
 (ar (bC (dC (.bl false)))
 av)
 av)
 (ar (aV 8 (aq (ag (ae 1) (ag (aq (ag (ae 1) (ag (aa (ae 4) (dC (.int 3)) aK) aB)) fB) (ag (aa (ae 4) (dC (.int 4)) aK) aB))) dR))
 (ar (aV 9 (aq (ag (ae 8) aB) (m1 pJ)))
 (ar (jg 10 (aq (ag (ae 2) (ag (ae 5) (ag (ae 8) aB))) (noX dE)))
 (ar (dX (gs (cj (bh (ae 10) (cK "dict"))) (gs (aa (aq (ag (aq (ag (ae 10) aB) (m1 l7)) aB) (m1 jr)) (aq (ag (ae 5) aB) (m1 jr)) jt) (aa (ae 8) (ae 9) vC)))
 (ar (bC (dC (.bl false)))
 av)
 av)
 (ar (gW (BA (aa (ae 1) (dC (.int 0)) aK) (ae 5)) (dy [11,12])
 (ar (dX (cj (aq (ag (aa (ae 10) (ae 12) cc) (ag (aa (ae 8) (ae 11) cc) aB)) bb))
 (ar (bC (dC (.bl false)))
 av)
 av)
 av))
 (ar (qQ 10)
 (ar (dX (aa (ae 8) (ae 9) vC)
 (ar (bC (dC (.bl false)))
 av)
 av)
 (ar (dX (gs (cj (aq (ag (DD (aq (ag (ae 2) (ag (ae 5) aB)) (noX cR))) (ag (ae 6) aB)) bb)) (cj (aq (ag (ae 2) (ag (ae 1) aB)) bb)))
 (ar (bC (dC (.bl false)))
 av)
 av)
 av)))))))))))))))))
 (ar (bC (dC (.bl true)))
 av))))
def m_law:ac->aj D:=cm 13 Hz
def top(i:Nat):Qt:=PySem.Challenge.pw_farthestcut_k59_called_otherwise.main.body.getD i (.Pass ⟨0,0,0,0⟩)
noncomputable def rows:List Rw:=[
 ⟨"_law_draws",top 39,["_law_cell","_law_tops","_law_found","_law_left","_law_mixed","_law_k"],2⟩,
 ⟨"_law_names",top 42,["_law_d","_law_many","_law_some","_law_names_here","_law_k","_law_e","_law_name","_law_at"],2⟩,
 ⟨"_law_cells",top 44,["_law_script","_law_d","_law_many"],1⟩,
 ⟨"_law_low",top 40,["_law_top","_law_bottom","_law_one","_law_other"],2⟩,
 ⟨"_law_fraction",top 41,["_law_d","_law_top","_law_bottom"],1⟩,
 ⟨"_law_tie",top 43,["_law_cell","_law_k","_law_walk","_law_d","_law_at","_law_other","_law_worth"],3⟩,
 ⟨"_law_web",top 45,["_law_script","_law_d","_law_places","_law_first","_law_last","_law_amid","_law_walk","_law_ties"],1⟩,
 ⟨"_law_new_names",top 52,["_law_web_here","_law_d","_law_drawn_ones","_law_at","_law_own","_law_mixed","_law_k","_law_name"],2⟩,
 ⟨"_law_called",top 53,["_law_web_here","_law_names_here","_law_places","_law_ties","_law_first","_law_last","_law_told","_law_one","_law_other","_law_word","_law_length","_law_worth"],2⟩,
 ⟨"is_name",top 11,["thing"],1⟩,
 ⟨"look_at_places",top 30,["places","number","place"],1⟩,
 ⟨"is_whole",top 9,["thing"],1⟩,
 ⟨"common_divisor",top 5,["one","other","larger","smaller","rest"],2⟩,
 ⟨"is_ratio",top 10,["thing"],1⟩,
 ⟨"is_length",top 27,["thing"],1⟩,
 ⟨"is_worth",top 28,["thing"],1⟩,
 ⟨"is_tie",top 26,["thing"],1⟩,
 ⟨"look_at_ties",top 31,["ties","places","number","tie"],2⟩,
 ⟨"is_place",top 32,["thing","places"],2⟩,
 ⟨"look_at_web",top 29,["thing"],1⟩,
 ⟨"names_called",top 35,["web","names"],2⟩,
 ⟨"tie_called",top 36,["tie","called"],2⟩,
 ⟨"renamed",top 34,["web","names","called","ties"],2⟩,
 ⟨"_law_alike",top 51,["_law_found","_law_due"],2⟩,
 ⟨"_law_plus",top 46,["_law_one","_law_other","_law_sign"],3⟩,
 ⟨"_law_less",top 47,["_law_one","_law_other"],2⟩,
 ⟨"_law_labels",top 49,["_law_web_here","_law_taken","_law_found","_law_turn","_law_k","_law_tie_here","_law_begin","_law_end","_law_one"],2⟩,
 ⟨"_law_prices",top 50,["_law_web_here","_law_taken","_law_part","_law_labels_here","_law_found","_law_place"],3⟩,
 ⟨"_law_bits",top 48,["_law_web_here","_law_bits_here"],2⟩,
 ⟨"prices_renamed",top 37,["web","names","prices","called","told","place"],3⟩,
 ⟨"law",top 54,["_law_script","_law_web_here","_law_handed","_law_cell","_law_d","_law_names_here","_law_due","_law_found","_law_prices_here","_law_kept","_law_told","_law_place","_law_name"],1⟩]
def sc:ML rows:=by decide +kernel
theorem nd(i:Nat){r:Rw}(h:rows[i]?=some r:=by rfl):r.N.Nodup:=(sc r (O1 h)).nd
def bn:∀r∈rows,MC r:=by
 unfold rows
 repeat refine List.forall_mem_cons.mpr ⟨by first|exact Ov|exact Ou|exact Ot|exact bd4|exact bd5,?_⟩
 exact λ_ h=>nomatch h
abbrev gV:Qt:=FC (top 3) 0
def zW:fw ["self","part","number"] ["self","part","number"] (defScope gV):=⟨rfl,rfl,rfl,by decide +kernel,rfl,by decide +kernel,by decide +kernel⟩
def HB(K:OF)(r:OG):List (OG×Bool)->Prop
 |[]=>True
 |x::l=>R6 K (.ref r) (.ref x.1)=some x.2/\HB K r l
def sbc{K:OF}{r c:OG}{b:Bool}{l:List (OG×Bool)}(h:R6 K (.ref r) (.ref c)=some b)(h':HB K r l):HB K r ((c,b)::l):=⟨h,h'⟩
theorem Nf{K:OF}{r c:OG}{b:Bool}:∀{l:List (OG×Bool)},HB K r l->∀n:Nat,l[n]?=some (c,b)->R6 K (.ref r) (.ref c)=some b
 |_::_,h,0,e=>by cases e;exact h.1
 |_::_,h,n+1,e=>Nf h.2 n e
set_option genInjectivity false in
set_option genSizeOfSpec false in
structure Adr where
 dW:OG
 o9:Pz
 cD:OG
 eL:OG
 bR:OG
 A:Nat->OG
 Q:Nat->Pz
set_option genInjectivity false in
set_option genSizeOfSpec false in
structure Txt (K:OF) (mg:OO->Option OB) (t:Adr):Prop where
 g:TG rows K mg t.A t.Q
 n_abs:mg "abs"=none
 n_all:mg "all"=none
 n_bool:mg "bool"=none
 n_dict:mg "dict"=none
 n_enumerate:mg "enumerate"=none
 n_int:mg "int"=none
 n_isinstance:mg "isinstance"=none
 n_len:mg "len"=none
 n_list:mg "list"=none
 n_min:mg "min"=none
 n_range:mg "range"=none
 n_sorted:mg "sorted"=none
 n_str:mg "str"=none
 n_tuple:mg "tuple"=none
 n_zip:mg "zip"=none
 xf:mg "CutError"=some (.ref t.cD)
 Jn:nB K "CutError" t.cD
 vi:mg "NoTurn"=some (.ref t.eL)
 LK:nB K "NoTurn" t.eL
 gH:mg "NoWeb"=some (.ref t.bR)
 yS:nB K "NoWeb" t.bR
 nZ:zx K "NoTurn" t.eL
 gA:zw K "NoWeb" t.bR
 D3:D1 K "__init__" "NoWeb.__init__" gV t.dW t.o9
 eT:iX K t.o9 ["self","part","number"] []
 fZ:HA K t.bR t.dW
 fY:DV K t.bR ["part","number"]
 f9:W.isFn K (.ref t.dW)=true
 uq:DY K t.cD
 oO:HB K t.eL [(t.bR,false)]
 sL:HB K t.bR [(t.bR,true)]
 fL:tX K mg "FEWEST_PLACES" (.int 2)
 ll:tX K mg "FIRST" (.int 2)
 qc:tX K mg "LAST" (.int 3)
 lj:tX K mg "LENGTH" (.int 3)
 me:tX K mg "LETTERS" (.str "abcdefghijklmnopqrstuvwxyz")
 gm:tX K mg "LONGEST_NAME" (.int 8)
 gR:tX K mg "MOST_PLACES" (.int 7)
 jy:tX K mg "MOST_TIES" (.int 14)
 rJ:tX K mg "ONE" (.int 0)
 jR:tX K mg "OTHER" (.int 1)
 eS:tX K mg "PLACES" (.int 0)
 tQ:tX K mg "TIES" (.int 1)
 pZ:tX K mg "WORD" (.int 2)
 tP:tX K mg "WORDS" (.tup [(.str "one"),(.str "both")])
 nV:tX K mg "WORTH" (.int 4)
section
variable {P:O5}{w:Pt}{K:OF}{mg:OO->Option OB}{base:OL}{t:Adr}
def sZ(T:Txt K mg t):∀x C,vd nI x=true->XC K x C->W.exmOne K (.ref C) (.ref t.bR)=some true :=
 CV λq hq=>by
  unfold nI at hq;simp only[OU,PR,or_false]at hq;rcases hq with rfl|rfl
  .exact⟨t.eL,T.nZ.xcls.xc,T.yS.exm (Nf T.oO 0 rfl)⟩
  .exact⟨t.bR,T.gA.xc,T.yS.exm (Nf T.sL 0 rfl)⟩
def eA(T:Txt K mg t):FnOk P w K mg base CX0 1 t.dW t.o9 ["self","part","number"] (EI K ["part","number"]) :=
 LU T.D3 zW rfl (by decide) λcdv A outer s0 H E=>(Kv (i:=1) T.uq rfl T.xf (sG (i:=1) rfl (O2 rfl) (sG (i:=2) rfl (O2 rfl) Iw)) rfl rfl (O2 rfl) (O2 rfl) (Ej (i:=2) rfl rfl (O2 rfl) (O2 rfl) HJ))
def fm(T:Txt K mg t):fP P w K mg base CX0 1 (t.A 0) (t.Q 0) ["_law_cell","_law_tops"] (spD K 2 bL) "_law_draws" (top 39) :=
 oD T.g sc (i:=0) rfl λ_ _ _ _ _ _ _ _=>(
 (ah (tK (i:=2) (nd 0) rfl (O2 rfl) (kq az))
 (ah (aT (i:=3) (nd 0) rfl (O2 rfl) (aS jx pT rfl T.n_abs PyProof.Rows.Boot.«abs» (af (dv 0) az)))
 (ah (aT (i:=4) (nd 0) rfl (O2 rfl) (cJ (dM (cJ (dv 0) ai) ai) ai))
 (ah (nS P8 rfl rfl T.n_range (aS bE cF rfl T.n_len PyProof.Rows.Boot.«len» (af (dv 1) az)) (ft (i:=5) (nd 0) rfl (O2 rfl)) eW
 (ah (bZ (bu Cg (eI λ_ _ _ _=>rb _) (aS jx pT rfl T.n_abs PyProof.Rows.Boot.«abs» (af (dv 0) az)) (xC ai ai) nm)
 (ah (ip (i:=2) rfl (O2 rfl) (cJ (dv 3) (ax (dv 1) (dv 5))))
 (ah (aT (i:=3) (nd 0) rfl (O2 rfl) (xD (dv 3) (ax (dv 1) (dv 5))))
 ay))
 (ah (aT (i:=4) (nd 0) rfl (O2 rfl) (cJ (bN (bN (bN (dM (dv 4) (dv 4)) (dM ai (dv 4))) (dM ai (dv 5))) ai) ai))
 (ah (ip (i:=2) rfl (O2 rfl) (cJ (cJ (dM (dv 4) ai) ai) (ax (dv 1) (dv 5))))
 ay)))
 ay))
 (ah (aY (dv 2))
 ay))))))
def jY(T:Txt K mg t):fP P w K mg base CX0 1 (t.A 1) (t.Q 1) ["_law_d","_law_many"] (spD K 2 bX) "_law_names" (top 42) :=
 oD T.g sc (i:=1) rfl λ_ _ _ _ H _ _ hr=>(
 (ah (aT (i:=2) (nd 1) rfl (S0 rfl) eP)
 (ah (tK (i:=3) (nd 1) rfl (O2 rfl) (kq az))
 (ah (nS P8 rfl rfl T.n_range (dv 1) (ft (i:=4) (nd 1) rfl (O2 rfl)) eW
 (ah (aT (i:=5) (nd 1) rfl (S0 rfl) (cb (dv 0) (cA (dM ai (dv 4))) (cA (bN (dM ai (dv 4)) ai))))
 (ah (aT (i:=6) (nd 1) rfl (O2 rfl) (Gz eP (af (zi (xF ["_law_j","_law_some","_law_e"] 1 [2,5] rfl (AD rfl T.n_range (bN ai (ax (dv 5) ai))) (og (by decide)) (λs H C fp pn=>⟨λHe η=>(ft (i:=0) (show Q5 (["_law_j","_law_some","_law_e"]:bv) from by decide) rfl (O2 rfl)),kU,(ax (dv 1) (ax (dv 2) (bN ai (dv 0))))⟩) ⟨rfl,rfl⟩ rfl rfl rfl rfl)) az)))
 (ah (bZ (DW.dt (tJ (bu yD (eI λ_ _ _ _=>rb _) (dv 4) ai nm) (iG (bu (eY hr.units) ia (ax (dv 5) ai) ai nm))))
 (ah (Gs (i:=6) (nd 1) rfl (O2 rfl) (bN (cb (ax (dv 3) (pG (dv 4) ai)) fT (cA (ax (dv 5) ai))) (ax (dv 2) (ax (dv 5) ai))))
 ay)
 ay)
 (ah (aT (i:=7) (nd 1) rfl (O2 rfl) (ax (dv 5) ai))
 (ah (pD _ P8 (bu (yC hr.units) yF (dv 6) (dv 3) rfl)
 (ah (aT (i:=7) (nd 1) rfl (O2 rfl) (bN (dv 7) ai))
 (ah (aT (i:=6) (nd 1) rfl (O2 rfl) (bN (cb (dv 6) fT (cA (J6 ai))) (ax (dv 2) (cJ (dv 7) ai))))
 ay)))
 (ah (ip (i:=3) rfl (O2 rfl) (dv 6))
 ay)))))))
 (ah (aY (dv 3))
 ay)))))
def jZ(T:Txt K mg t):fP P w K mg base CX0 2 (t.A 2) (t.Q 2) ["_law_script"] (spD K 1 cy) "_law_cells" (top 44) :=
 oD T.g sc (i:=2) rfl λ_ _ _ _ _ _ _ hr=>(
 (ah (aT (i:=1) (nd 2) rfl (O2 rfl) (rC (fm T) hr (af (ax (bN (dv 0) (dA (af ai az))) ai) (af (bN (bN (dA (af ai (af ai (af ai az)))) (l6 (xB (dA (af ai (af ai az))) (l6 (kq (af ai az)) ai)) ai)) (dA (af ai az))) az))))
 (ah (aT (i:=2) (nd 2) rfl (O2 rfl) (aS (AR rfl) Ka rfl T.n_min PyProof.Rows.Boot.«min» (af ai (af (ax (dv 1) ai) az))))
 (ah (aY (fb (af (cb (dv 0) (cA ai) (cA (bN ai (dv 2)))) (af (cb (dv 0) (cA (bN ai (dv 2))) (cA ai)) az))))
 ay))))
def jl(T:Txt K mg t):fP P w K mg base CX0 1 (t.A 3) (t.Q 3) ["_law_top","_law_bottom"] (spD K 2 cC) "_law_low" (top 40) :=
 oD T.g sc (i:=3) rfl λ_ _ _ _ _ _ _ hr=>(
 (ah (aT (i:=2) (nd 3) rfl (O2 rfl) (aS jx pT rfl T.n_abs PyProof.Rows.Boot.«abs» (af (dv 0) az)))
 (ah (aT (i:=3) (nd 3) rfl (O2 rfl) (dv 1))
 (ah (pD _ P8 (bu (fF hr.units) iT (dv 3) ai nm)
 (ah (JZ (i:=2) (j:=3) rfl (nd 3) rfl rfl (by decide) rfl rfl (af (dv 3) (af (cJ (dv 2) (dv 3)) az)) rfl)
 ay))
 (ah (aY (fb (af (xD (dv 0) (dv 2)) (af (xD (dv 1) (dv 2)) az))))
 ay)))))
def gY(T:Txt K mg t):fP P w K mg base CX0 2 (t.A 4) (t.Q 4) ["_law_d"] (spD K 1 cf) "_law_fraction" (top 41) :=
 oD T.g sc (i:=4) rfl λ_ _ _ _ _ _ _ hr=>(
 (ah (aT (i:=1) (nd 4) rfl (O2 rfl) (ax (dA (af ai (af (cJ (ax (dv 0) ai) ai) (af (cJ (ax (dv 0) ai) ai) (af (ax (dv 0) ai) (af (cJ (ax (dv 0) ai) ai) az)))))) (ax (dv 0) ai)))
 (ah (aT (i:=2) (nd 4) rfl (O2 rfl) (ax (dA (af ai (af ai (af (bN ai (ax (dv 0) ai)) (af ai (af (bN ai (cJ (ax (dv 0) ai) ai)) az)))))) (ax (dv 0) ai)))
 (ah (aY (rC (jl T) hr (af (dv 1) (af (dv 2) az))))
 ay))))
def uS(T:Txt K mg t):fP P w K mg base CX0 3 (t.A 5) (t.Q 5) ["_law_cell","_law_k","_law_walk"] (spD K 3 bP) "_law_tie" (top 43) :=
 oD T.g sc (i:=5) rfl λ_ _ _ _ _ _ _ hr=>(
 (ah (aT (i:=3) (nd 5) rfl (O2 rfl) (rC (fm T) hr (af (dv 0) (af (dA (af ai (af ai (af ai (af ai (af (xC ai ai) (af ai (af ai (af ai (af (xC ai ai) (af ai (af ai az)))))))))))) az))))
 (ah (aT (i:=4) (nd 5) rfl (O2 rfl) (cJ (ax (dv 3) ai) (aS bE cF rfl T.n_len PyProof.Rows.Boot.«len» (af (dv 2) az))))
 (ah (aT (i:=5) (nd 5) rfl (O2 rfl) (cJ (bN (bN (dv 4) ai) (cJ (ax (dv 3) ai) (pG (aS bE cF rfl T.n_len PyProof.Rows.Boot.«len» (af (dv 2) az)) ai))) (aS bE cF rfl T.n_len PyProof.Rows.Boot.«len» (af (dv 2) az))))
 (ah (bZ (bu (eY hr.units) ia (ax (dv 3) ai) ai nm)
 (ah (aT (i:=4) (nd 5) rfl (O2 rfl) (cJ (dv 1) (pG (aS bE cF rfl T.n_len PyProof.Rows.Boot.«len» (af (dv 2) az)) ai)))
 (ah (aT (i:=5) (nd 5) rfl (O2 rfl) (bN (dv 4) ai))
 ay))
 ay)
 (ah (aT (i:=6) (nd 5) rfl (O2 rfl) gP)
 (ah (bZ (bu yD (eI λ_ _ _ _=>rb _) (ax (dv 3) ai) ai nm)
 (ah (aT (i:=6) (nd 5) rfl (O2 rfl) (rC (gY T) hr (af (cb (dv 3) (cA ai) (cA ai)) az)))
 (ah (bZ (bu (eY hr.units) ia (ax (dv 6) ai) ai nm)
 (ah (aT (i:=6) (nd 5) rfl (O2 rfl) (fb (af ai (af ai az))))
 ay)
 ay)
 ay))
 ay)
 (ah (aY (fb (af (ax (dv 2) (dv 4)) (af (ax (dv 2) (dv 5)) (af (ax (dA (af eP (af eP az))) (ax (dv 3) ai)) (af (rC (gY T) hr (af (cb (dv 3) (cA ai) (cA ai)) az)) (af (dv 6) az)))))))
 ay))))))))
def mJ(T:Txt K mg t):fP P w K mg base CX0 4 (t.A 6) (t.Q 6) ["_law_script"] (spD K 1 cN) "_law_web" (top 45) :=
 oD T.g sc (i:=6) rfl λ_ _ _ _ H _ _ hr=>(
 (ah (aT (i:=1) (nd 6) rfl (O2 rfl) (rC (fm T) hr (af (ax (bN (dv 0) (dA (af ai az))) ai) (af (bN (dA (af ai (af ai (af ai az)))) (l6 (xB (dA (af ai (af ai az))) (l6 (kq (af ai az)) ai)) ai)) az))))
 (ah (aT (i:=2) (nd 6) rfl (O2 rfl) (rC (jY T) hr (af (cb (dv 1) (cA ai) fT) (af (bN ai (ax (dv 1) ai)) az))))
 (ah (aT (i:=3) (nd 6) rfl (S0 rfl) (cJ (ax (dv 1) ai) (aS bE cF rfl T.n_len PyProof.Rows.Boot.«len» (af (dv 2) az))))
 (ah (aT (i:=4) (nd 6) rfl (S0 rfl) (cJ (bN (bN (dv 3) ai) (cJ (ax (dv 1) ai) (pG (aS bE cF rfl T.n_len PyProof.Rows.Boot.«len» (af (dv 2) az)) ai))) (aS bE cF rfl T.n_len PyProof.Rows.Boot.«len» (af (dv 2) az))))
 (ah (zf (i:=5) (nd 6) rfl rfl l9 (xF ["_law_k","_law_place","_law_first","_law_last"] 2 [3,4] rfl (jQ rfl T.n_enumerate (dv 2)) (kB (by decide)) (λs H C fp pn=>⟨λHe η=>(gO rfl (br (i:=0) (show Q5 (["_law_k","_law_place","_law_first","_law_last"]:bv) from by decide) rfl (O2 rfl) (br (i:=1) (show Q5 (["_law_k","_law_place","_law_first","_law_last"]:bv) from by decide) rfl (O2 rfl) eO))),(zg (bu (gX hr.units) gZ (dv 0) (fb (af (dv 2) (af (dv 3) az))) rfl)),(dv 1)⟩) ⟨rfl,rfl⟩ rfl rfl rfl rfl))
 (ah (aT (i:=6) (nd 6) rfl (S0 rfl) (bN (bN (dA (af (ax (dv 2) (dv 3)) az)) (dv 5)) (dA (af (ax (dv 2) (dv 4)) az))))
 (ah (zf (i:=7) (nd 6) rfl rfl l9 (xF ["_law_k","_law_cell","_law_walk"] 2 [6] rfl (jQ rfl T.n_enumerate (ax (rC (jZ T) hr (af (dv 0) az)) ai)) (kB (by decide)) (λs H C fp pn=>⟨λHe η=>(gO rfl (br (i:=0) (show Q5 (["_law_k","_law_cell","_law_walk"]:bv) from by decide) rfl (O2 rfl) (br (i:=1) (show Q5 (["_law_k","_law_cell","_law_walk"]:bv) from by decide) rfl (O2 rfl) eO))),kU,(rC (uS T) hr (af (dv 1) (af (dv 0) (af (dv 2) az))))⟩) ⟨rfl,rfl⟩ rfl rfl rfl rfl))
 (ah (aY (fb (af (dv 2) (af (dv 7) (af (ax (dv 2) (dv 3)) (af (ax (dv 2) (dv 4)) az))))))
 ay)))))))))
def eG(T:Txt K mg t):fP P w K mg base CX0 2 (t.A 7) (t.Q 7) ["_law_web_here","_law_d"] (spD K 2 aZ) "_law_new_names" (top 52) :=
 oD T.g sc (i:=7) rfl λ_ _ _ _ _ _ _ hr=>(
 (ah (aT (i:=2) (nd 7) rfl (O2 rfl) (rC (jY T) hr (af (cb (dv 1) (cA ai) fT) (af (aS bE cF rfl T.n_len PyProof.Rows.Boot.«len» (af (ax (dv 0) ai) az)) az))))
 (ah (aT (i:=3) (nd 7) rfl (O2 rfl) (cJ (ax (dv 1) ai) (aS bE cF rfl T.n_len PyProof.Rows.Boot.«len» (af (ax (dv 0) ai) az))))
 (ah (aT (i:=4) (nd 7) rfl (O2 rfl) (bN (cb (ax (dv 0) ai) (cA (dv 3)) fT) (cb (ax (dv 0) ai) fT (cA (dv 3)))))
 (ah (bZ (bu (eY hr.units) ia (ax (dv 1) ai) ai nm)
 (ah (aY (dv 2))
 ay)
 ay)
 (ah (bZ (bu (eY hr.units) ia (ax (dv 1) ai) ai nm)
 (ah (aY (Gy (dv 4) (pG ai (dM ai (ax (dv 1) ai)))))
 ay)
 ay)
 (ah (tK (i:=5) (nd 7) rfl (O2 rfl) (kq az))
 (ah (nS P8 rfl rfl T.n_range (aS bE cF rfl T.n_len PyProof.Rows.Boot.«len» (af (dv 4) az)) (ft (i:=6) (nd 7) rfl (O2 rfl)) eW
 (ah (aT (i:=7) (nd 7) rfl (O2 rfl) (ax (dv 2) (dv 6)))
 (ah (bZ (DW.dt (tJ (bu Ho (eI λ_ _ _ _=>rb _) (dv 6) (cJ (ax (dv 1) ai) (aS bE cF rfl T.n_len PyProof.Rows.Boot.«len» (af (dv 4) az))) nm) (iG (bu (gX hr.units) gZ (ax (dv 4) (dv 6)) (dv 2) rfl))))
 (ah (aT (i:=7) (nd 7) rfl (O2 rfl) (ax (dv 4) (dv 6)))
 ay)
 ay)
 (ah (ip (i:=5) rfl (O2 rfl) (dv 7))
 ay))))
 (ah (aY (dv 5))
 ay)))))))))
def oU(T:Txt K mg t):fP P w K mg base CX0 1 (t.A 8) (t.Q 8) ["_law_web_here","_law_names_here"] (spD K 2 dU) "_law_called" (top 53) :=
 oD T.g sc (i:=8) rfl λ_ _ _ _ _ _ _ hr=>(
 (ah (JY rfl (dv 0) (br (i:=2) (nd 8) rfl (O2 rfl) (br (i:=3) (nd 8) rfl (O2 rfl) (br (i:=4) (nd 8) rfl (O2 rfl) (br (i:=5) (nd 8) rfl (O2 rfl) eO)))))
 (ah (tK (i:=6) (nd 8) rfl (O2 rfl) (kq az))
 (ah (pE P8 rfl (dv 3) (gO rfl (br (i:=7) (nd 8) rfl (O2 rfl) (br (i:=8) (nd 8) rfl (O2 rfl) (br (i:=9) (nd 8) rfl (O2 rfl) (br (i:=10) (nd 8) rfl (O2 rfl) (br (i:=11) (nd 8) rfl (O2 rfl) eO)))))) fU
 (ah (ip (i:=6) rfl (O2 rfl) (fb (af (ax (dv 1) (kX hr.units (dv 2) (dv 7))) (af (ax (dv 1) (kX hr.units (dv 2) (dv 8))) (af (dv 9) (af (dv 10) (af (dv 11) az)))))))
 ay))
 (ah (aY (fb (af (kY lh GN rfl T.n_list PyProof.Rows.Boot.«list» (af (dv 1) az)) (af (dv 6) (af (ax (dv 1) (kX hr.units (dv 2) (dv 4))) (af (ax (dv 1) (kX hr.units (dv 2) (dv 5))) az))))))
 ay)))))
def iB(T:Txt K mg t):fP P w K mg base CX0 1 (t.A 9) (t.Q 9) ["thing"] (spD K 1 m_is_name) "is_name" (top 11) :=
 oD T.g sc (i:=9) rfl λ_ _ _ _ H _ _ hr=>(
 (ah (bZ (DW.dt (dI (cz (cg (bH gf rfl T.n_isinstance rfl T.n_str PyProof.Rows.Boot.«str» (dv 0)))) (bF (cz (vz yB yB (jI λ_ _ _ _=>rb _) (jI λ_ _ _ _=>rb _) jL jL ai (aS bE cF rfl T.n_len PyProof.Rows.Boot.«len» (af (dv 0) az)) (bD T.gm rfl))))))
 (ah (aY fO)
 ay)
 ay)
 (ah (aY (aS (vN rfl) DN rfl T.n_all PyProof.Rows.Boot.«all» (af (zi (xF ["sign"] 1 [] rfl (J2 (dv 0)) (og (by decide)) (λs H C fp pn=>⟨λHe η=>(ft (i:=0) (show Q5 (["sign"]:bv) from by decide) rfl (O2 rfl)),kU,(fJ (yC hr.units) yF (dv 0) (bD T.me rfl) rfl)⟩) ⟨rfl,rfl⟩ rfl rfl rfl rfl)) az)))
 ay)))
def gB(T:Txt K mg t):fP P w K mg base (dN P w) 3 (t.A 10) (t.Q 10) ["places"] (spD K 1 m_look_at_places) "look_at_places" (top 30) :=
 oE T.g sc (i:=10) rfl λ_ _ _ _ _ _ _ hr=>(
 (ah (bZ (DW.dt (dI (cz (cg (bH fD rfl T.n_isinstance rfl T.n_list PyProof.Rows.Boot.«list» (dv 0)))) (bF (cz (vz yB yB (jI λ_ _ _ _=>rb _) (jI λ_ _ _ _=>rb _) jL jL (bD T.fL rfl) (aS bE cF rfl T.n_len PyProof.Rows.Boot.«len» (af (dv 0) az)) (bD T.gR rfl))))))
 (ah (eZ T.gA.xc T.fZ T.fY T.f9 ((eA T).mono (by decide:1<=1)) T.eT (by decide) (by decide) hr T.gH hr.hd rfl (af eP (af gP az)))
 ay)
 ay)
 (ah (nT Td rfl (jQ rfl T.n_enumerate (dv 0)) (gO rfl (br (i:=1) (nd 10) rfl (O2 rfl) (br (i:=2) (nd 10) rfl (O2 rfl) eO))) fU
 (ah (bZ (DW.dt (dI (cz (cg (rC (iB T) hr (af (dv 2) az)))) (bF (bu (yC hr.units) yF (dv 2) (cb (dv 0) fT (cA (dv 1))) rfl))))
 (ah (eZ T.gA.xc T.fZ T.fY T.f9 ((eA T).mono (by decide:1<=1)) T.eT (by decide) (by decide) hr T.gH hr.hd rfl (af eP (af (dv 1) az)))
 ay)
 ay)
 ay))
 ay)))
def mG(T:Txt K mg t):fP P w K mg base CX0 1 (t.A 11) (t.Q 11) ["thing"] (spD K 1 m_is_whole) "is_whole" (top 9) :=
 oD T.g sc (i:=11) rfl λ_ _ _ _ _ _ _ _=>(
 (ah (aY (iK (bH oY rfl T.n_isinstance rfl T.n_int PyProof.Rows.Boot.«int» (dv 0)) (iJ (Dz (bH mM rfl T.n_isinstance rfl T.n_bool PyProof.Rows.Boot.«bool» (dv 0))))))
 ay))
def kL(T:Txt K mg t):fP P w K mg base CX0 1 (t.A 12) (t.Q 12) ["one","other"] (spD K 2 m_common_divisor) "common_divisor" (top 5) :=
 oD T.g sc (i:=12) rfl λ_ _ _ _ _ _ _ hr=>(
 (ah (aT (i:=2) (nd 12) rfl (O2 rfl) (aS jx pT rfl T.n_abs PyProof.Rows.Boot.«abs» (af (dv 0) az)))
 (ah (aT (i:=3) (nd 12) rfl (O2 rfl) (aS jx pT rfl T.n_abs PyProof.Rows.Boot.«abs» (af (dv 1) az)))
 (ah (pD _ P8 (bu (fF hr.units) iT (dv 3) ai nm)
 (ah (aT (i:=4) (nd 12) rfl (O2 rfl) (cJ (dv 2) (dv 3)))
 (ah (aT (i:=2) (nd 12) rfl (O2 rfl) (dv 3))
 (ah (aT (i:=3) (nd 12) rfl (O2 rfl) (dv 4))
 ay))))
 (ah (aY (dv 2))
 ay)))))
def mH(T:Txt K mg t):fP P w K mg base CX0 2 (t.A 13) (t.Q 13) ["thing"] (spD K 1 m_is_ratio) "is_ratio" (top 10) :=
 oD T.g sc (i:=13) rfl λ_ _ _ _ _ _ _ hr=>(
 (ah (bZ (DW.dt (dI (cz (cg (bH dG rfl T.n_isinstance rfl T.n_tuple PyProof.Rows.Boot.«tuple» (dv 0)))) (bF (bu (fF hr.units) iT (aS bE cF rfl T.n_len PyProof.Rows.Boot.«len» (af (dv 0) az)) ai nm))))
 (ah (aY fO)
 ay)
 ay)
 (ah (bZ (DW.dt (dI (cz (cg (rC (mG T) hr (af (ax (dv 0) ai) az)))) (bF (cz (cg (rC (mG T) hr (af (ax (dv 0) ai) az)))))))
 (ah (aY fO)
 ay)
 ay)
 (ah (aY (iK (fJ Cg (eI λ_ _ _ _=>rb _) (ax (dv 0) ai) ai nm) (iJ (fJ (eY hr.units) ia (rC (kL T) hr (af (ax (dv 0) ai) (af (ax (dv 0) ai) az))) ai nm))))
 ay))))
def sO(T:Txt K mg t):fP P w K mg base CX0 3 (t.A 14) (t.Q 14) ["thing"] (spD K 1 m_is_length) "is_length" (top 27) :=
 oD T.g sc (i:=14) rfl λ_ _ _ _ _ _ _ hr=>(
 (ah (aY (iK (rC (mH T) hr (af (dv 0) az)) (iJ (fJ Cg (eI λ_ _ _ _=>rb _) (ax (dv 0) ai) ai nm))))
 ay))
def uR(T:Txt K mg t):fP P w K mg base CX0 3 (t.A 15) (t.Q 15) ["thing"] (spD K 1 m_is_worth) "is_worth" (top 28) :=
 oD T.g sc (i:=15) rfl λ_ _ _ _ _ _ _ hr=>(
 (ah (aY (Mi (fJ Cf Ck (dv 0) gP nm) (iJ (iK (rC (mH T) hr (af (dv 0) az)) (iJ (fJ yD (eI λ_ _ _ _=>rb _) (ax (dv 0) ai) ai nm))))))
 ay))
def Af(T:Txt K mg t):fP P w K mg base CX0 4 (t.A 16) (t.Q 16) ["thing"] (spD K 1 m_is_tie) "is_tie" (top 26) :=
 oD T.g sc (i:=16) rfl λ_ _ _ _ _ _ _ hr=>(
 (ah (bZ (DW.dt (dI (cz (cg (bH dG rfl T.n_isinstance rfl T.n_tuple PyProof.Rows.Boot.«tuple» (dv 0)))) (bF (bu (fF hr.units) iT (aS bE cF rfl T.n_len PyProof.Rows.Boot.«len» (af (dv 0) az)) ai nm))))
 (ah (aY fO)
 ay)
 ay)
 (ah (bZ (DW.dt (dI (cz (cg (rC (iB T) hr (af (ax (dv 0) (bD T.rJ rfl)) az)))) (dI (cz (cg (rC (iB T) hr (af (ax (dv 0) (bD T.jR rfl)) az)))) (bF (bu (eY hr.units) ia (ax (dv 0) (bD T.rJ rfl)) (ax (dv 0) (bD T.jR rfl)) nm)))))
 (ah (aY fO)
 ay)
 ay)
 (ah (bZ (DW.dt (dI (cz (cg (bH gf rfl T.n_isinstance rfl T.n_str PyProof.Rows.Boot.«str» (ax (dv 0) (bD T.pZ rfl))))) (bF (bu (gX hr.units) gZ (ax (dv 0) (bD T.pZ rfl)) (bD T.tP rfl) rfl))))
 (ah (aY fO)
 ay)
 ay)
 (ah (aY (iK (rC (sO T) hr (af (ax (dv 0) (bD T.lj rfl)) az)) (iJ (rC (uR T) hr (af (ax (dv 0) (bD T.nV rfl)) az)))))
 ay)))))
def nv(T:Txt K mg t):fP P w K mg base (dN P w) 5 (t.A 17) (t.Q 17) ["ties","places"] (spD K 2 m_look_at_ties) "look_at_ties" (top 31) :=
 oE T.g sc (i:=17) rfl λ_ _ _ _ _ _ _ hr=>(
 (ah (bZ (DW.dt (dI (cz (cg (bH fD rfl T.n_isinstance rfl T.n_list PyProof.Rows.Boot.«list» (dv 0)))) (bF (bu yD (eI λ_ _ _ _=>rb _) (aS bE cF rfl T.n_len PyProof.Rows.Boot.«len» (af (dv 0) az)) (bD T.jy rfl) nm))))
 (ah (eZ T.gA.xc T.fZ T.fY T.f9 ((eA T).mono (by decide:1<=3)) T.eT (by decide) (by decide) hr T.gH hr.hd rfl (af eP (af gP az)))
 ay)
 ay)
 (ah (nT Td rfl (jQ rfl T.n_enumerate (dv 0)) (gO rfl (br (i:=2) (nd 17) rfl (O2 rfl) (br (i:=3) (nd 17) rfl (O2 rfl) eO))) fU
 (ah (bZ (DW.dt (dI (cz (cg (rC (Af T) hr (af (dv 3) az)))) (dI (bu (gX hr.units) gZ (ax (dv 3) (bD T.rJ rfl)) (dv 1) rfl) (bF (bu (gX hr.units) gZ (ax (dv 3) (bD T.jR rfl)) (dv 1) rfl)))))
 (ah (eZ T.gA.xc T.fZ T.fY T.f9 ((eA T).mono (by decide:1<=3)) T.eT (by decide) (by decide) hr T.gH hr.hd rfl (af eP (af (dv 2) az)))
 ay)
 ay)
 ay))
 ay)))
def mI(T:Txt K mg t):fP P w K mg base CX0 2 (t.A 18) (t.Q 18) ["thing","places"] (spD K 2 m_is_place) "is_place" (top 32) :=
 oD T.g sc (i:=18) rfl λ_ _ _ _ _ _ _ hr=>(
 (ah (aY (iK (rC (iB T) hr (af (dv 0) az)) (iJ (fJ (yC hr.units) yF (dv 0) (dv 1) rfl))))
 ay))
def oP(T:Txt K mg t):fP P w K mg base (dN P w) 6 (t.A 19) (t.Q 19) ["thing"] (spD K 1 m_look_at_web) "look_at_web" (top 29) :=
 oE T.g sc (i:=19) rfl λ_ _ _ _ _ _ _ hr=>(
 (ah (bZ (DW.dt (dI (cz (cg (bH dG rfl T.n_isinstance rfl T.n_tuple PyProof.Rows.Boot.«tuple» (dv 0)))) (bF (bu (fF hr.units) iT (aS bE cF rfl T.n_len PyProof.Rows.Boot.«len» (af (dv 0) az)) ai nm))))
 (ah (eZ T.gA.xc T.fZ T.fY T.f9 ((eA T).mono (by decide:1<=4)) T.eT (by decide) (by decide) hr T.gH hr.hd rfl (af eP (af gP az)))
 ay)
 ay)
 (ah (tL (rC (gB T) hr (af (ax (dv 0) (bD T.eS rfl)) az)))
 (ah (tL (rC (nv T) hr (af (ax (dv 0) (bD T.tQ rfl)) (af (ax (dv 0) (bD T.eS rfl)) az))))
 (ah (bZ (cz (cg (rC (mI T) hr (af (ax (dv 0) (bD T.ll rfl)) (af (ax (dv 0) (bD T.eS rfl)) az)))))
 (ah (eZ T.gA.xc T.fZ T.fY T.f9 ((eA T).mono (by decide:1<=4)) T.eT (by decide) (by decide) hr T.gH hr.hd rfl (af eP (af gP az)))
 ay)
 ay)
 (ah (bZ (DW.dt (dI (cz (cg (rC (mI T) hr (af (ax (dv 0) (bD T.qc rfl)) (af (ax (dv 0) (bD T.eS rfl)) az))))) (bF (bu (eY hr.units) ia (ax (dv 0) (bD T.qc rfl)) (ax (dv 0) (bD T.ll rfl)) nm))))
 (ah (eZ T.gA.xc T.fZ T.fY T.f9 ((eA T).mono (by decide:1<=4)) T.eT (by decide) (by decide) hr T.gH hr.hd rfl (af eP (af gP az)))
 ay)
 ay)
 ay))))))
def iS(T:Txt K mg t):fP P w K mg base (dN P w) 7 (t.A 20) (t.Q 20) ["web","names"] (spD K 2 cS) "names_called" (top 35) :=
 oE T.g sc (i:=20) rfl λ_ _ _ _ _ _ _ hr=>(
 (ah (tL (rC (oP T) hr (af (dv 0) az)))
 (ah (Gq (rD (gB T) hr (af (dv 1) az)) rfl T.gH (sZ T) T.nZ.xcls T.vi rfl (λea=>(af eP az)))
 (ah (bZ (bu (fF hr.units) iT (aS bE cF rfl T.n_len PyProof.Rows.Boot.«len» (af (dv 1) az)) (aS bE cF rfl T.n_len PyProof.Rows.Boot.«len» (af (ax (dv 0) (bD T.eS rfl)) az)) nm)
 (ah (Ds T.nZ.xcls T.vi hr.hd rfl (af eP az))
 ay)
 ay)
 (ah (aY (xE rfl rfl T.n_dict rfl T.n_zip (ax (dv 0) (bD T.eS rfl)) (dv 1)))
 ay)))))
def qA(T:Txt K mg t):fP P w K mg base CX0 1 (t.A 21) (t.Q 21) ["tie","called"] (spD K 2 fR) "tie_called" (top 36) :=
 oD T.g sc (i:=21) rfl λ_ _ _ _ _ _ _ hr=>(
 (ah (aY (fb (af (dZ (un1 hr.units) (dv 1) (ax (dv 0) (bD T.rJ rfl))) (af (dZ (un1 hr.units) (dv 1) (ax (dv 0) (bD T.jR rfl))) (af (ax (dv 0) (bD T.pZ rfl)) (af (ax (dv 0) (bD T.lj rfl)) (af (ax (dv 0) (bD T.nV rfl)) az)))))))
 ay))
def km(T:Txt K mg t):fP P w K mg base (dN P w) 8 (t.A 22) (t.Q 22) ["web","names"] (spD K 2 cR) "renamed" (top 34) :=
 oE T.g sc (i:=22) rfl λ_ _ _ _ H _ _ hr=>(
 (ah (aT (i:=2) (nd 22) rfl (S0 rfl) (rC (iS T) hr (af (dv 0) (af (dv 1) az))))
 (ah (Dr (i:=3) (nd 22) rfl rfl (xF ["tie","called"] 1 [2] rfl (Gw (ax (dv 0) (bD T.tQ rfl))) (og (by decide)) (λs H C fp pn=>⟨λHe η=>(ft (i:=0) (show Q5 (["tie","called"]:bv) from by decide) rfl (O2 rfl)),kU,(rC (qA T) hr (af (dv 0) (af (dv 1) az)))⟩) ⟨rfl,rfl⟩ rfl rfl rfl rfl))
 (ah (aY (fb (af (Mh (Gx rfl T.n_list (af (dv 1) az))) (af (dv 3) (af (dZ (un1 hr.units) (dv 2) (ax (dv 0) (bD T.ll rfl))) (af (dZ (un1 hr.units) (dv 2) (ax (dv 0) (bD T.qc rfl))) az))))))
 ay))))
def du(T:Txt K mg t){k:Nat}{mR:ac->aj D}(hk:0<=k)(B:fP P w K mg base CX0 k (t.A 23) (t.Q 23) ["_law_found","_law_due"] (spD K 2 mR) "_law_alike" (top 51)):fP P w K mg base CX0 (k+1) (t.A 23) (t.Q 23) ["_law_found","_law_due"] (spD K 2 (cm 2 (bY mR))) "_law_alike" (top 51) :=
 oD T.g sc (i:=23) rfl λ_ _ _ _ H _ _ hr=>(
 (ah (bZ (cg (GA (xZ dG rfl T.n_tuple PyProof.Rows.Boot.«tuple» (xZ fD rfl T.n_list PyProof.Rows.Boot.«list» HQ)) rfl T.n_isinstance (dv 1)))
 (ah (bZ (bu (fF hr.units) iT (bH dG rfl T.n_isinstance rfl T.n_tuple PyProof.Rows.Boot.«tuple» (dv 0)) (bH dG rfl T.n_isinstance rfl T.n_tuple PyProof.Rows.Boot.«tuple» (dv 1)) nm)
 (ah (aY fO)
 ay)
 ay)
 (ah (bZ (DW.dt (dI (bu (fF hr.units) iT (bH fD rfl T.n_isinstance rfl T.n_list PyProof.Rows.Boot.«list» (dv 0)) (bH fD rfl T.n_isinstance rfl T.n_list PyProof.Rows.Boot.«list» (dv 1)) nm) (bF (bu (fF hr.units) iT (aS bE cF rfl T.n_len PyProof.Rows.Boot.«len» (af (dv 0) az)) (aS bE cF rfl T.n_len PyProof.Rows.Boot.«len» (af (dv 1) az)) nm))))
 (ah (aY fO)
 ay)
 ay)
 (ah (aY (aS (vN rfl) DN rfl T.n_all PyProof.Rows.Boot.«all» (af (zi (xF ["_law_one","_law_other"] 2 [] rfl (Gv rfl T.n_zip (dv 0) (dv 1)) (kB (by decide)) (λs H C fp pn=>⟨λHe η=>(gO rfl (br (i:=0) (show Q5 (["_law_one","_law_other"]:bv) from by decide) rfl (O2 rfl) (br (i:=1) (show Q5 (["_law_one","_law_other"]:bv) from by decide) rfl (O2 rfl) eO))),kU,(rC B hr (af (dv 0) (af (dv 1) az)) (O0 _))⟩) ⟨rfl,rfl⟩ rfl rfl rfl rfl)) az)))
 ay)))
 ay)
 (ah (bZ (DW.dt (dI (bu Cf Ck (dv 1) gP nm) (bF (cg (bH gf rfl T.n_isinstance rfl T.n_str PyProof.Rows.Boot.«str» (dv 1))))))
 (ah (aY (iK (fJ (eY hr.units) ia (dv 0) (dv 1) nm) (iJ (fJ (eY hr.units) ia (bH gf rfl T.n_isinstance rfl T.n_str PyProof.Rows.Boot.«str» (dv 0)) (bH gf rfl T.n_isinstance rfl T.n_str PyProof.Rows.Boot.«str» (dv 1)) nm))))
 ay)
 ay)
 (ah (aY (iK (bH oY rfl T.n_isinstance rfl T.n_int PyProof.Rows.Boot.«int» (dv 0)) (iK (Dz (bH mM rfl T.n_isinstance rfl T.n_bool PyProof.Rows.Boot.«bool» (dv 0))) (iJ (fJ (eY hr.units) ia (dv 0) (dv 1) nm)))))
 ay))))
def c6(T:Txt K mg t):fP P w K mg base CX0 6 (t.A 23) (t.Q 23) ["_law_found","_law_due"] (spD K 2 bb) "_law_alike" (top 51) :=
 (du T (by decide) (du T (by decide) (du T (by decide) (du T (by decide) (du T (by decide) (oS (k:=1) T.g (i:=23) rfl))))))
def sP(T:Txt K mg t):fP P w K mg base CX0 2 (t.A 24) (t.Q 24) ["_law_one","_law_other","_law_sign"] (spD K 3 fA) "_law_plus" (top 46) :=
 oD T.g sc (i:=24) rfl λ_ _ _ _ _ _ _ hr=>(
 (ah (aY (rC (jl T) hr (af (bN (dM (ax (dv 0) ai) (ax (dv 1) ai)) (dM (dM (dv 2) (ax (dv 1) ai)) (ax (dv 0) ai))) (af (dM (ax (dv 0) ai) (ax (dv 1) ai)) az))))
 ay))
def sQ(T:Txt K mg t):fP P w K mg base CX0 1 (t.A 25) (t.Q 25) ["_law_one","_law_other"] (spD K 2 cU) "_law_less" (top 47) :=
 oD T.g sc (i:=25) rfl λ_ _ _ _ _ _ _ _=>(
 (ah (aY (fJ Ho (eI λ_ _ _ _=>rb _) (dM (ax (dv 0) ai) (ax (dv 1) ai)) (dM (ax (dv 1) ai) (ax (dv 0) ai)) nm))
 ay))
def oR(T:Txt K mg t):fP P w K mg base CX0 3 (t.A 26) (t.Q 26) ["_law_web_here","_law_taken"] (spD K 2 dS) "_law_labels" (top 49) :=
 oD T.g sc (i:=26) rfl λ_ _ _ _ _ _ _ hr=>(
 (ah (nR (i:=2) (nd 26) rfl (O2 rfl) (AE (ax (dv 0) ai) (fb (af ai (af ai az)))))
 (ah (nS P8 rfl rfl T.n_range (aS bE cF rfl T.n_len PyProof.Rows.Boot.«len» (af (ax (dv 0) ai) az)) (ft (i:=3) (nd 26) rfl (O2 rfl)) eW
 (ah (nT P8 rfl (jQ rfl T.n_enumerate (ax (dv 0) ai)) (gO rfl (br (i:=4) (nd 26) rfl (O2 rfl) (br (i:=5) (nd 26) rfl (O2 rfl) eO))) fU
 (ah (pE P8 rfl (cb (dA (af (fb (af (ax (dv 5) ai) (af (ax (dv 5) ai) az))) (af (fb (af (ax (dv 5) ai) (af (ax (dv 5) ai) az))) az))) fT (cA (bN ai (kY AS Kb rfl T.n_int PyProof.Rows.Boot.«int» (af (fJ (eY hr.units) ia (ax (dv 5) ai) eP nm) az))))) (gO rfl (br (i:=6) (nd 26) rfl (O2 rfl) (br (i:=7) (nd 26) rfl (O2 rfl) eO))) fU
 (ah (bZ (DW.dt (tJ (bu (gX hr.units) gZ (dv 4) (dv 1) rfl) (iG (bu (Ci (un1 hr.units)) Cm (dv 6) (dv 2) rfl))))
 (ah (Gr (i:=8) (nd 26) rfl (O2 rfl) (rC (sP T) hr (af (dZ (un1 hr.units) (dv 2) (dv 6)) (af (ax (dv 5) ai) (af ai az)))))
 (ah (bZ (DW.dt (dI (bu (Ae (un1 hr.units)) Ai (dv 7) (dv 2) rfl) (bF (cg (rC (sQ T) hr (af (dv 8) (af (dZ (un1 hr.units) (dv 2) (dv 7)) az)))))))
 (ah (nQ (i:=2) (un1 hr.units) rfl (O2 rfl) (dv 8) (dv 7))
 ay)
 ay)
 ay))
 ay)
 ay))
 ay))
 ay))
 (ah (aY (dv 2))
 ay))))
def oQ(T:Txt K mg t):fP P w K mg base CX0 4 (t.A 27) (t.Q 27) ["_law_web_here","_law_taken","_law_part"] (spD K 3 dR) "_law_prices" (top 50) :=
 oD T.g sc (i:=27) rfl λ_ _ _ _ _ _ _ hr=>(
 (ah (aT (i:=3) (nd 27) rfl (O2 rfl) (rC (oR T) hr (af (dv 0) (af (dv 1) az))))
 (ah (nR (i:=4) (nd 27) rfl (O2 rfl) zh)
 (ah (pE P8 rfl (J5 (ax (dv 0) ai)) (ft (i:=5) (nd 27) rfl (O2 rfl)) eW
 (ah (nQ (i:=4) (un1 hr.units) rfl (O2 rfl) gP (dv 5))
 (ah (bZ (bu (Ci (un1 hr.units)) Cm (dv 5) (dv 3) rfl)
 (ah (nQ (i:=4) (un1 hr.units) rfl (O2 rfl) (rC (jl T) hr (af (dM (ax (dZ (un1 hr.units) (dv 3) (dv 5)) ai) (dv 2)) (af (dM (ax (dZ (un1 hr.units) (dv 3) (dv 5)) ai) ai) az))) (dv 5))
 ay)
 ay)
 ay)))
 (ah (aY (dv 4))
 ay)))))
def sR(T:Txt K mg t):fP P w K mg base CX0 1 (t.A 28) (t.Q 28) ["_law_web_here","_law_bits_here"] (spD K 2 fB) "_law_bits" (top 48) :=
 oD T.g sc (i:=28) rfl λ_ _ _ _ H _ _ hr=>(
 (ah (aY (zi (xF ["_law_k","_law_tie_here","_law_bits_here"] 2 [1] rfl (jQ rfl T.n_enumerate (ax (dv 0) ai)) (kB (by decide)) (λs H C fp pn=>⟨λHe η=>(gO rfl (br (i:=0) (show Q5 (["_law_k","_law_tie_here","_law_bits_here"]:bv) from by decide) rfl (O2 rfl) (br (i:=1) (show Q5 (["_law_k","_law_tie_here","_law_bits_here"]:bv) from by decide) rfl (O2 rfl) eO))),(zg (DW.dt (tJ (bu Fe Fn (ax (dv 1) ai) gP nm) (iG (bu (eY hr.units) ia (GD (J4 (dv 2) (dv 0)) ai) ai nm))))),(dv 0)⟩) ⟨rfl,rfl⟩ rfl rfl rfl rfl)))
 ay))
def jV(T:Txt K mg t):fP P w K mg base (dN P w) 8 (t.A 29) (t.Q 29) ["web","names","prices"] (om K 3 dE) "prices_renamed" (top 37) :=
 Nm T.g sc (i:=29) rfl λ_ _ _ _ _ _ _ hr=>(
 (ko (aT (i:=3) (nd 29) rfl (O2 rfl) (rC (iS T) hr (af (dv 0) (af (dv 1) az))))
 (ko (nR (i:=4) (nd 29) rfl (O2 rfl) zh)
 (ko (pE Td rfl (ax (dv 0) (bD T.eS rfl)) (ft (i:=5) (nd 29) rfl (O2 rfl)) eW
 (ah (nQ (i:=4) (un1 hr.units) rfl (O2 rfl) (dZ (un1 hr.units) (dv 2) (dv 5)) (dZ (un1 hr.units) (dv 3) (dv 5)))
 ay))
 (AB rfl (O2 rfl))))))
def ok_law(T:Txt K mg t):fP P w K mg base CX0 9 (t.A 30) (t.Q 30) ["_law_script"] (spD K 1 m_law) "law" (top 54) :=
 oD T.g sc (i:=30) rfl λ_ _ _ _ _ _ _ hr=>(
 (ah (aT (i:=1) (nd 30) rfl (O2 rfl) (rC (mJ T) hr (af (dv 0) az)))
 (ah (aT (i:=2) (nd 30) rfl (O2 rfl) (rC (mJ T) hr (af (dv 0) az)))
 (ah (pE P8 rfl (bN (cb (ax (rC (jZ T) hr (af (dv 0) az)) ai) fT (cA ai)) (dA (af ai az))) (ft (i:=3) (nd 30) rfl (O2 rfl)) eW
 (ah (aT (i:=4) (nd 30) rfl (O2 rfl) (rC (fm T) hr (af (dv 3) (af (bN (dA (af ai (af ai (af ai (af ai (af ai (af ai az))))))) (l6 (xB (dA (af ai (af ai az))) (l6 (kq (af ai az)) ai)) ai)) az))))
 (ah (aT (i:=5) (nd 30) rfl (O2 rfl) (rC (eG T) hr (af (dv 1) (af (dv 4) az))))
 (ah (aT (i:=6) (nd 30) rfl (O2 rfl) (rC (oU T) hr (af (dv 1) (af (dv 5) az))))
 (AA (x:=7) [2,5] (nd 30) rfl (O2 rfl) (λ_ _ h=>h) (rC (fP.noX (km T)) hr (af (dv 2) (af (dv 5) az)))
 (G6 (x:=7) (DW.dt (dI (cz (cg (rC (c6 T) hr (af (tM (dv 7)) (af (dv 6) az))))) (bF (bu (fF hr.units) iT (dv 5) (rC (eG T) hr (af (dv 1) (af (dv 4) az))) nm))))
 (ah (aY fO)
 ay)
 (G6 (x:=7) (cz (cg (rC (c6 T) hr (af (tM (rC (fP.noX (km T)) hr (af (tM (dv 7)) (af (ax (dv 1) ai) az)))) (af (dv 1) az)))))
 (ah (aY fO)
 ay)
 (Bo (x:=7) rfl rfl rfl (O2 rfl)
 (ah (bZ (DW.dt (dI (bu (fF hr.units) iT (dv 5) (rC (eG T) hr (af (dv 1) (af (dv 4) az))) nm) (bF (cz (cg (rC (c6 T) hr (af (dv 2) (af (dv 1) az))))))))
 (ah (aY fO)
 ay)
 ay)
 (ah (aT (i:=8) (nd 30) rfl (O2 rfl) (rC (oQ T) hr (af (dv 1) (af (rC (sR T) hr (af (dv 1) (af (ax (dv 4) ai) az))) (af (ax (dv 4) ai) az)))))
 (ah (aT (i:=9) (nd 30) rfl (O2 rfl) (kY xM DM rfl T.n_dict PyProof.Rows.Boot.«dict» (af (dv 8) az)))
 (ah (nR (i:=10) (nd 30) rfl (O2 rfl) (Oj (fP.noXFd (jV T)) hr (af (dv 2) (af (dv 5) (af (dv 8) az)))))
 (ah (bZ (DW.dt (dI (cz (cg (bH va rfl T.n_isinstance rfl T.n_dict PyProof.Rows.Boot.«dict» (dv 10)))) (dI (bu (fF hr.units) iT (aS pV vM rfl T.n_sorted PyProof.Rows.Boot.«sorted» (af (kY (pW rfl) DK rfl T.n_list PyProof.Rows.Boot.«list» (af (dv 10) az)) az)) (aS pV vM rfl T.n_sorted PyProof.Rows.Boot.«sorted» (af (dv 5) az)) nm) (bF (bu (Ce hr.units) Cj (dv 8) (dv 9) nm)))))
 (ah (aY fO)
 ay)
 ay)
 (ah (nT P8 rfl (J1 rfl T.n_zip (ax (dv 1) ai) (dv 5)) (gO rfl (br (i:=11) (nd 30) rfl (O2 rfl) (br (i:=12) (nd 30) rfl (O2 rfl) eO))) fU
 (ah (bZ (cz (cg (rC (c6 T) hr (af (dZ (un1 hr.units) (dv 10) (dv 12)) (af (dZ (un1 hr.units) (dv 8) (dv 11)) az)))))
 (ah (aY fO)
 ay)
 ay)
 ay))
 (ah (Gu (i:=10) rfl (O2 rfl))
 (ah (bZ (bu (Ce hr.units) Cj (dv 8) (dv 9) nm)
 (ah (aY fO)
 ay)
 ay)
 (ah (bZ (DW.dt (dI (cz (cg (rC (c6 T) hr (af (tM (rC (fP.noX (km T)) hr (af (dv 2) (af (dv 5) az)))) (af (dv 6) az))))) (bF (cz (cg (rC (c6 T) hr (af (dv 2) (af (dv 1) az))))))))
 (ah (aY fO)
 ay)
 ay)
 ay)))))))))))))))))
 (ah (aY fO)
 ay)))))
end
def txt_mk{K:OF}{h:OL}{mg:OO->Option OB}(X:K.In h)(G:h.Ns O6 mg){dW:OG}{cD:OG}{eL:OG}{bR:OG}{a0 a1 a2 a3 a4 a5 a6 a7 a8 a9 a10 a11 a12 a13 a14 a15 a16 a17 a18 a19 a20 a21 a22 a23 a24 a25 a26 a27 a28 a29 a30:OG}(qs:QAs K rows [a0,a1,a2,a3,a4,a5,a6,a7,a8,a9,a10,a11,a12,a13,a14,a15,a16,a17,a18,a19,a20,a21,a22,a23,a24,a25,a26,a27,a28,a29,a30])
  (z_abs:Qg K O6 "abs"=some none)
  (z_all:Qg K O6 "all"=some none)
  (z_bool:Qg K O6 "bool"=some none)
  (z_dict:Qg K O6 "dict"=some none)
  (z_enumerate:Qg K O6 "enumerate"=some none)
  (z_int:Qg K O6 "int"=some none)
  (z_isinstance:Qg K O6 "isinstance"=some none)
  (z_len:Qg K O6 "len"=some none)
  (z_list:Qg K O6 "list"=some none)
  (z_min:Qg K O6 "min"=some none)
  (z_range:Qg K O6 "range"=some none)
  (z_sorted:Qg K O6 "sorted"=some none)
  (z_str:Qg K O6 "str"=some none)
  (z_tuple:Qg K O6 "tuple"=some none)
  (z_zip:Qg K O6 "zip"=some none)
  (mP:nB K "CutError" cD)
  (lL:zx K "NoTurn" eL)
  (nX:zw K "NoWeb" bR)
  {Aj Ar AF z9 rH AK:OB}{Ah AV:Option OG}{zS:Array (Option OB)}
  {Cq BN:OO}{sT:OG}{DP Bw:List OB}{CT DR:Bool}{BB:bv}{AM:Option Bool}{DB Dt:Option OG}{CN CM CL CK CJ:Option OB}{DJ:OB}{vv:Array TC}{Dn:Nat}{By:Array (Option OB)}
  (uk:K.lookup bR=some (excClassObj Cq BN bR sT DP [.ref cD,.type "ValueError",.type "Exception",.type "BaseException",.type "object"] CT BB Bw DR AM DB CN CM CL CK CJ "ValueError.__new__")) (uh:K.lookup sT=some ⟨DJ,Dt,.dict vv Dn,By⟩) (um:vv.toList.all Hq=true) (ug:Qg K sT "__init__"=some (some (.ref dW)))
  (BM:W.isFn K (.ref dW)=true) (uK:K.lookup dW=some ⟨Aj,Ah,.func (RJ "__init__" "NoWeb.__init__" (defArgs gV) (defBody gV) (defScope gV) .none Ar AF z9 AV rH AK),zS⟩) (uJ:T5 K rH "NoWeb.__init__"=true) (uI:Sh K (.ref dW)=true)
  (zE:Rn K (.ref bR) "__setattr__"=some (some (.builtin "object.__setattr__"))) (zF:TJ K bR=true) (nY:Rn K (.ref bR) "part"=some none) (lM:Rn K (.ref bR) "number"=some none)
  (kz:Ta K cD [.type "ValueError",.type "Exception",.type "BaseException",.type "object"] "ValueError.__new__"=true) (rX:W.readsIn K cD (.type "type")=true) (rY:W.findCls K (.ref cD) (.type "type") "__init__"=some (.val (.builtin "ValueError.__init__"))) (rW:TF K (.ref cD) "__getattribute__"=some (some (.builtin "type.__getattribute__")))
  (oO:HB K eL [(bR,false)])
  (sL:HB K bR [(bR,true)])
  {nq:Tok}(nh:Qg K O6 "FEWEST_PLACES"=some (some (.int 2 nq)))
  {ED:Tok}(Ei:Qg K O6 "FIRST"=some (some (.int 2 ED)))
  {HW:Tok}(HH:Qg K O6 "LAST"=some (some (.int 3 HW)))
  {Bu:Tok}(Ba:Qg K O6 "LENGTH"=some (some (.int 3 Bu)))
  {zN:Tok}(zD:Qg K O6 "LETTERS"=some (some (.str "abcdefghijklmnopqrstuvwxyz" zN)))
  {oh:Tok}(nW:Qg K O6 "LONGEST_NAME"=some (some (.int 8 oh)))
  {qu:Tok}(qt:Qg K O6 "MOST_PLACES"=some (some (.int 7 qu)))
  {ux:Tok}(uf:Qg K O6 "MOST_TIES"=some (some (.int 14 ux)))
  {KA:Tok}(Kt:Qg K O6 "ONE"=some (some (.int 0 KA)))
  {EC:Tok}(Eh:Qg K O6 "OTHER"=some (some (.int 1 EC)))
  {Bt:Tok}(A9:Qg K O6 "PLACES"=some (some (.int 0 Bt)))
  {HV:Tok}(HG:Qg K O6 "TIES"=some (some (.int 1 HV)))
  {HU:Tok}(HF:Qg K O6 "WORD"=some (some (.int 2 HU)))
  {yo:OG}{yG:Obj}(Eg:Qg K O6 "WORDS"=some (some (.ref yo))) (Er:K.lookup yo=some yG) (Eu:∃od its n sl vs,yG=⟨.type "tuple",od,.seq its n,sl⟩/\bq vs its.toList/\its.size<=sizeLine/\∀H,Reps K H [.str "one",.str "both"] vs)
  {EB:Tok}(Ef:Qg K O6 "WORTH"=some (some (.int 4 EB))) :
  ∃t:Adr,Txt K mg t/\t.A 30=a30/\∃kV doc pm an cdv ct,t.Q 30=RJ "law" "law" (defArgs (top 54)) (defBody (top 54)) (defScope (top 54)) .none kV doc pm an cdv ct:=by
 obtain⟨Q,hQ⟩:=G7 X G bn qs;have D_law:=(hQ 30 _ rfl).2;refine⟨⟨dW,_,cD,eL,bR,λi=>[a0,a1,a2,a3,a4,a5,a6,a7,a8,a9,a10,a11,a12,a13,a14,a15,a16,a17,a18,a19,a20,a21,a22,a23,a24,a25,a26,a27,a28,a29,a30].getD i 0,Q⟩,⟨λi r h=>(hQ i r h).1,Qm X G z_abs,Qm X G z_all,Qm X G z_bool,Qm X G z_dict,Qm X G z_enumerate,Qm X G z_int,Qm X G z_isinstance,Qm X G z_len,Qm X G z_list,Qm X G z_min,Qm X G z_range,Qm X G z_sorted,Qm X G z_str,Qm X G z_tuple,Qm X G z_zip,QV X G mP.ns,mP,QV X G lL.i.ns,lL.i,QV X G nX.i.ns,nX.i,lL,nX,tm uK uJ uI,?eT,Bb uk uh um ug kz,HI (Bb uk uh um ug kz) zE zF (uW nY ( uW lM (Fq))),BM,⟨rX,rY,rW⟩,oO,sL,?fL,?ll,?qc,?lj,?me,?gm,?gR,?jy,?rJ,?jR,?eS,?tQ,?pZ,?tP,?nV⟩,rfl,D_law⟩
 case eT=>exact(tm (st:=gV) uK uJ uI).binds λ_ _ _ _ _ _ us hl=>by obtain⟨_,_,_,rfl⟩:=NY hl;rfl
 case fL=>exact dF (QV X G nh)
 case ll=>exact dF (QV X G Ei)
 case qc=>exact dF (QV X G HH)
 case lj=>exact dF (QV X G Ba)
 case me=>exact Fx (QV X G zD)
 case gm=>exact dF (QV X G nW)
 case gR=>exact dF (QV X G qt)
 case jy=>exact dF (QV X G uf)
 case rJ=>exact dF (QV X G Kt)
 case jR=>exact dF (QV X G Eh)
 case eS=>exact dF (QV X G A9)
 case tQ=>exact dF (QV X G HG)
 case pZ=>exact dF (QV X G HF)
 case tP=>
  obtain⟨od,its,n,sl,vs,rfl,h1,h2,h3⟩:=Eu;exact Fw (QV X G Eg) Er h1 h2 h3
 case nV=>exact dF (QV X G Ef)
def txt_wr{K:OF}{mg:OO->Option OB}{a:OG}{R:Adr->Prop}(h:∃t:Adr,Txt K mg t/\t.A 30=a/\R t):∃t:Adr,Txt K mg t/\mg "law"=some (.ref (t.A 30))/\R t:=h.elim λt ⟨T,_,r⟩=>⟨t,T,(T.g 30 _ rfl).g,r⟩
end K59
namespace K51
open PySem L2 DL
def gI:am :=
 (ar (bC (aa (aa (aa (ae 0) (dC (.int 0)) aK) (aa (ae 1) (dC (.int 1)) aK) cq) (aa (aa (ae 1) (dC (.int 0)) aK) (aa (ae 0) (dC (.int 1)) aK) cq) Mk))
 av)
def cU:ac->aj D:=cm 2 gI
end K51
namespace K11
open PySem L2 DL Com
def l4{x y:OO}:jW (.str x) (.str y)=.ok (.bl (decide (x=y))):=by
 have h:jW (.str x) (.str y)=.ok (.bl (x==y)):=rfl;rw[h]
 by_cases e:x=y
 .rw[decide_eq_true e,e,beq_self_eq_true]
 .rw[decide_eq_false e,beq_eq_false_iff_ne.mpr e]
def zU{m:Nat}{ks:cr}:(ks.map λ(k:Nat)=>D.int (k:Int)).all (aW m)=true:=Pr.mpr λd hd=>by
 obtain⟨z,_,rfl⟩:=Pp.mp hd;cases m<;>rfl
theorem zq{n:Nat}:∀{ks:cr},((ks.map λ(k:Nat)=>D.int (k:Int)).any λd=>cO d (.int (n:Int)))=decide (n∈ks)
 |[]=>rfl
 |k::ks=>by
  rw[OY,QX,zq];have e:cO (.int (k:Int)) (.int (n:Int))=((k:Int)==(n:Int)):=by rw[cO]
  rw[e]
  by_cases h:n=k
  .subst h;simp
  .have h1:((k:Int)==(n:Int))=false:=beq_eq_false_iff_ne.mpr (by omega)
   rw[h1,SW];have:n∈k::ks↔n∈ks:=by simp[h]
   exact decide_eq_decide.mpr this.symm
def notIn_nums{ks:cr}{n:Nat}:cE (.int (n:Int)) (.lst (ks.map λ(k:Nat)=>D.int (k:Int)))=.ok (.bl (!(decide (n∈ks)))):=by
 have e:A5 (.int (n:Int)) (.lst (ks.map λ(k:Nat)=>D.int (k:Int)))=some (decide (n∈ks)):=(if_pos ⟨rfl,zU⟩).trans (congrArg some zq);unfold cE;rw[e]
end K11
namespace K12
open PySem L2 DL Com K11
def lenAt(w:iP)(k:Nat):gz:=((w.ts[k]?).map rT.l).getD (0,1)
def lenAt_of{w:iP}{k:Nat}{t:rT}(h:w.ts[k]?=some t):lenAt w k=t.l:=by unfold lenAt;rw[h];rfl
end K12
namespace K51
open PySem L2 DL Com
def Ln{a:Int}{m n:Nat}(h:a.natAbs<2 ^ m)(hm:m<=n):a.natAbs<2 ^ n:=OR h (Qv (by decide) hm)
def mul_p2{a b:Int}{m n:Nat}(h:a.natAbs<2 ^ m)(h':b.natAbs<2 ^ n):(a*b).natAbs<2 ^ (m+n):=by
 rw[T8,UT];exact Nat.mul_lt_mul'' h h'
def Kh{a b:Int}{m:Nat}(h:a.natAbs<2 ^ m)(h':b.natAbs<2 ^ m):(a+b).natAbs<2 ^ (m+1):=by
 have:=Int.natAbs_add_le a b;rw[Nat.pow_succ];omega
def pl(x y:gz):gz:=eK (un x y).1 (un x y).2
def i0(u:gz):aK (fr u) (.int 0)=.ok (.int u.1):=rfl
def i1(u:gz):aK (fr u) (.int 1)=.ok (.int u.2):=rfl
structure Bd (x:gz) (n:Nat):Prop where
 q0:0<x.2
 a:x.1.natAbs<2 ^ n
 b:x.2.natAbs<2 ^ n
def Bd.c13{x:gz}{n:Nat}(h:Bd x n)(hn:n<=6000):x.1.natAbs<A3/\x.2.natAbs<A3:=by
 have:2 ^ n<=A3:=by rw[t9];exact Qv (by decide) (Pe hn (by decide))
 exact⟨OR h.a this,OR h.b this⟩
def Bd.c60{x:gz}{n:Nat}(h:Bd x n)(hn:n<=6000):x.1.natAbs<D5/\x.2.natAbs<D5:=⟨OR (h.c13 hn).1 zA,OR (h.c13 hn).2 zA⟩
def low_bd{a b:Int}{n:Nat}(hb:0<b)(h1:a.natAbs<2 ^ n)(h2:b.natAbs<2 ^ n):Bd (eK a b) n:=⟨by have:=(iD (a:=a) hb).q1;omega,P6 yO h1,P6 yN h2⟩
def un_bd{x y:gz}{m n:Nat}(hx:Bd x m)(hy:Bd y n):Bd (un x y) (m+n+1):=by
 refine⟨SQ hx.q0 hy.q0,?_,Ln (mul_p2 hx.b hy.b) (by omega)⟩;have h1:=mul_p2 hx.a hy.b;have h2:=mul_p2 hy.a hx.b;rw[Nat.add_comm n m]at h2;exact Kh h1 h2
def lless_bd{x y:gz}{m n:Nat}(hx:Bd x m)(hy:Bd y n)(hm:m<=6000)(hn:n<=6000):cU [fr x,fr y]=.ok (.bl (flt x y)):=by
 have b1:=hx.c60 hm;have b2:=hy.c60 hn;have m1:=c8 (gN b1.1 b2.2);have m2:=c8 (gN b2.1 b1.2);open_line with[cU,gI,i0,i1,m1,m2]
 rfl
end K51
namespace Pth
open PySem L2 DL Com
open K11 (l4)
def nC(zs:List Int)(n:Nat):Int:=(zs[n]?).getD 0
open K11 (l4)
def HE{zs:List Int}(h:∀z∈zs,0<=z)(n:Nat):0<=nC zs n:=by
 unfold nC;cases e:zs[n]? with|none=>exact U1 _|some z=>exact h z (O1 e)
section
variable {ρ:Ev}{i:Nat}{f k:al}{ks:bv}{ds:ac}{d:D}
def xy:jg i f ρ=(f ρ).bind (yA i ρ):=aQ rfl
def ze:yA i ρ (.dic ks ds)=.ok (.nx (ρ.set i (.ow (.dic ks ds)))):=aQ rfl
def BP(i:Nat)(f k:al)(ρ:Ev)(s:Option Sl):aj Fl:=match s with
 |some (.ow (.dic ks ds))=>(f ρ).bind λd=>(k ρ).bind (kJ i ρ ks ds d)
 |_=>.stuck
def pC:jf i f k ρ=BP i f k ρ ρ[i]?:=aQ rfl
def BO(i:Nat)(k:al)(ρ:Ev)(ks:bv)(ds:ac)(d:D):aj Fl:=(k ρ).bind (kJ i ρ ks ds d)
def nP:BP i f k ρ (some (.ow (.dic ks ds)))=(f ρ).bind (BO i k ρ ks ds):=aQ rfl
def kT:BO i k ρ ks ds d=(k ρ).bind (kJ i ρ ks ds d):=aQ rfl
def jP{x:OO}(h:decide (ks.length<=900)=true):kJ i ρ ks ds d (.str x)=.ok (.nx (ρ.set i (.ow (nu ks ds x d)))):=if_pos (P6 (of_decide_eq_true h) (by decide))
def xx:yi i f ρ=(f (gu ρ)).bind (yh i ρ):=aQ rfl
def tH(h1:nd d=true)(h2:uQ ρ=true):yh i ρ d=.ok (.nx (ρ.set i (.sh d))):=if_pos ⟨h1,h2⟩
def Gn{a b:al}:vF a b ρ=aa a b Dw ρ:=aQ rfl
def Dp{x:OO}:Dw (.str x) d=.ok (.dic [x] [d]):=aQ rfl
end
open K11 (l4)
def lB(w:iP):Int:=Oq (w.ts.map (·.l))
def lz(w:iP):List Int:=w.ts.map λt=>t.l.1*(lB w / t.l.2)
section
variable {w:iP}(W:eV w)
include W
theorem rh:0<lB w/\(lB w).natAbs<=2 ^ 2800/\∀t∈w.ts,t.l.2∣lB w:=by
 have h:=Kc (xs:=w.ts.map (·.l)) (λx hx=>by
  obtain⟨t,ht,rfl⟩:=Pp.mp hx;exact(W.ts t ht).l) 1 0 ⟨by decide,by decide⟩
 obtain⟨⟨h1,h2⟩,_,h3⟩:=h;refine⟨h1,?_,λt ht=>h3 _ (Pp.mpr ⟨t,ht,rfl⟩)⟩;refine Pe h2 (Qv (by decide) ?_);rw[OH];have:=W.t14;omega
theorem Ly:∀z∈lz w,0<=z:=λz hz=>by
 obtain⟨t,ht,rfl⟩:=Pp.mp hz;have T:=W.ts t ht;have:=T.l.q1;exact Int.mul_nonneg T.l0 (TV (by have:=(rh W).1;omega) (by omega))
theorem Lz(n:Nat):(nC (lz w) n).natAbs<2 ^ 3000:=by
 unfold nC lz;rw[OM];cases e:w.ts[n]? with
 |none=>show(0:Int).natAbs<_;exact Nat.pow_pos (by decide)
 |some t=>
  have T:=W.ts t (O1 e);show(t.l.1*(lB w / t.l.2)).natAbs<_;rw[T8,show(3000:Nat)=200+2800 from rfl,UT];have h1:t.l.1.natAbs<2 ^ 200:=OR T.l.pN (by decide);have h2:(lB w / t.l.2).natAbs<=2 ^ 2800:=Pe (Ry _ _) (rh W).2.1;exact OR (Nat.mul_lt_mul_of_lt_of_le h1 h2 (Nat.pow_pos (by decide))) (O0 _)
end
open K11 (l4)
theorem mf{g:OO->D}{k:OO}:∀{ps:bv},tU ps (ps.map g) k=if k∈ps then some (g k) else none
 |[]=>rfl
 |p::ps=>by
  rw[OY,tU]
  by_cases h:p=k
  .subst h;simp
  .rw[if_neg h,mf]
   have:k≠p:=λz=>h z.symm;simp[this]
open K11 (l4)
open K51 (Bd pl)
def val(x:gz):Rat:=(x.1:Rat) / (x.2:Rat)
def eE{a:Int}(h:0<a):(0:Rat)<(a:Rat):=by
 have:=Uv.mpr h;simpa using this
def J0{a b c d:Rat}(hb:0<b)(hd:0<d):a / b<c / d↔a*d<c*b:=by
 have h1:a / b<c / d↔(a / b)*(b*d)<(c / d)*(b*d):=(Rat.mul_lt_mul_right (Rat.mul_pos hb hd)).symm;rw[h1];have e1:a / b*(b*d)=a*d:=by grind
 have e2:c / d*(b*d)=c*b:=by grind
 rw[e1,e2]
def yX{x y:gz}(hx:0<x.2)(hy:0<y.2):flt x y=decide (val x<val y):=by
 unfold flt val
 congr 1
 rw[J0 (eE hx) (eE hy),←QL,←QL,Uv]
def rZ{a b:Int}(hb:0<b):val (eK a b)=(a:Rat) / (b:Rat):=by
 have h:=Fu (a:=a) (b:=b);have hq:0<(eK a b).2:=by have:=(iD (a:=a) hb).q1;omega
 unfold val;have p1:=eE hq;have p2:=eE hb;have e:((eK a b).1:Rat)*(b:Rat)=(a:Rat)*((eK a b).2:Rat):=by rw[←QL,←QL,h]
 grind
def HN{x y:gz}(hx:0<x.2)(hy:0<y.2):val (pl x y)=val x+val y:=by
 have:pl x y=eK (x.1*y.2+y.1*x.2) (x.2*y.2):=rfl;rw[this,rZ (SQ hx hy)];unfold val;have p1:=eE hx;have p2:=eE hy;rw[Rat.intCast_add,QL,QL,QL]
 grind
def Jq{x:gz}(h:lJ x):Bd x 200:=⟨by have:=h.q1;omega,OR h.pN (by decide),OR h.qN (by decide)⟩
open K11 (l4)
open K51 (Bd pl)
section
variable {w:iP}(W:eV w)
include W
theorem z_len{n:Nat}(hn:n<w.ts.length):val (K12.lenAt w n)=(nC (lz w) n:Rat) / (lB w:Rat):=by
 have ht:=OI hn;have T:=W.ts w.ts[n] (P9 hn);rw[K12.lenAt_of ht];have hz:nC (lz w) n=w.ts[n].l.1*(lB w / w.ts[n].l.2):=by
  unfold nC lz;rw[OM,ht];rfl
 obtain⟨h1,_,h3⟩:=rh W;have hq:=T.l.q1;have hd:=Int.ediv_mul_cancel (h3 _ (P9 hn));have e:nC (lz w) n*w.ts[n].l.2=w.ts[n].l.1*lB w:=by rw[hz,Int.mul_assoc,hd]
 have p1:=eE h1;have p2:=eE (show 0<w.ts[n].l.2 by omega);have e':(nC (lz w) n:Rat)*(w.ts[n].l.2:Rat)=(w.ts[n].l.1:Rat)*(lB w:Rat):=by rw[←QL,←QL,e]
 unfold val
 grind
end
end Pth
namespace Bfd
open PySem L2 DL Com Pth
structure BS where
 ks:bv
 Z:OO->Int
open K51 (Bd pl)
def iI(w:iP)(S:BS):D:=.dic S.ks (S.ks.map λp=>fr (eK (S.Z p) (lB w)))
def xA{w:iP}{S:BS}{p:OO}:tU S.ks (S.ks.map λp=>fr (eK (S.Z p) (lB w))) p=if p∈S.ks then some (fr (eK (S.Z p) (lB w))) else none:=mf (g:=λp=>fr (eK (S.Z p) (lB w)))
def l5{w:iP}{S:BS}{p:OO}:xH (.str p) (iI w S)=.ok (.bl (decide (p∈S.ks))):=by
 show aj.ok (D.bl (tU S.ks (S.ks.map λp=>fr (eK (S.Z p) (lB w))) p).isSome)=_;rw[xA]
 by_cases h:p∈S.ks
 .rw[if_pos h,decide_eq_true h];rfl
 .rw[if_neg h,decide_eq_false h];rfl
def ir{w:iP}{S:BS}{p:OO}:k8 (.str p) (iI w S)=.ok (.bl (!(decide (p∈S.ks)))):=by
 show aj.ok (D.bl (!(tU S.ks (S.ks.map λp=>fr (eK (S.Z p) (lB w))) p).isSome))=_;rw[xA]
 by_cases h:p∈S.ks
 .rw[if_pos h,decide_eq_true h];rfl
 .rw[if_neg h,decide_eq_false h];rfl
def iH{w:iP}{S:BS}{p:OO}(h:p∈S.ks):cc (iI w S) (.str p)=.ok (fr (eK (S.Z p) (lB w))):=by
 show(match tU S.ks (S.ks.map λp=>fr (eK (S.Z p) (lB w))) p with|some d=>aj.ok d|none=>.stuck)=_;rw[xA,if_pos h]
theorem rep_map{g:OO->D}{x:OO}{d:D}:∀{ks:bv},wB ks (ks.map g) x d=ks.map λk=>if k=x then d else g k
 |[]=>rfl
 |k::ks=>by rw[OY,wB,rep_map,OY]
def kW{w:iP}{S:BS}{b:OO}{z:Int}:nu S.ks (S.ks.map λp=>fr (eK (S.Z p) (lB w))) b (fr (eK z (lB w)))=iI w ⟨if b∈S.ks then S.ks else S.ks++[b],λp=>if p=b then z else S.Z p⟩:=by
 unfold nu iI
 by_cases h:b∈S.ks
 .rw[if_pos h]
  simp only[if_pos h];rw[rep_map]
  congr 1
  refine QB λk _=>?_
  by_cases e:k=b
  .rw[if_pos e,if_pos e]
  .rw[if_neg e,if_neg e]
 .rw[if_neg h]
  simp only[if_neg h];rw[PF]
  congr 1
  congr 1
  .refine QB λk hk=>?_
   rw[if_neg (by intro e;exact h (e▸hk))]
  .simp
def ja{x y:gz}(hx:Low x)(hy:Low y)(h:val x=val y):x=y:=by
 have q1:=hx.q1;have q2:=hy.q1;have h1:=yX (x:=x) (y:=y) (by omega) (by omega);have h2:=yX (x:=y) (y:=x) (by omega) (by omega);rw[h,decide_eq_false Rat.lt_irrefl]at h1;rw[h,decide_eq_false Rat.lt_irrefl]at h2;unfold flt at h1 h2;refine uZ hx hy ?_;have:=of_decide_eq_false h1;have:=of_decide_eq_false h2;omega
open K51 (Bd pl)
def Pl(x:Sl):Prop:=x=.no∨∃d,x=.sh d
end Bfd
namespace K64
open PySem L2 DL
noncomputable def bY(mR:ac->aj D):am :=
 (ar (dX (bh (ae 1) (tN ["tuple","list"]))
 (ar (dX (aa (bh (ae 0) (cK "tuple")) (bh (ae 1) (cK "tuple")) jt)
 (ar (bC (dC (.bl false)))
 av)
 av)
 (ar (dX (gs (aa (bh (ae 0) (cK "list")) (bh (ae 1) (cK "list")) jt) (aa (aq (ag (ae 0) aB) (m1 cY)) (aq (ag (ae 1) aB) (m1 cY)) jt))
 (ar (bC (dC (.bl false)))
 av)
 av)
 (ar (bC (aq (ag (eC 2 [] (mB (ae 0) (ae 1)) (dy [0,1]) mYes (aq (ag (ae 0) (ag (ae 1) aB)) mR)) aB) (m1 vG)))
 av)))
 av)
 (ar (dX (gs (aa (ae 1) (dC (.non)) vE) (bh (ae 1) (cK "str")))
 (ar (bC (fK (aa (ae 0) (ae 1) jW) (aa (bh (ae 0) (cK "str")) (bh (ae 1) (cK "str")) jW)))
 av)
 av)
 (ar (bC (fK (bh (ae 0) (cK "int")) (fK (cj (bh (ae 0) (cK "bool"))) (aa (ae 0) (ae 1) jW))))
 av)))
def aJ:Nat->ac->aj D
 |0=>λ_=>.stuck
 |n+1=>cm 2 (bY (aJ n))
abbrev bb:ac->aj D:=aJ 5
end K64
namespace Nwb
open PySem L2 DL Com
def OA{es:ac}:Ml (.tup []) (.tup es)=.ok (.tup es):=rfl
end Nwb
namespace K64
open PySem L2 DL Com Pth
def uL{g:OO->D}{ks:bv}{k:OO}(h:k∉ks):nu ks (ks.map g) k (g k)=.dic (ks++[k]) ((ks++[k]).map g):=by
 unfold nu;rw[if_neg h,PF];rfl
def not_before{zs:bv}(nd:zs.Nodup){k:Nat}{z:OO}(h:zs[k]?=some z):z∉zs.take k:=by
 intro hm;obtain⟨i,hi,e⟩:=List.getElem_of_mem hm;rw[PJ]at hi;rw[List.getElem_take]at e;obtain⟨hk,e2⟩:=OP.mp h;have:=(Q0 (h₀:=show i<zs.length by omega) (h₁:=hk) nd).mp (e.trans e2.symm);omega
def jX(u:iP):D:=.tup [.ob .pl (u.ps.map D.str),.ob .pl (u.ts.map bg),.str u.fi,.str u.la]
theorem pe{α:Type}{F:α->D}(h:∀x,fgt (F x)=F x):∀xs:List α,fgts (xs.map F)=xs.map F
 |[]=>rfl
 |x::xs=>by rw[OY,fgts,h x,pe h xs]
def FH(t:rT):fgt (bg t)=bg t:=by
 obtain⟨a,b,w,l,o⟩:=t;cases o<;>rfl
def kP(u:iP):fgt (jX u)=aN u:=by
 show D.tup [.lst (fgts (u.ps.map D.str)),.lst (fgts (u.ts.map bg)),.str u.fi,.str u.la]=_;rw[pe (λ_=>rfl),pe FH];rfl
def Hv{f:al}{ρ:Ev}:wK f ρ=(f ρ).bind Nk:=rfl
def Dc{ds:ac}:Nk (.lst ds)=.ok (.ob .pl ds):=rfl
def zc{f:al}{ρ:Ev}:DD f ρ=(f ρ).bind λd=>.ok (fgt d):=rfl
end K64
namespace K64
open PySem L2 DL Com
theorem ji:∀ds:ac,bJ ds ds=ds.map λd=>.tup [d,d]
 |[]=>rfl
 |d::ds=>by rw[OY,←ji ds];rfl
theorem qe:∀ds:ac,fu (ds.map λ_=>.bl true)=some (ds.map λ_=>true)
 |[]=>rfl
 |d::ds=>by rw[OY,fu,qe ds];rfl
def vQ{ds:ac}:vG (.lst (ds.map λ_=>.bl true))=.ok (.bl true):=by
 unfold vG;simp only[qe]
 congr 2
 rw[Pr];intro b hb;obtain⟨_,_,rfl⟩:=Pp.mp hb;rfl
def qj{n:Nat}{ds:ac}(hl:ds.length<=1000)(h:∀d∈ds,aJ n [d,d]=.ok (.bl true)){ρ:Ev}:j8 2 [] (dy [0,1]) mYes (aq (ag (ae 0) (ag (ae 1) aB)) (aJ n)) ρ (ds.map λd=>.tup [d,d])=.ok (.lst (ds.map λ_=>.bl true)):=by
 rw[k9 (F:=λ_=>.bl true) (by rw[OH];omega)]
 .rw[P7];rfl
 .intro d hd
  obtain⟨e,he,rfl⟩:=Pp.mp hd;refine⟨[.sh e,.sh e],rfl,rfl,?_⟩;have:=h e he;open_line with[this]
def mh{n:Nat}{ds:ac}(hl:ds.length<=1000)(h:∀d∈ds,aJ n [d,d]=.ok (.bl true)):aJ (n+1) [.tup ds,.tup ds]=.ok (.bl true):=by
 have hc:=λρ=>qj hl h (ρ:=ρ);have hz:∀ρ:Ev,ρ[0]?=some (.sh (.tup ds))->ρ[1]?=some (.sh (.tup ds))->mB (ae 0) (ae 1) ρ=.ok (ds.map λd=>.tup [d,d]):=λρ h0 h1=>by
  unfold mB ae;rw[h0,h1,←ji];rfl
 have t1:tN ["tuple","list"] (.tup ds)=.ok (.bl true):=rfl;have t2:cK "tuple" (.tup ds)=.ok (.bl true):=rfl;have t3:cK "list" (.tup ds)=.ok (.bl false):=rfl;have n1:jt (.bl true) (.bl true)=.ok (.bl false):=rfl;have n2:jt (.bl false) (.bl false)=.ok (.bl false):=rfl;rw[aJ];open_line with[bY,t1,t2,t3,n1,n2,jN,hz,hc,vQ]
def rS{n:Nat}{ds:ac}(hl:ds.length<=1000)(h:∀d∈ds,aJ n [d,d]=.ok (.bl true)):aJ (n+1) [.lst ds,.lst ds]=.ok (.bl true):=by
 have hc:=λρ=>qj hl h (ρ:=ρ);have hz:∀ρ:Ev,ρ[0]?=some (.sh (.lst ds))->ρ[1]?=some (.sh (.lst ds))->mB (ae 0) (ae 1) ρ=.ok (ds.map λd=>.tup [d,d]):=λρ h0 h1=>by
  unfold mB ae;rw[h0,h1,←ji];rfl
 have t1:tN ["tuple","list"] (.lst ds)=.ok (.bl true):=rfl;have t2:cK "tuple" (.lst ds)=.ok (.bl false):=rfl;have t3:cK "list" (.lst ds)=.ok (.bl true):=rfl;have n1:jt (.bl true) (.bl true)=.ok (.bl false):=rfl;have n2:jt (.bl false) (.bl false)=.ok (.bl false):=rfl;rw[aJ];open_line with[bY,t1,t2,t3,n1,n2,jN,hz,hc,vQ]
def fX{n:Nat}{z:OO}:aJ (n+1) [.str z,.str z]=.ok (.bl true):=by
 have t1:tN ["tuple","list"] (.str z)=.ok (.bl false):=rfl;have t2:cK "str" (.str z)=.ok (.bl true):=rfl;have n1:jW (.bl true) (.bl true)=.ok (.bl true):=rfl;rw[aJ];open_line with[bY,t1,t2,tw,beq_self_eq_true z,n1]
def AY{n:Nat}{i:Int}:aJ (n+1) [.int i,.int i]=.ok (.bl true):=by
 have t1:tN ["tuple","list"] (.int i)=.ok (.bl false):=rfl;rw[aJ];open_line with[bY,t1,beq_self_eq_true i]
def alike_non{n:Nat}:aJ (n+1) [.non,.non]=.ok (.bl true):=by
 rw[aJ];rfl
def alike_fr{n:Nat}{x:gz}:aJ (n+2) [fr x,fr x]=.ok (.bl true):=mh (ds:=[.int x.1,.int x.2]) (by simp) λd hd=>by
 simp only[OU,PR,or_false]at hd;rcases hd with rfl|rfl<;>exact AY
def AX{n:Nat}{t:rT}:aJ (n+3) [bg t,bg t]=.ok (.bl true):=mh (ds:=[.str t.a,.str t.b,.str t.w,fr t.l,aO t.o]) (by simp) λd hd=>by
 simp only[OU,PR,or_false]at hd;rcases hd with rfl|rfl|rfl|rfl|rfl
 .exact fX
 .exact fX
 .exact fX
 .exact alike_fr
 .cases t.o with
  |none=>exact alike_non
  |some x=>exact alike_fr
def alike_web{u:iP}(U:eV u):bb [aN u,aN u]=.ok (.bl true):=mh (n:=4) (ds:=[.lst (u.ps.map D.str),.lst (u.ts.map bg),.str u.fi,.str u.la]) (by simp) λd hd=>by
 have h7:=U.n7;have h14:=U.t14;simp only[OU,PR,or_false]at hd;rcases hd with rfl|rfl|rfl|rfl
 .exact rS (n:=3) (by rw[OH];omega) λd hd=>by
   obtain⟨z,_,rfl⟩:=Pp.mp hd;exact fX
 .exact rS (n:=3) (by rw[OH];omega) λd hd=>by
   obtain⟨t,_,rfl⟩:=Pp.mp hd;exact AX
 .exact fX
 .exact fX
theorem iA:∀(zs:bv),plainDs (zs.map D.str)=true
 |[]=>rfl
 |z::zs=>by
  show(bQ (.str z)&&plainDs (zs.map D.str))=true;rw[iA zs];rfl
def Aa(t:rT):bQ (bg t)=true:=by
 obtain⟨a,b,w,l,o⟩:=t;cases o<;>rfl
theorem oJ:∀(ts:List rT),plainDs (ts.map bg)=true
 |[]=>rfl
 |t::ts=>by
  show(bQ (bg t)&&plainDs (ts.map bg))=true;rw[oJ ts,Aa];rfl
def qU(w:iP):bQ (aN w)=true:=by
 show(bQ (.lst (w.ps.map D.str))&&(bQ (.lst (w.ts.map bg))&&(bQ (.str w.fi)&&(bQ (.str w.la)&&true))))=true;rw[show bQ (.lst (w.ps.map D.str))=true from iA _,show bQ (.lst (w.ts.map bg))=true from oJ _];rfl
end K64
namespace K59
open PySem L2 DL Com Pth
open K51 (Bd pl)
open Bfd (BS iI l5 ir iH kW ja Pl)
@[irreducible] def M3:Int:=2 ^ 3000
theorem xS:0<M3:=by unfold M3;decide
def i0{x:gz}:aK (fr x) (.int 0)=.ok (.int x.1):=rfl
def i1{x:gz}:aK (fr x) (.int 1)=.ok (.int x.2):=rfl
def BX{x y:gz}{m n:Nat}(hx:Bd x m)(hy:Bd y n)(h:m+n<=5900):fA [fr x,fr y,.int 1]=.ok (fr (pl x y)):=by
 have b1:=hx.c60 (by omega);have b2:=hy.c60 (by omega);have hp:=K51.un_bd hx hy;have hc:=hp.c13 (by omega);have m1:=c8 (gN b1.1 b2.2);have m0:cq (.int 1) (.int y.1)=.ok (.int y.1):=by
  have:=c8 (gN (i:=1) (sU (i:=1) (by decide)) b2.1);rw[this,Int.one_mul]
 have m2:=c8 (gN b2.1 b1.2);have m3:=c8 (gN b1.2 b2.2);have hlo:cC [.int (x.1*y.2+y.1*x.2),.int (x.2*y.2)]=.ok (fr (pl x y)):=Cod.low_ok hp.q0 hc.1 hc.2;open_line with[fA,m6,i0,i1,m0,m1,m2,m3,hlo]
def JW:cU=K51.cU:=rfl
section
variable {w:iP}(W:eV w)
include W
theorem Ol{z:Int}{n:Nat}{t:rT}(ht:w.ts[n]?=some t):pl (eK z (lB w)) t.l=eK (z+nC (lz w) n) (lB w):=by
 have hB:=(rh W).1;have T:=(W.ts t (O1 ht)).l;have hq:0<t.l.2:=by have:=T.q1;omega
 have hn:n<w.ts.length:=(OP.mp ht).1;have hl:val t.l=(nC (lz w) n:Rat) / (lB w:Rat):=by
  have:=z_len W hn;rw[show K12.lenAt w n=t.l by unfold K12.lenAt;rw[ht];rfl]at this;exact this
 have lq:0<(eK z (lB w)).2:=by have:=(iD (a:=z) hB).q1;omega
 refine ja (iD (SQ lq hq)) (iD hB) ?_;rw[HN lq hq,rZ hB,rZ hB,hl,Rat.intCast_add];have p1:=eE hB
 grind
theorem Nq(n:Nat):0<=nC (lz w) n/\nC (lz w) n<=M3:=by
 have h1:=HE (Ly W) n;have h2:=Lz W n;refine⟨h1,?_⟩;unfold M3;have h3:((nC (lz w) n).natAbs:Int)<=((2 ^ 3000:Nat):Int):=Int.ofNat_le.mpr (RW h2);rw[U0 h1]at h3;exact Int.le_trans h3 (by rw[Int.natCast_pow];exact U1 _)
theorem Ee{z:Int}(h0:0<=z)(h1:z<=900*M3):Bd (eK z (lB w)) 3010:=by
 have hB:=rh W;refine K51.low_bd hB.1 ?_ (P6 hB.2.1 (Nat.pow_lt_pow_right (by decide) (by decide)));have h2:(z.natAbs:Int)<((2 ^ 3010:Nat):Int):=by
  rw[U0 h0];refine Int.lt_of_le_of_lt h1 ?_;unfold M3;decide
 exact Int.ofNat_lt.mp h2
end
structure Lb (w:iP) (c:Nat) (S:BS):Prop where
 nd:S.ks.Nodup
 pl:∀p∈S.ks,p∈w.ps
 bd:∀p∈S.ks,0<=S.Z p/\S.Z p<=(c:Int)*M3
def Lb.up{w:iP}{c c':Nat}{S:BS}(h:Lb w c S)(hc:c<=c'):Lb w c' S:=⟨h.nd,h.pl,λp hp=>⟨(h.bd p hp).1,Int.le_trans (h.bd p hp).2 (Tx (by omega) (Int.le_of_lt xS))⟩⟩
noncomputable def IB:am :=
 (ar (dX (fK (aa (ae 4) (ae 1) cE) (aa (ae 6) (ae 2) xH))
 (ar (yi 8 (aq (ag (aa (ae 2) (ae 6) cc) (ag (aa (ae 5) (dC (.int 3)) aK) (ag (dC (.int 1)) aB))) fA))
 (ar (dX (gs (aa (ae 7) (ae 2) k8) (aq (ag (ae 8) (ag (aa (ae 2) (ae 7) cc) aB)) cU))
 (ar (jf 2 (ae 8) (ae 7))
 av)
 av)
 av))
 av)
 av)
def nJ(w:iP)(tk:cr)(S:BS)(x3 x4 x5 x6 x7 x8:Sl):Ev:=[.sh (aN w),.sh (kM tk),.ow (iI w S),x3,x4,x5,x6,x7,x8]
section
variable {w:iP}(W:eV w) {tk:cr}
include W
theorem CG{n:Nat}{t:rT}(ht:w.ts[n]?=some t){a b:OO}(hbp:b∈w.ps){c:Nat}(hc:c<=500){S:BS}(L:Lb w c S){x3 x8:Sl}(h3:Pl x3)(h8:Pl x8) :
  ∃S' y8,Lb w (c+1) S'/\Pl y8/\IB (nJ w tk S x3 (.sh (.int (n:Int))) (.sh (bg t)) (.sh (.str a)) (.sh (.str b)) x8)=.ok (.nx (nJ w tk S' x3 (.sh (.int (n:Int))) (.sh (bg t)) (.sh (.str a)) (.sh (.str b)) y8)):=by
 have hni:cE (.int (n:Int)) (kM tk)=.ok (.bl (!(decide (n∈tk)))):=K11.notIn_nums (ks:=tk) (n:=n);have i3:aK (bg t) (.int 3)=.ok (fr t.l):=rfl;have Mp:=xS
 by_cases hk:n∈tk
 .rw[decide_eq_true hk]at hni
  refine⟨S,x8,L.up (by omega),h8,?_⟩;unfold nJ;open_line with[IB,hni]
 rw[decide_eq_false hk]at hni;have hin:=l5 (w:=w) (S:=S) (p:=a)
 by_cases ha:a∈S.ks
 rotate_left
 .rw[decide_eq_false ha]at hin
  refine⟨S,x8,L.up (by omega),h8,?_⟩;unfold nJ;open_line with[IB,hni,hin]
 rw[decide_eq_true ha]at hin;have hg:=iH (w:=w) ha;obtain⟨z0,z1⟩:=L.bd a ha;obtain⟨n0,n1⟩:=Nq W n;have c9:(c:Int)*M3<=500*M3:=Tx (by omega) (Int.le_of_lt Mp);have c1:((c+1:Nat):Int)*M3=(c:Int)*M3+M3:=by rw[Int.natCast_add,Int.add_mul];omega
 have hpl:=BX (Ee W z0 (by omega)) (Jq (W.ts t (O1 ht)).l) (by decide);rw[Ol W ht]at hpl;have hnd:DL.nd (fr (eK (S.Z a+nC (lz w) n) (lB w)))=true:=rfl;have hoD:uQ (nJ w tk S x3 (.sh (.int (n:Int))) (.sh (bg t)) (.sh (.str a)) (.sh (.str b)) x8)=true:=by
  rcases h3 with rfl|⟨_,rfl⟩<;>rcases h8 with rfl|⟨_,rfl⟩<;>rfl
 unfold nJ at hoD;have hnb:=ir (w:=w) (S:=S) (p:=b);have hlen:decide (S.ks.length<=900)=true:=decide_eq_true (by have:=Cod.nodup_le L.nd L.pl;have:=W.n7;omega);have hput:=kW (w:=w) (S:=S) (b:=b) (z:=S.Z a+nC (lz w) n);have hp1:∀(f k:al) (ρ:Ev),BP 2 f k ρ (some (.ow (iI w S)))=(f ρ).bind (BO 2 k ρ S.ks (S.ks.map λp=>fr (eK (S.Z p) (lB w)))):=λ_ _ _=>nP;have put:Lb w (c+1) ⟨if b∈S.ks then S.ks else S.ks++[b],λp=>if p=b then S.Z a+nC (lz w) n else S.Z p⟩:=by
  refine⟨?_,?_,?_⟩
  .show(if b∈S.ks then S.ks else S.ks++[b]).Nodup
   split
   .exact L.nd
   .rename_i hb;exact Cod.nodup_snoc L.nd hb
  .intro p hp
   replace hp:p∈(if b∈S.ks then S.ks else S.ks++[b]):=hp;split at hp
   .exact L.pl p hp
   .rcases Ql.mp hp with hp|hp
    .exact L.pl p hp
    .rw[Q4.mp hp];exact hbp
  .intro p hp
   show 0<=(if p=b then S.Z a+nC (lz w) n else S.Z p)/\(if p=b then S.Z a+nC (lz w) n else S.Z p)<=((c+1:Nat):Int)*M3;rw[c1];split
   .omega
   .rename_i hpb
    replace hp:p∈(if b∈S.ks then S.ks else S.ks++[b]):=hp;have:p∈S.ks:=by
     split at hp
     .exact hp
     .rcases Ql.mp hp with hp|hp
      .exact hp
      .exact absurd (Q4.mp hp) hpb
    have:=L.bd p this;omega
 by_cases hb:b∈S.ks
 .rw[decide_eq_true hb]at hnb
  have hgb:=iH (w:=w) hb;obtain⟨b0,b1⟩:=L.bd b hb;have hls:=K51.lless_bd (Ee W (z:=S.Z a+nC (lz w) n) (by omega) (by omega)) (Ee W b0 (by omega)) (by decide) (by decide);rw[←JW]at hls;cases hlt:flt (eK (S.Z a+nC (lz w) n) (lB w)) (eK (S.Z b) (lB w)) with
  |true=>
   rw[hlt]at hls;refine⟨_,.sh (fr (eK (S.Z a+nC (lz w) n) (lB w))),put,.inr ⟨_,rfl⟩,?_⟩;unfold nJ;open_line with[IB,hni,hin,hg,i3,hpl,xx,tH hnd hoD,hnb,hgb,hls,pC,hp1,kT,jP hlen,hput]
  |false=>
   rw[hlt]at hls;refine⟨S,.sh (fr (eK (S.Z a+nC (lz w) n) (lB w))),L.up (by omega),.inr ⟨_,rfl⟩,?_⟩;unfold nJ;open_line with[IB,hni,hin,hg,i3,hpl,xx,tH hnd hoD,hnb,hgb,hls]
 .rw[decide_eq_false hb]at hnb
  refine⟨_,.sh (fr (eK (S.Z a+nC (lz w) n) (lB w))),put,.inr ⟨_,rfl⟩,?_⟩;unfold nJ;open_line with[IB,hni,hin,hg,i3,hpl,xx,tH hnd hoD,hnb,pC,hp1,kT,jP hlen,hput]
end
open K51 (Bd pl)
open Bfd (BS iI l5 ir iH kW ja Pl)
noncomputable def LI:al:=(eQ (aq (ag (aq (ag (aa (ae 5) (dC (.int 0)) aK) (ag (aa (ae 5) (dC (.int 1)) aK) aB)) gw) (ag (aq (ag (aa (ae 5) (dC (.int 1)) aK) (ag (aa (ae 5) (dC (.int 0)) aK) aB)) gw) aB)) cI) dw (bW (aa (dC (.int 1)) (aq (ag (aa (aa (ae 5) (dC (.int 2)) aK) (dC (.str "both")) jW) aB) (m1 pI)) bI)))
def TB:am:=(ar (kG LI (dy [6,7]) IB) av)
def RB:am:=(ar (gW (nr (aa (ae 0) (dC (.int 1)) aK)) (dy [4,5]) TB) av)
def qX:Pl .no:=.inl rfl
def qW{d:D}:Pl (.sh d):=.inr ⟨_,rfl⟩
def LG{zs:bv}{t:rT}(T:m8 zs t){ρ:Ev}(h:(gu ρ)[5]?=some (.sh (bg t)))(h':ρ[5]?=some (.sh (bg t))):∃ps:List (OO×OO),LI ρ=.ok (.lst (ps.map λp=>D.tup [.str p.1,.str p.2]))/\LI (gu ρ)=.ok (.lst (ps.map λp=>D.tup [.str p.1,.str p.2]))/\ps.length<=2/\∀p∈ps,p.2∈zs:=by
 have t0:aK (bg t) (.int 0)=.ok (.str t.a):=rfl;have t1:aK (bg t) (.int 1)=.ok (.str t.b):=rfl;have t2:aK (bg t) (.int 2)=.ok (.str t.w):=rfl;have v5:ae 5 ρ=.ok (bg t):=by unfold ae;rw[h']
 have v5':ae 5 (gu ρ)=.ok (bg t):=by unfold ae;rw[h]
 rcases T.w with e|e
 .have t2:aK (bg t) (.int 2)=.ok (.str "one"):=by rw[t2,e]
  have c1:jW (.str "one") (.str "both")=.ok (.bl false):=rfl;have c2:pI (.bl false)=.ok (.int 0):=rfl;refine⟨[(t.a,t.b)],?_,?_,by simp,λp hp=>by rw[Q4.mp hp];exact T.b⟩
  .open_line with[LI,h',t0,t1,t2,c1,c2]
   rfl
  .open_line with[LI,h,t0,t1,t2,c1,c2]
   rfl
 .have t2:aK (bg t) (.int 2)=.ok (.str "both"):=by rw[t2,e]
  have c1:jW (.str "both") (.str "both")=.ok (.bl true):=rfl;have c2:pI (.bl true)=.ok (.int 1):=rfl;refine⟨[(t.a,t.b),(t.b,t.a)],?_,?_,by simp,λp hp=>by
   simp only[OU,PR,or_false]at hp;rcases hp with rfl|rfl
   .exact T.b
   .exact T.a⟩
  .open_line with[LI,h',t0,t1,t2,c1,c2]
   rfl
  .open_line with[LI,h,t0,t1,t2,c1,c2]
   rfl
open K51 (Bd pl)
open Bfd (BS iI l5 ir iH kW ja Pl)
def LF{b:Int}(hb:0<b):eK 0 b=(0,1):=by
 refine uZ (iD hb) ⟨by decide,by decide⟩ ?_;show(eK 0 b).1*1=0*(eK 0 b).2;unfold eK;simp
section
variable {w:iP}(W:eV w) {tk:cr}
include W
theorem Bq{n:Nat}{t:rT}(ht:w.ts[n]?=some t){c:Nat}(hc:c<=400){S:BS}(L:Lb w c S){x3 x6 x7 x8:Sl}(h3:Pl x3)(h6:Pl x6)(h7:Pl x7)(h8:Pl x8) :
  ∃S' y6 y7 y8,Lb w (c+2) S'/\Pl y6/\Pl y7/\Pl y8/\TB (nJ w tk S x3 (.sh (.int (n:Int))) (.sh (bg t)) x6 x7 x8)=.ok (.nx (nJ w tk S' x3 (.sh (.int (n:Int))) (.sh (bg t)) y6 y7 y8)):=by
 obtain⟨ps,l1,l2,hl,hp⟩:=LG (W.ts t (O1 ht)) (ρ:=nJ w tk S x3 (.sh (.int (n:Int))) (.sh (bg t)) x6 x7 x8) rfl rfl;obtain⟨ρ',hf,S',y6,y7,y8,hρ,L',p6,p7,p8⟩:=fS (tg:=dy [6,7]) (body:=IB) (ds:=ps.map λp=>D.tup [.str p.1,.str p.2]) (λk ρ=>∃S' y6 y7 y8,ρ=nJ w tk S' x3 (.sh (.int (n:Int))) (.sh (bg t)) y6 y7 y8/\Lb w (c+k) S'/\Pl y6/\Pl y7/\Pl y8) (λk d hd ρ z9=>by
   obtain⟨S1,y6,y7,y8,hρ,L1,p6,p7,p8⟩:=z9;subst hρ;rw[OM]at hd;cases e:ps[k]? with
   |none=>rw[e]at hd;cases hd
   |some p=>
    rw[e]at hd;cases hd;have hk:k<2:=by have:=(OP.mp e).1;omega
    obtain⟨S2,z8,L2,q8,h2⟩:=CG W (tk:=tk) ht (a:=p.1) (hp p (O1 e)) (by omega) L1 h3 p8;exact⟨_,_,rfl,h2,S2,_,_,z8,rfl,L2,qW,qW,q8⟩) (ρ:=nJ w tk S x3 (.sh (.int (n:Int))) (.sh (bg t)) x6 x7 x8) ⟨S,x6,x7,x8,rfl,L,h6,h7,h8⟩
 refine⟨S',y6,y7,y8,L'.up (by rw[OH];omega),p6,p7,p8,?_⟩;have hl':(ps.map λp=>D.tup [.str p.1,.str p.2]).length<=900:=by rw[OH];omega
 open_line with[TB,l1,l2,hf,hρ]
theorem zL{c:Nat}(hc:c<=300){S:BS}(L:Lb w c S){x3 x4 x5 x6 x7 x8:Sl}(h3:Pl x3)(h4:Pl x4)(h5:Pl x5)(h6:Pl x6)(h7:Pl x7)(h8:Pl x8) :
  ∃S' y4 y5 y6 y7 y8,Lb w (c+28) S'/\Pl y4/\Pl y5/\Pl y6/\Pl y7/\Pl y8/\RB (nJ w tk S x3 x4 x5 x6 x7 x8)=.ok (.nx (nJ w tk S' x3 y4 y5 y6 y7 y8)):=by
 have t14:=W.t14;obtain⟨ρ',hf,S',y4,y5,y6,y7,y8,hρ,L',p4,p5,p6,p7,p8⟩:=fS (tg:=dy [4,5]) (body:=TB) (ds:=bK 0 (w.ts.map bg)) (λk ρ=>∃S' y4 y5 y6 y7 y8,ρ=nJ w tk S' x3 y4 y5 y6 y7 y8/\Lb w (c+2*k) S'/\Pl y4/\Pl y5/\Pl y6/\Pl y7/\Pl y8) (λk d hd ρ z9=>by
   obtain⟨S1,y4,y5,y6,y7,y8,hρ,L1,p4,p5,p6,p7,p8⟩:=z9;subst hρ;obtain⟨t,et,rfl⟩:=eJ hd;have hk:k<w.ts.length:=(OP.mp et).1;obtain⟨S2,z6,z7,z8,L2,q6,q7,q8,h2⟩:=Bq W (tk:=tk) et (by omega) L1 h3 p6 p7 p8;exact⟨_,_,rfl,h2,S2,_,_,z6,z7,z8,rfl,L2,qW,qW,q6,q7,q8⟩) (ρ:=nJ w tk S x3 x4 x5 x6 x7 x8) ⟨S,x4,x5,x6,x7,x8,rfl,L,h4,h5,h6,h7,h8⟩
 have hn:(bK 0 (w.ts.map bg)).length=w.ts.length:=by rw[DL.numbered_len,OH]
 refine⟨S',y4,y5,y6,y7,y8,L'.up (by omega),p4,p5,p6,p7,p8,?_⟩;have fw1:aK (aN w) (.int 1)=.ok (.lst (w.ts.map bg)):=rfl;have v0:(nJ w tk S x3 x4 x5 x6 x7 x8)[0]?=some (.sh (aN w)):=rfl;have v0':(gu (nJ w tk S x3 x4 x5 x6 x7 x8))[0]?=some (.sh (aN w)):=rfl;open_line with[RB,zb,v0,v0',fw1,hf,hρ]
theorem Ao:∃S,Lb w 200 S/\dS [aN w,kM tk]=.ok (iI w S):=by
 have n7:=W.n7;have hB:=(rh W).1;have L0:Lb w 0 ⟨[w.fi],λ_=>0⟩:=⟨by simp,λp hp=>by rw[Q4.mp hp];exact W.fi,λp _=>⟨U1 _,by simp⟩⟩
 obtain⟨ρ',hf,S',y3,y4,y5,y6,y7,y8,hρ,L',p3,p4,p5,p6,p7,p8⟩:=nN (i:=3) (body:=RB) (n:=w.ps.length) (λk ρ=>∃S' y3 y4 y5 y6 y7 y8,ρ=nJ w tk S' y3 y4 y5 y6 y7 y8/\Lb w (28*k) S'/\Pl y3/\Pl y4/\Pl y5/\Pl y6/\Pl y7/\Pl y8) (λk hk ρ z9=>by
   obtain⟨S1,y3,y4,y5,y6,y7,y8,hρ,L1,p3,p4,p5,p6,p7,p8⟩:=z9;subst hρ;obtain⟨S2,z4,z5,z6,z7,z8,L2,q4,q5,q6,q7,q8,h2⟩:=zL W (tk:=tk) (c:=28*k) (by omega) L1 (qW (d:=.int (k:Int))) p4 p5 p6 p7 p8;exact⟨_,h2,S2,_,z4,z5,z6,z7,z8,rfl,L2.up (by omega),qW,q4,q5,q6,q7,q8⟩) (ρ:=nJ w tk ⟨[w.fi],λ_=>0⟩ .no .no .no .no .no .no) ⟨_,_,_,_,_,_,_,rfl,L0,qX,qX,qX,qX,qX,qX⟩
 refine⟨S',L'.up (by omega),?_⟩;have hb:ke=ar (jg 2 (vF (aa (ae 0) (dC (.int 2)) aK) (aq (ag (dC (.int 0)) (ag (dC (.int 1)) aB)) gw))) (ar (mD (aq (ag (aa (ae 0) (dC (.int 0)) aK) aB) (m1 cY)) (eM 3) RB) (ar (bC (ae 2)) av)):=rfl;have fw0:aK (aN w) (.int 0)=.ok (.lst (w.ps.map D.str)):=rfl;have fw2:aK (aN w) (.int 2)=.ok (.str w.fi):=rfl;have d0:D.dic [w.fi] [.tup [.int 0,.int 1]]=iI w ⟨[w.fi],λ_=>0⟩:=by
  unfold iI;show _=D.dic [w.fi] [fr (eK 0 (lB w))];rw[LF hB];rfl
 have od:∀ρ:Ev,yA 2 ρ (iI w ⟨[w.fi],λ_=>0⟩)=.ok (.nx (ρ.set 2 (.ow (iI w ⟨[w.fi],λ_=>0⟩)))):=λ_=>rfl;unfold nJ at hf;subst hρ;unfold nJ at hf;rw[dS,hb];open_line with[fw0,fw2,xy,Gn,Dp,d0,od,kR,OH,kO (show w.ps.length<=1000000 by omega),hf]
end
open K51 (Bd pl)
open Bfd (BS iI l5 ir iH kW ja Pl)
theorem yH:∀(L:ac),(∀d∈L,∃k:Nat,d=.int (k:Int))->∃tk:cr,.lst L=kM tk
 |[],_=>⟨[],rfl⟩
 |d::L,h=>by
  obtain⟨k,rfl⟩:=h d (by simp);obtain⟨tk,e⟩:=yH L λd hd=>h d (by simp[hd]);refine⟨k::tk,?_⟩;have:L=tk.map λ(k:Nat)=>D.int (k:Int):=D.lst.inj e;rw[this];rfl
def GR{w:iP}(W:eV w)(v:Int):∃tk,fB [aN w,.int v]=.ok (kM tk):=by
 have h14:=W.t14;have hn:(bK 0 (w.ts.map bg)).length=w.ts.length:=by rw[DL.numbered_len,OH]
 have hc:=mV (n:=2) (fr:=[1]) (tg:=dy [0,1]) (tt:=fK (aa (aa (ae 1) (dC (.int 4)) aK) (dC (.non)) rB) (aa (aa (aa (ae 2) (ae 0) GH) (dC (.int 1)) zj) (dC (.int 1)) jW)) (fe:=ae 0) (ρ:=[.sh (aN w),.sh (.int v)]) (ds:=bK 0 (w.ts.map bg))
  (F:=λd=>match d with|.tup [x,_]=>x|d=>d) (p:=λd=>match d with|.tup [.int k,.tup [_,_,_,_,.non]]=>false|.tup [.int k,_]=>(Sj (v / 2 ^ k.toNat) 1==1)|_=>false) (by omega) (λd hd=>by
   obtain⟨k,hk⟩:=UZ hd;obtain⟨t,et,rfl⟩:=eJ hk;refine⟨[.sh (.int (k:Int)),.sh (bg t),.sh (.int v)],rfl,?_,λ_=>rfl⟩;have hs:GH (.int v) (.int (k:Int))=.ok (.int (v / 2 ^ k)):=by
    show(if decide (0<=(k:Int))=true then aj.ok (D.int (v / 2 ^ (k:Int).toNat)) else .stuck)=_;rw[if_pos (decide_eq_true (by omega)),Qs]
   have hb:zj (.int (v / 2 ^ k)) (.int 1)=.ok (.int (Sj (v / 2 ^ k) 1)):=rfl;have t4:aK (bg t) (.int 4)=.ok (aO t.o):=rfl;cases ho:t.o with
   |none=>
    rw[ho]at t4;have t4:aK (bg t) (.int 4)=.ok .non:=t4;rw[show bg t=.tup [.str t.a,.str t.b,.str t.w,fr t.l,.non] by unfold bg;rw[ho];rfl]at t4 ⊢;open_line with[t4]
   |some x=>
    rw[ho]at t4;have t4:aK (bg t) (.int 4)=.ok (.tup [.int x.1,.int x.2]):=t4;rw[show bg t=.tup [.str t.a,.str t.b,.str t.w,fr t.l,.tup [.int x.1,.int x.2]] by unfold bg;rw[ho];rfl]at t4 ⊢;open_line with[t4,hs,hb]
    simp)
 obtain⟨tk,e⟩:=yH _ (λd hd=>by
  obtain⟨d0,h0,rfl⟩:=Pp.mp hd;obtain⟨k,hk⟩:=UZ (RF.mp h0).1;obtain⟨t,et,rfl⟩:=eJ hk;exact⟨k,rfl⟩:∀d∈((bK 0 (w.ts.map bg)).filter λd=>match d with|.tup [.int k,.tup [_,_,_,_,.non]]=>false|.tup [.int k,_]=>(Sj (v / 2 ^ k.toNat) 1==1)|_=>false).map λd=>match d with|.tup [x,_]=>x|d=>d,∃k:Nat,d=.int (k:Int))
 refine⟨tk,?_⟩;rw[e]at hc;have fw1:aK (aN w) (.int 1)=.ok (.lst (w.ts.map bg)):=rfl;open_line with[fB,m7,fw1,jN,hc]
def pg(w:iP)(S:BS)(part:Int)(p:OO):Option gz:=if p∈S.ks then some (eK ((eK (S.Z p) (lB w)).1*part) ((eK (S.Z p) (lB w)).2*4)) else none
def EV{g:OO->D}{ks:bv}{k:OO}{d:D}(h:k∉ks):nu ks (ks.map g) k d=.dic (ks++[k]) ((ks++[k]).map λx=>if x=k then d else g x):=by
 unfold nu;rw[if_neg h,PF]
 congr 1
 congr 1
 .refine QB λx hx=>?_
  have:¬x=k:=λe=>h (e▸hx);rw[if_neg this]
 .simp
def EU{g:OO->D}{ks:bv}{k:OO}{d:D}(h:k∈ks):nu ks (ks.map g) k d=.dic ks (ks.map λx=>if x=k then d else g x):=by
 unfold nu;rw[if_pos h,Bfd.rep_map]
noncomputable def PB:am :=
 (ar (jf 4 (dC (.non)) (ae 5))
 (ar (dX (aa (ae 5) (ae 3) xH)
 (ar (jf 4 (aq (ag (aa (aa (aa (ae 3) (ae 5) cc) (dC (.int 0)) aK) (ae 2) cq) (ag (aa (aa (aa (ae 3) (ae 5) cc) (dC (.int 1)) aK) (dC (.int 4)) cq) aB)) cC) (ae 5))
 av)
 av)
 av))
def zY{w:iP}(W:eV w){tk:cr}{part:Int}(h0:0<=part)(h5:part<5):∃g:OO->Option gz,dR [aN w,kM tk,.int part]=.ok (.dic w.ps.reverse (w.ps.reverse.map λp=>aO (g p))):=by
 obtain⟨S,L,hl⟩:=Ao W (tk:=tk);have n7:=W.n7;have nd:w.ps.reverse.Nodup:=(Ti _).nodup_iff.mpr W.nm.1;refine⟨pg w S part,?_⟩;obtain⟨ρ',hf,b5,hP⟩:=fS (tg:=eM 5) (body:=PB) (ds:=w.ps.reverse.map D.str) (λk ρ=>∃b5,ρ=[.sh (aN w),.sh (kM tk),.sh (.int part),.sh (iI w S),.ow (.dic (w.ps.reverse.take k) ((w.ps.reverse.take k).map λp=>aO (pg w S part p))),b5]) (λk d hd ρ z9=>by
   obtain⟨b5,hρ⟩:=z9;subst hρ;rw[OM]at hd;cases e:w.ps.reverse[k]? with
   |none=>rw[e]at hd;cases hd
   |some z=>
    rw[e]at hd;cases hd;have nb:=K64.not_before nd e;have e1:w.ps.reverse.take (k+1)=w.ps.reverse.take k++[z]:=by rw[T7,e];rfl
    have hl1:decide ((w.ps.reverse.take k).length<=900)=true:=decide_eq_true (by rw[PJ,QY];omega);have hl2:decide ((w.ps.reverse.take k++[z]).length<=900)=true:=decide_eq_true (by rw[PU,PJ,QY];simp;omega);have p1:=EV (g:=λp=>aO (pg w S part p)) (d:=.non) nb;have hin:=l5 (w:=w) (S:=S) (p:=z);refine⟨_,[.sh (aN w),.sh (kM tk),.sh (.int part),.sh (iI w S),.ow (.dic (w.ps.reverse.take (k+1)) ((w.ps.reverse.take (k+1)).map λp=>aO (pg w S part p))),.sh (.str z)],rfl,?_,_,rfl⟩;rw[e1]
    by_cases hz:z∈S.ks
    .rw[decide_eq_true hz]at hin
     have hg:=iH (w:=w) hz;obtain⟨z0,z1⟩:=L.bd z hz;have Mp:=xS;have bx:=Ee W z0 (by have:((200:Nat):Int)=200:=rfl;rw[this]at z1;omega);have b1:=bx.c60 (by decide);have bp:part.natAbs<2 ^ 3:=by omega
     have by_:Bd ((eK (S.Z z) (lB w)).1*part,(eK (S.Z z) (lB w)).2*4) 3013:=⟨SQ bx.q0 (by decide),K51.mul_p2 bx.a bp,K51.mul_p2 bx.b (show(4:Int).natAbs<2 ^ 3 by decide)⟩
     have c1:=by_.c13 (by decide);have m1:=c8 (gN b1.1 (sU (i:=part) (by omega)));have m2:=c8 (gN b1.2 (sU (i:=4) (by decide)));have hlo:cC [.int ((eK (S.Z z) (lB w)).1*part),.int ((eK (S.Z z) (lB w)).2*4)]=.ok (fr (eK ((eK (S.Z z) (lB w)).1*part) ((eK (S.Z z) (lB w)).2*4))):=Cod.low_ok by_.q0 c1.1 c1.2;have p2:=EU (g:=λx=>if x=z then .non else aO (pg w S part x)) (d:=fr (eK ((eK (S.Z z) (lB w)).1*part) ((eK (S.Z z) (lB w)).2*4))) (show z∈w.ps.reverse.take k++[z] by simp);have ef:(w.ps.reverse.take k++[z]).map (λx=>if x=z then fr (eK ((eK (S.Z z) (lB w)).1*part) ((eK (S.Z z) (lB w)).2*4)) else(if x=z then .non else aO (pg w S part x)))=(w.ps.reverse.take k++[z]).map λp=>aO (pg w S part p):=QB λx _=>by
      by_cases c:x=z
      .subst c
       rw[if_pos rfl,pg,if_pos hz];rfl
      .rw[if_neg c,if_neg c]
     rw[ef]at p2;open_line with[PB,pC,nP,kT,jP hl1,jP hl2,p1,hin,hg,i0,i1,m1,m2,hlo,p2]
    .rw[decide_eq_false hz]at hin
     have ef:(w.ps.reverse.take k++[z]).map (λx=>if x=z then D.non else aO (pg w S part x))=(w.ps.reverse.take k++[z]).map λp=>aO (pg w S part p):=QB λx _=>by
      by_cases c:x=z
      .subst c
       rw[if_pos rfl,pg,if_neg hz];rfl
      .rw[if_neg c]
     rw[ef]at p1;open_line with[PB,pC,nP,kT,jP hl1,p1,hin]) (ρ:=[.sh (aN w),.sh (kM tk),.sh (.int part),.sh (iI w S),.ow (.dic [] []),.no]) ⟨_,rfl⟩
 subst hP;rw[OH,R4]at hf;have hb:ka=ar (aV 3 (aq (ag (ae 0) (ag (ae 1) aB)) dS)) (ar (jg 4 (dC (.dic [] []))) (ar (kG (bh (aa (ae 0) (dC (.int 0)) aK) GI) (eM 5) PB) (ar (bC (ae 4)) av))):=rfl;have fw0:aK (aN w) (.int 0)=.ok (.lst (w.ps.map D.str)):=rfl;have hr:GI (.lst (w.ps.map D.str))=.ok (.lst (w.ps.reverse.map D.str)):=by
  rw[List.map_reverse];rfl
 rw[dR,hb];open_line with[hl,xy,ze,fw0,hr,hf]
end K59
namespace K59
open PySem L2 DL Com Cod
def KU:List Int:=[3,420,420,16384,5,2]++Gp
def mx(e:Int)(own zs:bv)(k:Nat):OO:=if decide ((k:Int)<e)&&!(decide ((own[k]?.getD ("" : OO))∈zs)) then own[k]?.getD ("" : OO) else zs[k]?.getD ("" : OO)
def gG{zs:bv}{k:Nat}(h:k<zs.length):zs[k]?.getD ("" : OO)=zs[k]:=by rw[OI h];rfl
def Cw{e:Int}{own zs:bv}(ho:dk own)(hz:dk zs)(hl:own.length=zs.length):dk ((PL own.length).map (mx e own zs)):=by
 have cases_:∀k,k<own.length->(mx e own zs k=own[k]?.getD ("" : OO)/\mx e own zs k∉zs)∨(mx e own zs k=zs[k]?.getD ("" : OO)/\mx e own zs k∈zs):=λk hk=>by
  unfold mx
  by_cases c:(decide ((k:Int)<e)&&!(decide ((own[k]?.getD ("" : OO))∈zs)))=true
  .rw[if_pos c]
   rw[O4,Tq]at c;exact .inl ⟨rfl,of_decide_eq_false c.2⟩
  .rw[if_neg c]
   exact .inr ⟨rfl,by rw[gG (by omega)];exact P9 _⟩
 refine⟨?_,λz h=>?_⟩
 .rw[P4,Rk]
  refine Su (λ{i j} hi hj hij=>?_) Uz;have hi:=QJ.mp hi;have hj:=QJ.mp hj;intro eq;rcases cases_ i hi with⟨a1,a2⟩|⟨a1,a2⟩<;>rcases cases_ j hj with⟨b1,b2⟩|⟨b1,b2⟩
  .rw[a1,b1,gG hi,gG hj]at eq
   have:=(Q0 ho.1).mp eq;omega
  .rw[eq]at a2;exact a2 b2
  .rw[eq]at a2;exact b2 a2
  .rw[a1,b1,gG (by omega),gG (by omega)]at eq
   have:=(Q0 hz.1).mp eq;omega
 .obtain⟨k,hk,rfl⟩:=Pp.mp h
  have hk:=QJ.mp hk;rcases cases_ k hk with⟨a1,_⟩|⟨_,a2⟩
  .rw[a1,gG hk];exact ho.2 _ (P9 _)
  .exact hz.2 _ a2
noncomputable def NB:am :=
 (ar (aV 7 (aa (ae 2) (ae 6) aK))
 (ar (dX (fK (aa (ae 6) (aa (aa (ae 1) (dC (.int 2)) aK) (aq (ag (ae 4) aB) (m1 cY)) cP) Mk) (aa (aa (ae 4) (ae 6) aK) (ae 2) cE))
 (ar (aV 7 (aa (ae 4) (ae 6) aK))
 av)
 av)
 (ar (dY 5 (ae 7))
 av)))
set_option maxHeartbeats 1000000 in
def Al{w:iP}(W:eV w)(c:Int):∃(vs:List Int) (d3 d4:Int) (zs:bv),bL [.int c,.lst (KU.map D.int)]=.ok (.lst (vs.map D.int))/\aK (.lst (vs.map D.int)) (.int 3)=.ok (.int d3)/\aK (.lst (vs.map D.int)) (.int 4)=.ok (.int d4)/\0<=d4/\d4<5/\aZ [aN w,.lst (vs.map D.int)]=.ok (.lst (zs.map D.str))/\dk zs/\zs.length=w.ps.length:=by
 obtain⟨vs,hd,V⟩:=Cod.draws_ok c KU (by decide) (by decide);have hvl:vs.length=76:=V.len;obtain⟨d0,g0,b0,i0⟩:=V.ix 0 0 rfl rfl;obtain⟨d1,g1,b1,i1⟩:=V.ix 1 1 rfl rfl;obtain⟨d2,g2,b2,i2⟩:=V.ix 2 2 rfl rfl;obtain⟨d3,g3,b3,i3⟩:=V.ix 3 3 rfl rfl;obtain⟨d4,g4,b4,i4⟩:=V.ix 4 4 rfl rfl;obtain⟨d5,g5,b5,i5⟩:=V.ix 5 5 rfl rfl;have W3:Drawn Gp (vs.drop 6):=⟨by rw[Qn,hvl];rfl,λi v s e1 e2=>by
  rw[QQ]at e1;refine V.bnd (6+i) v s e1 ?_;have:KU[6+i]?=Gp[i]?:=by
   unfold KU;rw[O9 (by simp)];simp
  rw[this];exact e2⟩
 have n2:=W.n2;have n7:=W.n7;obtain⟨css,hnm,hcl,hnd,hall⟩:=Cod.names_ok W3 (n:=w.ps.length) n7;have hnm':bX [.lst ((vs.drop 6).map D.int),.int (w.ps.length:Int)]=.ok (.lst ((css.map S).map D.str)):=by
  have:fG css=(css.map S).map D.str:=by unfold fG;rw[P7];rfl
  rw[←this];exact hnm
 have hzl:(css.map S).length=w.ps.length:=by rw[OH,hcl]
 have nd:(css.map S).Nodup:=by
  rw[P4,Rk];exact Tn (λh z=>h (D0 z)) (P4.mp hnd)
 have nm:dk (css.map S):=⟨nd,λz hz=>by
  obtain⟨cs,hc,rfl⟩:=Pp.mp hz;exact(hall cs hc).nameB⟩
 generalize css.map S=zs at *;have hcut:jv (vs.map D.int) (some 6) none=(vs.drop 6).map D.int:=by
  rw[iM,HT.sIx_none,show(6:Int)=((6:Nat):Int) from rfl,HT.sIx_nat,hvl];rw[Q3 (by rw[Qn];omega)];rfl
 have hn0:((w.ps.length:Int)==0)=false:=beq_eq_false_iff_ne.mpr (by omega);have f1:=eN (a:=d1) (b:=(w.ps.length:Int)) (by omega);obtain⟨f,hf⟩:=Qf f1.1;have hfn:f<w.ps.length:=by omega
 have c1:jv (w.ps.map D.str) (some (f:Int)) none=(w.ps.drop f).map D.str:=by
  rw[iM,HT.sIx_none,HT.sIx_nat,Q3 (by rw[Qn];omega),SI (by omega)]
 have c2:jv (w.ps.map D.str) none (some (f:Int))=(w.ps.take f).map D.str:=DH (by omega);have ow:dk (w.ps.drop f++w.ps.take f):=by
  have hp:(w.ps.drop f++w.ps.take f).Perm w.ps:=by
   refine List.perm_append_comm.trans ?_;rw[UK]
  exact⟨hp.nodup_iff.mpr W.nm.1,λz hz=>W.nm.2 z (hp.mem_iff.mp hz)⟩
 have ol:(w.ps.drop f++w.ps.take f).length=w.ps.length:=by
  rw[PU,Qn,PJ];omega
 have a1:bI (.lst ((w.ps.drop f).map D.str)) (.lst ((w.ps.take f).map D.str))=.ok (.lst ((w.ps.drop f++w.ps.take f).map D.str)):=by
  rw[jO (decide_eq_true (by rw[OH,OH,Qn,PJ];omega)),PF]
 have fw0:aK (aN w) (.int 0)=.ok (.lst (w.ps.map D.str)):=rfl;have md:cP (.int d1) (.int (w.ps.length:Int))=.ok (.int (f:Int)):=by rw[←hf];exact xq hn0
 generalize w.ps.drop f++w.ps.take f=own at *;have e00:d0=0∨d0=1∨d0=2:=by omega
 rcases e00 with rfl|rfl|rfl
 .refine⟨vs,d3,d4,zs,hd,i3,i4,b4.1,b4.2,?_,nm,hzl⟩
  open_line with[aZ,cT,fw0,OH,hcut,hnm',i1,md,c1,c2,a1,i0]
 .have q5:d5=0∨d5=1:=by omega
  rcases q5 with rfl|rfl
  .refine⟨vs,d3,d4,own,hd,i3,i4,b4.1,b4.2,?_,ow,ol⟩
   have s1:kZ (.lst (own.map D.str)) (.int 1)=.ok (.lst (own.map D.str)):=by
    unfold kZ;exact if_pos rfl
   have m1:cq (.int 2) (.int 0)=.ok (.int 0):=c8 (gN (sU (i:=2) (by decide)) (sU (i:=0) (by decide)));open_line with[aZ,cT,fw0,OH,hcut,hnm',i1,md,c1,c2,a1,i0,i5,m1,i7,s1]
  .refine⟨vs,d3,d4,own.reverse,hd,i3,i4,b4.1,b4.2,?_,⟨(Ti _).nodup_iff.mpr ow.1,λz hz=>ow.2 z (Tw.mp hz)⟩,by rw[QY];exact ol⟩
   have s1:kZ (.lst (own.map D.str)) (.int (-1))=.ok (.lst (own.reverse.map D.str)):=by
    rw[List.map_reverse];rfl
   have m1:cq (.int 2) (.int 1)=.ok (.int 2):=c8 (gN (sU (i:=2) (by decide)) (sU (i:=1) (by decide)));open_line with[aZ,cT,fw0,OH,hcut,hnm',i1,md,c1,c2,a1,i0,i5,m1,i7,s1]
 .have hn1:((own.length:Int)==0)=false:=beq_eq_false_iff_ne.mpr (by omega)
  refine⟨vs,d3,d4,(PL own.length).map (mx (d2.fmod (own.length:Int)) own zs),hd,i3,i4,b4.1,b4.2,?_,Cw ow nm (by omega),by rw[OH,List.length_range];exact ol⟩;obtain⟨ρ',hfo,b6,b7,hP⟩:=nN (i:=6) (body:=NB) (n:=own.length) (λk ρ=>∃b6 b7,ρ=[.sh (aN w),.sh (.lst (vs.map D.int)),.sh (.lst (zs.map D.str)),.sh (.int (f:Int)),.sh (.lst (own.map D.str)),.ow (.lst (((PL k).map (mx (d2.fmod (own.length:Int)) own zs)).map D.str)),b6,b7]) (λk hk ρ z9=>by
    obtain⟨b6,b7,hρ⟩:=z9;subst hρ;have jz:aK (.lst (zs.map D.str)) (.int (k:Int))=.ok (.str zs[k]):=gh (by rw[OM,OI (by omega)];rfl);have jo:aK (.lst (own.map D.str)) (.int (k:Int))=.ok (.str own[k]):=gh (by rw[OM,OI hk];rfl);have md2:cP (.int d2) (.int (own.length:Int))=.ok (.int (d2.fmod (own.length:Int))):=xq hn1;have lt1:Mk (.int (k:Int)) (.int (d2.fmod (own.length:Int)))=.ok (.bl (decide ((k:Int)<d2.fmod (own.length:Int)))):=rfl;have ni:=oV (zs:=zs) (z:=own[k]);have hl:decide ((((PL k).map (mx (d2.fmod (own.length:Int)) own zs)).map D.str).length<=999)=true:=decide_eq_true (by rw[OH,OH,List.length_range];omega);have em:((PL (k+1)).map (mx (d2.fmod (own.length:Int)) own zs)).map D.str=((PL k).map (mx (d2.fmod (own.length:Int)) own zs)).map D.str++[D.str (mx (d2.fmod (own.length:Int)) own zs k)]:=by
     rw[List.range_succ,PF,PF];rfl
    refine⟨[.sh (aN w),.sh (.lst (vs.map D.int)),.sh (.lst (zs.map D.str)),.sh (.int (f:Int)),.sh (.lst (own.map D.str)),.ow (.lst (((PL (k+1)).map (mx (d2.fmod (own.length:Int)) own zs)).map D.str)),.sh (.int (k:Int)),.sh (.str (mx (d2.fmod (own.length:Int)) own zs k))],?_,_,_,rfl⟩;rw[em];have mxk:mx (d2.fmod (own.length:Int)) own zs k=if decide ((k:Int)<d2.fmod (own.length:Int))&&!(decide (own[k]∈zs)) then own[k] else zs[k]:=by
     unfold mx;rw[gG hk,gG (by omega)]
    cases q1:decide ((k:Int)<d2.fmod (own.length:Int)) with
    |false=>
     rw[q1]at lt1 mxk;rw[Rr,if_neg (by decide)]at mxk;rw[mxk];open_line with[NB,jz,i2,OH,md2,lt1,fq hl]
    |true=>
     rw[q1]at lt1 mxk;rw[R8]at mxk;cases q2:decide (own[k]∈zs) with
     |true=>
      rw[q2]at ni mxk;rw[Uo,if_neg (by decide)]at mxk;rw[mxk];open_line with[NB,jz,i2,OH,md2,lt1,jo,ni,fq hl]
     |false=>
      rw[q2]at ni mxk;rw[Ud,if_pos rfl]at mxk;rw[mxk];open_line with[NB,jz,i2,OH,md2,lt1,jo,ni,fq hl]) (ρ:=[.sh (aN w),.sh (.lst (vs.map D.int)),.sh (.lst (zs.map D.str)),.sh (.int (f:Int)),.sh (.lst (own.map D.str)),.ow (.lst []),.no,.no]) ⟨_,_,rfl⟩
  subst hP;have hb:cT=ar (aV 2 (aq (ag (eQ (ae 1) (bW (dC (.int 6))) dw) (ag (aq (ag (aa (ae 0) (dC (.int 0)) aK) aB) (m1 cY)) aB)) bX)) (ar (aV 3 (aa (aa (ae 1) (dC (.int 1)) aK) (aq (ag (aa (ae 0) (dC (.int 0)) aK) aB) (m1 cY)) cP)) (ar (aV 4 (aa (eQ (aa (ae 0) (dC (.int 0)) aK) (bW (ae 3)) dw) (eQ (aa (ae 0) (dC (.int 0)) aK) dw (bW (ae 3))) bI)) (ar (dX (aa (aa (ae 1) (dC (.int 0)) aK) (dC (.int 0)) jW) (ar (bC (ae 2)) av) av) (ar (dX (aa (aa (ae 1) (dC (.int 0)) aK) (dC (.int 1)) jW) (ar (bC (aa (ae 4) (aa (dC (.int 1)) (aa (dC (.int 2)) (aa (ae 1) (dC (.int 5)) aK) cq) i7) kZ)) av) av) (ar (sC 5 (aq aB cI)) (ar (mD (aq (ag (ae 4) aB) (m1 cY)) (eM 6) NB) (ar (bC (ae 5)) av))))))):=rfl;rw[aZ,hb];open_line with[fw0,OH,hcut,hnm',i1,md,c1,c2,a1,i0,kR,kO (show own.length<=1000000 by omega),hfo]
end K59
namespace K59
open PySem L2 DL Com
def dq:bv->bv->OO->OO
 |p::ps,z::zs,x=>if p=x then z else dq ps zs x
 |_,_,_=>""
theorem kN:∀{ps zs:bv},ps.Nodup->ps.length=zs.length->zs=ps.map (dq ps zs)
 |[],[],_,_=>rfl
 |p::ps,z::zs,nd,hl=>by
  obtain⟨h1,h2⟩:=Qk.mp nd;rw[OY]
  congr 1
  .rw[dq,if_pos rfl]
  .have ih:=kN h2 (show ps.length=zs.length by simpa using hl)
   conv=>lhs;rw[ih]
   refine QB λx hx=>?_;have:¬p=x:=λe=>h1 (e▸hx);rw[dq,if_neg this]
def yI{ps zs:bv}(nd:ps.Nodup)(hl:ps.length=zs.length){x:OO}(hx:x∈ps):dq ps zs x∈zs:=by
 have h:=kN nd hl;have:dq ps zs x∈ps.map (dq ps zs):=Pp.mpr ⟨x,hx,rfl⟩;rw[←h]at this;exact this
theorem ib:∀{ps zs:bv},ps.Nodup->zs.Nodup->ps.length=zs.length->∀{x:OO},x∈ps->dq zs ps (dq ps zs x)=x
 |[],[],_,_,_,x,hx=>by cases hx
 |p::ps,z::zs,n1,n2,hl,x,hx=>by
  obtain⟨a1,a2⟩:=Qk.mp n1;obtain⟨b1,b2⟩:=Qk.mp n2;have hl':ps.length=zs.length:=by simpa using hl
  by_cases c:p=x
  .subst c
   rw[show dq (p::ps) (z::zs) p=z by rw[dq,if_pos rfl],dq,if_pos rfl]
  .have hx':x∈ps:=by
    rcases OU.mp hx with h|h
    .exact absurd h.symm c
    .exact h
   rw[show dq (p::ps) (z::zs) x=dq ps zs x by rw[dq,if_neg c]];have:¬z=dq ps zs x:=λe=>b1 (e▸yI a2 hl' hx');rw[dq,if_neg this];exact ib a2 b2 hl' hx'
theorem yJ:∀{ps zs:bv},ps.length=zs.length->∀{x:OO},x∈ps->∃i:Nat,(ps.map D.str).findIdx? (λd=>cO d (.str x))=some i/\zs[i]?=some (dq ps zs x)
 |[],_,_,x,hx=>by cases hx
 |p::ps,[],hl,_,_=>by simp at hl
 |p::ps,z::zs,hl,x,hx=>by
  rw[OY,List.findIdx?_cons];have e0:cO (.str p) (.str x)=decide (p=x):=by rw[cO];by_cases c:p=x<;>simp[c]
  by_cases c:p=x
  .subst c
   exact⟨0,by rw[e0,decide_eq_true rfl];rfl,by rw[dq,if_pos rfl];rfl⟩
  .have hx':x∈ps:=by
    rcases OU.mp hx with h|h
    .exact absurd h.symm c
    .exact h
   obtain⟨i,h1,h2⟩:=yJ (show ps.length=zs.length by simpa using hl) hx';refine⟨i+1,by rw[e0,decide_eq_false c,h1];rfl,?_⟩;rw[dq,if_neg c];exact h2
def D6(f:OO->OO)(t:rT):rT:=⟨f t.a,f t.b,t.w,t.l,t.o⟩
def lK(w:iP)(zs:bv):iP:=⟨zs,w.ts.map (D6 (dq w.ps zs)),dq w.ps zs w.fi,dq w.ps zs w.la⟩
section
variable {w:iP}(W:eV w) {zs:bv}(nm:dk zs) (hl:zs.length=w.ps.length)
include W nm hl
theorem Ip:eV (lK w zs):=by
 have n2:=W.n2;have n7:=W.n7;have mem:∀{x},x∈w.ps->dq w.ps zs x∈zs:=λhx=>yI W.nm.1 hl.symm hx;have inj:∀{x y},x∈w.ps->y∈w.ps->dq w.ps zs x=dq w.ps zs y->x=y:=λ{x y} hx hy e=>by
  rw[←ib W.nm.1 nm.1 hl.symm hx,e,ib W.nm.1 nm.1 hl.symm hy]
 refine⟨by show 2<=zs.length;omega,by show zs.length<=7;omega,nm,by show(w.ts.map _).length<=14;rw[OH];exact W.t14,λt ht=>?_,mem W.fi,mem W.la,λe=>W.ne (inj W.fi W.la e)⟩;obtain⟨s,hs,rfl⟩:=Pp.mp (show t∈w.ts.map _ from ht);have T:=W.ts s hs;exact⟨mem T.a,mem T.b,λe=>T.ne (inj T.a T.b e),T.w,T.l,T.l0,T.o⟩
theorem EM:lK (lK w zs) w.ps=w:=by
 have bk:∀{x},x∈w.ps->dq zs w.ps (dq w.ps zs x)=x:=λhx=>ib W.nm.1 nm.1 hl.symm hx;obtain⟨ps,ts,fi,la⟩:=w;show(⟨ps,(ts.map (D6 (dq ps zs))).map (D6 (dq zs ps)),dq zs ps (dq ps zs fi),dq zs ps (dq ps zs la)⟩:iP)=⟨ps,ts,fi,la⟩;rw[bk W.fi,bk W.la,P7]
 congr 1
 refine(QB λt ht=>?_).trans (List.map_id ts);have T:=W.ts t ht;obtain⟨a,b,c,d,e⟩:=t;show(⟨dq zs ps (dq ps zs a),dq zs ps (dq ps zs b),c,d,e⟩:rT)=⟨a,b,c,d,e⟩;rw[bk T.a,bk T.b]
theorem zm{x:OO}(hx:x∈w.ps):∃i:Nat,ju (.lst (w.ps.map D.str)) (.str x)=.ok (.int (i:Int))/\aK (.lst (zs.map D.str)) (.int (i:Int))=.ok (.str (dq w.ps zs x)):=by
 obtain⟨i,h1,h2⟩:=yJ hl.symm hx;refine⟨i,?_,gh (by rw[OM,h2];rfl)⟩;unfold ju;show(if aW 40 (.str x)=true/\(w.ps.map D.str).all (aW 40)=true then match (w.ps.map D.str).findIdx? (λd=>cO d (.str x)) with|some j=>aj.ok (D.int j)|none=>.stuck else .stuck)=_;rw[if_pos ⟨rfl,jH⟩,h1]
def CB:am:=(ar (dY 6 (aq (ag (aa (ae 1) (eR (ae 2) (ae 7)) aK) (ag (aa (ae 1) (eR (ae 2) (ae 8)) aK) (ag (ae 9) (ag (ae 10) (ag (ae 11) aB))))) gw)) av)
theorem AQ:dU [aN w,.lst (zs.map D.str)]=.ok (aN (lK w zs)):=by
 have t14:=W.t14;obtain⟨ρ',hf,b7,b8,b9,b10,b11,hP⟩:=fS (tg:=dy [7,8,9,10,11]) (body:=CB) (ds:=w.ts.map bg) (λk ρ=>∃b7 b8 b9 b10 b11,ρ=[.sh (aN w),.sh (.lst (zs.map D.str)),.sh (.lst (w.ps.map D.str)),.sh (.lst (w.ts.map bg)),.sh (.str w.fi),.sh (.str w.la),.ow (.lst (((w.ts.take k).map (D6 (dq w.ps zs))).map bg)),b7,b8,b9,b10,b11]) (λk d hd ρ z9=>by
   obtain⟨b7,b8,b9,b10,b11,hρ⟩:=z9;subst hρ;rw[OM]at hd;cases e:w.ts[k]? with
   |none=>rw[e]at hd;cases hd
   |some t=>
    rw[e]at hd;cases hd;have T:=W.ts t (O1 e);obtain⟨i,hi1,hi2⟩:=zm W nm hl T.a;obtain⟨j,hj1,hj2⟩:=zm W nm hl T.b;have hk:k<w.ts.length:=(OP.mp e).1;have e1:((w.ts.take (k+1)).map (D6 (dq w.ps zs))).map bg=((w.ts.take k).map (D6 (dq w.ps zs))).map bg++[.tup [.str (dq w.ps zs t.a),.str (dq w.ps zs t.b),.str t.w,fr t.l,aO t.o]]:=by
     rw[T7,e,PF,PF];rfl
    have hl9:decide ((((w.ts.take k).map (D6 (dq w.ps zs))).map bg).length<=999)=true:=decide_eq_true (by rw[OH,OH,PJ];omega);refine⟨[.sh (aN w),.sh (.lst (zs.map D.str)),.sh (.lst (w.ps.map D.str)),.sh (.lst (w.ts.map bg)),.sh (.str w.fi),.sh (.str w.la),.ow (.lst (((w.ts.take k).map (D6 (dq w.ps zs))).map bg)),.sh (.str t.a),.sh (.str t.b),.sh (.str t.w),.sh (fr t.l),.sh (aO t.o)],[.sh (aN w),.sh (.lst (zs.map D.str)),.sh (.lst (w.ps.map D.str)),.sh (.lst (w.ts.map bg)),.sh (.str w.fi),.sh (.str w.la),.ow (.lst (((w.ts.take (k+1)).map (D6 (dq w.ps zs))).map bg)),.sh (.str t.a),.sh (.str t.b),.sh (.str t.w),.sh (fr t.l),.sh (aO t.o)],rfl,?_,_,_,_,_,_,rfl⟩;rw[e1];open_line with[CB,hi1,hi2,hj1,hj2,fq hl9]) (ρ:=[.sh (aN w),.sh (.lst (zs.map D.str)),.sh (.lst (w.ps.map D.str)),.sh (.lst (w.ts.map bg)),.sh (.str w.fi),.sh (.str w.la),.ow (.lst []),.no,.no,.no,.no,.no]) ⟨_,_,_,_,_,rfl⟩
 subst hP;rw[OH,R4]at hf;obtain⟨i,hi1,hi2⟩:=zm W nm hl W.fi;obtain⟨j,hj1,hj2⟩:=zm W nm hl W.la;have hb:kh=ar (EK [2,3,4,5] (ae 0)) (ar (sC 6 (aq aB cI)) (ar (kG (ae 3) (dy [7,8,9,10,11]) CB) (ar (bC (aq (ag (aq (ag (ae 1) aB) (m1 j7)) (ag (ae 6) (ag (aa (ae 1) (eR (ae 2) (ae 4)) aK) (ag (aa (ae 1) (eR (ae 2) (ae 5)) aK) aB)))) gw)) av))):=rfl;have dl:j7 (.lst (zs.map D.str))=.ok (.lst (zs.map D.str)):=rfl;have hw:∀ρ:Ev,Ky [2,3,4,5] ρ (aN w)=.ok (.nx (cH ρ [2,3,4,5] [.lst (w.ps.map D.str),.lst (w.ts.map bg),.str w.fi,.str w.la])):=λρ=>rfl;rw[dU,hb];open_line with[hw,cH,hf,dl,hi1,hi2,hj1,hj2]
 rfl
end
end K59
namespace K59
open PySem L2 DL Com Pth
open K64 (jX kP Hv Dc uL not_before)
def wt{s t:am}{ρ ρ':Ev}(h:s ρ=.ok (.nx ρ')):oy s t ρ=t ρ':=by unfold oy;rw[h];rfl
def wO{m:ac->aj D}{ds:ac}{d:D}(h:m ds=.ok d):noX m ds=.ok d:=by unfold noX;rw[h]
def xK(w:iP)(zs:bv):D:=.dic w.ps (w.ps.map λx=>.str (dq w.ps zs x))
def pP{w:iP}{zs:bv}{z:OO}(h:z∈w.ps):cc (xK w zs) (.str z)=.ok (.str (dq w.ps zs z)):=by
 unfold xK cc;simp only[mf (g:=λz=>D.str (dq w.ps zs z)),if_pos h]
section
variable {w:iP}(W:eV w) {zs:bv}(nm:dk zs) (hl:zs.length=w.ps.length)
include W nm hl
theorem iU:cS [aN w,.lst (zs.map D.str)]=.ok (xK w zs):=by
 have lw:=Nwb.webX W;have n2:=W.n2;have n7:=W.n7;have lp:=Nwb.placesX (zs:=zs) (by omega) (by omega) nm;have hd:lV (ag (ae 1) aB) m_look_at_places [.sh (aN w),.sh (.lst (zs.map D.str))]=.ok (.nx [.sh (aN w),.sh (.lst (zs.map D.str))]):=by
  show(Nwb.m_look_at_places [.lst (zs.map D.str)]).bind _=_;rw[lp];rfl
 have ht:qP (lV (ag (ae 1) aB) m_look_at_places) (vd nI) "NoTurn" (ag (dC (.str "names are a list of unlike ones, each of one to eight small letters")) aB) [.sh (aN w),.sh (.lst (zs.map D.str))]=.ok (.nx [.sh (aN w),.sh (.lst (zs.map D.str))]):=by
  unfold qP;rw[hd]
 have fw0:aK (aN w) (.int 0)=.ok (.lst (w.ps.map D.str)):=rfl;have hz:pH (.lst (w.ps.map D.str)) (.lst (zs.map D.str))=.ok (xK w zs):=by
  unfold pH;simp only[uB];rw[if_pos ⟨by rw[OH];omega,W.nm.1⟩];unfold xK
  congr 2
  conv=>lhs;rw[kN W.nm.1 hl.symm]
  rw[P7];rfl
 have hll:(zs.length:Int)=(w.ps.length:Int):=by omega
 open_line with[cS,jA,lw,ht,OH,fw0,hll,hz]
theorem oA:cR [aN w,.lst (zs.map D.str)]=.ok (jX (lK w zs)):=by
 have nc:=iU W nm hl;have fw1:aK (aN w) (.int 1)=.ok (.lst (w.ts.map bg)):=rfl;have fw2:aK (aN w) (.int 2)=.ok (.str w.fi):=rfl;have fw3:aK (aN w) (.int 3)=.ok (.str w.la):=rfl;have h14:=W.t14;have c1:j8 1 [2] (eM 0) mYes (aq (ag (ae 0) (ag (ae 1) aB)) fR) [.sh (aN w),.sh (.lst (zs.map D.str)),.sh (xK w zs),.no] (w.ts.map bg)=.ok (.lst ((w.ts.map (D6 (dq w.ps zs))).map bg)):=by
  rw[k9 (F:=λd=>match d with|.tup [.str a,.str b,x,y,z]=>.tup [.str (dq w.ps zs a),.str (dq w.ps zs b),x,y,z]|d=>d) (by rw[OH];omega)]
  .congr 2
   rw[P7,P7];rfl
  .intro d hd
   obtain⟨t,h1,rfl⟩:=Pp.mp hd;refine⟨[.sh (bg t),.sh (xK w zs)],rfl,rfl,?_⟩;have T:=W.ts t h1;have t0:aK (bg t) (.int 0)=.ok (.str t.a):=rfl;have t1:aK (bg t) (.int 1)=.ok (.str t.b):=rfl;have t2:aK (bg t) (.int 2)=.ok (.str t.w):=rfl;have t3:aK (bg t) (.int 3)=.ok (fr t.l):=rfl;have t4:aK (bg t) (.int 4)=.ok (aO t.o):=rfl;open_line with[fR,lA,t0,t1,t2,t3,t4,pP T.a,pP T.b]
   rfl
 have dl:j7 (.lst (zs.map D.str))=.ok (.lst (zs.map D.str)):=rfl;open_line with[cR,rP,nc,Hv,fw1,jN,c1,Dc,dl,fw2,fw3,pP W.fi,pP W.la]
 rfl
theorem kK{g:OO->D}:dE [aN w,.lst (zs.map D.str),.dic w.ps.reverse (w.ps.reverse.map g)]=.ok (.dic zs (zs.map λz=>g (dq zs w.ps z))):=by
 have nc:=iU W nm hl;have n7:=W.n7;have fw0:aK (aN w) (.int 0)=.ok (.lst (w.ps.map D.str)):=rfl;obtain⟨ρ',hf,b5,hP⟩:=fS (tg:=eM 5) (body:=ar (jf 4 (aa (ae 2) (ae 5) cc) (aa (ae 3) (ae 5) cc)) av) (ds:=w.ps.map D.str) (λk ρ=>∃b5,ρ=[.sh (aN w),.sh (.lst (zs.map D.str)),.sh (.dic w.ps.reverse (w.ps.reverse.map g)),.sh (xK w zs),.ow (.dic (zs.take k) ((zs.take k).map λz=>g (dq zs w.ps z))),b5]) (λk d hd ρ z9=>by
   obtain⟨b5,hρ⟩:=z9;subst hρ;rw[OM]at hd;cases e:w.ps[k]? with
   |none=>rw[e]at hd;cases hd
   |some p=>
    rw[e]at hd;cases hd;have hp:=O1 e;have ez:zs[k]?=some (dq w.ps zs p):=by
     conv=>lhs;rw[kN W.nm.1 hl.symm]
     rw[OM,e];rfl
    have e1:zs.take (k+1)=zs.take k++[dq w.ps zs p]:=by rw[T7,ez];rfl
    have hl1:decide ((zs.take k).length<=900)=true:=decide_eq_true (by rw[PJ];omega);have gp:cc (.dic w.ps.reverse (w.ps.reverse.map g)) (.str p)=.ok (g p):=by
     unfold cc;simp only[mf (g:=g),if_pos (Tw.mpr hp)]
    have bk:g (dq zs w.ps (dq w.ps zs p))=g p:=by rw[ib W.nm.1 nm.1 hl.symm hp]
    have ps_:=uL (g:=λz=>g (dq zs w.ps z)) (not_before nm.1 ez);simp only[bk]at ps_;refine⟨_,[.sh (aN w),.sh (.lst (zs.map D.str)),.sh (.dic w.ps.reverse (w.ps.reverse.map g)),.sh (xK w zs),.ow (.dic (zs.take (k+1)) ((zs.take (k+1)).map λz=>g (dq zs w.ps z))),.sh (.str p)],rfl,?_,_,rfl⟩;rw[e1];open_line with[pC,nP,gp,kT,pP hp,jP hl1,ps_]) (ρ:=[.sh (aN w),.sh (.lst (zs.map D.str)),.sh (.dic w.ps.reverse (w.ps.reverse.map g)),.sh (xK w zs),.ow (.dic [] []),.no]) ⟨_,rfl⟩
 subst hP;rw[OH,←hl,R4]at hf;have s1:aV 3 (aq (ag (ae 0) (ag (ae 1) aB)) cS) [.sh (aN w),.sh (.lst (zs.map D.str)),.sh (.dic w.ps.reverse (w.ps.reverse.map g)),.no,.no,.no]=.ok (.nx [.sh (aN w),.sh (.lst (zs.map D.str)),.sh (.dic w.ps.reverse (w.ps.reverse.map g)),.sh (xK w zs),.no,.no]):=by
  open_line with[nc]
 have s2:jg 4 (dC (.dic [] [])) [.sh (aN w),.sh (.lst (zs.map D.str)),.sh (.dic w.ps.reverse (w.ps.reverse.map g)),.sh (xK w zs),.no,.no]=.ok (.nx [.sh (aN w),.sh (.lst (zs.map D.str)),.sh (.dic w.ps.reverse (w.ps.reverse.map g)),.sh (xK w zs),.ow (.dic [] []),.no]):=rfl;have s3:kG (aa (ae 0) (dC (.int 0)) aK) (eM 5) (ar (jf 4 (aa (ae 2) (ae 5) cc) (aa (ae 3) (ae 5) cc)) av) [.sh (aN w),.sh (.lst (zs.map D.str)),.sh (.dic w.ps.reverse (w.ps.reverse.map g)),.sh (xK w zs),.ow (.dic [] []),.no]=.ok (.nx [.sh (aN w),.sh (.lst (zs.map D.str)),.sh (.dic w.ps.reverse (w.ps.reverse.map g)),.sh (xK w zs),.ow (.dic zs (zs.map λz=>g (dq zs w.ps z))),b5]):=by
  open_line with[fw0,hf]
 show(ff [.sh (aN w),.sh (.lst (zs.map D.str)),.sh (.dic w.ps.reverse (w.ps.reverse.map g)),.no,.no,.no]).bind Hn=_;unfold ff;rw[wt s1,wt s2,wt s3];rfl
end
open K64 (jX kP zc qU iA)
open Bfd (Pl)
theorem tI:∀n,aJ n=K64.aJ n
 |0=>rfl
 |n+1=>by
  show cm 2 (bY (aJ n))=cm 2 (K64.bY (K64.aJ n));rw[tI n];rfl
def zt{u:iP}(U:eV u):bb [aN u,aN u]=.ok (.bl true):=by
 show aJ 5 _=_;rw[tI];exact K64.alike_web U
def GU{o:Option gz}:bb [aO o,aO o]=.ok (.bl true):=by
 show aJ 5 _=_;rw[tI];cases o with|none=>exact K64.alike_non|some x=>exact K64.alike_fr
def yM{zs:bv}:jt (.lst (zs.map D.str)) (.lst (zs.map D.str))=.ok (.bl false):=by
 have hs:aW 40 (.lst (zs.map D.str))=true:=jH;unfold jt;rw[if_pos ⟨hs,hs⟩,il 40 _ hs];rfl
theorem ik:∀(ds:ac),ds.all (aW 39)=true->eqDs ds ds=true
 |[],_=>by rw[eqDs]
 |d::ds,h=>by
  rw[Rc,O4]at h;rw[eqDs,il 39 d h.1,ik ds h.2];rfl
def Ig{o:Option gz}:aW 39 (aO o)=true:=by cases o<;>rfl
def Cv{ks:bv}{g:OO->Option gz}(nd:ks.Nodup):vC (.dic ks (ks.map λp=>aO (g p))) (.dic ks (ks.map λp=>aO (g p)))=.ok (.bl false):=by
 have hs:(ks.map λp=>aO (g p)).all (aW 39)=true:=Pr.mpr λd hd=>by
  obtain⟨p,_,rfl⟩:=Pp.mp hd;exact Ig
 unfold vC;exact(if_pos ⟨rfl,nd,hs,hs⟩).trans (by rw[ik _ hs];rfl)
theorem qM:∀(zs:bv),kC (zs.map D.str)=some zs
 |[]=>rfl
 |z::zs=>by rw[OY,kC,qM zs];rfl
def zR{zs:bv}(h:zs.length<=7):jr (.lst (zs.map D.str))=.ok (.lst ((iR zs).map D.str)):=by
 unfold jr;simp only[qM];rw[if_pos (by omega)]
def vo{x:Nat}{f:al}{s:am}{g:D->am}{d:D}{ρ:Ev}(h:f (vx x d ρ)=.ok (.bl false)):oa x f s g d ρ=g d ρ:=by
 unfold oa;rw[h];rfl
def FK{r:am}{d:D}{ρ:Ev}(h:A4 ρ=true):jG r d ρ=r ρ:=if_pos h
def Bz(g:al)(ρ:Ev)(d:D):aj (ac):=(g ρ).bind λe=>match d,e with
 |.lst ds,.lst es=>.ok (bJ ds es)
 |_,_=>.stuck
def FL{f g:al}{ρ:Ev}:BA f g ρ=(f ρ).bind (Bz g ρ):=aQ rfl
def eX{α β:Type}{F:α->D}{G:β->D}:∀(xs:List α) (ys:List β) (k:Nat) {d:D},(bJ (xs.map F) (ys.map G))[k]?=some d->∃x y,xs[k]?=some x/\ys[k]?=some y/\d=.tup [F x,G y]:=by
 intro xs
 induction xs with
 |nil=>intro ys k d h;simp[bJ]at h
 |cons x xs ih=>
  intro ys k d h;cases ys with
  |nil=>simp[bJ]at h
  |cons y ys=>
   cases k with
   |zero=>
    simp only[OY,bJ,Qw,Qx]at h;exact⟨x,y,rfl,rfl,h.symm⟩
   |succ k=>
    simp only[OY,bJ,Qe]at h;exact ih ys k h
def ZB:am:=(ar (dX (cj (aq (ag (aa (ae 10) (ae 12) cc) (ag (aa (ae 8) (ae 11) cc) aB)) bb)) (ar (bC (dC (.bl false))) av) av) av)
noncomputable def RS:am:=(ar (dX (gs (aa (ae 5) (aq (ag (ae 1) (ag (ae 4) aB)) aZ) jt) (cj (aq (ag (ae 2) (ag (ae 1) aB)) bb))) (ar (bC (dC (.bl false))) av) av) (ar (aV 8 (aq (ag (ae 1) (ag (aq (ag (ae 1) (ag (aa (ae 4) (dC (.int 3)) aK) aB)) fB) (ag (aa (ae 4) (dC (.int 4)) aK) aB))) dR)) (ar (aV 9 (aq (ag (ae 8) aB) (m1 pJ))) (ar (jg 10 (aq (ag (ae 2) (ag (ae 5) (ag (ae 8) aB))) (noX dE))) (ar (dX (gs (cj (bh (ae 10) (cK "dict"))) (gs (aa (aq (ag (aq (ag (ae 10) aB) (m1 l7)) aB) (m1 jr)) (aq (ag (ae 5) aB) (m1 jr)) jt) (aa (ae 8) (ae 9) vC))) (ar (bC (dC (.bl false))) av) av) (ar (gW (BA (aa (ae 1) (dC (.int 0)) aK) (ae 5)) (dy [11,12]) ZB) (ar (qQ 10) (ar (dX (aa (ae 8) (ae 9) vC) (ar (bC (dC (.bl false))) av) av) (ar (dX (gs (cj (aq (ag (DD (aq (ag (ae 2) (ag (ae 5) aB)) (noX cR))) (ag (ae 6) aB)) bb)) (cj (aq (ag (ae 2) (ag (ae 1) aB)) bb))) (ar (bC (dC (.bl false))) av) av) av)))))))))
def T1:al:=(gs (cj (aq (ag (DD (ae 7)) (ag (ae 6) aB)) bb)) (aa (ae 5) (aq (ag (ae 1) (ag (ae 4) aB)) aZ) jt))
def T2:al:=(cj (aq (ag (DD (aq (ag (DD (ae 7)) (ag (aa (ae 1) (dC (.int 0)) aK) aB)) (noX cR))) (ag (ae 1) aB)) bb))
def CE:al:=(aa (eQ (aa (aq (ag (ae 0) aB) cy) (dC (.int 1)) aK) dw (bW (dC (.int 30)))) (aq (ag (dC (.int 7)) aB) cI) bI)
noncomputable def SZ:al:=(aa (aq (ag (dC (.int 3)) (ag (dC (.int 420)) (ag (dC (.int 420)) (ag (dC (.int 16384)) (ag (dC (.int 5)) (ag (dC (.int 2)) aB)))))) cI) (kI (aa (aq (ag (dC (.int 8)) (ag (dC (.int 3)) aB)) cI) (kI (aq (ag (dC (.int 26)) aB) cI) (dC (.int 8))) pK) (dC (.int 7))) bI)
def G9{ρ:Ev}:SZ ρ=.ok (.lst (KU.map D.int)):=rfl
noncomputable def LB:am:=(ar (aV 4 (aq (ag (ae 3) (ag SZ aB)) bL)) (ar (aV 5 (aq (ag (ae 1) (ag (ae 4) aB)) aZ)) (ar (aV 6 (aq (ag (ae 1) (ag (ae 5) aB)) dU)) (lU 7 [2,5] (aq (ag (ae 2) (ag (ae 5) aB)) (noX cR)) (oa 7 T1 (ar (bC (dC (.bl false))) av) (oa 7 T2 (ar (bC (dC (.bl false))) av) (jG RS)))))))
def Jd:Hz=(ar (aV 1 (aq (ag (ae 0) aB) cN)) (ar (aV 2 (aq (ag (ae 0) aB) cN)) (ar (kG CE (eM 3) LB) (ar (bC (dC (.bl true))) av)))):=rfl
section
variable {w:iP}(W:eV w)
include W
set_option maxHeartbeats 1000000 in
theorem Ey(c:Int){s:D}{b4 b5 b6 b8 b9 b11 b12:Sl}(h8:Pl b8)(h9:Pl b9)(h11:Pl b11)(h12:Pl b12):∃d4 d5 d6 d8 d9 y11 y12,Pl y11/\Pl y12 /\
  LB [.sh s,.sh (aN w),.sh (aN w),.sh (.int c),b4,b5,b6,.no,b8,b9,.no,b11,b12]=.ok (.nx [.sh s,.sh (aN w),.sh (aN w),.sh (.int c),.sh d4,.sh d5,.sh d6,.no,.sh d8,.sh d9,.no,y11,y12]):=by
 obtain⟨vs,d3,d4,zs,hd,i3,i4,p0,p5,hnn,nm,hl⟩:=Al W c;have U:=Ip W nm hl;have hcl:=AQ W nm hl;have hrn:=wO (oA W nm hl);have hrb:=wO (oA U (zs:=w.ps) W.nm (by show w.ps.length=zs.length;omega));rw[EM W nm hl]at hrb;obtain⟨tk,hbits⟩:=GR W d3;obtain⟨g,hpr⟩:=zY W (tk:=tk) p0 p5;have hpn:=wO (kK W nm hl (g:=λp=>aO (g p)));have n7:=W.n7;have fw0:aK (aN w) (.int 0)=.ok (.lst (w.ps.map D.str)):=rfl;have aw:=zt W;have au:=zt U;have ndr:w.ps.reverse.Nodup:=(Ti _).nodup_iff.mpr W.nm.1;have nK:=Cv (g:=g) ndr;have hz:∃y11 y12,Pl y11/\Pl y12/\cW (dy [11,12]) ZB (bJ (w.ps.map D.str) (zs.map D.str)) [.sh s,.sh (aN w),.sh (aN w),.sh (.int c),.sh (.lst (vs.map D.int)),.sh (.lst (zs.map D.str)),.sh (aN (lK w zs)),.no,.sh (.dic w.ps.reverse (w.ps.reverse.map λp=>aO (g p))),.sh (.dic w.ps.reverse (w.ps.reverse.map λp=>aO (g p))),.ow (.dic zs (zs.map λz=>aO (g (dq zs w.ps z)))),b11,b12]=.ok (.nx [.sh s,.sh (aN w),.sh (aN w),.sh (.int c),.sh (.lst (vs.map D.int)),.sh (.lst (zs.map D.str)),.sh (aN (lK w zs)),.no,.sh (.dic w.ps.reverse (w.ps.reverse.map λp=>aO (g p))),.sh (.dic w.ps.reverse (w.ps.reverse.map λp=>aO (g p))),.ow (.dic zs (zs.map λz=>aO (g (dq zs w.ps z)))),y11,y12]):=by
  obtain⟨ρ',hf,y11,y12,q1,q2,hP⟩:=fS (tg:=dy [11,12]) (body:=ZB) (ds:=bJ (w.ps.map D.str) (zs.map D.str)) (λk ρ=>∃y11 y12,Pl y11/\Pl y12/\ρ=[.sh s,.sh (aN w),.sh (aN w),.sh (.int c),.sh (.lst (vs.map D.int)),.sh (.lst (zs.map D.str)),.sh (aN (lK w zs)),.no,.sh (.dic w.ps.reverse (w.ps.reverse.map λp=>aO (g p))),.sh (.dic w.ps.reverse (w.ps.reverse.map λp=>aO (g p))),.ow (.dic zs (zs.map λz=>aO (g (dq zs w.ps z)))),y11,y12]) (λk d hd' ρ z9=>by
    obtain⟨y11,y12,q1,q2,hρ⟩:=z9;subst hρ;obtain⟨p,z,ep,ez,rfl⟩:=eX _ _ _ hd';have hp:=O1 ep;have hzm:=O1 ez;have ez2:z=dq w.ps zs p:=by
     have:zs[k]?=some (dq w.ps zs p):=by
      conv=>lhs;rw[kN W.nm.1 hl.symm]
      rw[OM,ep];rfl
     rw[ez]at this;exact PK this
    have gt:cc (.dic zs (zs.map λz=>aO (g (dq zs w.ps z)))) (.str z)=.ok (aO (g p)):=by
     unfold cc;simp only[mf (g:=λz=>aO (g (dq zs w.ps z))),if_pos hzm];rw[ez2,ib W.nm.1 nm.1 hl.symm hp]
    have gp:cc (.dic w.ps.reverse (w.ps.reverse.map λp=>aO (g p))) (.str p)=.ok (aO (g p)):=by
     unfold cc;simp only[mf (g:=λp=>aO (g p)),if_pos (Tw.mpr hp)]
    have ao:=GU (o:=g p);refine⟨_,_,rfl,?_,.sh (.str p),.sh (.str z),.inr ⟨_,rfl⟩,.inr ⟨_,rfl⟩,rfl⟩;open_line with[ZB,cH,gt,gp,ao]) (ρ:=[.sh s,.sh (aN w),.sh (aN w),.sh (.int c),.sh (.lst (vs.map D.int)),.sh (.lst (zs.map D.str)),.sh (aN (lK w zs)),.no,.sh (.dic w.ps.reverse (w.ps.reverse.map λp=>aO (g p))),.sh (.dic w.ps.reverse (w.ps.reverse.map λp=>aO (g p))),.ow (.dic zs (zs.map λz=>aO (g (dq zs w.ps z)))),b11,b12]) ⟨b11,b12,h11,h12,rfl⟩
  exact⟨y11,y12,q1,q2,by rw[hf,hP]⟩
 obtain⟨y11,y12,q1,q2,hz⟩:=hz;refine⟨.lst (vs.map D.int),.lst (zs.map D.str),aN (lK w zs),.dic w.ps.reverse (w.ps.reverse.map λp=>aO (g p)),.dic w.ps.reverse (w.ps.reverse.map λp=>aO (g p)),y11,y12,q1,q2,?_⟩;have lk:l7 (.dic zs (zs.map λz=>aO (g (dq zs w.ps z))))=.ok (.lst (zs.map D.str)):=rfl;have cp:pJ (.dic w.ps.reverse (w.ps.reverse.map λp=>aO (g p)))=.ok (.dic w.ps.reverse (w.ps.reverse.map λp=>aO (g p))):=rfl;have so:=zR (zs:=zs) (by omega);have zz:∀ρ:Ev,ρ[5]?=some (.sh (.lst (zs.map D.str)))->Bz (ae 5) ρ (.lst (w.ps.map D.str))=.ok (bJ (w.ps.map D.str) (zs.map D.str)):=λρ h=>by
  unfold Bz ae;rw[h];rfl
 have cd:∀ρ:Ev,ρ[10]?=some (.ow (.dic zs (zs.map λz=>aO (g (dq zs w.ps z)))))->qQ 10 ρ=.ok (.nx (ρ.set 10 .no)):=λρ h=>by
  unfold qQ;rw[h];rfl
 have fg:=kP (lK w zs);have fgw:=kP w;have hR:RS [.sh s,.sh (aN w),.sh (aN w),.sh (.int c),.sh (.lst (vs.map D.int)),.sh (.lst (zs.map D.str)),.sh (aN (lK w zs)),.no,b8,b9,.no,b11,b12]=.ok (.nx [.sh s,.sh (aN w),.sh (aN w),.sh (.int c),.sh (.lst (vs.map D.int)),.sh (.lst (zs.map D.str)),.sh (aN (lK w zs)),.no,.sh (.dic w.ps.reverse (w.ps.reverse.map λp=>aO (g p))),.sh (.dic w.ps.reverse (w.ps.reverse.map λp=>aO (g p))),.no,y11,y12]):=by
  open_line with[RS,hnn,yM,aw,i3,hbits,i4,hpr,cp,xy,ze,hpn,lk,so,nK,fw0,FL,zz,hz,cd,zc,hrn,fg,au]
 have hT:lU 7 [2,5] (aq (ag (ae 2) (ag (ae 5) aB)) (noX cR)) (oa 7 T1 (ar (bC (dC (.bl false))) av) (oa 7 T2 (ar (bC (dC (.bl false))) av) (jG RS))) [.sh s,.sh (aN w),.sh (aN w),.sh (.int c),.sh (.lst (vs.map D.int)),.sh (.lst (zs.map D.str)),.sh (aN (lK w zs)),.no,b8,b9,.no,b11,b12]=.ok (.nx [.sh s,.sh (aN w),.sh (aN w),.sh (.int c),.sh (.lst (vs.map D.int)),.sh (.lst (zs.map D.str)),.sh (aN (lK w zs)),.no,.sh (.dic w.ps.reverse (w.ps.reverse.map λp=>aO (g p))),.sh (.dic w.ps.reverse (w.ps.reverse.map λp=>aO (g p))),.no,y11,y12]):=by
  have ek:(aq (ag (ae 2) (ag (ae 5) aB)) (noX cR)) (rm [2,5] [.sh s,.sh (aN w),.sh (aN w),.sh (.int c),.sh (.lst (vs.map D.int)),.sh (.lst (zs.map D.str)),.sh (aN (lK w zs)),.no,b8,b9,.no,b11,b12])=.ok (jX (lK w zs)):=hrn;have o1:Lr [2,5] [.sh s,.sh (aN w),.sh (aN w),.sh (.int c),.sh (.lst (vs.map D.int)),.sh (.lst (zs.map D.str)),.sh (aN (lK w zs)),.no,b8,b9,.no,b11,b12]=true:=by
   show(bQ (aN w)&&(bQ (.lst (zs.map D.str))&&true))=true;rw[qU,show bQ (.lst (zs.map D.str))=true from iA _];rfl
  have o2:Ko (jX (lK w zs))=true:=by
   show decide (((lK w zs).ts.map bg).length<line)=true;have:=U.t14;exact decide_eq_true (by rw[OH];exact P6 this (by decide))
  have nO:A4 [.sh s,.sh (aN w),.sh (aN w),.sh (.int c),.sh (.lst (vs.map D.int)),.sh (.lst (zs.map D.str)),.sh (aN (lK w zs)),.no,b8,b9,.no,b11,b12]=true:=by
   rcases h8 with rfl|⟨_,rfl⟩<;>rcases h9 with rfl|⟨_,rfl⟩<;>rcases h11 with rfl|⟨_,rfl⟩<;>rcases h12 with rfl|⟨_,rfl⟩<;>rfl
  obtain⟨x8,x9,x11,x12,ev⟩:∃x8 x9 x11 x12,vx 7 (jX (lK w zs)) [.sh s,.sh (aN w),.sh (aN w),.sh (.int c),.sh (.lst (vs.map D.int)),.sh (.lst (zs.map D.str)),.sh (aN (lK w zs)),.no,b8,b9,.no,b11,b12]=[.sh s,.sh (aN w),.sh (aN w),.sh (.int c),.sh (.lst (vs.map D.int)),.sh (.lst (zs.map D.str)),.sh (aN (lK w zs)),.sh (jX (lK w zs)),x8,x9,.no,x11,x12]:=⟨_,_,_,_,rfl⟩
  unfold lU;rw[ek];show(if Lr [2,5] _=true/\Ko (jX (lK w zs))=true/\7<13 then _ else _)=_;rw[if_pos ⟨o1,o2,by decide⟩];show oa 7 T1 _ _ (jX (lK w zs)) [.sh s,.sh (aN w),.sh (aN w),.sh (.int c),.sh (.lst (vs.map D.int)),.sh (.lst (zs.map D.str)),.sh (aN (lK w zs)),.no,b8,b9,.no,b11,b12]=_;rw[vo (by
   rw[ev];open_line with[T1,zc,fg,au,hnn,yM]),vo (by rw[ev];open_line with[T2,zc,fg,fw0,hrb,fgw,aw]),FK nO]
  exact hR
 open_line with[LB,G9,hd,hnn,hcl,hT]
end
def AN{ns:List Int}(hn:ns.length<=63):∃cs:List Int,cs.length<=100/\∀x:List Sl,CE (.sh (.lst (ns.map D.int))::x)=.ok (.lst (cs.map D.int)):=by
 obtain⟨c1,c2,hc,_,h2⟩:=Cod.cells_ok hn;obtain⟨ms,hm,hml⟩:=Cod.cut_any (ns:=c2) (lo:=none) (hi:=some 30);refine⟨ms++[7],by rw[PU];simp;omega,λx=>?_⟩;have i1:aK (.tup [.lst (c1.map D.int),.lst (c2.map D.int)]) (.int 1)=.ok (.lst (c2.map D.int)):=rfl;have a1:bI (.lst (ms.map D.int)) (.lst [.int 7])=.ok (.lst ((ms++[7]).map D.int)):=by
  rw[jO (decide_eq_true (by rw[OH];simp;omega)),PF];rfl
 open_line with[CE,hc,i1,hm,a1]
set_option maxHeartbeats 1000000 in
def CD(ns:List Int)(h:ns.length<=63):m_law [.lst (ns.map D.int)]=.ok (.bl true):=by
 obtain⟨w,hw,W⟩:=Cod.web_drawn h;obtain⟨cs,hcl,hcs⟩:=AN h;obtain⟨ρ',hf,b3,b4,b5,b6,b8,b9,b11,b12,_,_,_,_,hP⟩:=fS (tg:=eM 3) (body:=LB) (ds:=cs.map D.int) (λk ρ=>∃b3 b4 b5 b6 b8 b9 b11 b12,Pl b8/\Pl b9/\Pl b11/\Pl b12/\ρ=[.sh (.lst (ns.map D.int)),.sh (aN w),.sh (aN w),b3,b4,b5,b6,.no,b8,b9,.no,b11,b12]) (λk d hd ρ z9=>by
   obtain⟨b3,b4,b5,b6,b8,b9,b11,b12,p8,p9,p11,p12,hρ⟩:=z9;subst hρ;rw[OM]at hd;cases e:cs[k]? with
   |none=>rw[e]at hd;cases hd
   |some c=>
    rw[e]at hd;cases hd;obtain⟨e4,e5,e6,e8,e9,y11,y12,q1,q2,ht⟩:=Ey W c (s:=.lst (ns.map D.int)) (b4:=b4) (b5:=b5) (b6:=b6) p8 p9 p11 p12;exact⟨_,_,rfl,ht,.sh (.int c),.sh e4,.sh e5,.sh e6,.sh e8,.sh e9,y11,y12,.inr ⟨_,rfl⟩,.inr ⟨_,rfl⟩,q1,q2,rfl⟩) (ρ:=[.sh (.lst (ns.map D.int)),.sh (aN w),.sh (aN w),.no,.no,.no,.no,.no,.no,.no,.no,.no,.no]) ⟨_,_,_,_,_,_,_,_,.inl rfl,.inl rfl,.inl rfl,.inl rfl,rfl⟩
 subst hP;rw[m_law,Jd];open_line with[hw,Dh,hcs,hf]
end K59
namespace K59
open PySem L2 DL
def sp_law(K:OF)(H:Hp)(a:OG)(ns:List Int)(hl:ns.length<=63)(hS:df K H a (ns.map V.int)):spD K 1 m_law [.ref a] H (λv _=>v=.bl true) λ_ _ _=>False:=by
 refine⟨rfl,H,[.lst (ns.map D.int)],aF.refl _,Reps.cons (aA.mpr ⟨a,_,rfl,hS,ml ns⟩) Reps.nil,?_⟩;rw[CD ns hl];exact λv H' Ha' _ r=>aH.mp r
end K59
structure PySem.W.Fast:Prop where(tw8519545593362936299 tw4282162703821979084 tw11986056145061937024 tw5796237827814086451 tw17697632746020702414 tw6406297818561266809 tw3849548680933721168 tw5821662519350950813 tw14284065523774087467 tw7957374755691763297 tw1837800833754696486 tw10168035908673964842 tw8591531895405446292 tw9605595496324926107 tw6171686938279269884 tw6949352136591921400 tw7522256786806825421 tw12536769653121086523 tw1411988684315163671 tw950474561733067826 tw13831984652231342142 tw15324460887556975300 tw17784065984264497256 tw4219077570109401992 tw17528666150164287296 tw10696255747752623106 tw11470730032540441858 tw9054750564339590892 tw7113806839423364955 tw12525550122374324110 tw14049221436853299384 tw2215274345994471970 tw14356203665437669625 tw4597847123932115208 tw17730436894744484147 tw2683748926900589762 tw4769741526720069050 tw1897246603821642873 tw13966073051379454234 tw1150690009810904313 tw17072879235701117540 tw8501756470008748880 tw3166247070354188226 tw889988479600735995 tw12274350404035156156 tw2587473230343244587 tw720813183498220983 tw1377864715074044404 tw7111251226584101255 tw15441052751549566780 tw7002198917454050799 tw6350231070425383920 tw10790308637667251771 tw5564508852577588678 tw12010938294365326070 tw15470043455127446615 tw4289254471470087574 tw1416934936183551295 tw4255077858564125265 tw2576573382506198827 tw14901376143095428013 tw4650509637388076282 tw16844867769207729826 tw5841616492756779203 tw3957711177128923574 tw6172425115552659382 tw10212725232850558719 tw4737215217128658466 tw12732354311062874428 tw13279757221539446900 tw1866517591021908700 tw6978386828842586716 tw9409939219411875196 tw1438594395831239028 tw13965721416880501409 tw4316788970829340909 tw2552653408140659405 tw3711033870286598770 tw9258004826665374650 tw17764239936902352421 tw12575568352069559500:True)
open PySem PySem.W PyProof.Rows
set_option maxRecDepth 100000 in
set_option maxHeartbeats 0 in
theorem PySem.Challenge.cw_farthestcut_k59_called_otherwise_holds : PySem.Challenge.rw_farthestcut_k59_called_otherwise.Holds := by
 w_on;o_law;k_head;(case hw=>w_witness2)
 k_fill
 refine L2.walk_ofK (l:=PySem.Challenge.rw_farthestcut_k59_called_otherwise) (n:=63) (k:=9) (x:="_law_script") (CX:=L2.CX0) (sp:=fun K=>DL.spD K 1 K59.m_law) ?I rfl (by decide) rfl ⟨rfl,by decide,by decide,rfl⟩ (fun w h Y=>W.kIn_of Y) ?F ?S ?C
 case S=>exact fun K H a ns hl _ hS=>K59.sp_law K H a ns hl hS
 case C=>exact fun _ _ _ _ h=>h
 case I=>rfl
 case F =>
  intro w mg fa h KX G hmg;have T:∃ t:K59.Adr,K59.Txt (L2.KOf KX) mg t/\mg "law"=some (.ref (t.A 30))/\∃ kV doc pm an cdv ct,t.Q 30=RJ "law" "law" (L2.defArgs (K59.top 54)) (L2.defBody (K59.top 54)) (L2.defScope (K59.top 54)) .none kV doc pm an cdv ct:=by
   dsimp only[L2.KOf];refine' K59.txt_wr (K59.txt_mk KX G ?QS ?_ ?_ ?_ ?_ ?_ ?_ ?_ ?_ ?_ ?_ ?_ ?_ ?_ ?_ ?_ ⟨?_,?_,?_,?_⟩ ⟨⟨?_,?_,?_,?_⟩,?_,?_,?_,?_,?_,?_,?_,?_,?_,?_,?_,?_,?_⟩ ⟨⟨?_,?_,?_,?_⟩,?_,?_,?_,?_,?_,?_,?_,?_,?_,?_,?_,?_⟩ ?_ ?_ ?_ ?_ ?_ ?_ ?_ ?_ ?_ ?_ ?_ ?_ ?_ ?_ ?_ ?_ (K59.sbc ?_ trivial) (K59.sbc ?_ trivial) ?_ ?_ ?_ ?_ ?_ ?_ ?_ ?_ ?_ ?_ ?_ ?_ ?_ ?_ ?_ ?_ ?_)
   case' QS=>iterate 31 refine DL.QAs.cons ⟨by k_is,by k_is,_,_,_,_,_,_,_,_,_,by k_is,by k_is⟩ ?_
   case QS=>trivial
   all_goals try first |k_is |k_exc |rfl
   exact⟨_,_,_,_,[.str "one",.str "both"],rfl,.cons ⟨_,rfl⟩ (.cons ⟨_,rfl⟩ (.nil)),by decide,fun H=>DL.Reps.cons (DL.Rep.str_iff.mpr rfl) (DL.Reps.cons (DL.Rep.str_iff.mpr rfl) (DL.Reps.nil))⟩
  obtain⟨t,T,e0,kV,doc,pm,an,cdv,ct,ed⟩:=T;have e1:=hmg.symm.trans e0;cases e1;refine⟨t.Q 30,fun s u=>?_,fun base kb nb=>(K59.ok_law T).F⟩;rw[ed];exact .of_eq rfl
