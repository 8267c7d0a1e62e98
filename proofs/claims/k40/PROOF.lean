import PyProof.Rows.All
import Wide.All
import OpenK.AllK
import Wide.FinOn
import PyProof.EqAt
import PyProof.EqKinds
import PyProof.NeKinds
import PyProof.TupleCall
import KE.KLam
import PyProof.StrWalks
import PyProof.EnumMake
import PyProof.WalksEnum
import PyProof.ZipIter
import PyProof.Rows.ZipGen
import PyProof.Rows.SortWalk
import KE.KSortedM
import PyProof.StrLawsIdx
import PyProof.StrLawsNeg
import PyProof.ExcInit
import PyProof.InstStoreFacts
import PyProof.AttrMissHeap
import PyProof.FactsAll.enumerate
import PyProof.FactsAll.dict_1
import KE.KDictOf
import KE.KItemsList
import PyProof.ReprRoads
import KE.LcSums
import PyProof.AttrMissSeq
import PyProof.TupleIter
import PyProof.WalksMore
import PyProof.ExcClass2
import PyProof.Rows.MatchSeqLen
import PyProof.FitsInt
import PyProof.FactsAll.zip_1
import KE.KRevIter
import PyProof.DictWalks
import PyProof.DictItemsLoops
import KE.KPairComp
import KE.KNestM
import PySem.Challenge.RW_farthestcut_k40_whole_most_by_all_sides
open PySem renaming Value->Pb,Shared->Pj,Addr->Pk,Str->Pq,wpAny_bind->Py,starEach->PD,mainGlobals->PH,Heap->PR,model->PX,wpAny->P5,wpAny_pure->P7,Expr->Qa,Program->Qe,Around->Qs,World->Qt,compareOp->Qv,mem_of_lookup->Qx,FuncData->Qy,Env->QN,wpAny_truthy_bool->Q1,NameKind->Q5,backTo->Rj,wpAny_mono->Rn,swapsWith->Rt,Stmt->Rv,wpAny_holding->RG,codeAny->RJ,sysModules->RO,cLine->RY,Scope->Sa,attributeBase->Sg,keywordEach->S3,Keyword->S6,typeLookup->Te,holding->Tp,Result->Tx,wpAny_loadPart_at->TH,Within->TL,backToKw->Ua,intBits_le_iff->US
open List renaming mem_cons_of_mem->Pc,getElem?_eq_getElem->Pd,mem_cons_self->Pf,length_map->Pg,map_cons->Pl,getElem?_eq_some_iff->Po,getElem?_map->Pp,mem_cons->Pr,mem_map->Pw,mem_append->Pz,getElem?_set_ne->PB,mem_singleton->PF,size_toArray->PJ,length_cons->PL,mem_of_getElem?->PN,replicate->PY,nodup_cons->PZ,getElem?_append_left->P0,mem_append_right->P4,length_append->P9,map_append->Qb,getElem?_append_right->Qc,map_map->Qd,all_eq_true->Qi,getElem?_set_self->Qj,mem_append_left->Qk,mem_filter->Ql,getElem?_replicate->Qn,getElem?_cons_succ->Qo,filter_cons_of_neg->Qp,Nodup->Qq,range->Qu,replicate_succ->QD,append_nil->QH,lookup_cons->QI,foldl_cons->QP,drop_eq_getElem_cons->QQ,filterMap_cons->QU,zip_cons_cons->QX,getElem?_cons_zero->Q0,nil_append->Q6,getElem?_eq_none->Q7,getElem_mem->Rb,cons_append->Rg,sum_cons->Rh,getElem?_take_of_lt->Ri,mem_range->Rk,filter_cons_of_pos->Rm,mem_map_of_mem->Ro,map_nil->Rq,length_take->Ru,nodup_iff_pairwise_ne->Rx,mem_filterMap->Ry,length_singleton->RC,length_replicate->RD,nodup_append->RE,append_assoc->RF,any_cons->RI,getElem?_drop->RP,length_nil->RQ,all_cons->RT,Pairwise->RU,filterMap_eq_map->RW,flatten_cons->R0,getD_eq_getElem?_getD->R6,take_length->R8,length_drop->R9,replicate_zero->Se,map_congr_left->Sf,find?_cons->Sm,set_cons_zero->Sq,set_cons_succ->Sr,ext_getElem?->Sy,length_filter_le->SF,not_mem_nil->SG,mem_nil_iff->SH,filter_cons->SI,lookup->SN,of_mem_zip->SO,length->S5,length_eq_zero_iff->Ta,getElem_inj->Tb,getElem?_set_self'->Tc,take_of_length_le->Tf,range_succ_eq_map->Tg,mem_iff_getElem->To,getElem?_range->Tq,filterMap_map->TB,pairwise_map->TQ,filter_map->T6,eq_of_mem_replicate->Us,pairwise_lt_range->UD,all_map->UE,mem_iff_getElem?->UL,mem_of_mem_take->UT,length_dropLast->UU
open PySem.W renaming Frag->Ph,nsIn->QT,kia_one->QZ,mg_none_of->Q2,findIn->Q3,mg_of->RK,emptyDict->R1,fnOf->Sd,subIn->Sj,instObj->SX,keepIn->S9,hasDictIn->Ti,plainGet->Tv,specialIn->TY,plainOver->TZ,kitx_dict->T1,codeIn->Ub,codeHdIn->Uc,takesIn->Uu,callWith_K->Ux,methodObj->UO,kitx_list->UP
open Nat renaming lt_of_lt_of_le->Pm,le_trans->Pu,lt_of_le_of_lt->PK,le_refl->P1,ne_of_lt->Qh,pow_le_pow_right->Qz,zero_add->QL,lt_irrefl->RH,lt_succ_self->RN,zero_le->R4,pow_lt_pow_right->R5,le_of_lt->R7,mul_le_mul->Sw,add_zero->Sx,sub_zero->SU,pow_add->S4,pow_pos->Tj,succ->TN,min_eq_left->T5,mul_lt_mul_of_lt_of_le->Ue,mul_comm->UB,le_of_eq->UC
open Or renaming inl->Pt,inr->R3
open PySem.Heap renaming get?_push_of_some->Px,lt_size->PQ,get?_push_size->Qr,SameBut->SV,size_push->Ui,get?_update_other->UJ,get?_none_of_le->UZ
open Bool renaming and_eq_true->PM,false_ne_true->QY,false_and->RA,true_and->RV,not_false->SD,not_true->SM,false_eq_true->S1,and_self->S8,false_or->Tu,or_eq_true->T7,and_false->Ul,and_eq_false_iff->UN
open PySem.SeqAt renaming RcNeAt->PU,EqAt->PV,RcAt->P8,ne_of_list_tuple->Uy
open Int renaming gcd->Qf,eq_ofNat_of_zero_le->Qw,mul_ediv_cancel_left->QJ,toNat_natCast->QM,eq_of_mul_eq_mul_right->QO,natAbs_ediv_le_natAbs->QR,natAbs_mul->Rz,ediv_nonneg->Sn,mul_pos->Su,le_refl->Sv,gcd_dvd_right->Sz,fmod_nonneg_of_pos->SA,mul_le_mul_of_nonneg_right->SJ,gcd_dvd_left->SK,ediv_mul_cancel->SQ,fmod_eq_emod_of_nonneg->SY,fdiv_eq_ediv_of_nonneg->S0,mul_comm->Th,dvd_trans->Ts,natCast_nonneg->TC,fmod_lt_of_pos->TF,ediv_le_self->TV,one_mul->T2,add_mul->T3,dvd_gcd_mul_iff_dvd_mul->T8,mul_nonneg->Ug,ediv_pos_of_pos_of_dvd->Uh,zero_add->UG,gcd_comm->UH,add_zero->UI,neg_mul->UX,mul_add->UY
open PySem.PassesOwn renaming never->Qg
open PySem.Value renaming ref->Qm,bool->QW,none->Q4,str->Q8,int->Q9,builtin->Tr,float->UQ
open Ne renaming symm->QB
open Option renaming some->QC,getD_some->RM,isSome_iff_exists->Sh,map_some->Sk,isSome_map->TM,map_eq_some_iff->UA
open Sum renaming inr->QE,inl->SR
open Option.some renaming inj->QF,injEq->Rl
open False renaming elim->QK
open PySem.Builtin renaming bitAnd->QV,divisionGoesByPylong->RS
open True renaming intro->Ra
open Array renaming length_toList->Rp,toList->TR,getElem?_append_left->Um,toList_append->U1
open PySem.NameKind renaming free->Rr
open PySem.F renaming typeOf_object_class->RX,slot_gs_get->Tt,args_tuple_add_2->Uq,plainAttrs_list->Uv,entry_tuple_add->Uw,slot_tuple_add->Uz
open PyProof.Rows renaming callWith_type1->RZ,slot_tuple_getitem->SE
open PySem.Builtin.Slice renaming slicePlaces->Sb,sliceAdjust->S2,sliceApplied->Uk
open PySem.Builtin.Tuple renaming tupleExact->Si
open ForInStep renaming yield->So
open PySem.Txt renaming slice->Ss,slice_le->TJ,join->Ud
open Nat.succ renaming inj->SS
open PySem.Builtin.Str renaming strSliceIndices->SW,occurrences->Td
open PySem.Builtin.List renaming listTooLong->S7
open PySem.SeqAt.EqAt renaming of_refs->Tw,same->T4
open PySem.Obj renaming mapSeq->Tz
open PySem.StrLaws renaming sliceText->TK
open PySem.Around renaming under->TU,frames_deeper->U0
open Iff renaming rfl->T9
open PySem.Calls renaming Name_function_global->Uj
open Classical renaming byContradiction->Uo,choose_spec->UM
open PySem.SeqAt.RcAt renaming lists_lengths->Up
open PySem.Paired renaming length->Ur
open List.Pairwise renaming imp_of_mem->Ut,filter->UW
open PySem.Code renaming isFrame->UK
open Sum.inr renaming inj->UR
set_option compiler.extract_closed false
set_option bootstrap.genMatcherCode false
set_option Elab.async false
set_option linter.all false
set_option maxRecDepth 100000
set_option maxHeartbeats 4000000
noncomputable section
abbrev ce:=List Pq
abbrev ci:=List Nat
namespace L2
open PySem PySem.Spec PyProof.Rows
abbrev eD:=Sum Int Pq
def uN:eD->Pb->Bool
 |.inl k,v=>Value.isInt k v
 |.inr x,v=>Value.isStrOf x v
def NU(w:Qt):eD->Int
 |.inl k=>hashInt k
 |.inr x=>hashStr w x
theorem cM:∀{k:eD}{v:Pb},uN k v=true->(∃i t,k=SR i/\v=Q9 i t)∨(∃x t,k=QE x/\v=Q8 x t)
 |.inl i,v,h=>by
  obtain⟨t,e⟩:=Value.isInt_shape (k:=i) (v:=v) h;exact .inl ⟨i,t,rfl,e⟩
 |.inr x,v,h=>by
  obtain⟨t,e⟩:=Value.isStrOf_shape (x:=x) (v:=v) h;exact .inr ⟨x,t,rfl,e⟩
def B8(i:Int)(t:Tok):uN (.inl i) (.int i t)=true:=by simp[uN,Value.isInt]
def B7(x:Pq)(t:Tok):uN (.inr x) (.str x t)=true:=by simp[uN,Value.isStrOf]
def Kh(a b:Int):decide ((SR a:eD)=SR b)=(a==b):=by
 by_cases e:a=b
 .subst e;simp
 .have h:¬(SR a:eD)=SR b:=λq=>e (SR.inj q)
  rw[decide_eq_false h];exact(beq_eq_false_iff_ne.mpr e).symm
def Ke(a b:Pq):decide ((QE a:eD)=QE b)=decide (a=b):=by
 by_cases e:a=b
 .subst e;simp
 .have h:¬(QE a:eD)=QE b:=λq=>e (UR q)
  rw[decide_eq_false h,decide_eq_false e]
def Kg(a:Int)(b:Pq):decide ((SR a:eD)=QE b)=false:=decide_eq_false (λq=>nomatch q)
def Kf(a:Pq)(b:Int):decide ((QE a:eD)=SR b)=false:=decide_eq_false (λq=>nomatch q)
noncomputable def c5(prog:Qe) (w:Qt):PySem.KeyKind prog w eD where
 is:=uN
 hash:=NU w
 inj:=λv a b ha hb=>by
  rcases cM ha with⟨i,t,rfl,rfl⟩|⟨x,t,rfl,rfl⟩
  .rcases cM hb with⟨j,u,rfl,e⟩|⟨y,u,rfl,e⟩
   .injection e with e1 _;rw[e1]
   .exact nomatch e
  .rcases cM hb with⟨j,u,rfl,e⟩|⟨y,u,rfl,e⟩
   .exact nomatch e
   .injection e with e1 _;rw[e1]
 byValue:=λk v h=>by
  rcases cM h with⟨i,t,rfl,rfl⟩|⟨x,t,rfl,rfl⟩<;>rfl
 pyHash:=λhv h=>by
  rcases cM hv with⟨i,t,rfl,rfl⟩|⟨x,t,rfl,rfl⟩
  .exact wpAny_pyHash_int h
  .exact wpAny_pyHash_str h
 eqBool:=λhu hv h=>by
  rcases cM hu with⟨i,t,rfl,rfl⟩|⟨x,t,rfl,rfl⟩
  .rcases cM hv with⟨j,u,rfl,rfl⟩|⟨y,u,rfl,rfl⟩
   .rw[Kh]at h;exact wpAny_eqBool_int h
   .rw[Kg]at h;exact PV.int_str i t y u _ _ _ _ h
  .rcases cM hv with⟨j,u,rfl,rfl⟩|⟨y,u,rfl,rfl⟩
   .rw[Kf]at h;exact PV.str_int x t j u _ _ _ _ h
   .rw[Ke]at h;exact wpAny_eqBool_str h
 «strs»:=λk x t v h=>by
  rcases cM h with⟨i,u,rfl,e⟩|⟨y,u,rfl,e⟩
  .exact nomatch e
  .injection e with e1 _
   subst e1;cases v<;>rfl
def xD(prog:Qe)(w:Qt)(i:Int)(t:Tok):(c5 prog w).is (.inl i) (.int i t)=true:=B8 i t
def xC(prog:Qe)(w:Qt)(x:Pq)(t:Tok):(c5 prog w).is (.inr x) (.str x t)=true:=B7 x t
inductive V where
 |non|bl (b:Bool)|int (i:Int)|str (x:Pq)|byt (b:Array UInt8)|flt (b:UInt64)|ref (a:Pk)|ty (n:String)
 deriving DecidableEq
abbrev ad:=List V
noncomputable def bh:V->Pb->Prop
 |.non,u=>u=Q4
 |.bl b,u=>u=QW b
 |.int i,u=>∃t,u=Q9 i t
 |.str x,u=>∃t,u=Q8 x t
 |.byt b,u=>∃t,u=Value.bytes b t
 |.flt b,u=>∃t,u=UQ b t
 |.ref a,u=>u=Qm a
 |.ty n,u=>u=Value.type n
abbrev aY:ad->List Pb->Prop:=Paired bh
def aY.length{xs:ad}{us:List Pb}(r:aY xs us):xs.length=us.length:=Ur r
theorem aY.get:∀{xs:ad}{us:List Pb}{i:Nat}{x:V},aY xs us->xs[i]?=some x->∃u,us[i]?=some u/\bh x u
 |_,_,_,_,.nil,e=>by simp at e
 |_,_,0,_,.cons r _,e=>by simp at e;subst e;exact⟨_,rfl,r⟩
 |_,_,i+1,x,.cons _ t,e=>by
  obtain⟨u,h1,h2⟩:=aY.get (i:=i) (x:=x) t (by simpa using e);exact⟨u,by simpa using h1,h2⟩
theorem aY.set{x:V}{u:Pb}(r:bh x u):∀{xs:ad}{us:List Pb}(i:Nat),aY xs us->aY (xs.set i x) (us.set i u)
 |_,_,_,.nil=>.nil
 |_,_,0,.cons _ t=>.cons r t
 |_,_,i+1,.cons q t=>.cons q (aY.set r i t)
theorem aY.append:∀{xs ys:ad}{us ws:List Pb},aY xs us->aY ys ws->aY (xs++ys) (us++ws)
 |_,_,_,_,.nil,s=>s
 |_,_,_,_,.cons r t,s=>.cons r (aY.append t s)
theorem aY.take:∀{xs:ad}{us:List Pb}(n:Nat),aY xs us->aY (xs.take n) (us.take n)
 |_,_,0,_=>.nil
 |_,_,_+1,.nil=>.nil
 |_,_,n+1,.cons r t=>.cons r (aY.take n t)
theorem aY.drop:∀{xs:ad}{us:List Pb}(n:Nat),aY xs us->aY (xs.drop n) (us.drop n)
 |_,_,0,r=>r
 |_,_,_+1,.nil=>.nil
 |_,_,n+1,.cons _ t=>aY.drop n t
def wA:Option V->Option Pb->Prop
 |some v,some u=>bh v u
 |none,none=>True
 |_,_=>False
def KV{κ:Type}:List (κ×V)->List (κ×Pb)->Prop:=Paired λ(p:κ×V) (q:κ×Pb)=>p.1=q.1/\bh p.2 q.2
def kV:eD->V
 |.inl i=>.int i
 |.inr x=>.str x
inductive HO where
 |lst (xs:ad)
 |tup (xs:ad)
 |dK (kvs:List (eD×V))|dT (kvs:List (List eD×V))
 |set (S:Int->Bool) (n:Nat)
 |ins (C dx:Pk) (fs:List (Pq×V))
 |own (x:Pk)
 |xd (fs:List (Pq×V))
 |met (f x:Pk)
 |rng (lo hi:Int)
 |frz (o:Obj) (u:HO)
 |tbl (ps:Array Pb)
 |ext (φ:PR->Prop)
abbrev Hp:=Pk->Option HO
structure gN where
 params:Arguments
 body:Qa
 scope:Sa
 pos:Pos
def Hf:Qa->Option gN
 |.Lambda a b sc pos=>some ⟨a,b,sc,pos⟩
 |_=>none
def Mz:Qa->Option gN
 |.Call _ args kws _=>(args.findSome? Hf).or (kws.findSome? λk=>Hf k.value)
 |.Subscript (.Call _ args kws _) _ _=>(args.findSome? Hf).or (kws.findSome? λk=>Hf k.value)
 |_=>none
def NT:Rv->Option gN
 |.Expr e _=>Mz e
 |.Assign _ e _=>Mz e
 |_=>none
def Kb:FuncBody->Option gN
 |.stmts b=>b.findSome? NT
 |.expr _=>none
def qT(qual:Pq):Pq:=qual++".<locals>.<lambda>"
noncomputable def vn(K:Ph) (o:Obj):Option (Pk×Array Pb):=match o.data with
 |.func fd=>match Kb fd.body,fd.code with
  |some F,.ref c=>match K.lookup c with
   |some ⟨_,_,.fields vs,_⟩=>match (vs[11]?:Option Pb) with
    |some (.ref P)=>some (P,#[rawInt F.pos.line,rawInt F.pos.col,.str (qT fd.qualname) 0])
    |_=>none
   |_=>none
  |_,_=>none
 |_=>none
def uM(K:Ph):List (Pq×gN):=K.filterMap λp=>match p.2.data with
 |.func fd=>(Kb fd.body).map λF=>(qT fd.qualname,F)
 |_=>none
def gw(K:Ph):List (Pk×Array Pb):=K.filterMap λp=>vn K p.2
def wR{K:Ph}{P:Pk}{d:Array Pb}(h:(P,d)∈gw K):∃(a b:Int) (q:Pq),d=#[rawInt a,rawInt b,.str q 0]:=by
 obtain⟨p,_,e⟩:=Ry.mp h;unfold vn at e;split at e
 .split at e
  .split at e
   .split at e
    .cases e;exact⟨_,_,_,rfl⟩
    .cases e
   .cases e
  .cases e
 .cases e
def mf{K:Ph}{P:Pk}{d more:Array Pb}(h:(P,d)∈gw K):(d++more)[0]?≠some .none:=by
 obtain⟨a,b,q,rfl⟩:=wR h;intro z;rw[Um (by simp)]at z;cases z
def Bm(K:Ph)(H:Hp):Prop:=∀P d,(P,d)∈gw K->∃more,H P=some (.tbl (d++more))
def Lg(h:PR)(a:Pk)(ps:Array Pb):Prop:=∃(oc:Obj) (vs:Array Pb) (qual:Pq) (t t':Tok) (more:Array Pb),ps=#[.none,.str qual t]++more/\h.get? a=some oc/\oc.data=.fields vs/\vs[1]?=some (.str qual t')
noncomputable def MY(H:Hp) (h:PR) (a:Pk) (ps:Array Pb):Prop :=
 h.get? a=some { cls:=.none,data:=.fields #[] } ∨
 ∃(l c:Pb) (qual:Pq) (t t':Tok) (more more':Array Pb) (c':Pk),ps=#[l,c,.str qual t]++more/\h.get? a=some { cls:=.none,data:=.fields #[l,c,.ref c'] }/\H c'=some (.tbl (#[.none,.str qual t']++more'))
def TabOk(H:Hp)(h:PR)(a:Pk)(ps:Array Pb):Prop:=(ps[0]?=some .none/\Lg h a ps)∨(ps[0]?≠some .none/\MY H h a ps)
def upd(H:Hp)(a:Pk)(o:HO):Hp:=λb=>if b=a then some o else H b
def aP{H:Hp}{a:Pk}{o:HO}:upd H a o a=some o:=by unfold upd;rw[if_pos rfl]
def aG{H:Hp}{a b:Pk}{o:HO}(h:b≠a):upd H a o b=H b:=by unfold upd;rw[if_neg h]
def Ms{H:Hp}{a b:Pk}{o u:HO}(h:H a=some o)(h':H b=some u)(d:o≠u):a≠b:=by
 intro e;subst e;rw[h]at h';exact d (QF h')
def ba{H:Hp}{a b:Pk}{o:HO}(h:H a=some o)(h':H b=none):a≠b:=by
 intro e;subst e;rw[h]at h';cases h'
section
variable (P:Qe) (w:Qt)
noncomputable def cT(H:Hp) (h:PR) (a:Pk):HO->Prop
 |.lst xs=>xs.length<=sizeLine/\∃(its:List Pb) (n:Nat),aY xs its/\h.get? a=some { cls:=.type "list",data:=.seq its.toArray n }
 |.tup xs=>xs.length<=sizeLine/\∃its:List Pb,aY xs its/\IsTup h a its.toArray
 |.dK kvs=>kvs.length<=sizeLine/\(a==RO)=false/\∃vs,KV kvs vs/\h.DictOf (c5 P w) a vs
 |.dT kvs=>kvs.length<=sizeLine/\(a==RO)=false/\∃xs:List (List eD×Pk×Pb),
   Paired (λ(p:List eD×V) (q:List eD×Pk×Pb)=>p.1=q.1/\H q.2.1=some (.tup (p.1.map kV))/\bh p.2 q.2.2) kvs xs /\
   ∃o es ep,h.get? a=some o/\o.ExactDict/\o.data=.dict es ep/\es.toList=xs.map (entryOfKey (tupleKind (c5 P w)))/\(xs.map (·.1)).Nodup
 |.set S n=>h.SetOf (intKind P w) a S n
 |.ins C dx fs=>H dx=some (.own a)/\fs.length<=1000/\dx≠a/\h.get? a=some (SX C dx) /\
   ∃mA,h.Ns1 dx mA/\(∀f,wA (fs.lookup f) (mA f))/\TL mA (fs.map (·.1))
 |.own _=>∃o,h.get? a=some o
 |.xd fs=>∃mA,h.Ns1 a mA/\∀f,wA (fs.lookup f) (mA f)
 |.rng lo hi=>∃t u v,h.get? a=some { cls:=.type "range",data:=.fields #[.int lo t,.int hi u,.int 1 v] }
 |.frz o u=>h.get? a=some o/\cT H h a u
 |.tbl ps=>TabOk H h a ps
 |.met f x=>h.get? a=some (UO (.ref f) (.ref x))
 |.ext φ=>φ h/\(∃o,h.get? a=some o)/\∀h1 h2:PR,φ h1->(∀o,h1.get? a=some o->h2.get? a=some o)->φ h2
def ji(H:Hp)(h:PR):Prop:=∀a o,H a=some o->cT P w H h a o
end
section
variable {P:Qe}{w:Qt}{H H':Hp}{h h':PR}{a:Pk}{o:HO}
def cT.lt(x:cT P w H h a o):a<h.objs.size:=by
 cases o with
 |lst xs=>obtain⟨_,_,_,_,e⟩:=x;exact PQ e|tup xs=>obtain⟨_,_,_,p⟩:=x;exact p.lt|dK kvs|dT kvs=>obtain⟨_,_,_,_,o,_,_,e,_⟩:=x;exact PQ e|set S n=>obtain⟨o,_,_,_,e,_⟩:=x;exact PQ e|ins C dx fs=>obtain⟨_,_,_,e,_⟩:=x;exact PQ e|own y=>obtain⟨_,e⟩:=x;exact PQ e|xd fs=>obtain⟨_,⟨_,_,_,e,_⟩,_⟩:=x;exact PQ e|rng lo hi=>obtain⟨_,_,_,e⟩:=x;exact PQ e|frz ob u=>obtain⟨e,_⟩:=x;exact PQ e
 |tbl ps=>
  have x:TabOk H h a ps:=x;rcases x with⟨_,_,_,_,_,_,_,_,e,_⟩|⟨_,e|⟨_,_,_,_,_,_,_,_,_,e,_⟩⟩<;>exact PQ e
 |met f y=>exact PQ (show h.get? a=some _ from x)|ext φ=>obtain⟨_,⟨_,e⟩,_⟩:=x;exact PQ e
theorem kS{α β:Type}{F G:α->β->Prop}:∀{lb:List α}{lg:List β},Paired F lb lg->(∀a b,F a b->G a b)->Paired G lb lg
 |_,_,.nil,_=>.nil
 |_,_,.cons r t,f=>.cons (f _ _ r) (kS t f)
def cT.stay(x:cT P w H h a o)(k:∀b u,(b=a∨H b=some (.own a))->h.get? b=some u->h'.get? b=some u)
  (ho:∀b,H b=some (.own a)->H' b=some (.own a))(ht:∀b xs,H b=some (.tup xs)->H' b=some (.tup xs))(hf:∀b ps,H b=some (.tbl ps)->H' b=some (.tbl ps)):cT P w H' h' a o:=by
 induction o with
 |lst xs=>obtain⟨z,its,n,r,e⟩:=x;exact⟨z,its,n,r,k _ _ (.inl rfl) e⟩|tup xs=>obtain⟨z,its,r,ob,e,c⟩:=x;exact⟨z,its,r,ob,k _ _ (.inl rfl) e,c⟩|dK kvs=>obtain⟨z,y,vs,r,ob,es,ep,e,c⟩:=x;exact⟨z,y,vs,r,ob,es,ep,k _ _ (.inl rfl) e,c⟩
 |dT kvs=>
  obtain⟨z,y,xs,r,ob,es,ep,e,c⟩:=x;exact⟨z,y,xs,kS r λp q z=>⟨z.1,ht _ _ z.2.1,z.2.2⟩,ob,es,ep,k _ _ (.inl rfl) e,c⟩
 |set S n=>obtain⟨ob,es,ep,t,e,c⟩:=x;exact⟨ob,es,ep,t,k _ _ (.inl rfl) e,c⟩
 |ins C dx fs=>
  obtain⟨d,z,ne,e,mA,⟨od,es,ep,e2,c⟩,r⟩:=x;exact⟨ho _ d,z,ne,k _ _ (.inl rfl) e,mA,⟨od,es,ep,k _ _ (.inr d) e2,c⟩,r⟩
 |own y=>obtain⟨ob,e⟩:=x;exact⟨ob,k _ _ (.inl rfl) e⟩|xd fs=>obtain⟨mA,⟨od,es,ep,e,c⟩,r⟩:=x;exact⟨mA,⟨od,es,ep,k _ _ (.inl rfl) e,c⟩,r⟩|rng lo hi=>obtain⟨t,u,v,e⟩:=x;exact⟨t,u,v,k _ _ (.inl rfl) e⟩|frz ob u ih=>obtain⟨e,q⟩:=x;exact⟨k _ _ (.inl rfl) e,ih q⟩
 |tbl ps=>
  have x:TabOk H h a ps:=x;show TabOk H' h' a ps;rcases x with⟨z,oc,vs,q,t,t',m,e1,e2,e3⟩|⟨z,e|⟨l,c,q,t,t',m,m',c',e1,e2,e3⟩⟩
  .exact .inl ⟨z,oc,vs,q,t,t',m,e1,k a _ (.inl rfl) e2,e3⟩
  .exact .inr ⟨z,.inl (k a _ (.inl rfl) e)⟩
  .exact .inr ⟨z,.inr ⟨l,c,q,t,t',m,m',c',e1,k a _ (.inl rfl) e2,hf _ _ e3⟩⟩
 |met f y=>
  have e:h.get? a=some (UO (.ref f) (.ref y)):=x;show h'.get? a=some (UO (.ref f) (.ref y));exact k a _ (.inl rfl) e
 |ext φ=>obtain⟨p,⟨o,e⟩,st⟩:=x;exact⟨st _ _ p λo q=>k _ _ (.inl rfl) q,⟨o,k _ _ (.inl rfl) e⟩,st⟩
def ji.lt(x:ji P w H h)(e:H a=some o):a<h.objs.size:=(x a o e).lt
def ji.fresh(x:ji P w H h)(e:h.objs.size<=a):H a=none:=by
 cases q:H a with|none=>rfl|some u=>exact absurd (Pm (x.lt q) e) (RH _)
def ji.kept(x:ji P w H h)(k:∀b u,h.get? b=some u->h'.get? b=some u):ji P w H h':=λa o e=>
 (x a o e).stay (λb u _ q=>k b u q) (λ_ q=>q) (λ_ _ q=>q) λ_ _ q=>q
def ji.laid(x:ji P w H h)(k:∀b u,h.get? b=some u->h'.get? b=some u)(hp:h.objs.size<=a)(new:cT P w (upd H a o) h' a o):ji P w (upd H a o) h':=λb u e=>by
 have hn:=x.fresh hp
 by_cases hb:b=a
 .subst hb;rw[aP]at e;cases e;exact new
 .rw[aG hb]at e
  exact(x b u e).stay (λc v _ q=>k c v q) (λc q=>by rw[aG (ba q hn)];exact q) (λc xs q=>by rw[aG (ba q hn)];exact q) λc o q=>by rw[aG (ba q hn)];exact q
end
def Rd(H:Hp)(a:Pk)(u:HO):Prop:=H a=some u∨∃o,H a=some (.frz o u)
def Rd.ok{P:Qe}{w:Qt}{H:Hp}{h:PR}{a:Pk}{u:HO}(r:Rd H a u)(x:ji P w H h):cT P w H h a u:=by
 rcases r with r|⟨o,r⟩
 .exact x a u r
 .obtain⟨_,q⟩:=x a _ r
  exact q
def M4:Option HO->Prop
 |some (.lst _)=>True
 |some (.dK _)=>True
 |some (.dT _)=>True
 |some (.set _ _)=>True
 |some (.ins _ _ _)=>True
 |some (.ext _)=>True
 |_=>False
section
variable {P:Qe}{w:Qt}{H:Hp}{h h':PR}{x e:Pk}{o':HO}
def ji.write(ok:ji P w H h)(mu:M4 (H x))(he:e=x∨H e=some (.own x))(k:∀b u,b≠e->h.get? b=some u->h'.get? b=some u)(heo:∃u,h'.get? e=some u)
  (new:cT P w (upd H x o') h' x o'):ji P w (upd H x o') h':=λb u q=>by
 have nown:∀c y,H c=some (.own y)->c≠x:=λc y r z=>by subst z;rw[r]at mu;exact mu
 have ntup:∀c xs,H c=some (.tup xs)->c≠x:=λc xs r z=>by subst z;rw[r]at mu;exact mu
 have ntbl:∀c o,H c=some (.tbl o)->c≠x:=λc o r z=>by subst z;rw[r]at mu;exact mu
 by_cases hb:b=x
 .subst hb;rw[aP]at q;cases q;exact new
 .rw[aG hb]at q
  by_cases hbe:b=e
  .have q':H b=some (.own x):=by
    rcases he with z|z
    .exact absurd (hbe.trans z) hb
    .rw[hbe];exact z
   rw[q]at q';cases q';obtain⟨v,hv⟩:=heo;exact⟨v,by rw[hbe];exact hv⟩
  .refine(ok b u q).stay (λc v hc r=>k c v ?_ r) (λc r=>by rw[aG (nown c b r)];exact r) (λc xs r=>by rw[aG (ntup c xs r)];exact r) λc o r=>by rw[aG (ntbl c o r)];exact r
   rcases hc with rfl|hc
   .exact hbe
   .rintro rfl
    rcases he with z|z
    .exact nown c b hc z
    .rw[hc]at z;cases z;exact hb rfl
end
structure Un (fs ex:List Pk) (H H':Hp) (h h':PR):Prop where
 keep:∀b o,h.get? b=some o->H b=none->b∉fs->b∉ex->h'.get? b=some o
 slot:∀b o,h.get? b=some o->H b=none->b∈fs->b∉ex->∃sl,h'.get? b=some { o with slots:=sl }
 free:∀b o,h.get? b=some o->H b=none->b∉ex->H' b=none
 there:∀b o,h.get? b=some o->b∉ex->∃o',h'.get? b=some o'
 tups:∀b xs,H b=some (.tup xs)->H' b=some (.tup xs)
 frzs:∀b o u,H b=some (.frz o u)->H' b=some (.frz o u)
 tbls:∀b ps,H b=some (.tbl ps)->∃more,H' b=some (.tbl (ps++more))
section
variable {fs fs' ex ex':List Pk}{H H1 H2:Hp}{h h1 h2 h':PR}{a x e:Pk}{o:HO}
def Un.any(u:Un fs ex H H1 h h1){b:Pk}{ob:Obj}(q:h.get? b=some ob)(n:H b=none)(hx:b∉ex):∃sl,h1.get? b=some { ob with slots:=sl }:=by
 by_cases hb:b∈fs
 .exact u.slot b ob q n hb hx
 .exact⟨ob.slots,u.keep b ob q n hb hx⟩
def Un.kept(k:∀b u,h.get? b=some u->h'.get? b=some u):Un fs ex H H h h' :=
 ⟨λb ob q _ _ _=>k b ob q,λb ob q _ _ _=>⟨ob.slots,k b ob q⟩,λ_ _ _ n _=>n,λb ob q _=>⟨ob,k b ob q⟩,λ_ _ q=>q,λ_ _ _ q=>q,λ_ ps q=>⟨#[],by rw[q];simp⟩⟩
def Un.refl:Un fs ex H H h h:=Un.kept λ_ _ q=>q
def Un.laid(k:∀b u,h.get? b=some u->h'.get? b=some u)(hp:h.objs.size<=a)(hn:H a=none):Un fs ex H (upd H a o) h h' where
 keep:=λb u q _ _ _=>k b u q
 slot:=λb u q _ _ _=>⟨u.slots,k b u q⟩
 free:=λb u q n _=>by rw[aG (Qh (Pm (PQ q) hp))];exact n
 there:=λb u q _=>⟨u,k b u q⟩
 tups:=λb xs q=>by rw[aG (ba q hn)];exact q
 frzs:=λb u xs q=>by rw[aG (ba q hn)];exact q
 tbls:=λb ps q=>⟨#[],by rw[aG (ba q hn),q];simp⟩
def Un.write(mu:M4 (H x))(he:e=x∨H e=some (.own x))(k:∀b u,b≠e->h.get? b=some u->h'.get? b=some u)(heo:∃u,h'.get? e=some u):Un fs ex H (upd H x o) h h':=by
 have hx:∀b,H b=none->b≠x:=λb n z=>by subst z;rw[n]at mu;exact mu
 have hb:∀b,H b=none->b≠e:=λb n z=>by
  subst z;rcases he with r|r
  .exact hx b n r
  .rw[n]at r;cases r
 have hm:∀b u,H b=some u->¬M4 (some u)->b≠x:=λb u q nm z=>by subst z;rw[q]at mu;exact nm mu
 refine⟨λb u q n _ _=>k b u (hb b n) q,λb u q n _ _=>⟨u.slots,k b u (hb b n) q⟩,λb u q n _=>by rw[aG (hx b n)];exact n,λb u q _=>?_,
  λb xs q=>by rw[aG (hm b _ q λz=>z)];exact q,λb u xs q=>by rw[aG (hm b _ q λz=>z)];exact q,λb ps q=>⟨#[],by rw[aG (hm b _ q λz=>z),q];simp⟩⟩
 by_cases hbe:b=e
 .subst hbe;exact heo
 .exact⟨u,k b u hbe q⟩
end
def Na(h:PR)(H:Hp):List Pk:=(Qu h.objs.size).filter λa=>(H a).isSome
def xR(h:PR)(H:Hp):PR:=W.hideAll h (Na h H)
def Ce(h:PR)(H:Hp):(xR h H).objs.size=h.objs.size:=W.hideAll_size _ _
def q9{h:PR}{H:Hp}{b:Pk}{o:Obj}(e:h.get? b=some o)(n:H b=none):(xR h H).get? b=some o :=
 W.hideAll_get _ e λhm=>by
  have q:(H b).isSome=true:=(Ql.mp hm).2;rw[n]at q;simp at q
def GZ{h:PR}{H:Hp}{b:Pk}{o:Obj}(e:(xR h H).get? b=some o):h.get? b=some o/\H b=none:=by
 have e':h.get? b=some o:=W.of_hideAll (Na h H) e;refine⟨e',?_⟩;cases q:H b with
 |none=>rfl
 |some x=>
  have hm:b∈Na h H:=Ql.mpr ⟨Rk.mpr (PQ e'),by simp[q]⟩;have z:(xR h H).get? b=none:=W.hideAll_none (Na h H) hm;rw[z]at e;cases e
structure Mod (K:Ph) (mg:Pq->Option Pb) (base:PR):Prop where
 kin:K.In base
 glob:base.Ns PH mg
 blt:∃mb,base.Ns builtinsNs mb/\∀x:Pq,x≠"__name__"->mb x=bootBuiltins x
 nolimit:base.NoLimit
 sm:∃mm,base.Ns RO mm
 bm:∃(b:Pk) (ob:Obj),mg "__builtins__"=some (.ref b)/\b≠builtinsNs/\base.get? b=some ob/\ob.cls=.type "module"/\ob.dict=some builtinsNs/\ob.data=.plain
structure Cx where
 prog:Qe
 w:Qt
 K:Ph
 mg:Pq->Option Pb
 base:PR
 A:Qs
 N:ce
 sf:Pj
 Ha:Hp
 env:Env
 outer:List Env
 stack:List Env
 ex:List Pk
 fn:Pq->Bool
 calm:Bool
 pn:List (Pk×Obj)
 xe:Pb->Pj->Prop
def zE(l:List Env):List Pk:=l.filterMap (·.frame)
abbrev Cx.fs(X:Cx):List Pk:=zE X.outer
def CC(sc:Sa)(x:Pq):Prop:=sc.names.lookup x=some .local ∨ sc.names.lookup x=some .cell∨sc.names.lookup x=some .free
def Fx(sc:Sa)(x:Pq):Prop:=sc.names.lookup x=some .local ∨ sc.names.lookup x=some .cell
def Oe(env:Env)(h:PR)(m:Pq->Option Pb)(x:Pq)(u:Pb):Prop :=
 (env.kindOf x=some .local /\ m x=some u)∨((env.kindOf x=some .cell∨env.kindOf x=some .free)/\∃c,env.cells.lookup x=some c/\h.IsCell c (some u))
structure Cx.Ok (X:Cx):Prop where
 mod:Mod X.K X.mg X.base
 kind:X.env.scope.kind=.function
 glob:X.env.globals=PH
 blt:X.env.builtins=builtinsNs
 above:X.sf.heap.objs.size<=X.env.locals
 inj:∀x y c,X.env.cells.lookup x=some c->X.env.cells.lookup y=some c->x=y
 has:∀x,(X.env.kindOf x=some .cell∨X.env.kindOf x=some .free)->∃c,X.env.cells.lookup x=some c
 cab:∀x c,X.fn x=true->X.env.cells.lookup x=some c->X.sf.heap.objs.size<=c
 hd:X.calm=true->X.A.handled=none
 frames:X.A.frames=some X.stack
 stk:X.stack=X.outer∨(X.stack=X.env::X.outer/\X.env.frame=some X.env.locals)
 exf:∀b∈X.ex,b≠X.env.locals/\∀x c,X.env.cells.lookup x=some c->c≠b
 bs:∀b o,X.base.get? b=some o->X.sf.heap.get? b=some o/\X.Ha b=none
 bsz:X.base.objs.size<=X.sf.heap.objs.size
 noex:∀b o,X.base.get? b=some o->b∉X.ex
 exfs:∀b∈X.ex,b∉X.fs
 funs:X.sf.heap.FunFrames X.base X.outer
 frf:∀b∈X.fs,X.Ha b=none
 tab:Bm X.K X.Ha
structure Inv (X:Cx) (π:List (Pk×Obj)) (σ:List (Option V)) (H:Hp) (s:Pj):Prop where
 ok:X.Ok
 os:s.os=X.sf.os
 bare:AllBare s.gens
 base:Un X.fs X.ex X.Ha H X.sf.heap s.heap
 loc:∃m,s.heap.Ns X.env.locals m/\∀(i:Nat) (x:Pq) (v:V),X.N[i]?=some x->σ[i]?=some (some v)->CC X.env.scope x->∃u,bh v u/\Oe X.env s.heap m x u
 cell:∀x c,X.env.cells.lookup x=some c->∃v,s.heap.IsCell c v
 free:H X.env.locals=none
 freeC:∀x c,X.env.cells.lookup x=some c->H c=none
 pin:∀p∈X.pn++π,s.heap.get? p.1=some p.2/\H p.1=none/\p.1≠X.env.locals/\p.1∉X.fs/\∀v,p.2.data≠.cell v
 hok:ji X.prog X.w H s.heap
 len:σ.length=X.N.length
section
variable {X:Cx}{π:List (Pk×Obj)}{σ:List (Option V)}{H H':Hp}{s:Pj}{h':PR}
def Cx.Ok.nofr(ok:X.Ok){b:Pk}{o:Obj}(e:X.base.get? b=some o):b∉X.fs:=λhb=>by
 have:=(ok.funs.mem hb).1;rw[e]at this;cases this
def Inv.bs(I:Inv X π σ H s):∀b o,X.base.get? b=some o->s.heap.get? b=some o/\H b=none:=λb o e=>
 ⟨I.base.keep b o (I.ok.bs b o e).1 (I.ok.bs b o e).2 (I.ok.nofr e) (I.ok.noex b o e),I.base.free b o (I.ok.bs b o e).1 (I.ok.bs b o e).2 (I.ok.noex b o e)⟩
def Inv.bk(I:Inv X π σ H s):∀b o,X.base.get? b=some o->s.heap.get? b=some o:=λb o e=>(I.bs b o e).1
def Inv.mod(I:Inv X π σ H s):Mod X.K X.mg X.base:=I.ok.mod
def Inv.kIn(I:Inv X π σ H s):X.K.In s.heap:=I.ok.mod.kin.keeps I.bk
def Inv.lt(I:Inv X π σ H s):X.env.locals<s.heap.objs.size:=let ⟨_,hn,_⟩:=I.loc;hn.lt
def Inv.sz(I:Inv X π σ H s):X.sf.heap.objs.size<=s.heap.objs.size:=Pu I.ok.above (R7 I.lt)
def Inv.nofs(I:Inv X π σ H s){a:Pk}(h:s.heap.objs.size<=a):a∉X.fs:=λhb=>by
 obtain⟨_,o,ho,_⟩:=I.ok.funs.mem hb;exact absurd (Pm (PQ ho) (Pu I.sz h)) (RH _)
def Inv.cne(I:Inv X π σ H s):∀x c,X.env.cells.lookup x=some c->c≠X.env.locals:=λx c e z=>by
 obtain⟨v,o,ho,hd⟩:=I.cell x c e;obtain⟨m,⟨o',es,ep,ho',hd',_⟩,_⟩:=I.loc;rw[z,ho']at ho;cases ho;rw[hd']at hd;cases hd
def Inv.funs(I:Inv X π σ H s):s.heap.FunFrames X.base X.outer:=by
 have all:∀(l:List Env),(∀b∈zE l,b∈X.fs)->X.sf.heap.FunFrames X.base l->s.heap.FunFrames X.base l:=by
  intro l
  induction l with
  |nil=>intro _ _;trivial
  |cons env r ih=>
   intro hs hl;obtain⟨hk,⟨L,o,hf,hn,ho,hd⟩,hr⟩:=hl;have hL:L∈X.fs:=hs L (by unfold zE;rw[QU,hf];exact Pf);obtain⟨sl,e⟩:=I.base.slot L o ho (I.ok.frf L hL) hL λz=>I.ok.exfs L z hL;exact⟨hk,⟨L,_,hf,hn,e,hd⟩,ih (λb hb=>hs b (by unfold zE;rw[QU,hf];exact Pc _ hb)) hr⟩
 exact all X.outer (λ_ hb=>hb) I.ok.funs
def Inv.stack(I:Inv X π σ H s):s.heap.FunFrames X.base X.stack:=by
 rcases I.ok.stk with e|⟨e,hf⟩
 .rw[e];exact I.funs
 .rw[e]
  obtain⟨m,hn,_⟩:=I.loc;refine .cons (by rw[I.ok.kind];decide) hf hn ?_ I.funs;exact UZ (Pu I.ok.bsz I.ok.above)
def Inv.stkSub(I:Inv X π σ H s):∀b∈zE X.stack,b∈X.env.locals::X.fs:=λb hb=>by
 rcases I.ok.stk with e|⟨e,hf⟩
 .rw[e]at hb;exact Pc _ hb
 .rw[e]at hb
  unfold zE at hb;rw[QU,hf]at hb;exact hb
def Inv.stkFree(I:Inv X π σ H s):∀b∈zE X.stack,H b=none:=λb hb=>by
 rcases Pr.mp (I.stkSub b hb) with e|hb
 .rw[e];exact I.free
 .obtain⟨_,o,ho,_⟩:=I.ok.funs.mem hb
  exact I.base.free b o ho (I.ok.frf b hb) λz=>I.ok.exfs b z hb
def Inv.step{g':Array GenState}{t':Nat}{d':Drawn}{ch:List Pk}(I:Inv X π σ H s)
  (hch:∀b∈ch,(b∈X.ex∨X.sf.heap.objs.size<=b)/\b≠X.env.locals/\(∀x c,X.env.cells.lookup x=some c->c≠b)/\∀p∈X.pn++π,p.1≠b)
  (keep:∀b o,b≠X.env.locals->b∉X.fs->b∉ch->s.heap.get? b=some o->H b=none->h'.get? b=some o)
  (slot:∀b o,b≠X.env.locals->b∈X.fs->b∉ch->s.heap.get? b=some o->H b=none->∃sl,h'.get? b=some { o with slots:=sl })(free:∀b o,b∉ch->s.heap.get? b=some o->H b=none->H' b=none)
  (there:∀b o,b∉ch->s.heap.get? b=some o->∃o',h'.get? b=some o')
  (tups:∀b xs,H b=some (.tup xs)->H' b=some (.tup xs))(frzs:∀b o u,H b=some (.frz o u)->H' b=some (.frz o u))(tbls:∀b ps,H b=some (.tbl ps)->∃more,H' b=some (.tbl (ps++more)))
  (ns:∀m,s.heap.Ns X.env.locals m->h'.Ns X.env.locals m)(hok:ji X.prog X.w H' h')(hg:AllBare g') :
  Inv X π σ H' { s with heap:=h',gens:=g',drawn:=d',toks:=t' }:=by
 have neL:∀b o,X.sf.heap.get? b=some o->b≠X.env.locals:=λb o e=>Qh (Pm (PQ e) I.ok.above);have neC:∀b o,X.sf.heap.get? b=some o->b∉X.ex->b∉ch:=λb o e hx hb=>by
  rcases(hch b hb).1 with z|z
  .exact hx z
  .exact absurd (Pm (PQ e) z) (RH _)
 have cellK:∀x c,X.env.cells.lookup x=some c->∀v,s.heap.IsCell c v->h'.IsCell c v:=λx c e v z9=>by
  obtain⟨o,ho,hd⟩:=z9;have nch:c∉ch:=λz=>(hch c z).2.2.1 x c e rfl
  by_cases hc:c∈X.fs
  .obtain⟨sl,q⟩:=slot c o (I.cne x c e) hc nch ho (I.freeC x c e)
   exact⟨_,q,hd⟩
  .exact⟨o,keep c o (I.cne x c e) hc nch ho (I.freeC x c e),hd⟩
 refine⟨I.ok,I.os,hg,⟨λb o e n hb hx=>?_,λb o e n hb hx=>?_,λb o e n hx=>?_,λb o e hx=>?_,λb xs e=>tups b xs (I.base.tups b xs e),λb o xs e=>frzs b o xs (I.base.frzs b o xs e),λb ps e=>?_⟩,?_,λx c e=>?_,?_,λx c e=>?_,λp hp=>?_,hok,I.len⟩
 .exact keep b o (neL b o e) hb (neC b o e hx) (I.base.keep b o e n hb hx) (I.base.free b o e n hx)
 .obtain⟨sl,e1⟩:=I.base.slot b o e n hb hx
  obtain⟨sl',e2⟩:=slot b _ (neL b o e) hb (neC b o e hx) e1 (I.base.free b o e n hx);exact⟨sl',e2⟩
 .obtain⟨o',e1⟩:=I.base.there b o e hx
  exact free b o' (neC b o e hx) e1 (I.base.free b o e n hx)
 .obtain⟨o',e1⟩:=I.base.there b o e hx
  exact there b o' (neC b o e hx) e1
 .obtain⟨m1,e1⟩:=I.base.tbls b ps e
  obtain⟨m2,e2⟩:=tbls b _ e1;exact⟨m1++m2,by rw[e2,Array.append_assoc]⟩
 .obtain⟨m,hn,hl⟩:=I.loc
  refine⟨m,ns m hn,λi x v e1 e2 e3=>?_⟩;obtain⟨u,r,l⟩:=hl i x v e1 e2 e3;refine⟨u,r,?_⟩;rcases l with l|⟨k,c,e,z⟩
  .exact .inl l
  .exact .inr ⟨k,c,e,cellK x c e _ z⟩
 .obtain⟨v,z⟩:=I.cell x c e
  exact⟨v,cellK x c e v z⟩
 .obtain⟨m,⟨o,_,_,ho,_⟩,_⟩:=I.loc
  exact free _ o (λz=>(hch _ z).2.1 rfl) ho I.free
 .obtain⟨v,o,ho,hd⟩:=I.cell x c e
  exact free c o (λz=>(hch c z).2.2.1 x c e rfl) ho (I.freeC x c e)
 .obtain⟨e,n,ne,nf,d⟩:=I.pin p hp
  have nch:p.1∉ch:=λz=>(hch p.1 z).2.2.2 p hp rfl;exact⟨keep p.1 p.2 ne nf nch e n,free p.1 p.2 nch e n,ne,nf,d⟩
def Inv.un{t':Nat}(I:Inv X π σ H s)(u:Un X.fs [] H H' s.heap h')(hok:ji X.prog X.w H' h'):Inv X π σ H' { s with heap:=h',toks:=t' }:=by
 obtain⟨m,⟨o,es,ep,ho,r⟩,_⟩:=id I.loc;obtain⟨sl,hL⟩:=u.any ho I.free (by simp);exact I.step (g':=s.gens) (d':=s.drawn) (ch:=[]) (λ_ z=>nomatch z) (λb o _ hb _ e n=>u.keep b o e n hb (by simp)) (λb o _ hb _ e n=>u.slot b o e n hb (by simp)) (λb o _ e n=>u.free b o e n (by simp)) (λb o _ e=>u.there b o e (by simp)) u.tups u.frzs u.tbls (λm' hm=>by
  obtain⟨o',es',ep',ho',r'⟩:=hm;rw[ho]at ho';cases ho';exact⟨_,es',ep',hL,r'⟩) hok I.bare
def Inv.call{g':Array GenState}{t':Nat}{d':Drawn}{ch:List Pk}(I:Inv X π σ H s)(u:Un (zE X.stack) ch H H' s.heap h')(hok:ji X.prog X.w H' h')(hg:AllBare g')
  (hch:∀b∈ch,(b∈X.ex∨X.sf.heap.objs.size<=b)/\b≠X.env.locals/\(∀x c,X.env.cells.lookup x=some c->c≠b)/\∀p∈X.pn++π,p.1≠b) :
  Inv X π σ H' { s with heap:=h',gens:=g',drawn:=d',toks:=t' }:=by
 obtain⟨m,⟨o,es,ep,ho,r⟩,_⟩:=id I.loc;obtain⟨sl,hL⟩:=u.any ho I.free λz=>(hch _ z).2.1 rfl;exact I.step (ch:=ch) hch (λb o hL hb hc e n=>u.keep b o e n (λz=>(Pr.mp (I.stkSub b z)).elim hL hb) hc) (λb o _ _ hc e n=>u.any e n hc) (λb o hc e n=>u.free b o e n hc) (λb o hc e=>u.there b o e hc) u.tups u.frzs u.tbls (λm' hm=>by
  obtain⟨o',es',ep',ho',r'⟩:=hm;rw[ho]at ho';cases ho';exact⟨_,es',ep',hL,r'⟩) hok hg
def Inv.turned{t':Nat}{it:Pk}(I:Inv X π σ H s)(k:∀b o,b≠it->s.heap.get? b=some o->h'.get? b=some o)(hn:H it=none)(hL:it≠X.env.locals)
  (h1:it∈X.ex∨X.sf.heap.objs.size<=it)(h2:∀x c,X.env.cells.lookup x=some c->c≠it)(h3:∀p∈X.pn++π,p.1≠it):Inv X π σ H { s with heap:=h',toks:=t' }:=by
 have nit:∀b u,H b=some u->b≠it:=λb u e z=>by rw[z,hn]at e;cases e
 refine I.step (g':=s.gens) (d':=s.drawn) (ch:=[it]) (λb hb=>?_) (λb o _ _ hc e _=>k b o (λz=>hc (by simp[z])) e) (λb o _ _ hc e _=>⟨o.slots,k b o (λz=>hc (by simp[z])) e⟩) (λ_ _ _ _ n=>n)
  (λb o hc e=>⟨o,k b o (λz=>hc (by simp[z])) e⟩) (λ_ _ e=>e) (λ_ _ _ e=>e) (λb ps e=>⟨#[],by rw[e];simp⟩) (λm hm=>?_) (λb u e=>?_) I.bare
 .have e:b=it:=by simpa using hb
  subst e;exact⟨h1,hL,h2,h3⟩
 .obtain⟨o,es,ep,ho,r⟩:=hm
  exact⟨o,es,ep,k _ o (QB hL) ho,r⟩
 .refine(I.hok b u e).stay (λc v hc q=>k c v ?_ q) (λ_ q=>q) (λ_ _ q=>q) λ_ _ q=>q
  rcases hc with z|z
  .rw[z];exact nit b u e
  .exact nit c _ z
def Inv.tok(I:Inv X π σ H s)(t:Nat):Inv X π σ H { s with toks:=t }:=I.un (h':=s.heap) (t':=t) Un.refl I.hok
def Inv.kept{t':Nat}(I:Inv X π σ H s)(k:∀b u,s.heap.get? b=some u->h'.get? b=some u):Inv X π σ H { s with heap:=h',toks:=t' }:=I.un (Un.kept k) (I.hok.kept k)
def Inv.laid{a:Pk}{o:HO}{t':Nat}(I:Inv X π σ H s)(k:∀b u,s.heap.get? b=some u->h'.get? b=some u)(hp:s.heap.objs.size<=a)(new:cT X.prog X.w (upd H a o) h' a o) :
  Inv X π σ (upd H a o) { s with heap:=h',toks:=t' }:=I.un (Un.laid k hp (I.hok.fresh hp)) (I.hok.laid k hp new)
def Inv.write{x e:Pk}{o:HO}{t':Nat}(I:Inv X π σ H s)(mu:M4 (H x))(he:e=x∨H e=some (.own x))(k:∀b u,b≠e->s.heap.get? b=some u->h'.get? b=some u)(heo:∃u,h'.get? e=some u)
  (new:cT X.prog X.w (upd H x o) h' x o):Inv X π σ (upd H x o) { s with heap:=h',toks:=t' }:=I.un (Un.write mu he k heo) (I.hok.write mu he k heo new)
def Inv.pins_of{pins':List (Pk×Obj)}(I:Inv X π σ H s)(h:∀p∈pins',s.heap.get? p.1=some p.2/\H p.1=none/\p.1≠X.env.locals/\p.1∉X.fs/\∀v,p.2.data≠.cell v):Inv X pins' σ H s :=
 ⟨I.ok,I.os,I.bare,I.base,I.loc,I.cell,I.free,I.freeC,λp hp=>(Pz.mp hp).elim (λz=>I.pin p (Qk _ z)) (h p),I.hok,I.len⟩
def xx{N:ce}(hN:N.Nodup){i j:Nat}{x:Pq}(a:N[i]?=some x)(b:N[j]?=some x):i=j:=by
 obtain⟨h1,e1⟩:=Po.mp a;obtain⟨h2,e2⟩:=Po.mp b;exact(Tb hN).mp (e1.trans e2.symm)
def uA{M:Model}{A:Qs}{E:Pb->Pj->Prop}{i:Nat}{x:Pq}{v:V}{u:Pb}{Q:Unit->Pj->Prop}(I:Inv X π σ H s)(hN:X.N.Nodup)(hi:X.N[i]?=some x)(hx:Fx X.env.scope x)(r:bh v u)
  (h:∀s',Inv X π (σ.set i (some v)) H s'->(∃a,SV a s.heap s'.heap/\(a=X.env.locals∨X.env.cells.lookup x=some a))->Q () s')(hf:X.fn x=true∨X.env.scope.names.lookup x=some .local := by first|exact .inl rfl|exact .inr rfl|assumption):P5 M A (storeName X.env x u) Q E s:=by
 obtain⟨m,hn,hl⟩:=id I.loc;have hcls:(X.env.scope.kind==.class||(X.env.scope.kind==.module&&X.env.locals != X.env.globals))=false:=by rw[I.ok.kind];rfl
 have hiσ:i<σ.length:=by rw[I.len];exact(Po.mp hi).1
 have cne:=I.cne;have tracked:∀{a:Pk}{h':PR},(∃o,s.heap.get? a=some o/\H a=none)->SV a s.heap h'->ji X.prog X.w H h':=λ{a h'} ha hs b ob e=>by
  obtain⟨_,_,hfree⟩:=ha;refine(I.hok b ob e).stay (λc w' hc q=>(hs.2 c ?_).trans q) (λ_ q=>q) (λ_ _ q=>q) λ_ _ q=>q;rintro rfl;rcases hc with rfl|hc
  .rw[hfree]at e;cases e
  .rw[hfree]at hc;cases hc
 rcases hx with hk|hk
 .refine wpAny_storeName_local hk hn (λh' hn' hs=>?_) hcls
  obtain⟨oL,_,_,hoL,_⟩:=id hn;refine h _ ⟨I.ok,I.os,I.bare,⟨λb o e n hb hx=>?_,λb o e n hb hx=>?_,I.base.free,λb o e hx=>?_,I.base.tups,I.base.frzs,I.base.tbls⟩,⟨_,hn',λj y v' e1 e2 e3=>?_⟩,λy c e=>?_,I.free,I.freeC,λp hp=>?_,tracked ⟨oL,hoL,I.free⟩ hs,by simpa using I.len⟩ ⟨_,hs,.inl rfl⟩
  .exact(hs.2 b (Qh (Pm (PQ e) I.ok.above))).trans (I.base.keep b o e n hb hx)
  .obtain⟨sl,e1⟩:=I.base.slot b o e n hb hx
   exact⟨sl,(hs.2 b (Qh (Pm (PQ e) I.ok.above))).trans e1⟩
  .obtain⟨o',e1⟩:=I.base.there b o e hx
   exact⟨o',(hs.2 b (Qh (Pm (PQ e) I.ok.above))).trans e1⟩
  .by_cases hj:j=i
   .subst hj
    rw[hi]at e1;cases e1;rw[Qj hiσ]at e2;cases e2;exact⟨u,r,.inl ⟨hk,by simp⟩⟩
   .rw[PB (QB hj)]at e2
    obtain⟨u',r',q⟩:=hl j y v' e1 e2 e3;refine⟨u',r',?_⟩;rcases q with⟨k,e⟩|⟨k,c,e,z⟩
    .refine .inl ⟨k,?_⟩
     have:y≠x:=λe=>hj (xx hN e1 (e▸hi));simp[this,e]
    .exact .inr ⟨k,c,e,z.sameBut hs (cne y c e)⟩
  .obtain⟨w',z⟩:=I.cell y c e
   exact⟨w',z.sameBut hs (cne y c e)⟩
  .obtain⟨e,n,ne,nf,d⟩:=I.pin p hp
   exact⟨(hs.2 p.1 ne).trans e,n,ne,nf,d⟩
 .have hfn:X.fn x=true:=by
   rcases hf with z|z
   .exact z
   .rw[z]at hk;cases hk
  obtain⟨c,hc⟩:=I.ok.has x (.inl hk);obtain⟨w',z⟩:=I.cell x c hc;refine wpAny_storeName_cell I.ok.kind hk hc z (λh' hc' hs=>?_);obtain⟨oc,hoc,hocd⟩:=id z;refine h { s with heap:=h' } ⟨I.ok,I.os,I.bare,⟨λb o e n hb hx=>?_,λb o e n hb hx=>?_,I.base.free,λb o e hx=>?_,I.base.tups,I.base.frzs,I.base.tbls⟩,⟨m,hn.sameBut hs (QB (cne x c hc)),λj y v' e1 e2 e3=>?_⟩,λy c' e=>?_,I.free,I.freeC,λp hp=>?_,tracked ⟨oc,hoc,I.freeC x c hc⟩ hs,by simpa using I.len⟩ ⟨c,hs,.inr hc⟩
  .exact(hs.2 b (Qh (Pm (PQ e) (I.ok.cab x c hfn hc)))).trans (I.base.keep b o e n hb hx)
  .obtain⟨sl,e1⟩:=I.base.slot b o e n hb hx
   exact⟨sl,(hs.2 b (Qh (Pm (PQ e) (I.ok.cab x c hfn hc)))).trans e1⟩
  .obtain⟨o',e1⟩:=I.base.there b o e hx
   exact⟨o',(hs.2 b (Qh (Pm (PQ e) (I.ok.cab x c hfn hc)))).trans e1⟩
  .by_cases hj:j=i
   .subst hj
    rw[hi]at e1;cases e1;rw[Qj hiσ]at e2;cases e2;exact⟨u,r,.inr ⟨.inl hk,c,hc,hc'⟩⟩
   .rw[PB (QB hj)]at e2
    obtain⟨u',r',q⟩:=hl j y v' e1 e2 e3;refine⟨u',r',?_⟩;rcases q with q|⟨k,c',e,z'⟩
    .exact .inl q
    .refine .inr ⟨k,c',e,z'.sameBut hs ?_⟩
     rintro rfl;exact hj (xx hN e1 (I.ok.inj _ _ _ e hc▸hi))
  .by_cases hcc:c'=c
   .subst hcc;exact⟨_,hc'⟩
   .obtain⟨w2,z2⟩:=I.cell y c' e
    exact⟨w2,z2.sameBut hs hcc⟩
  .obtain⟨e,n,ne,nf,d⟩:=I.pin p hp
   refine⟨(hs.2 p.1 ?_).trans e,n,ne,nf,d⟩;intro q;rw[q,hoc]at e;have q':oc=p.2:=QF e;exact d w' (by rw[←q'];exact hocd)
def mh{M:Model}{A:Qs}{E:Pb->Pj->Prop}{i:Nat}{x:Pq}{v:V}{u:Pb}{Q:Unit->Pj->Prop}(I:Inv X π σ H s)(hN:X.N.Nodup)(hi:X.N[i]?=some x)(hx:Fx X.env.scope x)(r:bh v u)
  (h:∀s',Inv X π (σ.set i (some v)) H s'->Q () s')(hf:X.fn x=true∨X.env.scope.names.lookup x=some .local := by first|exact .inl rfl|exact .inr rfl|assumption):P5 M A (storeName X.env x u) Q E s :=
 uA I hN hi hx r (λs' I' _=>h s' I') hf
def Inv.call'{s':Pj}{ch:List Pk}(I:Inv X π σ H s)(ho:s'.os=s.os)(u:Un (zE X.stack) ch H H' s.heap s'.heap)(hok:ji X.prog X.w H' s'.heap)(hg:AllBare s'.gens)
  (hch:∀b∈ch,(b∈X.ex∨X.sf.heap.objs.size<=b)/\b≠X.env.locals/\(∀x c,X.env.cells.lookup x=some c->c≠b)/\∀p∈X.pn++π,p.1≠b):Inv X π σ H' s':=by
 obtain⟨h',g',d',t',o'⟩:=s';have e:o'=s.os:=ho;subst e;exact I.call (g':=g') (t':=t') (d':=d') u hok hg hch
end
abbrev XK:=Pb->Option Pk->Hp->Prop
abbrev St:=List (Option V)
abbrev VK:=V->Hp->Prop
abbrev TE:=St->Hp->VK->Prop
abbrev TT:=St->Hp->(Bool->Hp->Prop)->Prop
abbrev TA:=St->Hp->(ad->Hp->Prop)->Prop
structure jg where
 nx:St->Hp->Prop
 rt:VK
 bk:St->Hp->Prop:=λ_ _=>False
 ct:St->Hp->Prop:=λ_ _=>False
abbrev TS:=jg->St->Hp->Prop
def EP(X:Cx)(π:List (Pk×Obj))(σ:St)(Q:VK)(u:Pb)(s':Pj):Prop:=∃v H',Inv X π σ H' s'/\bh v u/\Q v H'
def TP(X:Cx)(π:List (Pk×Obj))(σ:St)(Q:Bool->Hp->Prop)(b:Bool)(s':Pj):Prop:=∃H',Inv X π σ H' s'/\Q b H'
def AP(X:Cx)(π:List (Pk×Obj))(σ:St)(Q:ad->Hp->Prop)(us:List Pb)(s':Pj):Prop:=∃vs H',Inv X π σ H' s'/\aY vs us/\Q vs H'
noncomputable def SP(X:Cx) (π:List (Pk×Obj)) (D:jg) (f:Flow) (s':Pj):Prop :=
 match f with
 |.next=>∃σ' H',Inv X π σ' H' s'/\D.nx σ' H'
 |.brk=>∃σ' H',Inv X π σ' H' s'/\D.bk σ' H'
 |.cont=>∃σ' H',Inv X π σ' H' s'/\D.ct σ' H'
 |.ret u=>∃v σ' H',Inv X π σ' H' s'/\bh v u/\D.rt v H'
def PE(X:Cx)(e:Qa)(t:TE):Prop :=
 ∀(π:List (Pk×Obj)) (s:Pj) (σ:St) (H:Hp) (Q:VK),Inv X π σ H s->t σ H Q->P5 (PX X.prog X.w) X.A (eval e X.env) (EP X π σ Q) X.xe s
def PT(X:Cx)(e:Qa)(t:TT):Prop :=
 ∀(π:List (Pk×Obj)) (s:Pj) (σ:St) (H:Hp) (Q:Bool->Hp->Prop),Inv X π σ H s->t σ H Q->P5 (PX X.prog X.w) X.A (isTrue e X.env (eval e X.env)) (TP X π σ Q) X.xe s
def PW(X:Cx)(e:Qa)(t:TT):Prop :=
 ∀(whole:Sem Pb) (π:List (Pk×Obj)) (s:Pj) (σ:St) (H:Hp) (Q:Bool->Hp->Prop),Inv X π σ H s->t σ H Q->P5 (PX X.prog X.w) X.A (isTrue e X.env whole) (TP X π σ Q) X.xe s
def PW.pt{X:Cx}{e:Qa}{t:TT}(h:PW X e t):PT X e t:=h _
def PA(X:Cx)(es:List Qa)(t:TA):Prop :=
 ∀(pos:Pos) (π:List (Pk×Obj)) (s:Pj) (σ:St) (H:Hp) (Q:ad->Hp->Prop),Inv X π σ H s->t σ H Q->P5 (PX X.prog X.w) X.A (spliced (Rj pos (PD es X.env))) (AP X π σ Q) X.xe s
def PS(X:Cx)(st:Rv)(t:TS):Prop :=
 ∀(π:List (Pk×Obj)) (s:Pj) (σ:St) (H:Hp) (D:jg),Inv X π σ H s->t D σ H->P5 (PX X.prog X.w) X.A (exec st X.env) (SP X π D) X.xe s
def yI(X:Cx)(st:List Rv)(t:TS):Prop :=
 ∀(π:List (Pk×Obj)) (s:Pj) (σ:St) (H:Hp) (D:jg),Inv X π σ H s->t D σ H->P5 (PX X.prog X.w) X.A (execs st X.env) (SP X π D) X.xe s
def cJ{α:Type}{t:Sem α}{Q Q':α->Pj->Prop}{M:Model}{A:Qs}{E:Pb->Pj->Prop}{s:Pj}(h:P5 M A t Q E s)(hQ:∀a s,Q a s->Q' a s):P5 M A t Q' E s:=Rn h hQ λ_ _ x=>x
section
variable {X:Cx}
def Np(i:Nat):TE:=λσ H Q=>∃v,σ[i]?=some (some v)/\Q v H
def tC(v:V):TE:=λ_ H Q=>Q v H
def ka{i:Nat}{x:Pq}{pos:Pos}(hN:X.N[i]?=some x)(hv:CC X.env.scope x)(hd:(x==("__debug__" : Pq))=false:=by decide)(hcd:(x==("__classdict__" : Pq))=false:=by decide):PE X (.Name x pos) (Np i):=by
 intro π s σ H Q I h;obtain⟨v,e,h⟩:=h;obtain⟨m,hn,hl⟩:=I.loc;obtain⟨u,r,l⟩:=hl i x v hN e hv;have fin:EP X π σ Q u s:=⟨v,H,I,r,h⟩
 rcases l with⟨hk,hm⟩|⟨hk,c,hc,hcell⟩
 .exact wpAny_Name (wpAny_loadName_local I.ok.kind hk hn hm fin) hd
 .rcases hk with hk|hk
  .exact wpAny_Name (wpAny_loadName_cell I.ok.kind hk hc hcell fin) hd
  .exact wpAny_Name (wpAny_loadName_free I.ok.kind hk hc hcell fin hcd) hd
def JU{i j pos}:PE X (.Constant (.int i) j pos) (tC (.int i)):=λ_ _ _ H _ I h=>wpAny_Constant_int ⟨.int i,H,I.tok _,⟨_,rfl⟩,h⟩
def Ml{b j pos}:PE X (.Constant (.bool b) j pos) (tC (.bl b)):=λ_ _ _ H _ I h=>Constant_bool ⟨.bl b,H,I,rfl,h⟩
def JT{j pos}:PE X (.Constant .none j pos) (tC .non):=λ_ _ _ H _ I h=>Constant_none ⟨.non,H,I,rfl,h⟩
def JQ{x j pos}:PE X (.Constant (.str x) j pos) (tC (.str x)):=λ_ _ _ H _ I h=>Calls.Constant_str ⟨.str x,H,I.tok _,⟨_,rfl⟩,h⟩
def Gl(X:Cx)(x:Pq):Prop:=X.env.kindOf x=some .globalImplicit
def pR{E:Pb->Pj->Prop}{π:List (Pk×Obj)}{s:Pj}{σ:St}{H:Hp}{x:Pq}{u:Pb}{pos:Pos}{Q:Pb->Pj->Prop}(I:Inv X π σ H s)(hg:Gl X x)(hm:X.mg x=some u)(h:Q u s)
  (hd:(x==("__debug__" : Pq))=false:=by decide):P5 (PX X.prog X.w) X.A (eval (.Name x pos) X.env) Q E s :=
 Uj I.ok.kind hg (Calls.loadGlobal_global (by rw[I.ok.glob];exact I.mod.glob.keeps I.bk) hm h) hd
def oj{E:Pb->Pj->Prop}{π:List (Pk×Obj)}{s:Pj}{σ:St}{H:Hp}{x:Pq}{u:Pb}{pos:Pos}{Q:Pb->Pj->Prop}(I:Inv X π σ H s)(hg:Gl X x)(hm:X.mg x=none)(hv:bootBuiltins x=some u)(h:Q u s)
  (hn:x≠"__name__":=by decide)(hd:(x==("__debug__" : Pq))=false:=by decide):P5 (PX X.prog X.w) X.A (eval (.Name x pos) X.env) Q E s:=by
 obtain⟨mb,h1,h2⟩:=I.mod.blt;exact Uj I.ok.kind hg (Calls.loadGlobal_builtin (by rw[I.ok.glob];exact I.mod.glob.keeps I.bk) hm (by rw[I.ok.blt];exact h1.keeps I.bk) ((h2 x hn).trans hv) h) hd
def GJ{x:Pq}{v:V}{u:Pb}{pos:Pos}(hg:Gl X x)(hm:X.mg x=some u)(r:bh v u)(hd:(x==("__debug__" : Pq))=false:=by decide):PE X (.Name x pos) (tC v) :=
 λ_ _ _ H _ I h=>pR I hg hm ⟨v,H,I,r,h⟩ hd
def GP{x:Pq}{v:V}{u:Pb}{pos:Pos}(hg:Gl X x)(hm:X.mg x=none)(hv:bootBuiltins x=some u)(r:bh v u)(hn:x≠"__name__":=by decide)(hd:(x==("__debug__" : Pq))=false:=by decide):PE X (.Name x pos) (tC v) :=
 λ_ _ _ H _ I h=>oj I hg hm hv ⟨v,H,I,r,h⟩ hn hd
variable {a b:Qa}{ta tb:TE}{pos:Pos}
noncomputable def PC(X:Cx) (op:CmpOp) (a b:Qa) (t:TE):Prop :=
 ∀(π:List (Pk×Obj)) (s:Pj) (σ:St) (H:Hp) (Q:VK),Inv X π σ H s->t σ H Q ->
  P5 (PX X.prog X.w) X.A (eval a X.env) (λv si=>P5 (PX X.prog X.w) X.A (eval b X.env) (λu sj=>P5 (PX X.prog X.w) X.A (Qv op v u) (EP X π σ Q) X.xe sj) X.xe si) X.xe s
def Es(b:Qa){op:CmpOp}(h:op≠.In)(h2:op≠.NotIn):behindInMarks op b=false:=by
 have e1:(op==CmpOp.In)=false:=by cases op<;>first|rfl|exact absurd rfl h
 have e2:(op==CmpOp.NotIn)=false:=by cases op<;>first|rfl|exact absurd rfl h2
 cases b<;>simp[behindInMarks,e1,e2]
def tB(t:TE):TT:=λσ H Q=>t σ H λx H1=>∃c,x=.bl c/\Q c H1
def JE{e:Qa}{t:TE}(h:PE X e t)(he:∀whole,isTrue e X.env whole=(do let v ←whole;standAt e.pos;Tp [v] (truthy v)):=by intro _;rfl):PT X e (tB t):=by
 intro π s σ H Q I hw;refine isTrue_plain (cJ (h π s σ H _ I hw) λv s1 z9=>?_) (he _);obtain⟨x,H1,I1,r1,q1⟩:=z9;obtain⟨d,rfl,q⟩:=q1;cases r1;exact Q1 ⟨H1,I1,q⟩
variable {tA tB':TT}{rest:List Qa}
def ND(t u:TT):TT:=λσ H Q=>t σ H λc H1=>if c=true then u σ H1 Q else Q false H1
def OL(t u:TT):TT:=λσ H Q=>t σ H λc H1=>if c=true then Q true H1 else u σ H1 Q
def Nw(t:TT):TT:=λσ H Q=>t σ H λc H1=>Q (!c) H1
def Gu(ha:PT X a tA):PW X (.BoolOp .And [a] pos) tA:=by
 intro wh π s σ H Q I h;refine isTrue_and (cJ (ha π s σ H Q I h) λc s1 e=>?_);cases c with|true=>exact isTrue_and_nil e|false=>exact e
def JC(ha:PT X a tA):PW X (.BoolOp .Or [a] pos) tA:=by
 intro wh π s σ H Q I h;refine isTrue_or (cJ (ha π s σ H Q I h) λc s1 e=>?_);cases c with|false=>exact isTrue_or_nil e|true=>exact e
def JD(ha:PT X a tA)(hb:PW X (.BoolOp .And (b::rest) pos) tB'):PW X (.BoolOp .And (a::b::rest) pos) (ND tA tB'):=by
 intro wh π s σ H Q I h;refine isTrue_and (cJ (ha π s σ H _ I h) λc s1 z9=>?_);obtain⟨H1,I1,q1⟩:=z9;cases c with|true=>exact hb wh π s1 σ H1 Q I1 q1|false=>exact⟨H1,I1,q1⟩
def Me(ha:PT X a tA)(hb:PW X (.BoolOp .Or (b::rest) pos) tB'):PW X (.BoolOp .Or (a::b::rest) pos) (OL tA tB'):=by
 intro wh π s σ H Q I h;refine isTrue_or (cJ (ha π s σ H _ I h) λc s1 z9=>?_);obtain⟨H1,I1,q1⟩:=z9;cases c with|true=>exact⟨H1,I1,q1⟩|false=>exact hb wh π s1 σ H1 Q I1 q1
def JF(ha:PT X a tA):PT X (.UnaryOp .Not a pos) (Nw tA):=by
 intro π s σ H Q I h;exact isTrue_not (ha π s σ H (λc H1=>Q (!c) H1) I h)
def LP(ta tb:TE):TE:=λσ H Q=>ta σ H λx H1=>∃c,x=.bl c/\if c=true then tb σ H1 Q else Q (.bl false) H1
def Nv(ta tb:TE):TE:=λσ H Q=>ta σ H λx H1=>∃c,x=.bl c/\if c=true then Q (.bl true) H1 else tb σ H1 Q
def LG(ta:TE):TE:=λσ H Q=>ta σ H λx H1=>∃c,x=.bl c/\Q (.bl (!c)) H1
def JR{op}{t:TE}(h:PE X a t):PE X (.BoolOp op [a] pos) t:=λπ s σ H Q I hw=>BoolOp_one (h π s σ H Q I hw)
def JW(ha:PE X a ta)(hb:PE X (.BoolOp .And (b::rest) pos) tb):PE X (.BoolOp .And (a::b::rest) pos) (LP ta tb):=by
 intro π s σ H Q I h;refine BoolOp_and (cJ (ha π s σ H _ I h) λv s1 ⟨x,H1,I1,r1,q1⟩=>?_);obtain⟨c,rfl,q1⟩:=q1;cases r1;refine Q1 ?_;cases c with|true=>exact hb π s1 σ H1 Q I1 q1|false=>exact⟨.bl false,H1,I1,rfl,q1⟩
def Mi(ha:PE X a ta)(hb:PE X (.BoolOp .Or (b::rest) pos) tb):PE X (.BoolOp .Or (a::b::rest) pos) (Nv ta tb):=by
 intro π s σ H Q I h;refine BoolOp_or (cJ (ha π s σ H _ I h) λv s1 ⟨x,H1,I1,r1,q1⟩=>?_);obtain⟨c,rfl,q1⟩:=q1;cases r1;refine Q1 ?_;cases c with|false=>exact hb π s1 σ H1 Q I1 q1|true=>exact⟨.bl true,H1,I1,rfl,q1⟩
def JS(ha:PE X a ta):PE X (.UnaryOp .Not a pos) (LG ta):=by
 intro π s σ H Q I h;refine UnaryOp_ (cJ (ha π s σ H _ I h) λv s1 z9=>?_);obtain⟨x,H1,I1,r1,q1⟩:=z9;obtain⟨c,rfl,q1⟩:=q1;cases r1;exact not_of (Q1 ⟨.bl (!c),H1,I1,rfl,q1⟩)
def OM(t:TT)(ta tb:TE):TE:=λσ H Q=>t σ H λc H1=>if c=true then ta σ H1 Q else tb σ H1 Q
def Ee{c:Qa}(hc:PT X c tA)(ha:PE X a ta)(hb:PE X b tb):PE X (.IfExp c a b pos) (OM tA ta tb):=by
 intro π s σ H Q I h;refine wpAny_IfExp (cJ (hc π s σ H _ I h) λd s1 z9=>?_);obtain⟨H1,I1,q1⟩:=z9;cases d with|true=>exact ha π s1 σ H1 Q I1 q1|false=>exact hb π s1 σ H1 Q I1 q1
end
def fk(K:Ph)(H:Hp)(a:Pk)(xs:ad):Prop :=
 Rd H a (.lst xs) ∨
  ∃(o:Obj) (its:Array Pb) (n:Nat),K.lookup a=some o/\o.cls=.type "list"/\o.dict=none/\o.data=.seq its n/\its.size<=sizeLine/\aY xs its.toList
def nV(K:Ph)(H:Hp)(a:Pk)(xs:ad):Prop :=
 Rd H a (.tup xs) ∨
  ∃(o:Obj) (its:Array Pb) (n:Nat),K.lookup a=some o/\o.cls=.type "tuple"/\o.data=.seq its n/\its.size<=sizeLine/\aY xs its.toList
def Oc:Pb->Option V
 |.none=>some .non
 |.bool b=>some (.bl b)
 |.int i _=>some (.int i)
 |.str x _=>some (.str x)
 |.bytes b _=>some (.byt b)
 |.float b _=>some (.flt b)
 |.ref a=>some (.ref a)
 |.type n=>some (.ty n)
 |_=>none
def bh.abs{x:V}{u:Pb}(r:bh x u):Oc u=some x:=by
 cases x with|non|bl _=>cases r;rfl|int _|str _|byt _|flt _=>obtain⟨t,rfl⟩:=r;rfl|ref _|ty _=>cases r;rfl
def bh.inj{x y:V}{u:Pb}(r:bh x u)(q:bh y u):x=y:=QF (r.abs.symm.trans q.abs)
theorem aY.inj:∀{xs ys:ad}{us:List Pb},aY xs us->aY ys us->xs=ys
 |_,_,_,.nil,.nil=>rfl
 |_,_,_,.cons r t,.cons r' t'=>by rw[r.inj r',aY.inj t t']
section
variable {X:Cx}{π:List (Pk×Obj)}{σ:St}{H:Hp}{s:Pj}{a:Pk}{xs ys:ad}
def fk.of{K:Ph}(h:H a=some (.lst xs)):fk K H a xs:=.inl (.inl h)
def nV.of{K:Ph}(h:H a=some (.tup xs)):nV K H a xs:=.inl (.inl h)
def Inv.list(I:Inv X π σ H s)(h:fk X.K H a xs):∃its:List Pb,aY xs its/\PlainL s.heap a its.toArray/\xs.length<=sizeLine:=by
 rcases h with h|⟨o,its,n,hk,hc,hd,hs,hz,r⟩
 .obtain⟨z,its,n,r,e⟩:=h.ok I.hok
  exact⟨its,r,⟨_,n,e,rfl,rfl,rfl⟩,z⟩
 .refine⟨its.toList,r,⟨o,n,I.kIn a o hk,hc,hd,by simpa using hs⟩,?_⟩
  have e:=r.length;simp only[Rp]at e;omega
def Inv.tuple(I:Inv X π σ H s)(h:nV X.K H a xs):∃its:List Pb,aY xs its/\IsTup s.heap a its.toArray/\xs.length<=sizeLine:=by
 rcases h with h|⟨o,its,n,hk,hc,hs,hz,r⟩
 .obtain⟨z,its,r,p⟩:=h.ok I.hok
  exact⟨its,r,p,z⟩
 .refine⟨its.toList,r,⟨o,I.kIn a o hk,hc,n,by simpa using hs⟩,?_⟩
  have e:=r.length;simp only[Rp]at e;omega
def Inv.list_inj(I:Inv X π σ H s)(h:fk X.K H a xs)(h':fk X.K H a ys):xs=ys:=by
 obtain⟨its,r,⟨o,n,e,_,_,d⟩,_⟩:=I.list h;obtain⟨its',r',⟨o',n',e',_,_,d'⟩,_⟩:=I.list h';rw[e]at e';cases e';rw[d]at d';injection d' with d1 _;have:its=its':=by simpa using congrArg TR d1
 subst this;exact r.inj r'
def Inv.tuple_inj(I:Inv X π σ H s)(h:nV X.K H a xs)(h':nV X.K H a ys):xs=ys:=by
 obtain⟨its,r,⟨o,e,_,n,d⟩,_⟩:=I.tuple h;obtain⟨its',r',⟨o',e',_,n',d'⟩,_⟩:=I.tuple h';rw[e]at e';cases e';rw[d]at d';injection d' with d1 _;have:its=its':=by simpa using congrArg TR d1
 subst this;exact r.inj r'
end
abbrev Cx.wish(X:Cx)(E:Pb->Pj->Prop):Cx:={ X with xe:=E }
abbrev Cx.nox(X:Cx):Cx:=X.wish λ_ _=>False
def Cx.Ok.wish{X:Cx}(ok:X.Ok)(E:Pb->Pj->Prop):(X.wish E).Ok :=
 ⟨ok.mod,ok.kind,ok.glob,ok.blt,ok.above,ok.inj,ok.has,ok.cab,ok.hd,ok.frames,ok.stk,ok.exf,ok.bs,ok.bsz,ok.noex,ok.exfs,ok.funs,ok.frf,ok.tab⟩
def Cx.Ok.unwish{X:Cx}{E:Pb->Pj->Prop}(ok:(X.wish E).Ok):X.Ok :=
 ⟨ok.mod,ok.kind,ok.glob,ok.blt,ok.above,ok.inj,ok.has,ok.cab,ok.hd,ok.frames,ok.stk,ok.exf,ok.bs,ok.bsz,ok.noex,ok.exfs,ok.funs,ok.frf,ok.tab⟩
section
variable {X:Cx}{π:List (Pk×Obj)}{σ:St}{H:Hp}{s:Pj}{E:Pb->Pj->Prop}
def Inv.wish(I:Inv X π σ H s)(E:Pb->Pj->Prop):Inv (X.wish E) π σ H s:=⟨I.ok.wish E,I.os,I.bare,I.base,I.loc,I.cell,I.free,I.freeC,I.pin,I.hok,I.len⟩
def Inv.unwish(I:Inv (X.wish E) π σ H s):Inv X π σ H s:=⟨I.ok.unwish,I.os,I.bare,I.base,I.loc,I.cell,I.free,I.freeC,I.pin,I.hok,I.len⟩
def SP.unwish{D:jg}{f:Flow}{s':Pj}(h:SP (X.wish E) π D f s'):SP X π D f s':=by
 cases f with|next|brk|cont=>obtain⟨σ',H',I,q⟩:=h;exact⟨σ',H',I.unwish,q⟩|ret u=>obtain⟨v,σ',H',I,r,q⟩:=h;exact⟨v,σ',H',I.unwish,r,q⟩
def yI.nox{st:List Rv}{t:TS}(h:yI X.nox st t):yI X st t:=λπ s σ H D I hw=>
 Rn (h π s σ H D (I.wish _) hw) (λ_ _ q=>q.unwish) λ_ _ z=>QK z
end
section
variable {X:Cx}{st:Rv}{rest:List Rv}{t u:TS}{e:Qa}{te:TE}{pos:Pos}
def LH:TS:=λD σ H=>D.nx σ H
def Nr(t u:TS):TS:=λD σ H=>t { D with nx:=u D } σ H
def AB:yI X [] LH:=λ_ _ σ H _ I h=>wpAny_execs_nil ⟨σ,H,I,h⟩
def xj(h1:PS X st t)(h2:yI X rest u):yI X (st::rest) (Nr t u):=by
 intro π s σ H D I h;refine wpAny_execs_cons (cJ (h1 π s σ H { D with nx:=u D } I h) λf s1 q=>?_);cases f with
 |next=>
  obtain⟨σ',H',I',q⟩:=q;exact h2 π s1 σ' H' D I' q
 |ret v|brk|cont=>exact q
def Inv.quiet{π:List (Pk×Obj)}{σ:St}{H:Hp}{s:Pj}(I:Inv X π σ H s):interactive X.env=false:=by simp[interactive,I.ok.kind]
def LK(te:TE):TS:=λD σ H=>te σ H λ_ H1=>D.nx σ H1
def AD(he:PE X e te)(hs:Rt e none pos.line X.env=pure false:=by rfl):PS X (.Expr e pos) (LK te):=by
 intro π s σ H D I h;exact wpAny_Expr_any (cJ (he π s σ H _ I h) λv s1 ⟨x,H1,I1,r1,q1⟩=>⟨σ,H1,I1,q1⟩) I.quiet hs
def Nt(te:TE):TS:=λD σ H=>te σ H D.rt
def JG(he:PE X e te):PS X (.Return (some e) pos) (Nt te):=by
 intro π s σ H D I h;exact wpAny_Return_some (cJ (he π s σ H _ I h) λv s1 ⟨x,H1,I1,r1,q1⟩=>⟨x,σ,H1,I1,r1,q1⟩)
def Nz(c:TT)(t u:TS):TS:=λD σ H=>c σ H λb H1=>if b=true then t D σ H1 else u D σ H1
def Mf{c:Qa}{a b:List Rv}{tc:TT}(hc:PT X c tc)(ha:yI X a t)(hb:yI X b u):PS X (.If c a b pos) (Nz tc t u):=by
 intro π s σ H D I h;refine wpAny_If (cJ (hc π s σ H _ I h) λd s1 z9=>?_);obtain⟨H1,I1,q1⟩:=z9;cases d with|true=>exact ha π s1 σ H1 D I1 q1|false=>exact hb π s1 σ H1 D I1 q1
def Jo:TS:=λ_ _ _=>False
def D4:PS X st Jo:=λ_ _ _ _ _ _ h=>h.elim
end
abbrev TG:=V->St->Hp->(St->Hp->Prop)->Prop
abbrev FH:=ad->St->Hp->(St->Hp->Prop)->Prop
noncomputable def PG(X:Cx) (target:Qa) (t:TG):Prop :=
 ∀(π:List (Pk×Obj)) (s:Pj) (σ:St) (H:Hp) (v:V) (u:Pb) (Q:St->Hp->Prop),Inv X π σ H s->bh v u->t v σ H Q ->
  P5 (PX X.prog X.w) X.A (assign target X.env u) (λ_ s'=>∃σ' H',Inv X π σ' H' s'/\Q σ' H') X.xe s
noncomputable def CF(X:Cx) (ts:List Qa) (t:FH):Prop :=
 ∀(π:List (Pk×Obj)) (s:Pj) (σ:St) (H:Hp) (vs:ad) (us:List Pb) (Q:St->Hp->Prop),Inv X π σ H s->aY vs us->t vs σ H Q ->
  P5 (PX X.prog X.w) X.A (assignInOrder ((assignEach ts X.env).map (·.2)) us) (λ_ s'=>∃σ' H',Inv X π σ' H' s'/\Q σ' H') X.xe s
abbrev K9:=V->V->V->Hp->(Hp->Prop)->Prop
noncomputable def M0(X:Cx) (t:K9):Prop :=
 ∀(π:List (Pk×Obj)) (s:Pj) (σ:St) (H:Hp) (o i v:V) (ov iv u:Pb) (Q:Hp->Prop),Inv X π σ H s->bh o ov->bh i iv->bh v u->t o i v H Q ->
  P5 (PX X.prog X.w) X.A (setItem ov iv u) (λ_ s'=>∃H',Inv X π σ H' s'/\Q H') X.xe s
section
variable {X:Cx}{pos:Pos}
def ET(i:Nat):TG:=λv σ H Q=>Q (σ.set i (some v)) H
def AG{i:Nat}{x:Pq}(hN:X.N.Nodup)(hi:X.N[i]?=some x)(hx:Fx X.env.scope x)(hf:X.fn x=true∨X.env.scope.names.lookup x=some .local := by first|exact .inl rfl|exact .inr rfl|assumption):PG X (.Name x pos) (ET i):=by
 intro π s σ H v u Q I r h;exact wpAny_assign_Name (mh I hN hi hx r (λs' I'=>⟨_,H,I',h⟩) hf)
def N0:FH:=λvs σ H Q=>vs=[]/\Q σ H
def MH(t:TG)(u:FH):FH:=λvs σ H Q=>∃v r,vs=v::r/\t v σ H λσ' H'=>u r σ' H' Q
def GG:CF X [] N0:=by
 intro π s σ H vs us Q I r h;obtain⟨e,h⟩:=h;subst e;cases r;exact assignInOrder_nil ⟨σ,H,I,h⟩
def D9{e:Qa}{es:List Qa}{t:TG}{u:FH}(h1:PG X e t)(h2:CF X es u)
  (hs:(assignEach (e::es) X.env).map (·.2)=assign e X.env::(assignEach es X.env).map (·.2):=by rfl):CF X (e::es) (MH t u):=by
 intro π s σ H vs us Q I r h;obtain⟨v,vr,e1,h⟩:=h;subst e1;cases r with
 |cons r rr=>
  rw[hs];refine assignInOrder_cons (cJ (h1 π s σ H _ _ _ I r h) λ_ s1 z9=>?_);obtain⟨σ1,H1,I1,q1⟩:=z9;exact h2 π s1 σ1 H1 _ _ Q I1 rr q1
def NY(K:Ph)(n:Nat)(t:FH):TG:=λv σ H Q=>∃a xs,v=.ref a/\nV K H a xs/\xs.length=n/\t xs σ H Q
def JL{es:List Qa}{k:Nat}{t:FH}{n:Nat}(hc:X.calm=true)(h:CF X es t)
  (hn:(assignEach es X.env).length=n:=by rfl)(hst:(assignEach es X.env).findIdx? (·.1)=none:=by rfl):PG X (.Tuple es k pos) (NY X.K n t):=by
 intro π s σ H v u Q I r hw;obtain⟨a,xs,e1,hq,hl,hw⟩:=hw;subst e1;cases r;obtain⟨its,rv,ht,hz⟩:=I.tuple hq;refine assign_Tuple_tuple (I.ok.hd hc) ht (by simp[hn,←hl,rv.length]) hst λh' hx=>?_;have I1:Inv X π σ H { s with heap:=h' }:=I.kept (t':=s.toks) λb o e=>hx b o (Qh (PQ e)) e;exact h π _ σ H xs _ Q I1 (by simpa using rv) hw
def NZ(to ti:TE)(t:K9):TG:=λv σ H Q=>to σ H λo H1=>ti σ H1 λi H2=>t o i v H2 λH3=>Q σ H3
def JM{o i:Qa}{to ti:TE}{t:K9}(ho:PE X o to)(hi:PE X i ti)(hs:M0 X t)
  (ha:∀v,assign (.Subscript o i pos) X.env v=(do
   let ov ←Tp [v] (eval o X.env)
   let iv ←Tp [v,ov] (eval i X.env)
   standAt pos
   Tp [v,ov,iv] (setItem ov iv v)
   release [v,ov,iv] []):=by intro _;rfl):PG X (.Subscript o i pos) (NZ to ti t):=by
 intro π s σ H v u Q I r h;rw[ha];refine Py (RG (cJ (ho π s σ H _ I h) λov s1 ⟨x,H1,I1,r1,q1⟩=>?_));refine Py (RG (cJ (hi π s1 σ H1 _ I1 q1) λiv s2 ⟨y,H2,I2,r2,q2⟩=>?_));refine Py (wpAny_standAt (Py (RG (cJ (hs π s2 σ H2 x y v ov iv u _ I2 r1 r2 r q2) λ_ s3 z9=>?_))));obtain⟨H3,I3,q3⟩:=z9;exact wpAny_release ⟨σ,H3,I3,q3⟩
def Jp(te:TE)(g:TG):TS:=λD σ H=>te σ H λx H1=>g x σ H1 D.nx
def D5{tg e:Qa}{te:TE}{g:TG}(he:PE X e te)(hg:PG X tg g)(hs:swapsWithSole [tg] e pos.line X.env=pure false:=by rfl)(hw:swappedStores [tg] e X.env=pure none:=by rfl)
  (h1:(assignEach [tg] X.env).map (·.2)=[assign tg X.env]:=by rfl):PS X (.Assign [tg] e pos) (Jp te g):=by
 intro π s σ H D I h;refine wpAny_Assign_stores (cJ (he π s σ H _ I h) λv s1 z9=>?_) hs hw;obtain⟨x,H1,I1,r1,q1⟩:=z9;rw[h1];exact cJ (hg π s1 σ H1 x v _ I1 r1 q1) λ_ s2 q=>q
def qv{i:Nat}{x:Pq}{e:Qa}{te:TE}{pos':Pos}(hN:X.N.Nodup)(hi:X.N[i]?=some x)(hx:Fx X.env.scope x)(he:PE X e te)(hs:Rt e (some (.Name x pos')) pos.line X.env=pure false:=by rfl)(hf:X.fn x=true∨X.env.scope.names.lookup x=some .local := by first|exact .inl rfl|exact .inr rfl|assumption) :
  PS X (.Assign [.Name x pos'] e pos) (Jp te (ET i)):=by
 intro π s σ H D I h;refine wpAny_Assign_Name (cJ (he π s σ H _ I h) λv s1 z9=>?_) hs;obtain⟨y,H1,I1,r1,q1⟩:=z9;exact mh I1 hN hi hx r1 (λs2 I2=>⟨_,H1,I2,q1⟩) hf
def Nu(i j:Nat)(ta:TA):TS:=λD σ H=>ta σ H λvs H1=>∃v w,vs=[v,w]/\D.nx ((σ.set i (some v)).set j (some w)) H1
def JH{i j:Nat}{x y:Pq}{a b:Qa}{ta:TA}{px py pt:Pos}{kt k2 pt2}(hc:X.calm=true)(hN:X.N.Nodup)(hi:X.N[i]?=some x)(hj:X.N[j]?=some y)(hij:i≠j)
  (hx:X.env.scope.names.lookup x=some .local)(hy:X.env.scope.names.lookup y=some .local)(ha:PA X [a,b] ta)
  (hw:swappedStores [.Tuple [.Name x px,.Name y py] kt pt] (.Tuple [a,b] k2 pt2) X.env=pure (some [x,y]))
  (hs:swapsWithSole [.Tuple [.Name x px,.Name y py] kt pt] (.Tuple [a,b] k2 pt2) pos.line X.env=pure false:=by rfl) :
  PS X (.Assign [.Tuple [.Name x px,.Name y py] kt pt] (.Tuple [a,b] k2 pt2) pos) (Nu i j ta):=by
 intro π s σ H D I h;rw[exec_Assign_arm];refine Py (wpAny_standAt ?_);rw[hs];refine Py (P7 ?_);rw[if_neg (by decide)];refine Py (Tuple_ (cJ (ha _ π s σ H _ I h) λus s1 z9=>?_));obtain⟨vs,H1,I1,r1,q1⟩:=z9;obtain⟨v,w,e1,q1⟩:=q1;subst e1;obtain⟨u1,u2,rfl,rv,rw'⟩:∃u1 u2,us=[u1,u2]/\bh v u1/\bh w u2:=by
  cases r1 with
  |cons p q=>
   cases q with
   |cons p' q'=>
    cases q';exact⟨_,_,rfl,p,p'⟩
 refine wpAny_newObj_type ?_ (by show 2<=sizeLine;decide);have I2:Inv X π σ H1 { s1 with heap:=s1.heap.push { cls:=.type "tuple",data:=.seq [u1,u2].toArray } }:=I1.kept (t':=s1.toks) λb o e=>Px _ e;rw[hw];refine Py (P7 ?_);show P5 (PX X.prog X.w) X.A (do rule "assign.swapped-stores";let items ←unpackItems (.ref s1.heap.objs.size) 2 none;assignInOrder [λv=>bindName X.env y v,λv=>bindName X.env x v] items.reverse;pure Flow.next) _ _ _;refine Py (wpAny_rule (Py (unpackItems_tuple (items:=#[u1,u2]) (I.ok.hd hc) (IsTup.new s1.heap _) λh' hx'=>?_)));have I3:=I2.kept (h':=h') (t':=s1.toks) λb o e=>hx' b o (Qh (PQ e)) e;show P5 _ _ (assignInOrder [λv=>bindName X.env y v,λv=>bindName X.env x v] [u2,u1] >>= λ_=>pure Flow.next) _ _ _;refine Py (assignInOrder_cons (wpAny_bindName (mh I3 hN hj (.inl hy) rw' (λs2 I4=>?_) (.inr hy))));refine assignInOrder_cons (wpAny_bindName (mh I4 hN hi (.inl hx) rv (λs3 I5=>assignInOrder_nil (P7 ?_)) (.inr hx)));rw[List.set_comm _ _ (QB hij)]at I5;exact⟨_,H1,I5,q1⟩
end
section
variable {X:Cx}{pos:Pos}
def Jn(c:TT)(tb:TS):TS:=λD σ H=>∃W:Nat->St->Hp->Prop,(∃m,W m σ H)/\∀m σ H,W m σ H ->
 c σ H λb H1=>if b=true then ∃N:St->Hp->Prop,(∀σ' H',N σ' H'->∃m',m' < m/\W m' σ' H')/\tb { D with nx:=N,ct:=N,bk:=D.nx } σ H1 else D.nx σ H1
def D3{c:Qa}{body:List Rv}{tc:TT}{tb:TS}(hp:PassesOwn (PX X.prog X.w) X.A X.env X.xe)(hc:PT X c tc)(hb:yI X body tb):PS X (.While c body [] pos) (Jn tc tb):=by
 intro π s σ H D I h;obtain⟨W,⟨m0,w0⟩,turn⟩:=h;refine wpAny_While (codeAny_whileLoop (λn s'=>∃σ' H',Inv X π σ' H' s'/\W n σ' H') ?_ m0 ⟨σ,H,I,w0⟩);rintro n s1 ⟨σ1,H1,I1,w1⟩;refine wpAny_passesOwn hp (cJ (hc π s1 σ1 H1 _ I1 (turn n σ1 H1 w1)) λb s2 z9=>?_);obtain⟨H2,I2,q2⟩:=z9;cases b with
 |true=>
  obtain⟨N,hN,q2⟩:=q2;rw[if_pos rfl];refine wpAny_passesOwn hp (cJ (hb π s2 σ1 H2 _ I2 q2) λf s3 q3=>?_);cases f with
  |next=>
   obtain⟨σ3,H3,I3,n3⟩:=q3;obtain⟨m',hm,w3⟩:=hN σ3 H3 n3;exact⟨m',hm,σ3,H3,I3,w3⟩
  |cont=>
   obtain⟨σ3,H3,I3,n3⟩:=q3;obtain⟨m',hm,w3⟩:=hN σ3 H3 n3;exact⟨m',hm,σ3,H3,I3,w3⟩
  |brk|ret v=>exact q3
 |false=>
  rw[if_neg QY];exact wpAny_execs_nil ⟨σ1,H2,I2,q2⟩
end
structure It where
 go:Nat->Hp->Prop
 yld:Nat->Hp->V->Hp->Prop
 stop:Nat->Hp->Prop
def oJ(X:Cx)(π:List (Pk×Obj))(H:Hp)(b:Pk):Prop :=
 H b=none/\b≠X.env.locals/\b∉X.fs/\(b∈X.ex∨X.sf.heap.objs.size<=b)/\(∀x c,X.env.cells.lookup x=some c->c≠b)/\∀p∈X.pn++π,p.1≠b
def Inv.fpOk{X:Cx}{π:List (Pk×Obj)}{σ:St}{H H':Hp}{s:Pj}{b:Pk}(I:Inv X π σ H s)(hb:s.heap.objs.size<=b)(hn:H' b=none):oJ X π H' b:=by
 refine⟨hn,Nat.ne_of_gt (Pm I.lt hb),I.nofs hb,.inr (Pu I.sz hb),λx c e z=>?_,λp hp z=>?_⟩
 .obtain⟨v,q⟩:=I.cell x c e
  exact absurd (Pm q.lt (by rw[z];exact hb)) (RH _)
 .exact absurd (Pm (PQ (I.pin p hp).1) (by rw[z];exact hb)) (RH _)
structure zY (P:Qe) (w:Qt) (K:Ph) (tg:Qa) (J:It) (fp:List Pk) (it:Pk) (tn:Nat->PR->Prop):Prop where
 mem:it∈fp
 obj:∀i h,tn i h->∀b∈fp,∃o,h.get? b=some o/\∀v,o.data≠.cell v
 keep:∀i h h',tn i h->(∀b∈fp,∀o,h.get? b=some o->h'.get? b=some o)->tn i h'
 item:∀(X:Cx),X.prog=P->X.w=w->X.K=K->X.calm=true->∀(i:Nat) (π:List (Pk×Obj)) (s:Pj) (σ:St) (H:Hp) (E:Pb->Pj->Prop),Inv X π σ H s->(∀b∈fp,oJ X π H b)->tn i s.heap->J.go i H ->
  P5 (PX P w) X.A (pyNext (.ref it)) (λr s1=>∃u,r=some u /\
   P5 (PX P w) X.A (letOwnedTupleGo tg (.ref it) u) (λ_ s2=>∃x H',Inv X π σ H' s2/\bh x u/\J.yld i H x H'/\tn (i+1) s2.heap/\∀b∈fp,H' b=none) E s1) E s
 done:∀(X:Cx),X.prog=P->X.w=w->X.K=K->X.calm=true->∀(i:Nat) (π:List (Pk×Obj)) (s:Pj) (σ:St) (H:Hp) (E:Pb->Pj->Prop),Inv X π σ H s->(∀b∈fp,oJ X π H b)->tn i s.heap->J.stop i H ->
  P5 (PX P w) X.A (pyNext (.ref it)) (λr s1=>r=none/\Inv X π σ H s1) E s
 self:∀(A:Qs) (i:Nat) (s:Pj) (Q:Pb->Pj->Prop) (E:Pb->Pj->Prop),tn i s.heap->Q (.ref it) s->P5 (PX P w) A (pyIter (.ref it)) Q E s
abbrev TI:=St->Hp->(It->Hp->Prop)->Prop
noncomputable def Od(X:Cx) (π:List (Pk×Obj)) (σ:St) (tg:Qa) (R:It->Hp->Prop) (itv:Pb) (s2:Pj):Prop :=
 ∃(it:Pk) (fp:List Pk) (tn:Nat->PR->Prop) (J:It) (H':Hp),itv=.ref it/\Inv X π σ H' s2/\zY X.prog X.w X.K tg J fp it tn/\tn 0 s2.heap/\(∀b∈fp,oJ X π H' b)/\R J H'
noncomputable def PI(X:Cx) (tg iter:Qa) (wi:TI):Prop :=
 ∀(π:List (Pk×Obj)) (s:Pj) (σ:St) (H:Hp) (R:It->Hp->Prop),Inv X π σ H s->wi σ H R ->
  P5 (PX X.prog X.w) X.A (eval iter X.env) (λv s1=>P5 (PX X.prog X.w) X.A (pyIter v) (Od X π σ tg R) X.xe s1) X.xe s
def AY{M:Model}{A:Qs}{E:Pb->Pj->Prop}{s:Pj}{tg:Qa}{it:Pk}{u:Pb}{o:Obj}{n:String}{vs:Array Pb}{Q:Unit->Pj->Prop}(ho:s.heap.get? it=some o)(hc:o.cls=.type n)(hd:o.data=.fields vs)
  (hn:["enumerate","zip","dict_itemiterator","dict_reverseitemiterator","odict_iterator","itertools.zip_longest","itertools.pairwise"].contains n=false)(hQ:Q () s):P5 M A (letOwnedTupleGo tg (.ref it) u) Q E s:=by
 unfold letOwnedTupleGo;cases tg<;>first
  |exact P7 hQ
  |(cases u<;>first
    |exact P7 hQ
    |(refine Py (wpAny_load ho ?_);rw[hc,hd];show P5 M A (if(["enumerate","zip","dict_itemiterator","dict_reverseitemiterator","odict_iterator","itertools.zip_longest","itertools.pairwise"].contains n&&vs[0]?==some (rawInt _))=true then _ else _) Q E s;rw[if_neg (by intro h;rw[hn,RA]at h;cases h)];exact P7 hQ))
def M6(K:Ph)(a:Pk):It :=
 ⟨λi H=>∃xs x,fk K H a xs/\xs[i]?=some x,λi H x H'=>H'=H/\∀xs,fk K H a xs->xs[i]?=some x,λi H=>∃xs,fk K H a xs/\xs.length<=i⟩
def Le(lo:Int)(n:Nat):It:=⟨λi _=>i<n,λi H x H'=>H'=H/\x=.int (lo+i),λi _=>n<=i⟩
def Bt{P:Qe}{w:Qt}{K:Ph}{tg:Qa}(a it:Pk):zY P w K tg (M6 K a) [it] it (λi h=>h.IsListIter it a i) where
 mem:=by simp
 obj:=λi h st b hb=>by
  have e:b=it:=by simpa using hb
  subst e;obtain⟨o,e,c,d⟩:=st;exact⟨o,e,λv z=>by rw[d]at z;cases z⟩
 keep:=λi h h' st k=>st.at λo e=>k it (by simp) o e
 item:=by
  intro X hP hw hK hc i π s σ H E I hf st hg;subst hP hw hK;obtain⟨xs,x,hq,hx⟩:=hg;obtain⟨its,rv,p,hz⟩:=I.list hq;obtain⟨u,hu,ru⟩:=rv.get hx;obtain⟨f0,f1,f2,f3,f4,f5⟩:=hf it (by simp);refine wpAny_pyNext_list_item st p.isList (x:=u) (by simpa using hu) λh' st' sb=>?_;have I1:Inv X π σ H { s with heap:=h' }:=I.turned (t':=s.toks) (λb o hb e=>(sb.2 b hb).trans e) f0 f1 f3 f4 f5;obtain⟨o,e,c,d⟩:=id st';exact⟨u,rfl,AY (s:={ s with heap:=h' }) e c d (by decide) ⟨x,H,I1,ru,⟨rfl,λys hy=>by rw[I.list_inj hy hq];exact hx⟩,st',λb hb=>(hf b hb).1⟩⟩
 done:=by
  intro X hP hw hK hc i π s σ H E I hf st hg;subst hP hw hK;obtain⟨xs,hq,hx⟩:=hg;obtain⟨its,rv,p,hz⟩:=I.list hq;obtain⟨f0,f1,f2,f3,f4,f5⟩:=hf it (by simp);have hl:=rv.length;exact wpAny_pyNext_list_end (I.ok.hd hc) st p.isList (by simp;omega) λh' eb=>⟨rfl,I.turned (t':=s.toks) (λb o hb e=>eb b o hb e) f0 f1 f3 f4 f5⟩
 self:=λ_ _ _ _ _ st h=>wpAny_pyIter_listiter st h
def yT{P:Qe}{w:Qt}{K:Ph}{tg:Qa}(it:Pk)(lo:Int)(n:Nat):zY P w K tg (Le lo n) [it] it (λi h=>IsRangeIter h it (lo+(i:Nat)*1) ((n:Int)-(i:Nat)) 1) where
 mem:=by simp
 obj:=λi h st b hb=>by
  have e:b=it:=by simpa using hb
  subst e;exact⟨_,st,λv z=>by
   have z':Data.fields _=Data.cell v:=z;cases z'⟩
 keep:=λi h h' st k=>k it (by simp) _ st
 item:=by
  intro X hP hw hK hc i π s σ H E I hf st hg;subst hP hw hK;obtain⟨f0,f1,f2,f3,f4,f5⟩:=hf it (by simp);have W:=Walks.range (prog:=X.prog) (w:=X.w) (I.ok.hd hc) it lo 1 n;refine W.item i s _ _ hg st λv h' tk hv st' kk=>?_;obtain⟨t,rfl⟩:=hv;have I1:Inv X π σ H { s with heap:=h',toks:=tk }:=I.turned (λb o hb e=>kk b o (by simpa using hb) e) f0 f1 f3 f4 f5;refine⟨_,rfl,AY (s:={ s with heap:=h',toks:=tk }) (n:="range_iterator") st' rfl rfl (by decide) ⟨.int (lo+i),H,I1,⟨t,?_⟩,⟨rfl,rfl⟩,st',λb hb=>(hf b hb).1⟩⟩;rw[Int.mul_one]
 done:=by
  intro X hP hw hK hc i π s σ H E I hf st hg;subst hP hw hK;obtain⟨f0,f1,f2,f3,f4,f5⟩:=hf it (by simp);exact wpAny_pyNext_range_end (I.ok.hd hc) st (by have:n<=i:=hg;omega) λh' eb=>⟨rfl,I.turned (t':=s.toks) (λb o hb e=>eb b o hb e) f0 f1 f3 f4 f5⟩
 self:=λ_ _ _ _ _ st h=>wpAny_pyIter_rangeiter st h
section
variable {X:Cx}{tg:Qa}
def MD(K:Ph)(tl:TE):TI:=λσ H R=>tl σ H λx H1=>∃a,x=.ref a/\(∃xs,fk K H1 a xs)/\R (M6 K a) H1
def AF{l:Qa}{tl:TE}(hl:PE X l tl):PI X tg l (MD X.K tl):=by
 intro π s σ H R I h;refine cJ (hl π s σ H _ I h) λv s1 ⟨x,H1,I1,r1,q1⟩=>?_;obtain⟨a,e,⟨xs,hq⟩,q⟩:=q1;subst e;cases r1;obtain⟨its,rv,p,hz⟩:=I1.list hq;refine wpAny_pyIter_list p.isList ?_;refine⟨s1.heap.objs.size,[s1.heap.objs.size],_,_,H1,rfl,I1.kept (t':=s1.toks) λb o e=>Px _ e,Bt a _,⟨_,Qr _ rfl,rfl,rfl⟩,λb hb=>?_,q⟩;have e:b=s1.heap.objs.size:=by simpa using hb
 subst e;exact I1.fpOk (P1 _) (I1.hok.fresh (P1 _))
def DV{π:List (Pk×Obj)}{σ:St}{H:Hp}{s:Pj}{R:It->Hp->Prop}{E:Pb->Pj->Prop}{lo hi:Int}{t u v:Tok}{tk:Nat}(I:Inv X π σ H s)(h1:-(2 ^ 62)<=lo)(h2:lo<2 ^ 62)(h3:-(2 ^ 62)<=hi)(h4:hi<2 ^ 62)
  (q:R (Le lo (hi-lo).toNat) H):P5 (PX X.prog X.w) X.A (pyIter (.ref s.heap.objs.size)) (Od X π σ tg R) E { s with heap:=s.heap.push { cls:=.type "range",data:=.fields #[.int lo t,.int hi u,.int 1 v] },toks:=tk }:=by
 refine wpAny_pyIter_range (IsRange.new ..) (small_one h1 h2 h3 h4) ?_;have I1:Inv X π σ H { s with heap:=s.heap.push { cls:=.type "range",data:=.fields #[.int lo t,.int hi u,.int 1 v] },toks:=tk }:=I.kept λb o e=>Px _ e;refine⟨(s.heap.push { cls:=.type "range",data:=.fields #[.int lo t,.int hi u,.int 1 v] }).objs.size,[(s.heap.push { cls:=.type "range",data:=.fields #[.int lo t,.int hi u,.int 1 v] }).objs.size],_,_,H,rfl,
  I1.kept (t':=tk) λb o e=>Px _ e,yT _ lo (hi-lo).toNat,?_,λb hb=>?_,q⟩
 .have e1:lo+((0:Nat):Int)*1=lo:=by simp
  have e2:(((hi-lo).toNat:Nat):Int)-((0:Nat):Int)=Builtin.Range.rangeSize lo hi 1:=by rw[rangeSize_one];split<;>omega
  show IsRangeIter _ _ (lo+((0:Nat):Int)*1) ((((hi-lo).toNat:Nat):Int)-((0:Nat):Int)) 1;rw[e1,e2];exact Qr _ rfl
 .have e:b=(s.heap.push { cls:=.type "range",data:=.fields #[.int lo t,.int hi u,.int 1 v] }).objs.size:=by simpa using hb
  subst e;exact I1.fpOk (P1 _) (I1.hok.fresh (P1 _))
def MC(ta:TA):TI:=λσ H R=>ta σ H λvs H1=>∃j:Int,vs=[.int j]/\-(2 ^ 62)<=j/\j<2 ^ 62/\R (Le 0 j.toNat) H1
def uG{a:Qa}{ta:TA}{p pos:Pos}(hg:Gl X "range")(hm:X.mg "range"=none)(ha:PA X [a] ta)(hs:PD [a] X.env=[(false,eval a X.env)]:=by rfl):PI X tg (.Call (.Name "range" p) [a] [] pos) (MC ta):=by
 intro π s σ H R I h;refine Call_ (oj I hg hm boot_range (RZ (cJ (ha pos π s σ H _ I h) λus s1 z9=>?_) hs rfl));obtain⟨vs,H1,I1,r1,q1⟩:=z9;obtain⟨j,e,q1,q2,q⟩:=q1;subst e;cases r1 with
 |cons r rr=>
  cases rr;obtain⟨t,rfl⟩:=r;exact call_range_1 (DV I1 (by omega) (by omega) q1 q2 (by simpa using q))
noncomputable def NA(wi:TI) (g:TG) (tb:TS):TS:=λD σ H=>wi σ H λJ H1=>∃W:Nat->Nat->St->Hp->Prop,(∃m,W 0 m σ H1)/\∀i m σ H,W i m σ H ->
 (J.stop i H/\D.nx σ H)∨(J.go i H/\∃N:St->Hp->Prop,(∀σ' H',N σ' H'->∃m',m' < m/\W (i+1) m' σ' H')/\∀x H',J.yld i H x H'->g x σ H' λσ2 H2=>tb { D with nx:=N,ct:=N,bk:=D.nx } σ2 H2)
def qz(fp:List Pk)(h:PR):List (Pk×Obj):=fp.filterMap λb=>(h.get? b).map λo=>(b,o)
def jr{fp:List Pk}{h:PR}{b:Pk}{o:Obj}(hb:b∈fp)(e:h.get? b=some o):(b,o)∈qz fp h:=Ry.mpr ⟨b,hb,by rw[e];rfl⟩
def BV{fp:List Pk}{h:PR}{p:Pk×Obj}(hp:p∈qz fp h):p.1∈fp/\h.get? p.1=some p.2:=by
 obtain⟨b,hb,e⟩:=Ry.mp hp;cases q:h.get? b with
 |none=>rw[q]at e;cases e
 |some o=>
  rw[q]at e;have e':(b,o)=p:=QF e;subst e';exact⟨hb,q⟩
def Inv.pinned{π:List (Pk×Obj)}{σ:St}{H:Hp}{s:Pj}{fp:List Pk}(I:Inv X π σ H s)(hf:∀b∈fp,oJ X π H b)(ho:∀b∈fp,∃o,s.heap.get? b=some o/\∀v,o.data≠.cell v):Inv X (π++qz fp s.heap) σ H s :=
 I.pins_of λp hp=>(Pz.mp hp).elim (λz=>I.pin p (P4 _ z)) λz=>by
  obtain⟨hb,e⟩:=BV z;obtain⟨f0,f1,f2,_⟩:=hf p.1 hb;obtain⟨o,e',d⟩:=ho p.1 hb;rw[e]at e';cases e';exact⟨e,f0,f1,f2,d⟩
def Inv.unpinned{π pl:List (Pk×Obj)}{σ:St}{H:Hp}{s:Pj}(I:Inv X (π++pl) σ H s):Inv X π σ H s:=I.pins_of λp hp=>I.pin p (P4 _ (Qk _ hp))
def ze{iter:Qa}{body:List Rv}{wi:TI}{g:TG}{tb:TS}{pos:Pos}(hp:PassesOwn (PX X.prog X.w) X.A X.env X.xe)(hc:X.calm=true)(hi:PI X tg iter wi)(hg:PG X tg g)(hb:yI X body tb)
  (hs:∀x,foldedSetIterable iter X.env x=pure x:=by intro _;rfl):PS X (.For tg iter body [] pos) (NA wi g tb):=by
 intro π s σ H D I h;refine wpAny_For (cJ (hi π s σ H _ I h) λv s1 h1=>cJ h1 λitv s2 h2=>?_) hs;obtain⟨it,fp,tn,J,H2,e,I2,T,st2,f2,W,⟨m0,w0⟩,turn⟩:=h2;subst e;have stat:∀{H':Hp},(∀b∈fp,H' b=none)->∀b∈fp,oJ X π H' b:=λhn b hb=>⟨hn b hb,(f2 b hb).2⟩
 refine codeAny_forLoop_any (λn s'=>∃i σ' H',Inv X π σ' H' s'/\tn i s'.heap/\(∀b∈fp,H' b=none)/\W i n σ' H') ?_ m0 ⟨0,σ,H2,I2,st2,λb hb=>(f2 b hb).1,w0⟩;rintro n s3 ⟨i,σ3,H3,I3,st3,fr3,w3⟩;rcases turn i n σ3 H3 w3 with⟨stop,qn⟩|⟨go,N,hN,step⟩
 .refine wpAny_passesOwn hp (cJ (T.done X rfl rfl rfl hc i π s3 σ3 H3 X.xe I3 (stat fr3) st3 stop) λr s4 ⟨hr,I4⟩=>?_)
  subst hr;exact wpAny_execs_nil ⟨σ3,H3,I4,qn⟩
 .refine wpAny_passesOwn hp (cJ (T.item X rfl rfl rfl hc i π s3 σ3 H3 X.xe I3 (stat fr3) st3 go) λr s4 ⟨u,hr,h4⟩=>?_)
  subst hr;refine wpAny_passesOwn hp (cJ h4 λ_ s5 ⟨x,H5,I5,r5,y5,st5,fr5⟩=>?_);have I5':=I5.pinned (stat fr5) (T.obj _ _ st5);refine wpAny_passesOwn hp (cJ (hg _ s5 σ3 H5 x u _ I5' r5 (step x H5 y5)) λ_ s6 ⟨σ6,H6,I6,q6⟩=>?_);refine wpAny_passesOwn hp (cJ (hb _ s6 σ6 H6 _ I6 q6) λf s7 q7=>?_);have again:∀{σ7:St}{H7:Hp},Inv X (π++qz fp s5.heap) σ7 H7 s7->N σ7 H7->∃m,m<n/\∃i σ' H',Inv X π σ' H' s7/\tn i s7.heap/\(∀b∈fp,H' b=none)/\W i m σ' H':=λ{σ7 H7} I7 n7=>by
   obtain⟨m',hm,w7⟩:=hN σ7 H7 n7;refine⟨m',hm,i+1,σ7,H7,I7.unpinned,T.keep _ _ _ st5 λb hb o e=>(I7.pin (b,o) (P4 _ (P4 _ (jr hb e)))).1,λb hb=>?_,w7⟩;obtain⟨o,e,d⟩:=T.obj _ _ st5 b hb;exact(I7.pin (b,o) (P4 _ (P4 _ (jr hb e)))).2.1
  cases f with|next|cont=>obtain⟨σ7,H7,I7,n7⟩:=q7;exact again I7 n7|brk=>obtain⟨σ7,H7,I7,q7⟩:=q7;exact⟨σ7,H7,I7.unpinned,q7⟩|ret v=>obtain⟨x7,σ7,H7,I7,r7,q7⟩:=q7;exact⟨x7,σ7,H7,I7.unpinned,r7,q7⟩
end
def EW{K:Ph}{a:Pk}{xs:ad}{g:TG}{tb:TS}{D:jg}{σ:St}{H:Hp}(Pv:Nat->St->Hp->Prop)(h0:Pv 0 σ H)(hl:∀i σ H,i<=xs.length->Pv i σ H->fk K H a xs)
  (hs:∀i x σ H,xs[i]?=some x->Pv i σ H->g x σ H λσ2 H2=>tb { D with nx:=Pv (i+1),ct:=Pv (i+1),bk:=D.nx } σ2 H2)(hd:∀σ H,Pv xs.length σ H->D.nx σ H) :
  ∃W:Nat->Nat->St->Hp->Prop,(∃m,W 0 m σ H)/\∀i m σ H,W i m σ H ->
   ((M6 K a).stop i H/\D.nx σ H)∨((M6 K a).go i H/\∃N:St->Hp->Prop,(∀σ' H',N σ' H'->∃m',m' < m/\W (i+1) m' σ' H')/\∀x H',(M6 K a).yld i H x H'->g x σ H' λσ2 H2=>tb { D with nx:=N,ct:=N,bk:=D.nx } σ2 H2):=by
 refine⟨λi m σ H=>m=xs.length-i/\i<=xs.length/\Pv i σ H,⟨xs.length,by simp,R4 _,h0⟩,?_⟩;rintro i m σ H ⟨rfl,hi,p⟩;have q:=hl i σ H hi p
 by_cases hlt:i<xs.length
 .refine .inr ⟨⟨xs,xs[i],q,by simp[hlt]⟩,Pv (i+1),λσ' H' p'=>⟨xs.length-(i+1),by omega,rfl,hlt,p'⟩,λx H' y=>?_⟩
  obtain⟨e,y⟩:=y;subst e;exact hs i x σ _ (y xs q) p
 .have e:i=xs.length:=by omega
  subst e;exact .inl ⟨⟨xs,q,P1 _⟩,hd σ H p⟩
def Ci{lo:Int}{n:Nat}{g:TG}{tb:TS}{D:jg}{σ:St}{H:Hp}(Pv:Nat->St->Hp->Prop)(h0:Pv 0 σ H)
  (hs:∀i σ H,i<n->Pv i σ H->g (.int (lo+i)) σ H λσ2 H2=>tb { D with nx:=Pv (i+1),ct:=Pv (i+1),bk:=D.nx } σ2 H2)(hd:∀σ H,Pv n σ H->D.nx σ H) :
  ∃W:Nat->Nat->St->Hp->Prop,(∃m,W 0 m σ H)/\∀i m σ H,W i m σ H ->
   ((Le lo n).stop i H/\D.nx σ H)∨((Le lo n).go i H/\∃N:St->Hp->Prop,(∀σ' H',N σ' H'->∃m',m' < m/\W (i+1) m' σ' H')/\∀x H',(Le lo n).yld i H x H'->g x σ H' λσ2 H2=>tb { D with nx:=N,ct:=N,bk:=D.nx } σ2 H2):=by
 refine⟨λi m σ H=>m=n-i/\i<=n/\Pv i σ H,⟨n,by simp,R4 _,h0⟩,?_⟩;rintro i m σ H ⟨rfl,hi,p⟩
 by_cases hlt:i<n
 .refine .inr ⟨hlt,Pv (i+1),λσ' H' p'=>⟨n-(i+1),by omega,rfl,hlt,p'⟩,λx H' y=>?_⟩
  obtain⟨e,y⟩:=y;subst e y;exact hs i σ _ hlt p
 .have e:i=n:=by omega
  subst e;exact .inl ⟨P1 _,hd σ H p⟩
abbrev R2:=V->V->Hp->VK->Prop
def fR(X:Cx)(f:Pb->Pb->Sem Pb)(r:R2):Prop :=
 ∀(π:List (Pk×Obj)) (s:Pj) (σ:St) (H:Hp) (x y:V) (v u:Pb) (Q:VK),Inv X π σ H s->bh x v->bh y u->r x y H Q ->
  P5 (PX X.prog X.w) X.A (f v u) (EP X π σ Q) X.xe s
def Nh(X:Cx)(f:Pb->Sem Pb)(r:V->Hp->VK->Prop):Prop :=
 ∀(π:List (Pk×Obj)) (s:Pj) (σ:St) (H:Hp) (x:V) (v:Pb) (Q:VK),Inv X π σ H s->bh x v->r x H Q ->
  P5 (PX X.prog X.w) X.A (f v) (EP X π σ Q) X.xe s
def nT(X:Cx)(f:Pb)(r:ad->Hp->VK->Prop):Prop :=
 ∀(π:List (Pk×Obj)) (s:Pj) (σ:St) (H:Hp) (xs:ad) (us:List Pb) (Q:VK),Inv X π σ H s->aY xs us->r xs H Q ->
  P5 (PX X.prog X.w) X.A (call f us) (EP X π σ Q) X.xe s
def O9(X:Cx)(r:V->Hp->(Bool->Hp->Prop)->Prop):Prop :=
 ∀(π:List (Pk×Obj)) (s:Pj) (σ:St) (H:Hp) (x:V) (v:Pb) (Q:Bool->Hp->Prop),Inv X π σ H s->bh x v->r x H Q ->
  P5 (PX X.prog X.w) X.A (truthy v) (TP X π σ Q) X.xe s
def LF(r:R2)(ta tb:TE):TE:=λσ H Q=>ta σ H λx H1=>tb σ H1 λy H2=>r x y H2 Q
def OK(r:V->Hp->VK->Prop)(ta:TE):TE:=λσ H Q=>ta σ H λx H1=>r x H1 Q
def rI(C:Int->Int->Prop)(g:Int->Int->V):R2:=λx y H Q=>∃i j,x=.int i/\y=.int j/\C i j/\Q (g i j) H
def DY(g:Int->Int->V):R2:=λx y H Q=>∃i j,x=.int i/\y=.int j/\Q (g i j) H
def rU(g:Int->V):V->Hp->VK->Prop:=λx H Q=>∃i,x=.int i/\Q (g i) H
section
variable {X:Cx}{a b c:Qa}{ta tb tc:TE}{pos:Pos}
def K5(ha:PE X a ta)(hb:PE X b tb){π:List (Pk×Obj)}{s:Pj}{σ:St}{H:Hp}{R:V->V->Hp->Prop}(I:Inv X π σ H s)
  (h:ta σ H λx H1=>tb σ H1 λy H2=>R x y H2){Q:Pb->Pj->Prop}{f:Pb->Pb->Sem Pb}
  (hf:∀v u s2 x y H2,Inv X π σ H2 s2->bh x v->bh y u->R x y H2->P5 (PX X.prog X.w) X.A (f v u) Q X.xe s2) :
  P5 (PX X.prog X.w) X.A (eval a X.env) (λv si=>P5 (PX X.prog X.w) X.A (eval b X.env) (λu sj=>P5 (PX X.prog X.w) X.A (f v u) Q X.xe sj) X.xe si) X.xe s:=by
 refine cJ (ha π s σ H _ I h) λv s1 ⟨x,H1,I1,r1,q1⟩=>?_;refine cJ (hb π s1 σ H1 _ I1 q1) λu s2 ⟨y,H2,I2,r2,q2⟩=>?_;exact hf v u s2 x y H2 I2 r1 r2 q2
def Ec{op:Operator}{r:R2}(ho:fR X (binaryOp op) r)(ha:PE X a ta)(hb:PE X b tb):PE X (.BinOp a op b pos) (LF r ta tb):=by
 intro π s σ H Q I h;exact wpAny_BinOp (K5 ha hb I h λv u s2 x y H2 I2 rx ry q=>ho π s2 σ H2 x y v u Q I2 rx ry q)
def Mh{op:UnaryOp}{r:V->Hp->VK->Prop}(ho:Nh X (unaryOp op) r)(ha:PE X a ta):PE X (.UnaryOp op a pos) (OK r ta):=by
 intro π s σ H Q I h;exact UnaryOp_ (cJ (ha π s σ H _ I h) λv s1 ⟨x,H1,I1,r1,q1⟩=>ho π s1 σ H1 x v Q I1 r1 q1)
def Mo{f:Pb->Pb->Sem Pb}{C:Int->Int->Prop}{g:Int->Int->Int}
  (rule:∀(i j:Int) (t u:Tok) (s:Pj) (Q:Pb->Pj->Prop) (E:Pb->Pj->Prop),C i j->Q (.int (g i j) s.toks) { s with toks:=s.toks+1 }->P5 (PX X.prog X.w) X.A (f (.int i t) (.int j u)) Q E s) :
  fR X f (rI C λi j=>.int (g i j)):=by
 intro π s σ H x y v u Q I rx ry h;obtain⟨i,j,rfl,rfl,hc,q⟩:=h;obtain⟨t,rfl⟩:=rx;obtain⟨t',rfl⟩:=ry;exact rule i j t t' s _ _ hc ⟨.int (g i j),H,I.tok _,⟨_,rfl⟩,q⟩
def J7{f:Pb->Pb->Sem Pb}{g:Int->Int->Int}
  (rule:∀(i j:Int) (t u:Tok) (s:Pj) (Q:Pb->Pj->Prop) (E:Pb->Pj->Prop),Q (.int (g i j) s.toks) { s with toks:=s.toks+1 }->P5 (PX X.prog X.w) X.A (f (.int i t) (.int j u)) Q E s) :
  fR X f (DY λi j=>.int (g i j)):=by
 intro π s σ H x y v u Q I rx ry h;obtain⟨i,j,rfl,rfl,q⟩:=h;obtain⟨t,rfl⟩:=rx;obtain⟨t',rfl⟩:=ry;exact rule i j t t' s _ _ ⟨.int (g i j),H,I.tok _,⟨_,rfl⟩,q⟩
def GX{f:Pb->Pb->Sem Pb}{g:Int->Int->Bool}
  (rule:∀(i j:Int) (t u:Tok) (s:Pj) (Q:Pb->Pj->Prop) (E:Pb->Pj->Prop),Q (.bool (g i j)) s->P5 (PX X.prog X.w) X.A (f (.int i t) (.int j u)) Q E s) :
  fR X f (DY λi j=>.bl (g i j)):=by
 intro π s σ H x y v u Q I rx ry h;obtain⟨i,j,rfl,rfl,q⟩:=h;obtain⟨t,rfl⟩:=rx;obtain⟨t',rfl⟩:=ry;exact rule i j t t' s _ _ ⟨.bl (g i j),H,I,rfl,q⟩
def Og(i j:Int):Prop:=0<=j/\j<=1000000/\i.natAbs<2 ^ 64
def M9(i j:Int):Prop:=(-(2 ^ 64)<i/\i<2 ^ 64)∨(-(2 ^ 64)<j/\j<2 ^ 64)
def M9.ok{i j:Int}(h:M9 i j):IntMulOk i j:=by
 rcases h with⟨h1,h2⟩|⟨h1,h2⟩
 .exact .of_left (intBits_le_64 h1 h2)
 .exact .of_right (intBits_le_64 h1 h2)
def yS(k:Nat):(0:Int)<=2 ^ k:=by
 rw[two_pow_cast];exact TC _
def J6:fR X (binaryOp .Add) (DY λi j=>.int (i+j)):=J7 λ_ _ _ _ _ _ _ q=>add_int q
def JY:fR X (binaryOp .Sub) (DY λi j=>.int (i-j)):=J7 λ_ _ _ _ _ _ _ q=>sub_int q
def GU:fR X (binaryOp .Mod) (rI (λ_ j=>j≠0) λi j=>.int (i.fmod j)):=Mo λ_ _ _ _ _ _ _ hc q=>mod_int' hc q
def J3:fR X (binaryOp .Pow) (rI Og λi j=>.int (i ^ j.toNat)):=Mo λ_ _ _ _ _ _ _ hc q=>pow_int_small hc.1 hc.2.1 hc.2.2 q
def JZ:fR X (binaryOp .RShift) (rI (λ_ j=>0<=j) λi j=>.int (i / 2 ^ j.toNat)):=Mo λi j _ _ _ _ _ hc q=>
 rshift_int hc (by rw[S0 i (yS _)];exact q)
def J5:fR X (binaryOp .BitAnd) (DY λi j=>.int (QV i j)):=J7 λ_ _ _ _ _ _ _ q=>and_int q
def OJ{f:Pb->Sem Pb}{g:Int->Int}
  (rule:∀(i:Int) (t:Tok) (s:Pj) (Q:Pb->Pj->Prop) (E:Pb->Pj->Prop),Q (.int (g i) s.toks) { s with toks:=s.toks+1 }->P5 (PX X.prog X.w) X.A (f (.int i t)) Q E s) :
  Nh X f (rU λi=>.int (g i)):=by
 intro π s σ H x v Q I rx h;obtain⟨i,rfl,q⟩:=h;obtain⟨t,rfl⟩:=rx;exact rule i t s _ _ ⟨.int (g i),H,I.tok _,⟨_,rfl⟩,q⟩
def Jc:Nh X (unaryOp .USub) (rU λi=>.int (-i)):=OJ λ_ _ _ _ _ q=>neg_int q
end
section
variable {X:Cx}{a b c:Qa}{ta tb tc:TE}{pos:Pos}
def zG{π:List (Pk×Obj)}{σ:St}{H:Hp}{s:Pj}{Q:VK}{k k':Bool}(I:Inv X π σ H s)(q:Q (.bl k) H)(e:k=k'):EP X π σ Q (.bool k') s:=by
 subst e;exact⟨.bl k,H,I,rfl,q⟩
def Ej:fR X (Qv .Lt) (DY λi j=>.bl (decide (i<j))):=GX λ_ _ _ _ _ _ _ q=>lt_int q
def uI:fR X (Qv .LtE) (DY λi j=>.bl (decide (i<=j))):=GX λ_ _ _ _ _ _ _ q=>le_int q
def qD:fR X (Qv .Gt) (DY λi j=>.bl (decide (j<i))):=GX λ_ _ _ _ _ _ _ q=>gt_int q
def Ek:fR X (Qv .GtE) (DY λi j=>.bl (decide (j<=i))):=GX λ_ _ _ _ _ _ _ q=>ge_int q
def BP:fR X (Qv .In) (λx y H Q=>∃i j,x=.str i/\y=.str j/\Q (.bl (!(Td j i 0 j.length 1).isEmpty)) H):=by
 intro π s σ H x y v u Q I rx ry h;obtain⟨i,j,rfl,rfl,q⟩:=h;obtain⟨t,rfl⟩:=rx;obtain⟨t',rfl⟩:=ry;exact in_str (zG I q rfl)
def ke:fR X (Qv .Is) (λx y H Q=>y=.non/\Q (.bl (decide (x=.non))) H):=by
 intro π s σ H x y v u Q I rx ry h;obtain⟨rfl,q⟩:=h;cases ry;refine is_none_gen (zG I q ?_);cases x<;>first
  |(cases rx;rfl)
  |(obtain⟨t,rfl⟩:=rx;rfl)
def vJ:fR X (Qv .IsNot) (λx y H Q=>y=.non/\Q (.bl (!decide (x=.non))) H):=by
 intro π s σ H x y v u Q I rx ry h;obtain⟨rfl,q⟩:=h;cases ry;refine isnot_none_gen (zG I q ?_);cases x<;>first
  |(cases rx;rfl)
  |(obtain⟨t,rfl⟩:=rx;rfl)
def fR.or{f:Pb->Pb->Sem Pb}{r r':R2}(h:fR X f r)(h':fR X f r'):fR X f (λx y H Q=>r x y H Q∨r' x y H Q):=by
 intro π s σ H x y v u Q I rx ry q;rcases q with q|q
 .exact h π s σ H x y v u Q I rx ry q
 .exact h' π s σ H x y v u Q I rx ry q
def GN{op:CmpOp}{r:R2}(ho:fR X (Qv op) r)(ha:PE X a ta)(hb:PE X b tb)(hm:behindInMarks op b=false):PE X (.Compare a [op] [b] pos) (LF r ta tb):=by
 intro π s σ H Q I h;exact wpAny_Compare1 (K5 ha hb I h λv u s2 x y H2 I2 rx ry q=>ho π s2 σ H2 x y v u Q I2 rx ry q) hm
def Ir(t:TE):TT:=λσ H Q=>t σ H λx H'=>∃k,x=.bl k/\Q k H'
def Gw{op:CmpOp}{r:R2}(ho:fR X (Qv op) r)(ha:PE X a ta)(hb:PE X b tb)(hm:behindInMarks op b=false):PT X (.Compare a [op] [b] pos) (Ir (LF r ta tb)):=by
 intro π s σ H Q I h;refine wpAny_isTrue_Compare1 (cJ (ha π s σ H _ I h) λv s1 ⟨x,H1,I1,r1,q1⟩=>cJ (hb π s1 σ H1 _ I1 q1) λu s2 ⟨y,H2,I2,r2,q2⟩ =>
  cJ (ho π s2 σ H2 x y v u _ I2 r1 r2 q2) λc s3 ⟨z,H3,I3,r3,k,e,q3⟩=>?_) hm
 subst e;cases r3;exact Q1 ⟨H3,I3,q3⟩
def yX(r r':R2)(ta tb tc:TE):TE:=λσ H Q=>ta σ H λx H1=>tb σ H1 λy H2=>r x y H2 λz H3=>∃k,z=.bl k /\
 (if k=true then tc σ H3 λw' H4=>r' y w' H4 Q else Q (.bl false) H3)
def Ef{op op':CmpOp}{r r':R2}(ho:fR X (Qv op) r)(ho':fR X (Qv op') r')(ha:PE X a ta)(hb:PE X b tb)(hc:PE X c tc)
  (hm:lastMarks [op,op'] [b,c]=false:=by with_unfolding_all rfl):PE X (.Compare a [op,op'] [b,c] pos) (yX r r' ta tb tc):=by
 intro π s σ H Q I h;refine Compare_chain (cJ (ha π s σ H _ I h) λv s1 ⟨x,H1,I1,r1,q1⟩=>chain_link (cJ (hb π s1 σ H1 _ I1 q1) λu s2 ⟨y,H2,I2,r2,q2⟩ =>
  cJ (ho π s2 σ H2 x y v u _ I2 r1 r2 q2) λd s3 ⟨z,H3,I3,r3,k,e,q3⟩=>?_)) hm
 subst e;cases r3;refine Q1 ?_;cases k with|false=>exact ite_ff ⟨.bl false,H3,I3,rfl,q3⟩|true=>exact ite_tt (chain_last (cJ (hc π s3 σ H3 _ I3 q3) λw' s4 ⟨z',H4,I4,r4,q4⟩=>ho' π s4 σ H4 y z' u w' Q I4 r2 r4 q4))
def D2{op op':CmpOp}{r r':R2}(ho:fR X (Qv op) r)(ho':fR X (Qv op') r')(ha:PE X a ta)(hb:PE X b tb)(hc:PE X c tc)
  (hm:lastMarks [op,op'] [b,c]=false:=by with_unfolding_all rfl):PT X (.Compare a [op,op'] [b,c] pos) (Ir (yX r r' ta tb tc)):=by
 intro π s σ H Q I h;refine isTrue_chain (cJ (ha π s σ H _ I h) λv s1 ⟨x,H1,I1,r1,q1⟩=>test_link (cJ (hb π s1 σ H1 _ I1 q1) λu s2 ⟨y,H2,I2,r2,q2⟩ =>
  cJ (ho π s2 σ H2 x y v u _ I2 r1 r2 q2) λd s3 ⟨z,H3,I3,r3,k,e,q3⟩=>?_)) hm
 subst e;cases r3;refine Q1 ?_;cases k with
 |false=>
  obtain⟨k',e',q'⟩:=q3;cases e';exact ite_ff ⟨H3,I3,q'⟩
 |true=>
  refine ite_tt (test_last (cJ (hc π s3 σ H3 _ I3 q3) λw' s4 ⟨z',H4,I4,r4,q4⟩=>cJ (ho' π s4 σ H4 y z' u w' _ I4 r2 r4 q4) λd' s5 z9=>?_));obtain⟨z2,H5,I5,r5,k2,e2,q5⟩:=z9;subst e2;cases r5;exact Q1 ⟨H5,I5,q5⟩
noncomputable def O8(K:Ph) (x:V) (H:Hp) (k:Bool):Prop :=
 match x with
 |.non=>k=false
 |.bl b=>k=b
 |.int i=>k=(i != 0)
 |.str y=>y.length<=sizeLine/\k=((y.length:Int) != 0)
 |.byt y=>y.size<=sizeLine/\k=((y.size:Int) != 0)
 |.ref p=>(∃xs,fk K H p xs/\k=!xs.isEmpty)∨(∃xs,nV K H p xs/\k=!xs.isEmpty)∨∃kvs,H p=some (.dK kvs)/\k=!kvs.isEmpty
 |_=>False
def Km{κ:Type}{kvs:List (κ×V)}{vs:List (κ×Pb)}(r:KV kvs vs):(!vs.isEmpty)=!kvs.isEmpty:=by
 cases r<;>rfl
def Kl{xs:ad}{its:List Pb}(r:aY xs its):(!its.toArray.isEmpty)=!xs.isEmpty:=by
 cases r<;>simp
def qR:(sizeLine:Nat)<2 ^ 63:=by rw[sizeLine_eq];decide
def zi:fR X (binaryOp .Add) (λx y H Q=>∃i j,x=.str i/\y=.str j/\i.length+j.length<=sizeLine/\Q (.str (i++j)) H):=by
 intro π s σ H x y v u Q I rx ry h;obtain⟨i,j,rfl,rfl,hz,q⟩:=h;obtain⟨t,rfl⟩:=rx;obtain⟨t',rfl⟩:=ry;exact add_str (λt' tk=>⟨.str (i++j),H,I.tok _,⟨_,rfl⟩,q⟩) hz
def z9{x:V}{us:List Pb}(r:aY [x] us):∃u,us=[u]/\bh x u:=by
 cases r with|cons r1 r2=>cases r2;exact⟨_,rfl,r1⟩
def Ly{x y:V}{us:List Pb}(r:aY [x,y] us):∃u w',us=[u,w']/\bh x u/\bh y w':=by
 cases r with
 |cons r1 r2=>
  cases r2 with|cons r3 r4=>cases r4;exact⟨_,_,rfl,r1,r3⟩
def kJ:nT X (.builtin "abs") (λxs H Q=>∃i,xs=[.int i]/\Q (.int (if i<0 then -i else i)) H):=by
 intro π s σ H xs us Q I r h;obtain⟨i,rfl,q⟩:=h;obtain⟨u,rfl,t,rfl⟩:=z9 r;exact call_abs_int λu tk=>⟨.int (if i<0 then -i else i),H,I.tok _,⟨_,rfl⟩,q⟩
def Cu(hc:X.calm=true):nT X (.builtin "min") (λxs H Q=>∃i j,xs=[.int i,.int j]/\Q (.int (if j<i then j else i)) H):=by
 intro π s σ H xs us Q I r h;obtain⟨i,j,rfl,q⟩:=h;obtain⟨u,w',rfl,⟨t,rfl⟩,⟨t',rfl⟩⟩:=Ly r;refine min_two_ints (I.ok.hd hc) λh' tk k=>⟨_,H,I.kept k,?_,q⟩
 by_cases hj:j<i
 .rw[if_pos hj,if_pos hj];exact⟨_,rfl⟩
 .rw[if_neg hj,if_neg hj];exact⟨_,rfl⟩
def M5(K:Ph)(x:V)(H:Hp)(n:Nat):Prop :=
 match x with
 |.str y=>y.length<=sizeLine/\n=y.length
 |.byt y=>y.size<=sizeLine/\n=y.size
 |.ref p=>(∃xs,fk K H p xs/\n=xs.length)∨∃xs,nV K H p xs/\n=xs.length
 |_=>False
def bW:nT X (.builtin "len") (λxs H Q=>∃x n,xs=[x]/\M5 X.K x H n/\Q (.int n) H):=by
 intro π s σ H xs us Q I r h;obtain⟨x,n,rfl,e,q⟩:=h;obtain⟨u,rfl,rx⟩:=z9 r;have hl:=qR;have hs:sizeLine=16777216:=sizeLine_eq;cases x with
 |str y=>
  obtain⟨t,rfl⟩:=rx;obtain⟨hy,e'⟩:y.length<=sizeLine/\n=y.length:=e;subst e';exact len_str (by omega) ⟨.int _,H,I.tok _,⟨_,rfl⟩,q⟩
 |byt y=>
  obtain⟨t,rfl⟩:=rx;obtain⟨hy,e'⟩:y.size<=sizeLine/\n=y.size:=e;subst e';exact W.len_bytes (by omega) ⟨.int _,H,I.tok _,⟨_,rfl⟩,q⟩
 |ref p=>
  cases rx;have e':(∃xs,fk X.K H p xs/\n=xs.length)∨∃xs,nV X.K H p xs/\n=xs.length:=e;rcases e' with⟨xs,hx,e'⟩|⟨xs,hx,e'⟩
  .subst e'
   obtain⟨its,r',pl,hz⟩:=I.list hx;have hlen:=r'.length;exact Calls.call_len_list pl.isList (by simp only[PJ];omega) ⟨.int xs.length,H,I.tok _,⟨_,by simp only[PJ];rw[hlen]⟩,q⟩
  .subst e'
   obtain⟨its,r',pl,hz⟩:=I.tuple hx;have hlen:=r'.length;exact len_tuple pl (by simp only[PJ];omega) ⟨.int xs.length,H,I.tok _,⟨_,by simp only[PJ];rw[hlen]⟩,q⟩
 |_=>exact(show False from e).elim
end
structure CG (h:PR) (x dx C:Pk) (mA:Pq->Option Pb):Prop where
 obj:h.get? x=some (SX C dx)
 ns:h.Ns1 dx mA
 ne:dx≠x
def B2{h:PR}{dx:Pk}{mA:Pq->Option Pb}(n:h.Ns1 dx mA):∃od,h.get? dx=some od/\∀name,W.lookIn name od=some (mA name):=by
 obtain⟨o,es,ep,ho,hd,hk,_,hm⟩:=n;refine⟨o,ho,λname=>?_⟩;have e:=hm name;unfold nsFind findBy at e;rw[←Array.find?_toList]at e;unfold W.lookIn;rw[hd];dsimp only;split
 .rename_i y q
  rw[q]at e;exact congrArg some e
 .rename_i q
  rw[q]at e;have a:es.toList.any (·.refKey)=false:=by
   rw[List.any_eq_false];intro y hy;obtain⟨z,t,hkey⟩:=hk y (Array.mem_toList_iff.mp hy);simp[DictEntry.refKey,hkey]
  have a':¬es.toList.any (·.refKey)=true:=by rw[a];exact QY
  rw[if_neg a'];exact congrArg some e
def CG.look{h:PR}{x dx C:Pk}{mA:Pq->Option Pb}(I:CG h x dx C mA):∃od,W.InstAt h x (SX C dx) C (some od)/\∀name,W.lookIn name od=some (mA name) :=
 let ⟨od,ho,hl⟩:=B2 I.ns
 ⟨od,⟨I.obj,rfl,rfl,ho⟩,hl⟩
section
variable {prog:Qe}{w:Qt}{A:Qs}{E:Pb->Pj->Prop}{s:Pj}{K:Ph}{x dx C f:Pk}{mA:Pq->Option Pb}{name:Pq}{v:Pb}
def Ho{expr:Bool}{Q:Pb->Pj->Prop}(X:K.In s.heap)(I:CG s.heap x dx C mA)(hg:Tv K C name=true)(hh:Ti K C=true)
  (ha:Q3 K (.ref C) name=some none)(hv:mA name=some v)(hv':W.handedIn v=true)(h:Q v { s with toks:=s.toks+1 }) :
  P5 (PX prog w) A (getAttr (.ref x) name expr) Q E s:=by
 obtain⟨od,J,hl⟩:=I.look;exact W.get_value X J (W.plainGet_of hg).1 (W.findObj_own hh ha rfl (by rw[hl,hv])) hv' h
def Gb{ns:ce}{Q:Unit->Pj->Prop}(X:K.In s.heap)(I:CG s.heap x dx C mA)
  (hs:Q3 K (.ref C) "__setattr__"=some (some (.builtin "object.__setattr__")))(hp:TZ K C=true)(ht:W.takerIn K C name=some none)(hh:Ti K C=true)
  (hw:TL mA ns)(hsz:ns.length<=sizeLine)
  (h:∀h',CG h' x dx C (λy=>if y=name then some v else mA y)->SV dx s.heap h'->Q () { s with heap:=h',toks:=s.toks+2 }) :
  P5 (PX prog w) A (setAttr (.ref x) name v) Q E s:=by
 obtain⟨od,J,hl⟩:=I.look;refine W.set_plain X J hs (W.osa_open (s:={ s with toks:=s.toks+1 }) (r:=none) X J hp ht λb=>?_);obtain⟨cd,hc,hd'⟩:=W.any_some hh;have hx:s.heap.get? x=some ⟨.ref C,some dx,.plain,#[]⟩:=I.obj;refine Py (P7 (Py (Py (wpAny_loadPart hx (Py (W.Looks.here (s:={ s with toks:=s.toks+1 }) (W.looks_clsIn X hc) ?_))))));rw[hd'];refine P7 (a:=some dx) (Py (P7 (Py ?_)));refine wpAny_nsSet1 (s:={ s with toks:=s.toks+1 }) I.ns λh' hn2 hs2=>?_;obtain⟨oD,esD,epD,hoD,hdD,hcD⟩:=hn2.count (TL.cons name v hw);refine Py (wpAny_lookBehind hoD (by rw[hdD];exact pastItsLine_dict (Pu hcD (by rw[PL];omega))) ?_);exact P7 (h _ ⟨(hs2.2 _ (QB I.ne)).trans I.obj,hn2,I.ne⟩ hs2)
def ED{R:Tx->Pj->Prop}{vs:List Pb}{kw:List (Pq×Pb)}(X:K.In s.heap)(hm:W.makesIn K C=true)
  (hi:Q3 K (.ref C) "__init__"=some (some (.ref f)))(hf:W.typeIn K (.ref f)=some (.type "function"))
  (h:RJ (PX prog w) (A.under (.builtin "type.__call__" ⟨.ref C::vs,kw⟩)) (.call (.ref f) ⟨.ref (s.heap.objs.size+1)::vs,kw⟩) (W.InitBack (s.heap.objs.size+1) R)
   { s with heap:=(s.heap.push R1).push (SX C s.heap.objs.size) }) :
  RJ (PX prog w) A (.call (.ref C) ⟨vs,kw⟩) R s:=by
 obtain⟨hh,g,d,t,os⟩:=s;exact W.make_core (W.makes_of X hm) (W.looks_findIn X hi) (λself=>W.bind_fn X self hf) (.inl rfl) h
end
def ik(f:Pq)(v:V):List (Pq×V)->List (Pq×V)
 |[]=>[(f,v)]
 |(g,x)::r=>if g=f then(g,v)::r else(g,x)::ik f v r
theorem oS(f g:Pq)(v:V):∀fs:List (Pq×V),(ik f v fs).lookup g=if g=f then some v else fs.lookup g
 |[]=>by
  show SN g [(f,v)]=_
  by_cases h:g=f
  .have hb:(g==f)=true:=beq_iff_eq.mpr h
   simp only[SN,hb,if_pos h]
  .have hb:(g==f)=false:=beq_eq_false_iff_ne.mpr h
   simp only[SN,hb,if_neg h]
 |(k,x)::r=>by
  have ih:=oS f g v r;rw[show ik f v ((k,x)::r)=(if k=f then(k,v)::r else(k,x)::ik f v r) from rfl]
  by_cases hk:k=f
  .rw[if_pos hk]
   by_cases h:g=k
   .have hb:(g==k)=true:=beq_iff_eq.mpr h
    simp only[SN,hb,if_pos (h.trans hk)]
   .have hb:(g==k)=false:=beq_eq_false_iff_ne.mpr h
    simp only[SN,hb,if_neg (λe:g=f=>h (e.trans hk.symm))]
  .rw[if_neg hk]
   by_cases h:g=k
   .have hb:(g==k)=true:=beq_iff_eq.mpr h
    simp only[SN,hb,if_neg (λe:g=f=>hk (h.symm.trans e))]
   .have hb:(g==k)=false:=beq_eq_false_iff_ne.mpr h
    simp only[SN,hb];exact ih
theorem om(f:Pq)(v:V):∀fs:List (Pq×V),f∈(ik f v fs).map (·.1)/\∀g,g∈fs.map (·.1)->g∈(ik f v fs).map (·.1)
 |[]=>⟨by simp[ik],λg h=>by simp at h⟩
 |(k,x)::r=>by
  obtain⟨i1,i2⟩:=om f v r;rw[show ik f v ((k,x)::r)=(if k=f then(k,v)::r else(k,x)::ik f v r) from rfl]
  by_cases hk:k=f
  .rw[if_pos hk]
   subst hk;exact⟨by simp,λg h=>by simpa using h⟩
  .rw[if_neg hk]
   refine⟨?_,λg h=>?_⟩
   .rw[Pl]
    exact Pc _ i1
   .rw[Pl]at h ⊢
    rcases Pr.mp h with e|e
    .exact Pr.mpr (.inl e)
    .exact Pc _ (i2 g e)
theorem oV(f:Pq)(v:V):∀fs:List (Pq×V),(ik f v fs).length<=fs.length+1
 |[]=>by simp[ik]
 |(k,x)::r=>by
  have ih:=oV f v r;rw[show ik f v ((k,x)::r)=(if k=f then(k,v)::r else(k,x)::ik f v r) from rfl]
  by_cases hk:k=f
  .rw[if_pos hk,PL,PL];omega
  .rw[if_neg hk,PL,PL];omega
def jH{v:V}{o:Option Pb}(r:wA (some v) o):∃u,o=some u/\bh v u:=by
 cases o with|none=>exact(show False from r).elim|some u=>exact⟨u,rfl,r⟩
def Cf{v:V}{u:Pb}(r:bh v u):W.handedIn u=true:=by
 cases v with|non=>cases (show u=Q4 from r);rfl|bl b=>cases (show u=QW b from r);rfl|int i=>obtain⟨t,e⟩:=(show ∃t,u=Q9 i t from r);cases e;rfl|str x=>obtain⟨t,e⟩:=(show ∃t,u=Q8 x t from r);cases e;rfl|byt b=>obtain⟨t,e⟩:=(show ∃t,u=Value.bytes b t from r);cases e;rfl|flt b=>obtain⟨t,e⟩:=(show ∃t,u=UQ b t from r);cases e;rfl|ref a=>cases (show u=Qm a from r);rfl|ty n=>cases (show u=Value.type n from r);rfl
section
variable {P:Qe}{w:Qt}{H H':Hp}{h h':PR}{a C dx:Pk}{fs fs':List (Pq×V)}
def pS(hok:ji P w H h)(e:H a=some (.ins C dx fs)):∃mA,CG h a dx C mA/\(∀f,wA (fs.lookup f) (mA f))/\TL mA (fs.map (·.1))/\fs.length<=1000/\H dx=some (.own a):=by
 obtain⟨d,z,ne,ob,mA,n,r,q⟩:=(show cT P w H h a (.ins C dx fs) from hok a _ e)
 exact⟨mA,⟨ob,n,ne⟩,r,q,z,d⟩
end
structure FK (K:Ph) (C:Pk):Prop where
 pg:Tv K C Str.empty=true
 hd:Ti K C=true
 po:TZ K C=true
 sa:Q3 K (.ref C) "__setattr__"=some (some (.builtin "object.__setattr__"))
def FK.get{K:Ph}{C:Pk}(c:FK K C)(f:Pq):Tv K C f=true:=c.pg
def fG(K:Ph)(C:Pk)(f:Pq):Prop:=Q3 K (.ref C) f=some none
def fG.taker{K:Ph}{C:Pk}{f:Pq}(n:fG K C f):W.takerIn K C f=some none:=by
 unfold W.takerIn;rw[show Q3 K (.ref C) f=some none from n];rfl
section
variable {X:Cx}{π:List (Pk×Obj)}{σ:St}{H:Hp}{s:Pj}{a C dx:Pk}{fs:List (Pq×V)}{f:Pq}{v:V}{A:Qs}{E:Pb->Pj->Prop}
def zD{b:Bool}{Q:Pb->Pj->Prop}(I:Inv X π σ H s)(e:H a=some (.ins C dx fs))(c:FK X.K C)(n:fG X.K C f)(l:fs.lookup f=some v)
  (h:∀u s',Inv X π σ H s'->bh v u->Q u s'):P5 (PX X.prog X.w) A (getAttr (.ref a) f b) Q E s:=by
 obtain⟨mA,O,r,_,_,_⟩:=pS I.hok e;obtain⟨u,hu,ru⟩:=jH (v:=v) (o:=mA f) (by rw[←l];exact r f);exact Ho I.kIn O (c.get f) c.hd n hu (Cf ru) (h u _ (I.tok _) ru)
def y0{y:V}{u:Pb}{Q:Unit->Pj->Prop}(I:Inv X π σ H s)(e:H a=some (.ins C dx fs))(c:FK X.K C)(n:fG X.K C f)(hl:fs.length<1000)(ry:bh y u)
  (h:∀s',Inv X π σ (upd H a (.ins C dx (ik f y fs))) s'->Q () s'):P5 (PX X.prog X.w) A (setAttr (.ref a) f u) Q E s:=by
 obtain⟨mA,O,r,wi,_,ho⟩:=pS I.hok e;have hz:(fs.map (·.1)).length<=sizeLine:=by rw[Pg,sizeLine_eq];omega
 refine Gb I.kIn O c.sa c.po n.taker c.hd wi hz λh' O' sb=>h _ ?_;have hd:∃o,h'.get? dx=some o:=let ⟨o,_,_,e',_⟩:=O'.ns;⟨o,e'⟩;refine I.write (x:=a) (e:=dx) (by rw[e];exact Ra) (.inr ho) (λb q hb z=>(sb.2 b hb).trans z) hd ?_;refine⟨by rw[aG O.ne];exact ho,?_,O.ne,O'.obj,_,O'.ns,λg=>?_,λg hg=>?_⟩
 .have:=oV f y fs;omega
 .show wA ((ik f y fs).lookup g) (if g=f then some u else mA g)
  rw[oS]
  by_cases q:g=f
  .rw[if_pos q,if_pos q];exact ry
  .rw[if_neg q,if_neg q];exact r g
 .by_cases q:g=f
  .rw[q];exact(om f y fs).1
  .refine(om f y fs).2 g (wi g λz=>hg ?_)
   show(if g=f then some u else mA g)=none;rw[if_neg q];exact z
def FC(I:Inv X π σ H s):Inv X π σ (upd (upd H s.heap.objs.size (.own (s.heap.objs.size+1))) (s.heap.objs.size+1) (.ins C s.heap.objs.size []))
  { s with heap:=(s.heap.push R1).push (SX C s.heap.objs.size) }:=by
 have e1:(s.heap.push R1).get? s.heap.objs.size=some R1:=Qr s.heap rfl;have e2:((s.heap.push R1).push (SX C s.heap.objs.size)).get? (s.heap.objs.size+1)=some (SX C s.heap.objs.size):=by
  have:=Qr (s.heap.push R1) (o:=SX C s.heap.objs.size) rfl
  rwa [Ui]at this
 have e3:(s.heap.push R1).Ns s.heap.objs.size (λ_=>none):=⟨R1,#[],_,e1,rfl,(λe he=>absurd he (by simp)),λ_=>rfl⟩
 have I1:=I.laid (a:=s.heap.objs.size) (o:=.own (s.heap.objs.size+1)) (h':=s.heap.push R1) (t':=s.toks) (λb u q=>Px _ q) (P1 _) ⟨_,e1⟩;refine I1.laid (a:=s.heap.objs.size+1) (o:=.ins C s.heap.objs.size []) (t':=s.toks) (λb u q=>Px _ q) (UC (Ui _ _)) ?_;have ne:s.heap.objs.size≠s.heap.objs.size+1:=Qh (RN _);refine⟨by rw[aG ne,aP],R4 _,ne,e2,λ_=>none,(Heap.Ns1.of_empty e3).at λo q=>Px _ q,λ_=>Ra,λy hy=>absurd rfl hy⟩
def HS{prog:Qe}{w:Qt}{env:Env}{e:Qa}{f:Pq}{pos:Pos}{s:Pj}{Q:Pb->Pj->Prop}(hb:Sg e f env (eval e env)=eval e env)
  (h:P5 (PX prog w) A (eval e env) (λo si=>P5 (PX prog w) A (getAttr o f true) Q E si) E s):P5 (PX prog w) A (eval (.Attribute e f pos) env) Q E s :=
 Attribute_any_ h (by rw[arm_eval_Attribute,hb])
end
def NB(K:Ph)(ta:TE)(f:Pq):TE:=λσ H Q=>ta σ H λx H1=>∃a C dx fs v,x=.ref a/\H1 a=some (.ins C dx fs)/\FK K C/\fG K C f/\fs.lookup f=some v/\Q v H1
def NJ(K:Ph)(ta tv:TE)(f:Pq):TS:=λD σ H=>tv σ H λy H1=>ta σ H1 λx H2=>∃a C dx fs,x=.ref a/\H2 a=some (.ins C dx fs)/\FK K C/\fG K C f/\fs.length<1000 /\
 D.nx σ (upd H2 a (.ins C dx (ik f y fs)))
section
variable {X:Cx}{o e value:Qa}{f:Pq}{pos pos' tpos:Pos}{ta tv:TE}
def JV(he:PE X e ta)(hb:Sg e f X.env (eval e X.env)=eval e X.env):PE X (.Attribute e f pos) (NB X.K ta f):=by
 intro π s σ H Q I h;refine HS hb (cJ (he π s σ H _ I h) λu s1 z9=>?_);obtain⟨x,H1,I1,rx,a,C,dx,fs,v,ex,ea,c,n,l,q⟩:=z9;subst ex;obtain rfl:u=Qm a:=rx;exact zD I1 ea c n l λu' s2 I2 ru=>⟨v,H1,I2,ru,q⟩
def JI(ha:PE X o ta)(hv:PE X value tv)(hs:Rt value (some (.Attribute o f pos')) pos.line X.env=pure false):PS X (.Assign [.Attribute o f pos'] value pos) (NJ X.K ta tv f):=by
 intro π s σ H D I h;refine plainObj_wpAny_Assign_Attribute (cJ (hv π s σ H _ I h) λu s1 ⟨y,H1,I1,ry,q⟩=>cJ (ha π s1 σ H1 _ I1 q) λov s2 z9=>?_) hs;obtain⟨x,H2,I2,rx,a,C,dx,fs,ex,ea,c,n,l,q2⟩:=z9;subst ex;obtain rfl:ov=Qm a:=rx;exact y0 I2 ea c n l ry λs3 I3=>⟨σ,_,I3,q2⟩
end
section
variable {X:Cx}{π:List (Pk×Obj)}{σ:St}{H:Hp}{s:Pj}{A:Qs}{E:Pb->Pj->Prop}{Q:Pb->Pj->Prop}{c:Pb}{b:Bool}
inductive pI (K:Ph) (H:Hp):V->Pb->Prop where
 |non:pI K H .non (.type "NoneType")
 |bl (x:Bool):pI K H (.bl x) (.type "bool")
 |int (i:Int):pI K H (.int i) (.type "int")
 |str (x:Pq):pI K H (.str x) (.type "str")
 |flt (x:UInt64):pI K H (.flt x) (.type "float")
 |lst {a:Pk}{xs:ad}(e:H a=some (.lst xs)):pI K H (.ref a) (.type "list")
 |frz {a:Pk}{o:Obj}{xs:ad}(e:H a=some (.frz o (.lst xs))):pI K H (.ref a) (.type "list")
 |tup {a:Pk}{xs:ad}(e:H a=some (.tup xs)):pI K H (.ref a) (.type "tuple")
 |dK {a:Pk}{kvs:List (eD×V)}(e:H a=some (.dK kvs)):pI K H (.ref a) (.type "dict")
 |dT {a:Pk}{kvs:List (List eD×V)}(e:H a=some (.dT kvs)):pI K H (.ref a) (.type "dict")
 |ins {a C dx:Pk}{fs:List (Pq×V)}(e:H a=some (.ins C dx fs)) (cl:FK K C) (ha:Q3 K (.ref C) "__class__"=some (some (.builtin "object.__class__")))
   (hn:TY K (.builtin "object.__class__") "__get__"=some (some (.builtin "getset_descriptor.__get__"))) (htk:Uu K (.builtin "object.__class__")=some true)
   (hm:W.mroIn K C (.type "object")=some true):pI K H (.ref a) (.ref C)
def i8{x:V}{u t:Pb}(I:Inv X π σ H s)(rx:bh x u)(ty:pI X.K H x t)(e:W.kitOne X.K t c=some b)(h:∀tk,Q (.bool b) { s with toks:=tk }) :
  P5 (PX X.prog X.w) A (call (.builtin "isinstance") [u,c]) Q E s:=by
 cases ty with
 |non=>cases (show u=Q4 from rx);exact QZ W.kitx_none I.kIn Ra e (λz=>nomatch z) h|bl y=>cases (show u=QW y from rx);exact QZ W.kitx_bool I.kIn Ra e (λz=>nomatch z) h|int i=>obtain⟨t,q⟩:=(show ∃t,u=Q9 i t from rx);cases q;exact QZ W.kitx_int I.kIn Ra e (λz=>nomatch z) h|str y=>obtain⟨t,q⟩:=(show ∃t,u=Q8 y t from rx);cases q;exact QZ W.kitx_str I.kIn Ra e (λz=>nomatch z) h|flt y=>obtain⟨t,q⟩:=(show ∃t,u=UQ y t from rx);cases q;exact QZ W.kitx_float I.kIn Ra e (λz=>nomatch z) h
 |@lst a xs ea=>
  cases (show u=Qm a from rx);obtain⟨_,_,n,_,h1⟩:=(show cT X.prog X.w H s.heap a (.lst xs) from I.hok a _ ea)
  exact QZ UP I.kIn ⟨_,h1,rfl⟩ e (λz=>nomatch z) h
 |@frz a ob xs ea=>
  cases (show u=Qm a from rx);obtain⟨_,_,_,n,_,h1⟩:=(show cT X.prog X.w H s.heap a (.frz ob (.lst xs)) from I.hok a _ ea)
  exact QZ UP I.kIn ⟨_,h1,rfl⟩ e (λz=>nomatch z) h
 |@tup a xs ea=>
  cases (show u=Qm a from rx);obtain⟨_,_,_,p⟩:=(show cT X.prog X.w H s.heap a (.tup xs) from I.hok a _ ea)
  obtain⟨o,h1,h2,_⟩:=p;exact QZ W.kitx_tuple I.kIn ⟨o,h1,h2⟩ e (λz=>nomatch z) h
 |@dK a kvs ea=>
  cases (show u=Qm a from rx);obtain⟨_,_,vs,_,p⟩:=(show cT X.prog X.w H s.heap a (.dK kvs) from I.hok a _ ea)
  obtain⟨o,es,ep,h1,h2,_⟩:=p;exact QZ T1 I.kIn ⟨o,h1,h2.1⟩ e (λz=>nomatch z) h
 |@dT a kvs ea=>
  cases (show u=Qm a from rx);obtain⟨_,_,xs,_,o,es,ep,h1,h2,_⟩:=(show cT X.prog X.w H s.heap a (.dT kvs) from I.hok a _ ea)
  exact QZ T1 I.kIn ⟨o,h1,h2.1⟩ e (λz=>nomatch z) h
 |@ins a C dx fs ea cl ha hn htk hm=>
  cases (show u=Qm a from rx);obtain⟨mA,O,_⟩:=pS I.hok ea;obtain⟨od,J,_⟩:=O.look;exact QZ (W.kitx_own (cl.get _) cl.hd ha hn htk hm) I.kIn J e (λz=>nomatch z) h
end
structure cV (k:Nat) (A:Qs):Prop where
 hd:A.handled=none
 dp:A.depth+3*k+5<recursionLimit
 un:A.units+16*k+200<RY
 gd:A.guards=some []
def cV.mono{j k:Nat}{A:Qs}(r:cV k A)(h:j<=k):cV j A:=⟨r.hd,by have:=r.dp;omega,by have:=r.un;omega,r.gd⟩
def cV.deeper{k:Nat}{A:Qs}(r:cV (k+1) A)(env:Env):cV k (A.deeper env) :=
 ⟨r.hd,by have:=r.dp;show A.depth+1+3*k+5<_;omega,by have:=r.un;show A.units+3+16*k+200<_;omega,r.gd⟩
def zr{A:Qs}{C:Pk}{us:List Pb}{kw:List (Pq×Pb)}:(A.under (.builtin "type.__call__" ⟨.ref C::us,kw⟩)).depth=A.depth+1:=by
 first|rfl|simp[TU,Code.weight,Code.isCreation,Code.isGuard,Code.isCaller,Code.frames,UK,guardIds]
def zq{A:Qs}{C:Pk}{us:List Pb}{kw:List (Pq×Pb)}:(A.under (.builtin "type.__call__" ⟨.ref C::us,kw⟩)).units=A.units+1:=by
 first|rfl|simp[TU,Code.cUnits,Code.frames,UK]
def cV.make{k:Nat}{A:Qs}(r:cV (k+1) A)(C:Pk)(us:List Pb)(kw:List (Pq×Pb)):cV k (A.under (.builtin "type.__call__" ⟨.ref C::us,kw⟩)) :=
 ⟨r.hd,by have:=r.dp;rw[zr];omega,by have:=r.un;rw[zq];omega,by have:=r.gd;simp[TU,Code.guards,Code.isGuard,guardIds,pushGuards,this]⟩
def cV.depth{k:Nat}{A:Qs}(r:cV k A):A.depth<recursionLimit:=by have:=r.dp;omega
def cV.units{k:Nat}{A:Qs}(r:cV k A):A.units+64<RY:=by have:=r.un;omega
def Nx:TA:=λ_ H Q=>Q [] H
def LN(ta:TE)(tr:TA):TA:=λσ H Q=>ta σ H λx H1=>tr σ H1 λxs H2=>Q (x::xs) H2
section
variable {X:Cx}{e:Qa}{es:List Qa}{te:TE}{t:TA}{pos:Pos}
def kc:PA X [] Nx:=λ_ _ _ _ H Q I h=>Calls.spliced_nil ⟨[],H,I,.nil,h⟩
def fH(ha:PE X e te)(hr:PA X es t)(hs:PD (e::es) X.env=(false,eval e X.env)::PD es X.env:=by rfl):PA X (e::es) (LN te t):=by
 intro pos π s σ H Q I h;rw[hs];show P5 _ _ (spliced ((false,eval e X.env)::Rj pos (PD es X.env))) _ _ s;refine Calls.spliced_cons (cJ (ha π s σ H _ I h) λu s1 ⟨x,H1,I1,r1,q1⟩=>?_);exact cJ (hr pos π s1 σ H1 _ I1 q1) λus s2 ⟨xs,H2,I2,r2,q2⟩=>⟨x::xs,H2,I2,.cons r1 r2,q2⟩
def Nq(t:TA):TE:=λσ H Q=>t σ H λxs H1=>xs.length<=sizeLine/\∀p,H1 p=none->Q (.ref p) (upd H1 p (.tup xs))
def Ny(t:TA):TE:=λσ H Q=>t σ H λxs H1=>xs.length<=sizeLine/\∀p,H1 p=none->Q (.ref p) (upd H1 p (.lst xs))
def JP{x1}(h:PA X es t):PE X (.Tuple es x1 pos) (Nq t):=by
 intro π s σ H Q I hq;refine wpAny_Tuple_spliced (cJ (h pos π s σ H _ I hq) λus s1 ⟨xs,H1,I1,r,z,q⟩=>⟨by rw[←r.length];exact z,?_⟩);have hf:H1 s1.heap.objs.size=none:=I1.hok.fresh (P1 _);refine⟨.ref s1.heap.objs.size,upd H1 s1.heap.objs.size (.tup xs),I1.laid (t':=s1.toks) (λb u e=>Px _ e) (P1 _) ?_,rfl,q _ hf⟩;exact⟨z,us,r,⟨_,Qr _ rfl,rfl,_,rfl⟩⟩
def Ed(h:PA X es t):PE X (.List es pos) (Ny t):=by
 intro π s σ H Q I hq;refine wpAny_List_spliced (cJ (h pos π s σ H _ I hq) λus s1 ⟨xs,H1,I1,r,z,q⟩=>⟨by rw[←r.length];exact z,?_⟩);have hf:H1 s1.heap.objs.size=none:=I1.hok.fresh (P1 _);refine⟨.ref s1.heap.objs.size,upd H1 s1.heap.objs.size (.lst xs),I1.laid (t':=s1.toks) (λb u e=>Px _ e) (P1 _) ?_,rfl,q _ hf⟩;exact⟨z,us,0,r,Qr _ rfl⟩
end
abbrev Sp:=ad->Hp->VK->XK->Prop
abbrev p6:=List Env->Hp->Pj->XK->Pb->Pj->Prop
structure pJ (P:Qe) (w:Qt) (K:Ph) (mg:Pq->Option Pb) (base:PR) (A:Qs) (outer:List Env) (s:Pj) (H:Hp):Prop where
 frames:A.frames=some outer
 mod:Mod K mg base
 bs:∀b o,base.get? b=some o->s.heap.get? b=some o/\H b=none
 bsz:base.objs.size<=s.heap.objs.size
 funs:s.heap.FunFrames base outer
 frf:∀b∈zE outer,H b=none
 hok:ji P w H s.heap
 bare:AllBare s.gens
 tab:Bm K H
def CE(outer:List Env)(P:Qe)(w:Qt)(H:Hp)(s:Pj)(Q:VK)(u:Pb)(s':Pj):Prop :=
 ∃v H',s'.os=s.os/\AllBare s'.gens/\Un (zE outer) [] H H' s.heap s'.heap/\ji P w H' s'.heap/\bh v u/\Q v H'
def CR(CX:p6)(outer:List Env)(P:Qe)(w:Qt)(H:Hp)(s:Pj)(Q:VK)(E:XK)(r:Tx)(s':Pj):Prop :=
 match r with
 |.ok (.ret u)=>CE outer P w H s Q u s'
 |.ok _=>False
 |.error e=>CX outer H s E e s'
structure iu (P:Qe) (w:Qt) (K:Ph) (mg:Pq->Option Pb) (base:PR) (CX:p6) (k:Nat) (f:Pk) (fd:Qy) (ps:ce) (sp:Sp):Prop where
 len:∀vs H Q E,sp vs H Q E->vs.length=ps.length
 run:∀(A:Qs) (outer:List Env) (s:Pj) (H:Hp) (args:Args) (us:List Pb) (vs:ad) (Q:VK) (E:XK),cV k A->pJ P w K mg base A outer s H->BindsTo s fd args (ps.zip us)->aY vs us->sp vs H Q E ->
  RJ (PX P w) A (.call (.ref f) args) (CR CX outer P w H s Q E) s
def iu.mono{P:Qe}{w:Qt}{K:Ph}{mg:Pq->Option Pb}{base:PR}{CX:p6}{j k:Nat}{f:Pk}{fd:Qy}{ps:ce}{sp:Sp}(F:iu P w K mg base CX j f fd ps sp)(h:j<=k) :
  iu P w K mg base CX k f fd ps sp:=⟨F.len,λA outer s H args us vs Q E hr=>F.run A outer s H args us vs Q E (hr.mono h)⟩
def pJ.make{P:Qe}{w:Qt}{K:Ph}{mg:Pq->Option Pb}{base:PR}{A:Qs}{outer:List Env}{s:Pj}{H:Hp}(e:pJ P w K mg base A outer s H)(C:Pk)(us:List Pb)(kw:List (Pq×Pb)) :
  pJ P w K mg base (A.under (.builtin "type.__call__" ⟨.ref C::us,kw⟩)) outer s H:=⟨by first|exact e.frames|(simpa[TU,Code.envs,UK,pushEnvs] using e.frames),e.mod,e.bs,e.bsz,e.funs,e.frf,e.hok,e.bare,e.tab⟩
section
variable {X:Cx}{π:List (Pk×Obj)}{σ:St}{H:Hp}{s s':Pj}
def Inv.tab(I:Inv X π σ H s):Bm X.K H:=λP d h=>by
 obtain⟨m,e⟩:=I.ok.tab P d h;obtain⟨m2,e2⟩:=I.base.tbls P _ e;exact⟨m++m2,by rw[e2,Array.append_assoc]⟩
def Inv.env0(I:Inv X π σ H s):pJ X.prog X.w X.K X.mg X.base X.A X.stack s H :=
 ⟨I.ok.frames,I.ok.mod,I.bs,Pu I.ok.bsz I.sz,I.stack,I.stkFree,I.hok,I.bare,I.tab⟩
def Inv.after{Q:VK}{u:Pb}(I:Inv X π σ H s)(h:CE X.stack X.prog X.w H s Q u s'):EP X π σ Q u s':=by
 obtain⟨v,H',os,bare,un,hok,r,q⟩:=h;obtain⟨hh,g,d,t,os'⟩:=s';obtain rfl:os'=s.os:=os;exact⟨v,H',I.call (h':=hh) (g':=g) (d':=d) (t':=t) (ch:=[]) un hok bare (λb z=>absurd z (by simp)),r,q⟩
end
def LO(sp:Sp)(dvs:ad)(E:XK)(t:TA):TE:=λσ H Q=>t σ H λvs H1=>sp (vs++dvs) H1 Q E
def LI(C:Pk)(sp:Sp)(dvs:ad)(E:XK)(t:TA):TE:=λσ H Q=>t σ H λvs H1=>∀x dx,H1 x=none->H1 dx=none->dx≠x ->
 sp (.ref x::(vs++dvs)) (upd (upd H1 dx (.own x)) x (.ins C dx [])) (λv H2=>v=.non/\Q (.ref x) H2) E
def jT(K:Ph)(fd:Qy)(ps:ce)(ds:List Pb):Prop :=
 ∀(s:Pj) (us:List Pb),K.In s.heap->(us++ds).length=ps.length->BindsTo s fd ⟨us,[]⟩ (ps.zip (us++ds))
def jT.all{K:Ph}{fd:Qy}{ps:ce}(h:∀us:List Pb,us.length=ps.length->bindArgs fd ⟨us,[]⟩=pure (ps.zip us)):jT K fd ps []:=λs us _ hl=>by
 rw[QH]at hl ⊢;exact .of_eq (h us hl)
def gs(CX:p6)(X:Cx)(E:XK):Prop:=∀(π:List (Pk×Obj)) (σ:St) (H:Hp) (s:Pj) (e:Pb) (s':Pj),Inv X π σ H s->CX X.stack H s E e s'->X.xe e s'
section
variable {X:Cx}{CX:p6}{k:Nat}{f C:Pk}{fd:Qy}{ps:ce}{sp:Sp}{dvs:ad}{ds:List Pb}{E:XK}{x m:Pq}{p pos apos:Pos}{e o:Qa}{es:List Qa}{ta:TE}{t:TA}
def Jx{π:List (Pk×Obj)}{σ:St}{H:Hp}{s:Pj}{Q:VK}{us:List Pb}{vs:ad}(F:iu X.prog X.w X.K X.mg X.base CX k f fd ps sp)(hr:cV k X.A)(hb:jT X.K fd ps ds)(hd:aY dvs ds)(hx:gs CX X E)
  (I:Inv X π σ H s)(r:aY vs us)(h:sp (vs++dvs) H Q E):P5 (PX X.prog X.w) X.A (call (.ref f) us) (EP X π σ Q) X.xe s:=by
 have r2:aY (vs++dvs) (us++ds):=r.append hd;have hl:(us++ds).length=ps.length:=by rw[←r2.length];exact F.len _ _ _ _ h
 refine wpAny_call (codeAny_mono (F.run X.A X.stack s H ⟨us,[]⟩ (us++ds) (vs++dvs) Q E hr I.env0 (hb s us I.kIn hl) r2 h) λr s' hq=>?_);cases r with
 |error e=>exact hx π σ H s e s' I hq
 |ok fl=>
  cases fl with|ret u=>exact I.after hq|next|brk|cont=>exact QK hq
def GO(F:iu X.prog X.w X.K X.mg X.base CX k f fd ps sp)(hr:cV k X.A)(hg:Gl X x)(hm:X.mg x=some (.ref f))(hk:S9 X.K (.ref f)=true)(hb:jT X.K fd ps ds)(hd:aY dvs ds)(hx:gs CX X E)
  (ha:PA X (e::es) t)(hdb:(x==("__debug__" : Pq))=false:=by decide)(he:PD (e::es) X.env=(false,eval e X.env)::PD es X.env:=by rfl)(hpl:(Rj pos (PD es X.env)).any (·.1)=false:=by rfl) :
  PE X (.Call (.Name x p) (e::es) [] pos) (LO sp dvs E t):=by
 intro π s σ H Q I h;refine wpAny_Call_Name_kw (pR I hg hm ?_ hdb);refine Ux (h₀:=X.base) I.ok.mod.kin hk (cJ (ha pos π s σ H _ I h) λus s1 z9=>?_) he hpl;obtain⟨vs,H1,I1,r,q⟩:=z9;refine⟨I1.kIn,?_⟩;exact Jx F hr hb hd hx I1 r q
structure Mk (K:Ph) (C f:Pk):Prop where
 makes:W.makesIn K C=true
 init:Q3 K (.ref C) "__init__"=some (some (.ref f))
 fn:W.isFn K (.ref f)=true
 kp:S9 K (.ref C)=true
def Dq{π:List (Pk×Obj)}{σ:St}{H:Hp}{s:Pj}{Q:VK}{us:List Pb}{vs:ad}(M:Mk X.K C f)(F:iu X.prog X.w X.K X.mg X.base CX k f fd ps sp)(hr:cV (k+1) X.A)(hb:jT X.K fd ps ds)(hd:aY dvs ds)
  (hx:gs CX X E)(I:Inv X π σ H s)(r:aY vs us)
  (h:∀x dx,H x=none->H dx=none->dx≠x->sp (.ref x::(vs++dvs)) (upd (upd H dx (.own x)) x (.ins C dx [])) (λv H2=>v=.non/\Q (.ref x) H2) E) :
  P5 (PX X.prog X.w) X.A (call (.ref C) us) (EP X π σ Q) X.xe s:=by
 have hq:=h (s.heap.objs.size+1) s.heap.objs.size (I.hok.fresh (Nat.le_succ _)) (I.hok.fresh (P1 _)) (Qh (RN _));have I2:=FC (C:=C) I;have r2:aY (V.ref (s.heap.objs.size+1)::(vs++dvs)) (Qm (s.heap.objs.size+1)::(us++ds)):=.cons rfl (r.append hd);have hl:(Qm (s.heap.objs.size+1)::us++ds).length=ps.length:=by
  have e:=r2.length;rw[F.len _ _ _ _ hq]at e;exact e.symm
 refine wpAny_call (ED (f:=f) I.kIn M.makes M.init (beq_iff_eq.mp M.fn) (codeAny_mono (F.run _ X.stack _ _ ⟨Qm (s.heap.objs.size+1)::us,[]⟩ (Qm (s.heap.objs.size+1)::(us++ds)) _ _ E (hr.make C us [])
  (I2.env0.make C us []) (hb _ (Qm (s.heap.objs.size+1)::us) I2.kIn hl) r2 hq) λr s' hq'=>?_))
 cases r with
 |error e=>exact hx π σ _ _ e s' I2 hq'
 |ok fl=>
  cases fl with
  |ret u=>
   obtain⟨v,H',I3,rv,ev,q3⟩:=I2.after hq';subst ev;exact⟨rv,⟨V.ref (s.heap.objs.size+1),H',I3,rfl,q3⟩⟩
  |next|brk|cont=>exact QK hq'
def GI(M:Mk X.K C f)(F:iu X.prog X.w X.K X.mg X.base CX k f fd ps sp)(hr:cV (k+1) X.A)(hg:Gl X x)(hm:X.mg x=some (.ref C))(hb:jT X.K fd ps ds)(hd:aY dvs ds)(hx:gs CX X E)
  (ha:PA X (e::es) t)(hdb:(x==("__debug__" : Pq))=false:=by decide)(he:PD (e::es) X.env=(false,eval e X.env)::PD es X.env:=by rfl)(hpl:(Rj pos (PD es X.env)).any (·.1)=false:=by rfl) :
  PE X (.Call (.Name x p) (e::es) [] pos) (LI C sp dvs E t):=by
 intro π s σ H Q I h;refine wpAny_Call_Name_kw (pR I hg hm ?_ hdb);refine Ux (h₀:=X.base) I.ok.mod.kin M.kp (cJ (ha pos π s σ H _ I h) λus s1 z9=>?_) he hpl;obtain⟨vs,H1,I1,r,q⟩:=z9;refine⟨I1.kIn,?_⟩;exact Dq M F hr hb hd hx I1 r q
end
structure fS (N P:ce) (sc:Sa):Prop where
 kind:sc.kind=.function
 co:sc.isCoroutine=false
 gen:sc.isGenerator=false
 nd:N.Nodup
 pre:N.take P.length=P
 par:∀x∈P,sc.names.lookup x=some .local ∨ sc.names.lookup x=some .cell
 nofree:∀y∈sc.names,y.2≠.free
theorem u4{kindOf:Pq->Option Q5}{x:Pq}:∀{binds:List (Pq×Pb)}{m:Pq->Option Pb},(∀v,(x,v)∉binds)->bindL kindOf binds m x=m x
 |[],_,_=>rfl
 |(n,v)::r,m,h=>by
  unfold bindL;rw[u4 λw hw=>h w (Pc _ hw)];split
  .have:x≠n:=by rintro rfl;exact h v Pf
   simp[this]
  .rfl
theorem u6{kindOf:Pq->Option Q5}{x:Pq}:∀{binds:List (Pq×Pb)}{m:Pq->Option Pb},(∀v,(x,v)∉binds)->bindC kindOf binds m x=m x
 |[],_,_=>rfl
 |(n,v)::r,m,h=>by
  unfold bindC;rw[u6 λw hw=>h w (Pc _ hw)];split
  .rfl
  .have:x≠n:=by rintro rfl;exact h v Pf
   simp[this]
theorem u5{kindOf:Pq->Option Q5}{x:Pq}{v:Pb}:∀{P:ce}{vs:List Pb}{i:Nat}{m:Pq->Option Pb},P.Nodup->P[i]?=some x->vs[i]?=some v->kindOf x=some .local ->
  bindL kindOf (P.zip vs) m x=some v
 |[],_,_,_,_,h,_,_=>by simp at h
 |_::_,[],_,_,_,_,h,_=>by simp at h
 |p::P,w::vs,0,m,nd,h1,h2,hk=>by
  simp at h1 h2;subst h1;subst h2;show bindL kindOf ((p,w)::P.zip vs) m p=_;unfold bindL;rw[u4 λv hv=>(PZ.mp nd).1 (SO hv).1,if_pos hk];simp
 |p::P,w::vs,i+1,m,nd,h1,h2,hk=>by
  show bindL kindOf ((p,w)::P.zip vs) m x=_;unfold bindL;exact u5 (i:=i) (PZ.mp nd).2 (by simpa using h1) (by simpa using h2) hk
theorem va{kindOf:Pq->Option Q5}{x:Pq}{v:Pb}:∀{P:ce}{vs:List Pb}{i:Nat}{m:Pq->Option Pb},P.Nodup->P[i]?=some x->vs[i]?=some v->kindOf x≠some .local ->
  bindC kindOf (P.zip vs) m x=some v
 |[],_,_,_,_,h,_,_=>by simp at h
 |_::_,[],_,_,_,_,h,_=>by simp at h
 |p::P,w::vs,0,m,nd,h1,h2,hk=>by
  simp at h1 h2;subst h1;subst h2;show bindC kindOf ((p,w)::P.zip vs) m p=_;unfold bindC;rw[u6 λv hv=>(PZ.mp nd).1 (SO hv).1,if_neg hk];simp
 |p::P,w::vs,i+1,m,nd,h1,h2,hk=>by
  show bindC kindOf ((p,w)::P.zip vs) m x=_;unfold bindC;exact va (i:=i) (PZ.mp nd).2 (by simpa using h1) (by simpa using h2) hk
def start(N:ce)(vs:ad):St:=vs.map some++PY (N.length-vs.length) none
noncomputable def pH(CX:p6) (P:Qe) (w:Qt) (K:Ph) (mg:Pq->Option Pb) (base:PR) (N:ce) (qual:Pq) (scope:Sa) (f:Pk) (cd:Pb) (A:Qs) (outer:List Env) (s:Pj) (H:Hp) (E:XK):Cx where
 prog:=P
 w:=w
 K:=K
 mg:=mg
 base:=base
 A:=A.deeper (envOfC qual scope s.heap.objs.size f cd)
 N:=N
 sf:=s
 Ha:=H
 env:=envOfC qual scope s.heap.objs.size f cd
 outer:=outer
 stack:=envOfC qual scope s.heap.objs.size f cd::outer
 ex:=[]
 calm:=true
 fn:=λ_=>true
 pn:=[]
 xe:=λe s'=>P5 (PX P w) (A.deeper (envOfC qual scope s.heap.objs.size f cd)) (leaving (envOfC qual scope s.heap.objs.size f cd) e) (λ_ s''=>CX outer H s E e s'') (λe' s''=>CX outer H s E e' s'') s'
def yy{sc:Sa}{n:Nat}{x:Pq}(h:sc.names.lookup x=some .cell):∃c,(cellsFrom n sc.names []).lookup x=some c:=by
 have q:=W.cellsFrom_some sc.names n [] (.inl h);exact Sh.mp q
def Cb{CX:p6}{P:Qe}{w:Qt}{K:Ph}{mg:Pq->Option Pb}{base:PR}{N ps:ce}{qual:Pq}{scope:Sa}{f:Pk}{cd:Pb}{A:Qs}{outer:List Env}{s s1:Pj}{H:Hp}{E:XK}{us:List Pb}{vs:ad}
  (S:fS N ps scope)(hd:A.handled=none)(e0:pJ P w K mg base A outer s H)(hl:vs.length=ps.length)(r:aY vs us)
  (x:InCallC s s.heap.objs.size (bindL (envOfC qual scope s.heap.objs.size f cd).kindOf (ps.zip us) λ_=>none) (cellsFrom (s.heap.objs.size+1) scope.names []) (bindC (envOfC qual scope s.heap.objs.size f cd).kindOf (ps.zip us) λ_=>none) s1) :
  Inv (pH CX P w K mg base N qual scope f cd A outer s H E) [] (start N vs) H s1:=by
 have hpl:ps.length<=N.length:=by have:=congrArg S5 S.pre;rw[Ru]at this;omega
 obtain⟨h1,tk,rfl,hk⟩:=x.done;have noA:∀b:Pk,b∉(pH CX P w K mg base N qual scope f cd A outer s H E).ex:=λb z=>absurd (show b∈([]:List Pk) from z) (by simp);refine⟨⟨e0.mod,S.kind,rfl,rfl,P1 _,λy z c h1 h2=>?_,λy hy=>?_,λy c _ h=>?_,λ_=>hd,U0 e0.frames,.inr ⟨rfl,rfl⟩,λb z=>absurd z (noA b),e0.bs,e0.bsz,λb _ _=>noA b,λb z=>absurd z (noA b),e0.funs,e0.frf,e0.tab⟩,
  rfl,e0.bare,Un.kept hk,⟨_,x.toInCall.ns,λi y v h1 h2 h3=>?_⟩,λy c h=>⟨_,x.cell y c h⟩,e0.hok.fresh (P1 _),λy c h=>?_,λp hp=>absurd (show p∈([]:List (Pk×Obj)) from hp) (by simp),e0.hok.kept hk,?_⟩
 .exact name_of_addr x.apart (Qx h1) (Qx h2)
 .have hy:scope.names.lookup y=some .cell∨scope.names.lookup y=some .free:=hy
  rcases hy with hy|hy
  .exact yy hy
  .exact absurd rfl (S.nofree _ (Qx hy))
 .exact R7 (x.above y c (Qx h))
 .have hi:i<vs.length:=by
   unfold start at h2
   by_cases hi:i<vs.length
   .exact hi
   .rw[Qc (by simpa using hi)]at h2
    rw[Qn]at h2;split at h2<;>cases h2
  have ha:vs[i]?=some v:=by
   unfold start at h2;rw[P0 (by simpa using hi),Pp]at h2;cases e:vs[i]? with|none=>rw[e]at h2;cases h2|some a=>rw[e]at h2;cases h2;rfl
  obtain⟨u,hu,rv⟩:=r.get ha;have hp:ps[i]?=some y:=by
   rw[←S.pre,Ri (by omega)];exact h1
  have ndP:ps.Nodup:=by rw[←S.pre];exact S.nd.sublist (List.take_sublist _ _)
  refine⟨u,rv,?_⟩;rcases S.par y (PN hp) with k|k
  .exact .inl ⟨k,u5 ndP hp hu k⟩
  .obtain⟨c,e⟩:=yy (n:=s.heap.objs.size+1) k
   refine .inr ⟨.inl k,c,e,?_⟩;have q:=x.cell y c e;rw[va ndP hp hu (by show scope.names.lookup y≠_;rw[k];decide)]at q;exact q
 .exact e0.hok.fresh (R7 (x.above y c (Qx h)))
 .unfold start
  show _=N.length;rw[P9,Pg,RD];omega
def IG{CX:p6}{P:Qe}{w:Qt}{K:Ph}{mg:Pq->Option Pb}{base:PR}{k:Nat}{f:Pk}{name qual:Pq}{params:Arguments}{body:List Rv}{scope:Sa}{dV kV doc pm cdv ct oc:Pb}{an od:Option Pk}
  {osl:Array (Option Pb)}{N ps:ce}{sp:Sp}(lk:K.lookup f=some ⟨oc,od,.func (Sd name qual params body scope dV kV doc pm an cdv ct),osl⟩) (hcd:Ub K cdv qual=true) (S:fS N ps scope)
  (len:∀vs H Q E,sp vs H Q E->vs.length=ps.length)
  (hbody:∀(A:Qs) (outer:List Env) (s:Pj) (H:Hp) (vs:ad) (Q:VK) (E:XK),cV k (A.deeper (envOfC qual scope s.heap.objs.size f cdv))->sp vs H Q E ->
   ∃t,yI (pH CX P w K mg base N qual scope f cdv A outer s H E) body t/\t { nx:=λ_ H'=>Q .non H',rt:=Q } (start N vs) H) :
  iu P w K mg base CX (k+1) f (Sd name qual params body scope dV kV doc pm an cdv ct) ps sp:=by
 refine⟨len,λA outer s H args us vs Q E hr e0 hb r hsp=>?_⟩;have hl:=len _ _ _ _ hsp;have KX:K.In s.heap:=e0.mod.kin.keeps λb o e=>(e0.bs b o e).1;have lim:s.heap.NoLimit:=e0.mod.nolimit.keeps λb o e=>(e0.bs b o e).1;have hkind:∀y∈ps.zip us,scope.names.lookup y.1=some .local ∨ (scope.names.lookup y.1=some .cell/\((cellsFrom (s.heap.objs.size+1) scope.names []).lookup y.1).isSome=true):=λ⟨n,v⟩ hy=>by
  rcases S.par n (SO hy).1 with q|q
  .exact .inl q
  .exact .inr ⟨q,W.cellsFrom_some _ _ _ (.inl q)⟩
 refine codeAny_call_function hr.depth (KX _ _ lk) rfl S.co S.gen rfl (W.codeRec_of KX hcd) (hb _ _ _ _ ?_);refine wpAny_newFunctionEnv_cells S.kind hkind λenv he s1 x=>?_;subst he;refine⟨lim.keeps x.toInCall.keep,codeAny_func ?_⟩;obtain⟨t,ht,hq⟩:=hbody A outer s H vs Q E (hr.deeper _) hsp;have I:Inv (pH CX P w K mg base N qual scope f cdv A outer s H E) [] (start N vs) H s1:=Cb S hr.hd e0 hl r x;refine Rn (ht [] s1 (start N vs) H _ I hq) (λfl s' hs=>?_) λe s' hs=>hs;have fin:∀{σ':St}{H':Hp}{v:V}{u:Pb},Inv (pH CX P w K mg base N qual scope f cdv A outer s H E) [] σ' H' s'->bh v u->Q v H'->CE outer P w H s Q u s' :=
  λ{σ' H' v u} J rv q=>⟨v,H',J.os,J.bare,J.base,J.hok,rv,q⟩
 cases fl with
 |ret u=>
  obtain⟨v,σ',H',J,rv,q⟩:=hs;exact fin J rv q
 |next=>
  obtain⟨σ',H',J,q⟩:=hs;exact fin (v:=V.non) (u:=Q4) J rfl q
 |brk=>
  obtain⟨_,_,_,q⟩:=hs;exact QK q
 |cont=>
  obtain⟨_,_,_,q⟩:=hs;exact QK q
section
variable {X:Cx}{x:Pq}{p pos:Pos}{e:Qa}{es:List Qa}{t:TA}{id T:String}{r:ad->Hp->VK->Prop}
def Ol(r:ad->Hp->VK->Prop)(t:TA):TE:=λσ H Q=>t σ H λvs H1=>r vs H1 Q
def xm(hc:nT X (.builtin id) r)(hg:Gl X x)(hm:X.mg x=none)(hv:bootBuiltins x=some (.builtin id))(ha:PA X (e::es) t)(hn:x≠"__name__":=by decide)(hdb:(x==("__debug__" : Pq))=false:=by decide)
  (he:PD (e::es) X.env=(false,eval e X.env)::PD es X.env:=by rfl)(hpl:(Rj pos (PD es X.env)).any (·.1)=false:=by rfl):PE X (.Call (.Name x p) (e::es) [] pos) (Ol r t):=by
 intro π s σ H Q I h;refine wpAny_Call_Name_kw (oj I hg hm hv ?_ hn hdb);exact PyProof.Rows.callWith_builtin1 (cJ (ha pos π s σ H _ I h) λus s1 ⟨vs,H1,I1,r1,q1⟩=>hc π s1 σ H1 vs us Q I1 r1 q1) he hpl
def BL(hc:nT X (.type T) r)(hg:Gl X x)(hm:X.mg x=none)(hv:bootBuiltins x=some (.type T))(ha:PA X (e::es) t)(hn:x≠"__name__":=by decide)(hdb:(x==("__debug__" : Pq))=false:=by decide)
  (he:PD (e::es) X.env=(false,eval e X.env)::PD es X.env:=by rfl)(hpl:(Rj pos (PD es X.env)).any (·.1)=false:=by rfl):PE X (.Call (.Name x p) (e::es) [] pos) (Ol r t):=by
 intro π s σ H Q I h;refine wpAny_Call_Name_kw (oj I hg hm hv ?_ hn hdb);exact RZ (cJ (ha pos π s σ H _ I h) λus s1 ⟨vs,H1,I1,r1,q1⟩=>hc π s1 σ H1 vs us Q I1 r1 q1) he hpl
end
end L2
namespace HT
open PySem PyProof.Rows
section
variable {prog:Qe}{w:Qt}{A:Qs}{E:Pb->Pj->Prop}{s:Pj}
def cat_tup{t b:Pk}{vs ws:List Pb}{Q:Pb->Pj->Prop}(ht:IsTup s.heap t vs.toArray)(hb:IsTup s.heap b ws.toArray)(hv:vs≠[])
  (h1:ws=[]->Q (.ref t) s)(h2:ws≠[]->Q (.ref s.heap.objs.size) { s with heap:=s.heap.push { cls:=.type "tuple",data:=.seq (vs++ws).toArray } })
  (hsz:vs.length+ws.length<=sizeLine):P5 (PX prog w) A (binaryOp .Add (.ref t) (.ref b)) Q E s:=by
 obtain⟨⟨cls,dd,data,sl⟩,ho,hc,n,hd⟩:=id ht;obtain⟨⟨cls2,dd2,data2,sl2⟩,ho2,hc2,n2,hd2⟩:=id hb;simp only at hc hd hc2 hd2;subst hc hd hc2 hd2;have e:vs.toArray++ws.toArray=(vs++ws).toArray:=by simp
 by_cases hw:ws=[]
 .exact concat_meets ⟨_,ho,rfl⟩ ⟨_,ho2,rfl⟩ noFill_tuple_add seq_tuple_add Uz Uw (Uq _ _)
   (tuple_addW1 t b vs.toArray ws.toArray n n2 dd dd2 sl sl2 (by simpa using hv) (by simp[hw])) ⟨ho,ho2,h1 hw⟩
 .refine concat_meets ⟨_,ho,rfl⟩ ⟨_,ho2,rfl⟩ noFill_tuple_add seq_tuple_add Uz Uw (Uq _ _)
   (tuple_addW2 t b vs.toArray ws.toArray n n2 dd dd2 sl sl2 (by simpa using hv) (by simpa using hw) (by rw[PJ,PJ];exact hsz)) ⟨ho,ho2,?_⟩
  rw[e];exact h2 hw
def sIx(n d:Nat):Option Int->Nat
 |none=>d
 |some v=>if v<0 then(v+(n:Int)).toNat else min v.toNat n
def sIx_none(n d:Nat):sIx n d none=d:=rfl
def sIx_nat(n d k:Nat):sIx n d (some (k:Int))=min k n:=by
 show(if(k:Int)<0 then((k:Int)+(n:Int)).toNat else min (k:Int).toNat n)=min k n;rw[if_neg (by omega),QM]
def Jw(n d:Nat)(hd:d<=n)(o:Option Int):sIx n d o<=n:=by
 cases o with
 |none=>exact hd
 |some v=>
  show(if v<0 then(v+(n:Int)).toNat else min v.toNat n)<=n
  by_cases hv:v<0
  .rw[if_pos hv];omega
  .rw[if_neg hv];exact Nat.min_le_right _ _
def Ba(v:Int)(n d:Nat):(if v<0 then max (v+(n:Int)) 0 else min v (n:Int))=((sIx n d (some v):Nat):Int):=by
 show(if v<0 then max (v+(n:Int)) 0 else min v (n:Int))=(((if v<0 then(v+(n:Int)).toNat else min v.toNat n):Nat):Int)
 by_cases hv:v<0
 .simp only[if_pos hv];omega
 .simp only[if_neg hv];omega
def zU(lo hi:Option Int)(n:Nat):S2 lo hi 1 (n:Int)=(((sIx n 0 lo:Nat):Int),((sIx n n hi:Nat):Int)):=by
 have h1:¬((1:Int)<0):=by omega
 unfold S2;simp only[h1,if_false];refine Prod.ext ?_ ?_
 .cases lo with
  |none=>rfl
  |some v=>exact Ba v n 0
 .cases hi with
  |none=>rfl
  |some v=>exact Ba v n n
def zg(i j:Nat):Sb (i:Int) (j:Int) 1=j-i:=by
 unfold Sb;have h1:(1:Int) > 0:=by omega
 simp only[h1,if_true,Int.ediv_one];split<;>omega
def qh{v:Pb}{o:Option Int}{Q:Option Int->Pj->Prop}(p:IsPart v o)(h:Q o s):P5 (PX prog w) A (Builtin.Slice.slicePartIndex v) Q E s:=by
 cases p with|none=>exact slicePart_none h|int i t=>exact slicePart_int h
def nZ{sl:Pk}{vl vu:Pb}{lo hi:Option Int}{n:Nat}{Q:Int×Int×Nat->Pj->Prop}(hs:s.heap.IsSliceOf sl vl vu .none)(pl:IsPart vl lo)(pu:IsPart vu hi)
  (h:Q (((sIx n 0 lo:Nat):Int),1,sIx n n hi-sIx n 0 lo) s):P5 (PX prog w) A (Uk (.ref sl) (pure (n:Int))) Q E s:=by
 obtain⟨os,hos,hcs,hds⟩:=id hs;unfold Uk Builtin.Slice.sliceFields;refine Py (Py (wpAny_field hos hds (x:=vl) rfl (Py (wpAny_field hos hds (x:=vu) rfl (Py (wpAny_field hos hds (x:=.none) rfl (P7 ?_)))))));refine Py (slicePart_none ?_);show P5 _ _ (if((1:Int)==0)=true then _ else _) _ _ s;rw[if_neg (by decide)];refine Py (qh pl (Py (qh pu (Py (P7 ?_)))));show P5 _ _ (match S2 lo hi 1 (n:Int) with|(lo,hi)=>pure (lo,(1:Int),Sb lo hi 1)) _ _ s;rw[zU lo hi n];show P5 _ _ (pure (((sIx n 0 lo:Nat):Int),(1:Int),Sb ((sIx n 0 lo:Nat):Int) ((sIx n n hi:Nat):Int) 1)) _ _ s;rw[zg];exact P7 h
def D8(xs:Array Pb)(i k:Nat):((Qu k).filterMap λ(m:Nat)=>xs[((i:Int)+(m:Int)*1).toNat]?).toArray=((xs.toList.drop i).take k).toArray:=by
 have e:(λ(m:Nat)=>xs[((i:Int)+(m:Int)*1).toNat]?)=λm=>xs[i+m]?:=by
  funext m;have:((i:Int)+(m:Int)*1).toNat=i+m:=by omega
  rw[this]
 rw[e];have:=pick_run xs i k;rw[TB]at this;have e2:((λx=>xs[x]?)∘λx=>i+x)=λm=>xs[i+m]?:=rfl;rw[e2]at this;rw[this]
def getItem_tuple_cut{t sl:Pk}{items:Array Pb}{vl vu:Pb}{lo hi:Option Int}{Q:Pb->Pj->Prop}(ht:IsTup s.heap t items)(hs:s.heap.IsSliceOf sl vl vu .none)(pl:IsPart vl lo)(pu:IsPart vu hi)
  (hw:¬(sIx items.size 0 lo=0/\sIx items.size items.size hi=items.size))
  (h:Q (.ref s.heap.objs.size) { s with heap:=s.heap.push { cls:=.type "tuple",data:=.seq ((items.toList.drop (sIx items.size 0 lo)).take (sIx items.size items.size hi-sIx items.size 0 lo)).toArray } })
  (hsz:items.size<=sizeLine):P5 (PX prog w) A (getItem (.ref t) (.ref sl)) Q E s:=by
 have htake:sizeOk (.seq ((items.toList.drop (sIx items.size 0 lo)).take (sIx items.size items.size hi-sIx items.size 0 lo)).toArray):=by
  show((items.toList.drop (sIx items.size 0 lo)).take (sIx items.size items.size hi-sIx items.size 0 lo)).toArray.size<=sizeLine;rw[PJ,Ru,R9,Rp];omega
 have hj:sIx items.size items.size hi<=items.size:=Jw _ _ (P1 _) hi;obtain⟨os,hos,hcs,hds⟩:=id hs;have hTs:s.TypeIs (.ref sl) "slice":=⟨os,hos,hcs⟩
 unfold getItem
 try with_reducible refine RG ?_
 first|refine Py (P7 ?_)|skip
 refine Py (wpAny_sequenceKey ht.typeIs (by decide) ?_);refine Py (wpAny_callSpecial?_slot (name:=Str.ofString "__getitem__") ht.typeIs SE
  (wpAny_call_entry SE ht.typeIs entry_tuple_getitem ?_ (args_tuple_getitem _ _)))
 show P5 _ _ (Builtin.Tuple.tupleItemsOf (.ref t) >>= _) _ _ s;refine Py (tupleItemsOf_ ht ?_);refine Py (wpAny_typeOf hTs ?_);rw[if_pos (by decide)];refine Py (nZ hs pl pu ?_);have hno:¬((((sIx items.size 0 lo:Nat):Int)==0&&(1:Int)==1&&(sIx items.size items.size hi-sIx items.size 0 lo)==items.size)=true):=by
  intro q;rw[PM,PM]at q;have q1:((sIx items.size 0 lo:Nat):Int)=0:=eq_of_beq q.1.1;have q2:sIx items.size items.size hi-sIx items.size 0 lo=items.size:=eq_of_beq q.2;exact hw ⟨by omega,by omega⟩
 show P5 _ _ (if(((sIx items.size 0 lo:Nat):Int)==0&&(1:Int)==1&&(sIx items.size items.size hi-sIx items.size 0 lo)==items.size)=true then _ else _) _ _ s;rw[if_neg hno,D8]
 first
  |exact Py (m:=Si _) (wpAny_newObj_type (P7 ⟨_,rfl,P7 h⟩) htake)
  |exact Py (m:=Si _) (wpAny_newObj_type (Py (P7 (P7 ⟨_,rfl,P7 h⟩))) htake)
  |exact Py (Py (m:=Si _) (wpAny_newObj_type (P7 (P7 ⟨_,rfl,P7 h⟩)) htake))
  |exact Py (Py (m:=Si _) (wpAny_newObj_type (P7 ⟨_,rfl,P7 h⟩) htake))
end
end HT
namespace L2
open PySem PySem.Spec PyProof.Rows
abbrev TO:=St->Hp->(Option Int->Hp->Prop)->Prop
def PO(X:Cx)(e:Option Qa)(t:TO):Prop :=
 ∀(π:List (Pk×Obj)) (s:Pj) (σ:St) (H:Hp) (Q:Option Int->Hp->Prop),Inv X π σ H s->t σ H Q ->
  P5 (PX X.prog X.w) X.A (evalPart e X.env) (λu s'=>∃o H',Inv X π σ H' s'/\IsPart u o/\Q o H') X.xe s
def F5:TO:=λ_ H Q=>Q none H
def LD(t:TE):TO:=λσ H Q=>t σ H λx H1=>∃i,x=.int i/\Q (some i) H1
section
variable {X:Cx}{e:Qa}{te:TE}{lo hi:Option Qa}{tl th:TO}{pos p2:Pos}
def GA:PO X none F5:=by
 intro π s σ H Q I h;rw[evalPart_none];exact P7 ⟨none,H,I,.none,h⟩
def Gz(h:PE X e te):PO X (some e) (LD te):=by
 intro π s σ H Q I hw;rw[evalPart_some];refine cJ (h π s σ H _ I hw) λu s1 ⟨x,H1,I1,r1,q1⟩=>?_;obtain⟨i,rfl,q⟩:=q1;obtain⟨t,rfl⟩:=r1;exact⟨some i,H1,I1,.int i t,q⟩
noncomputable def FI(X:Cx) (r:V->Option Int->Option Int->Hp->VK->Prop):Prop :=
 ∀(π:List (Pk×Obj)) (s:Pj) (σ:St) (H:Hp) (x:V) (v vl vu:Pb) (lo hi:Option Int) (sl:Pk) (Q:VK),Inv X π σ H s->bh x v->s.heap.IsSliceOf sl vl vu .none->IsPart vl lo->IsPart vu hi->r x lo hi H Q ->
  ∃T id,Te (.type T) "__getitem__"=pure (some (.builtin id))/\s.TypeIs v T/\P5 (PX X.prog X.w) X.A (getItem v (.ref sl)) (EP X π σ Q) X.xe s
def FI.or{r r':V->Option Int->Option Int->Hp->VK->Prop}(h:FI X r)(h':FI X r'):FI X (λx lo hi H Q=>r x lo hi H Q∨r' x lo hi H Q):=by
 intro π s σ H x v vl vu lo hi sl Q I rx hs pl pu q;rcases q with q|q
 .exact h π s σ H x v vl vu lo hi sl Q I rx hs pl pu q
 .exact h' π s σ H x v vl vu lo hi sl Q I rx hs pl pu q
def Oi(r:V->Option Int->Option Int->Hp->VK->Prop)(te:TE)(tl th:TO):TE:=λσ H Q=>te σ H λx H1=>tl σ H1 λl H2=>th σ H2 λu H3=>r x l u H3 Q
def Eb{r:V->Option Int->Option Int->Hp->VK->Prop}(hr:FI X r)(he:PE X e te)(hl:PO X lo tl)(hu:PO X hi th):PE X (.Subscript e (.Slice lo hi none p2) pos) (Oi r te tl th):=by
 intro π s σ H Q I h;refine Subscript_ (cJ (he π s σ H _ I h) λv s1 ⟨x,H1,I1,r1,q1⟩=>?_);refine wpAny_Slice (cJ (hl π s1 σ H1 _ I1 q1) λvl s2 ⟨l,H2,I2,pl,q2⟩=>cJ (hu π s2 σ H2 _ I2 q2) λvu s3 ⟨u,H3,I3,pu,q3⟩=>?_);rw[evalPart_none];refine P7 ?_;have I4:Inv X π σ H3 { s3 with heap:=s3.heap.push { cls:=.type "slice",data:=.fields #[vl,vu,.none] } }:=I3.kept (t':=s3.toks) λb ob q=>Px _ q;obtain⟨T,id,hT,ht,hg⟩:=hr π { s3 with heap:=s3.heap.push { cls:=.type "slice",data:=.fields #[vl,vu,.none] } } σ H3 x v vl vu l u s3.heap.objs.size Q I4 r1 (Heap.IsSliceOf.new ..) pl pu q3;show P5 (PX X.prog X.w) X.A (subscriptTail e (.Slice lo hi none p2) v (.ref s3.heap.objs.size)) (EP X π σ Q) X.xe { s3 with heap:=s3.heap.push { cls:=.type "slice",data:=.fields #[vl,vu,.none] } };exact tail_any (ops:=[.ref s3.heap.objs.size,v]) ht hT hg (by with_unfolding_all rfl)
def yx(xs:ad)(lo hi:Option Int):ad:=(xs.drop (HT.sIx xs.length 0 lo)).take (HT.sIx xs.length xs.length hi-HT.sIx xs.length 0 lo)
def oY(xs:ad)(lo hi:Option Int):(yx xs lo hi).length<=xs.length:=by
 unfold yx;rw[Ru,R9];omega
def NK(K:Ph):V->Option Int->Option Int->Hp->VK->Prop:=λx lo hi H Q=>∃a xs,x=.ref a/\nV K H a xs /\
 ¬(HT.sIx xs.length 0 lo=0/\HT.sIx xs.length xs.length hi=xs.length)/\∀p,H p=none->Q (.ref p) (upd H p (.tup (yx xs lo hi)))
def Js:FI X (NK X.K):=by
 intro π s σ H x v vl vu lo hi sl Q I rx hs pl pu h;obtain⟨a,xs,rfl,hx,hw,q⟩:=h;cases rx;obtain⟨its,r,ht,hz⟩:=I.tuple hx;have hlen:its.toArray.size=xs.length:=by rw[PJ];exact r.length.symm
 refine⟨"tuple",_,SE.lookup,ht.typeIs,?_⟩;refine HT.getItem_tuple_cut ht hs pl pu (by rw[hlen];exact hw) ?_ (by rw[hlen];exact hz);rw[hlen];refine⟨.ref s.heap.objs.size,_,I.laid (t':=s.toks) (o:=.tup (yx xs lo hi)) (λb ob q=>Px _ q) (P1 _) ?_,rfl,q _ (I.hok.fresh (P1 _))⟩;exact⟨Pu (oY xs lo hi) hz,_,(r.drop (HT.sIx xs.length 0 lo)).take (HT.sIx xs.length xs.length hi-HT.sIx xs.length 0 lo),IsTup.new _ _⟩
def Mc(K:Ph):R2:=λx y H Q=>∃a b xs ys,x=.ref a/\y=.ref b/\nV K H a xs/\nV K H b ys/\xs≠[]/\xs.length+ys.length<=sizeLine /\
 (ys=[]->Q (.ref a) H)/\(ys≠[]->∀p,H p=none->Q (.ref p) (upd H p (.tup (xs++ys))))
def aY.nil_iff{xs:ad}{us:List Pb}(r:aY xs us):us=[]↔xs=[]:=by
 cases r with|nil|cons _ _=>simp
def GW:fR X (binaryOp .Add) (Mc X.K):=by
 intro π s σ H x y v u Q I rx ry h;obtain⟨a,b,xs,ys,rfl,rfl,ha,hb,hx,hz,q1,q2⟩:=h;cases rx;cases ry;obtain⟨its,r1,p1,_⟩:=I.tuple ha;obtain⟨its2,r2,p2,_⟩:=I.tuple hb;refine HT.cat_tup p1 p2 (λz=>hx (r1.nil_iff.mp z)) (λz=>⟨.ref a,H,I,rfl,q1 (r2.nil_iff.mp z)⟩) (λz=>?_) (by rw[←r1.length,←r2.length];exact hz);refine⟨.ref s.heap.objs.size,_,I.laid (t':=s.toks) (o:=.tup (xs++ys)) (λb ob q=>Px _ q) (P1 _) ?_,rfl,q2 (λw=>z (r2.nil_iff.mpr w)) _ (I.hok.fresh (P1 _))⟩;exact⟨by rw[P9];exact hz,_,r1.append r2,IsTup.new _ _⟩
end
def xM(n:Nat)(i:Int):Option Nat:=if 0<=i then(if i<n then some i.toNat else none) else if -(n:Int)<=i then some (i+n).toNat else none
def atI{α:Type}(xs:List α)(i:Int):Option α:=(xM xs.length i).bind λj=>xs[j]?
def vW{n:Nat}{i:Int}{j:Nat}(h:xM n i=some j):seqIndex? i n=some j/\j<n/\-(n:Int)<=i/\i<n:=by
 unfold xM at h
 by_cases h0:0<=i
 .rw[if_pos h0]at h
  by_cases h1:i<n
  .rw[if_pos h1]at h
   have e:i.toNat=j:=QF h;exact⟨by rw[seqIndex_of h0 h1,e],by omega,by omega,h1⟩
  .rw[if_neg h1]at h;cases h
 .rw[if_neg h0]at h
  by_cases h1:-(n:Int)<=i
  .rw[if_pos h1]at h
   have e:(i+n).toNat=j:=QF h;exact⟨by rw[seqIndex_neg (by omega) h1,e],by omega,h1,by omega⟩
  .rw[if_neg h1]at h;cases h
def wx{α:Type}{xs:List α}{i:Int}{v:α}(h:atI xs i=some v):∃j,seqIndex? i xs.length=some j/\xs[j]?=some v/\j<xs.length/\-(xs.length:Int)<=i/\i<xs.length:=by
 unfold atI at h;cases e:xM xs.length i with
 |none=>rw[e]at h;cases h
 |some j=>
  rw[e]at h;obtain⟨h1,h2,h3,h4⟩:=vW e;exact⟨j,h1,h,h2,h3,h4⟩
def fQ{α:Type}{xs:List α}{j:Nat}{v:α}(h:xs[j]?=some v):atI xs (j:Int)=some v:=by
 have hj:j<xs.length:=(Po.mp h).1;have e:xM xs.length (j:Int)=some j:=by
  unfold xM;rw[if_pos (by omega),if_pos (by omega)];simp
 unfold atI;rw[e];exact h
def wC(b:Qa):Prop:=∀o i,subscripted b false o i=operate [o,i] (getItem o i)
noncomputable def FJ(X:Cx) (r:R2):Prop :=
 ∀(value slice:Qa) (π:List (Pk×Obj)) (s:Pj) (σ:St) (H:Hp) (x y:V) (v u:Pb) (Q:VK),Inv X π σ H s->bh x v->bh y u->r x y H Q ->
  subscripted slice false v u=operate [v,u] (getItem v u)->P5 (PX X.prog X.w) X.A (subscriptTail value slice v u) (EP X π σ Q) X.xe s
noncomputable def OC(X:Cx) (id:String) (r:V->ad->Hp->VK->Prop):Prop :=
 ∀(π:List (Pk×Obj)) (s:Pj) (σ:St) (H:Hp) (x:V) (xs:ad) (v:Pb) (us:List Pb) (Q:VK),Inv X π σ H s->bh x v->aY xs us->r x xs H Q ->
  P5 (PX X.prog X.w) X.A (call (.builtin id) (v::us)) (EP X π σ Q) X.xe s
section
variable {X:Cx}{a b:Qa}{ta tb:TE}{pos:Pos}
def FJ.or{r r':R2}(h:FJ X r)(h':FJ X r'):FJ X (λx y H Q=>r x y H Q∨r' x y H Q):=by
 intro value slice π s σ H x y v u Q I rx ry q hs;rcases q with q|q
 .exact h value slice π s σ H x y v u Q I rx ry q hs
 .exact h' value slice π s σ H x y v u Q I rx ry q hs
def Mj{r:R2}(hr:FJ X r)(ha:PE X a ta)(hb:PE X b tb)(hs:wC b):PE X (.Subscript a b pos) (LF r ta tb):=by
 intro π s σ H Q I h;exact Subscript_ (K5 ha hb I h λv u s2 x y H2 I2 rx ry q=>hr a b π s2 σ H2 x y v u Q I2 rx ry q (hs _ _))
def L8(K:Ph):R2:=λx y H Q=>∃p xs i v,x=.ref p/\y=.int i/\fk K H p xs/\atI xs i=some v/\Q v H
def L6(K:Ph):R2:=λx y H Q=>∃p xs i v,x=.ref p/\y=.int i/\nV K H p xs/\atI xs i=some v/\Q v H
def L7:R2:=λx y H Q=>∃z i c,x=.str z/\y=.int i/\z.length<=sizeLine/\atI z.cps.toList i=some c/\Q (.str ⟨#[c]⟩) H
def Hh:FJ X (L8 X.K):=by
 intro value slice π s σ H x y v u Q I rx ry h hs;obtain⟨p,xs,i,z,rfl,rfl,hq,he,q⟩:=h;cases rx;obtain⟨t,rfl⟩:=ry;obtain⟨its,r,pl,hz⟩:=I.list hq;obtain⟨j,h1,h2,h3,h4,h5⟩:=wx he;obtain⟨w,ew,rw'⟩:=r.get h2;have hl:=r.length;have hn:=qR;have fin:EP X π σ Q w s:=⟨z,H,I,rw',q⟩
 by_cases h0:0<=i
 .have hj:i.toNat=j:=by
   rw[seqIndex_of h0 h5]at h1;exact QF h1
  exact item_listR pl.isList h0 (by omega) (by rw[hj];simpa using ew) fin hs
 .have hj:(i+(its.toArray.size:Int)).toNat=j:=by
   rw[seqIndex_neg (by omega) h4]at h1;rw[PJ,←hl];exact QF h1
  exact subscriptTail_builtinR (x:=w) pl.isList.typeIs slot_list_getitem.lookup
   (wpAny_getItem_list_neg (Q:=λr s'=>r=w/\EP X π σ Q r s') pl.isList (by omega) (by rw[PJ]<;>omega) (by omega) (by rw[hj];simpa using ew) ⟨rfl,fin⟩) hs
def Ki:FJ X (L6 X.K):=by
 intro value slice π s σ H x y v u Q I rx ry h hs;obtain⟨p,xs,i,z,rfl,rfl,hq,he,q⟩:=h;cases rx;obtain⟨t,rfl⟩:=ry;obtain⟨its,r,pl,hz⟩:=I.tuple hq;obtain⟨j,h1,h2,h3,h4,h5⟩:=wx he;obtain⟨w,ew,rw'⟩:=r.get h2;have hl:=r.length;have hn:=qR;have fin:EP X π σ Q w s:=⟨z,H,I,rw',q⟩
 exact subscriptTail_builtinR (x:=w) pl.typeIs slot_tuple_getitem.lookup
  (getItem_tuple (j:=j) (Q:=λr s'=>r=w/\EP X π σ Q r s') pl (by omega) (by omega) (by rw[PJ,←hl];exact h1) (by simpa using ew) ⟨rfl,fin⟩) hs
def Kj:FJ X L7:=by
 intro value slice π s σ H x y v u Q I rx ry h hs;obtain⟨z,i,c,rfl,rfl,hz,he,q⟩:=h;obtain⟨t,rfl⟩:=rx;obtain⟨t',rfl⟩:=ry;obtain⟨j,h1,h2,h3,h4,h5⟩:=wx he;have hl:z.cps.toList.length=z.length:=by simp[Str.length]
 rw[hl]at h1 h4 h5;have hn:=qR;exact tail_any (typeIs_str s z t) slot_str_getitem.lookup (getItem_str (c:=c) (by
  have e1:decide (i < -(2 ^ 63:Int))=false:=decide_eq_false (by omega);have e2:decide (i≥2 ^ 63)=false:=decide_eq_false (by omega);rw[e1,e2,Bool.or_false]) (by rw[h1];simpa using h2) ⟨.str ⟨#[c]⟩,H,I.tok _,⟨_,rfl⟩,q⟩) hs
def Oo(K:Ph):R2:=λx y H Q=>L8 K x y H Q∨L6 K x y H Q∨L7 x y H Q
def Kk:FJ X (Oo X.K):=Hh.or (Ki.or Kj)
def zp(its:List Pb)(n j:Nat)(u:Pb):Tz (·.setIfInBounds j u) { cls:=.type "list",data:=.seq its.toArray n }={ cls:=.type "list",data:=.seq (its.set j u).toArray n }:=by
 simp[Tz]
def Inv.lst{π:List (Pk×Obj)}{σ:St}{H:Hp}{s:Pj}{p:Pk}{xs:ad}(I:Inv X π σ H s)(h:H p=some (.lst xs)) :
  ∃(its:List Pb) (n:Nat),aY xs its/\s.heap.get? p=some { cls:=.type "list",data:=.seq its.toArray n }/\xs.length<=sizeLine:=by
 obtain⟨z,its,n,r,e⟩:=I.hok p _ h;exact⟨its,n,r,e,z⟩
def Inv.lstUpd{π:List (Pk×Obj)}{σ:St}{H:Hp}{s:Pj}{p:Pk}{xs ys:ad}{its its':List Pb}{n n':Nat}{f:Obj->Obj}(I:Inv X π σ H s)(h:H p=some (.lst xs))
  (ho:s.heap.get? p=some { cls:=.type "list",data:=.seq its.toArray n })(hf:f { cls:=.type "list",data:=.seq its.toArray n }={ cls:=.type "list",data:=.seq its'.toArray n' })(r:aY ys its')(hz:ys.length<=sizeLine)(t:Nat) :
  Inv X π σ (upd H p (.lst ys)) { s with heap:=s.heap.update p f,toks:=t }:=by
 have e:(s.heap.update p f).get? p=some { cls:=.type "list",data:=.seq its'.toArray n' }:=by
  rw[Heap.get?_update_self f ho (by rw[hf]<;>rfl),hf]
 refine I.write (x:=p) (e:=p) (by rw[h];trivial) (.inl rfl) (λb u hb q=>(UJ _ _ (QB hb)).trans q) ⟨_,e⟩ ?_;exact⟨hz,its',n',r,e⟩
def Iy:V->V->V->Hp->(Hp->Prop)->Prop:=λo i v H Q=>∃p xs k j,o=.ref p/\i=.int k/\H p=some (.lst xs)/\xM xs.length k=some j/\Q (upd H p (.lst (xs.set j v)))
def Dk:M0 X Iy:=by
 intro π s σ H o i v ov iv u Q I ro ri rv h;obtain⟨p,xs,k,j,rfl,rfl,hp,hj,q⟩:=h;cases ro;obtain⟨t,rfl⟩:=ri;obtain⟨its,n,r,ho,hz⟩:=I.lst hp;obtain⟨h1,h2,h3,h4⟩:=vW hj;have hl:=r.length;have hn:=qR;have I':Inv X π σ (upd H p (.lst (xs.set j v))) { s with heap:=s.heap.update p (Tz (·.setIfInBounds j u)) } :=
  I.lstUpd hp ho (zp its n j u) (r.set rv j) (by rw[List.length_set];exact hz) s.toks
 by_cases h0:0<=k
 .have hk:k.toNat=j:=by
   rw[seqIndex_of h0 h4]at h1;exact QF h1
  exact W.ki_setAt ho h0 (by omega) (by rw[PJ,←hl];exact h4) (by rw[hk];exact⟨_,I',q⟩)
 .have hk:(k+(its.toArray.size:Int)).toNat=j:=by
   rw[seqIndex_neg (by omega) h3]at h1;rw[PJ,←hl];exact QF h1
  exact W.ki_setBack ho (by omega) (by rw[PJ,←hl];exact h3) (by omega) (by rw[hk];exact⟨_,I',q⟩)
def vw(lo hi:Option Int)(n:Nat):(sliceBounds lo hi none n).1=((HT.sIx n 0 lo:Nat):Int)/\(sliceBounds lo hi none n).2.1=((HT.sIx n n hi:Nat):Int)/\(sliceBounds lo hi none n).2.2=1:=by
 refine⟨?_,?_,rfl⟩
 .cases lo with
  |none=>simp[sliceBounds,HT.sIx]
  |some i=>
   simp only[sliceBounds,HT.sIx,Option.getD_none,show(1:Int) > 0 by decide,if_true]
   by_cases h:i<0
   .simp only[h,if_true]<;>omega
   .simp only[h,if_false]<;>omega
 .cases hi with
  |none=>simp[sliceBounds,HT.sIx]
  |some i=>
   simp only[sliceBounds,HT.sIx,Option.getD_none,show(1:Int) > 0 by decide,if_true]
   by_cases h:i<0
   .simp only[h,if_true]<;>omega
   .simp only[h,if_false]<;>omega
def tR(its:List Pb)(lo hi:Option Int):slicePick its.toArray lo hi none=((its.drop (HT.sIx its.length 0 lo)).take (HT.sIx its.length its.length hi-HT.sIx its.length 0 lo)).toArray:=by
 obtain⟨h1,h2,h3⟩:=vw lo hi its.toArray.size;unfold slicePick;rw[h1,h2,h3];simp only[sliceRange_one,pick_run,PJ]<;>rfl
def NM(K:Ph):V->Option Int->Option Int->Hp->VK->Prop:=λx lo hi H Q=>∃a xs,x=.ref a/\fk K H a xs/\∀p,H p=none->Q (.ref p) (upd H p (.lst (yx xs lo hi)))
def Ga:FI X (NM X.K):=by
 intro π s σ H x v vl vu lo hi sl Q I rx hs pl pu h;obtain⟨a,xs,rfl,hx,q⟩:=h;cases rx;obtain⟨its,r,ht,hz⟩:=I.list hx;have hlen:=r.length;refine⟨"list",_,slot_list_getitem.lookup,ht.isList.typeIs,?_⟩;refine wpAny_getItem_list_slice ht.isList hs pl pu .none (by simp) ?_ (by rw[PJ]<;>omega);rw[tR,←hlen];refine⟨.ref s.heap.objs.size,_,I.laid (t':=s.toks) (o:=.lst (yx xs lo hi)) (λb ob q=>Px _ q) (P1 _) ?_,rfl,q _ (I.hok.fresh (P1 _))⟩;exact⟨Pu (oY xs lo hi) hz,_,0,(r.drop (HT.sIx xs.length 0 lo)).take (HT.sIx xs.length xs.length hi-HT.sIx xs.length 0 lo),Qr _ rfl⟩
def vK:fR X (Qv .NotIn) (λx y H Q=>∃i j,x=.str i/\y=.str j/\Q (.bl (!(!(Td j i 0 j.length 1).isEmpty))) H):=by
 intro π s σ H x y v u Q I rx ry h;obtain⟨i,j,rfl,rfl,q⟩:=h;obtain⟨t,rfl⟩:=rx;obtain⟨t',rfl⟩:=ry;exact notIn_str ⟨.bl _,H,I,rfl,q⟩
def wq:nT X (.type "list") (λxs H Q=>∃p ys,xs=[.ref p]/\(fk X.K H p ys∨nV X.K H p ys)/\∀l,H l=none->Q (.ref l) (upd H l (.lst ys))):=by
 intro π s σ H xs us Q I r h;obtain⟨p,ys,rfl,hq,q⟩:=h;obtain⟨u,rfl,rx⟩:=z9 r;cases rx;have fin:∀(its:List Pb),aY ys its->ys.length<=sizeLine->∀(h':PR) (c':Nat),(∀b o',s.heap.get? b=some o'->h'.get? b=some o') ->
   h'.get? s.heap.objs.size=some { cls:=.type "list",dict:=none,data:=.seq its.toArray c',slots:=#[] }->EP X π σ Q (.ref s.heap.objs.size) { s with heap:=h' }:=λits r' hz h' c' kp e=>
  ⟨.ref s.heap.objs.size,_,I.laid (t':=s.toks) kp (P1 _) (show cT X.prog X.w _ h' _ (.lst ys) from⟨hz,its,c',r',e⟩),rfl,q _ (I.hok.fresh (P1 _))⟩
 rcases hq with hq|hq
 .obtain⟨its,r',pl,hz⟩:=I.list hq
  have hlen:=r'.length;obtain⟨o,ho,hc,n,hd⟩:=pl.isList;exact call_list_seq p (.inl rfl) ho hc hd (λh' c' kp e=>fin its r' hz h' c' kp e) (by simp only[PJ]<;>omega)
 .obtain⟨its,r',pl,hz⟩:=I.tuple hq
  have hlen:=r'.length;obtain⟨o,ho,hc,n,hd⟩:=pl;exact call_list_seq p (.inr rfl) ho hc hd (λh' c' kp e=>fin its r' hz h' c' kp e) (by simp only[PJ]<;>omega)
noncomputable def Oh(K:Ph) (T:String) (x:V) (H:Hp):Prop:=match x with
 |.str _=>T="str"
 |.int _=>T="int"
 |.ref p=>(T="list"/\∃xs,fk K H p xs)∨(T="tuple"/\∃o,K.lookup p=some o/\o.cls=.type "tuple"/\o.dict=none) ∨
   (T="dict"/\((∃kvs,H p=some (.dK kvs))∨∃kvs,H p=some (.dT kvs)))∨(T="set"/\∃S n,H p=some (.set S n))
 |_=>False
def Je{π:List (Pk×Obj)}{σ:St}{H:Hp}{s:Pj}{T:String}{x:V}{v:Pb}(I:Inv X π σ H s)(r:bh x v)(ty:Oh X.K T x H) :
  s.TypeIs v T/\∀a,v=.ref a->∃ob,s.heap.get? a=some ob/\ob.dict=none:=by
 cases x with
 |str z=>
  obtain⟨t,rfl⟩:=r;cases (show T="str" from ty);exact⟨typeIs_str s z t,λ_ e=>nomatch e⟩
 |int i=>
  obtain⟨t,rfl⟩:=r;cases (show T="int" from ty);exact⟨typeIs_int s i t,λ_ e=>nomatch e⟩
 |ref p=>
  cases r;rcases ty with⟨rfl,xs,hq⟩|⟨rfl,o,hk,hc,hd⟩|⟨rfl,hk⟩|⟨rfl,S,n,hk⟩
  .obtain⟨its,_,pl,_⟩:=I.list hq
   refine⟨pl.isList.typeIs,λa e=>?_⟩;cases e;obtain⟨o,n,e,c,hd,_⟩:=pl;exact⟨o,e,hd⟩
  .refine⟨⟨o,I.kIn p o hk,hc⟩,λa e=>?_⟩
   cases e;exact⟨o,I.kIn _ o hk,hd⟩
  .have z:∃o,s.heap.get? p=some o/\o.ExactDict:=by
    rcases hk with⟨kvs,hk⟩|⟨kvs,hk⟩
    .obtain⟨_,_,_,_,o,_,_,e,ex,_⟩:=I.hok p _ hk
     exact⟨o,e,ex⟩
    .obtain⟨_,_,_,_,o,_,_,e,ex,_⟩:=I.hok p _ hk
     exact⟨o,e,ex⟩
   obtain⟨o,e,ex⟩:=z;refine⟨⟨o,e,ex.1⟩,λa e2=>?_⟩;cases e2;exact⟨o,e,ex.2.1⟩
  .obtain⟨o,_,_,_,e,ex,_⟩:=I.hok p _ hk
   refine⟨⟨o,e,ex.1⟩,λa e2=>?_⟩;cases e2;exact⟨o,e,ex.2.1⟩
 |_=>exact QK ty
def OP(K:Ph)(T:String)(r:V->ad->Hp->VK->Prop)(to:TE)(t:TA):TE:=λσ H Q=>to σ H λx H1=>Oh K T x H1/\t σ H1 λxs H2=>r x xs H2 Q
variable {o e:Qa}{es:List Qa}{to:TE}{t:TA}{name:Pq}{apos cpos:Pos}{T id:String}{r:V->ad->Hp->VK->Prop}
def Eg(pa:PlainAttrs T)(slot:Slot T name id)(hty:typeOf (.builtin id)=pure (.type "method_descriptor"))(hm:OC X id r)(ho:PE X o to)(ha:PA X (e::es) t)
  (hbase:Sg o name X.env (eval o X.env)=eval o X.env:=by rfl)
  (hfew:((Rj cpos (PD (e::es) X.env)).all (λx=>!x.1)&&(Ua cpos (S3 [] X.env)).all (λx=>x.1.isSome)
  &&decide ((e::es).length+([]:List S6).length+(if([]:List S6).isEmpty then 0 else 1)<30))=true:=by rfl)
  (hline:(apos.endLine==cpos.line)=true:=by rfl) (hs:PD (e::es) X.env=(false,eval e X.env)::PD es X.env:=by rfl) (hplain:(Rj cpos (PD es X.env)).any (·.1)=false:=by rfl) :
  PE X (.Call (.Attribute o name apos) (e::es) [] cpos) (OP X.K T r to t):=by
 intro π s σ H Q I h;refine wpAny_Call_method_late hbase hfew hline rfl (cJ (ho π s σ H _ I h) λv s1 ⟨x,H1,I1,r1,ty,q1⟩=>?_);obtain⟨h1,h2⟩:=Je I1 r1 ty;refine⟨T,id,pa,slot,hty,h1,h2,?_⟩;have hA:=ha cpos π s1 σ H1 _ I1 q1;rw[hs]at hA ⊢;refine Calls.callWith_builtin (by show(false||(Rj cpos (PD es X.env)).any (·.1))=false;rw[hplain]<;>rfl) (Calls.evalArgs_plain ?_);exact cJ hA λus s2 ⟨vs,H2,I2,r2,q2⟩=>hm π s2 σ H2 x vs v us Q I2 r1 r2 q2
end
noncomputable def OD(X:Cx) (id:String) (r:V->ad->Hp->VK->Prop):Prop :=
 ∀(π:List (Pk×Obj)) (s:Pj) (σ:St) (H:Hp) (x:V) (xs:ad) (v:Pb) (us:List Pb) (Q:VK),Inv X π σ H s->bh x v->aY xs us->r x xs H Q ->
  P5 (PX X.prog X.w) X.A (call (.builtin id) (v::us)) (EP X π σ Q) X.xe s
theorem aY.one:∀{x:V}{us:List Pb},aY [x] us->∃u,us=[u]/\bh x u
 |_,_,.cons r .nil=>⟨_,rfl,r⟩
theorem aY.eraseIdx:∀{xs:ad}{us:List Pb}(i:Nat),aY xs us->aY (xs.eraseIdx i) (us.eraseIdx i)
 |_,_,_,.nil=>.nil
 |_,_,0,.cons _ t=>t
 |_,_,i+1,.cons r t=>.cons r (aY.eraseIdx i t)
theorem aY.rep{xs:ad}{us:List Pb}(h:aY xs us):∀k:Nat,aY (PY k xs).flatten (PY k us).flatten
 |0=>.nil
 |k+1=>by
  rw[QD,QD,R0,R0];exact aY.append h (aY.rep h k)
theorem uK{α:Type}:∀(l:List α) (i:Nat),(l.eraseIdx i).length<=l.length
 |[],_=>P1 _
 |_::_,0=>Nat.le_succ _
 |_::r,i+1=>Nat.succ_le_succ (uK r i)
theorem uS(its:List Pb):∀(k:Nat) (acc:List Pb),
  List.foldl (λx1 x2=>x1++x2) acc.toArray (PY k its.toArray)=(acc++(PY k its).flatten).toArray
 |0,acc=>by simp
 |k+1,acc=>by
  have e:acc.toArray++its.toArray=(acc++its).toArray:=by simp
  have e2:(acc++its)++(PY k its).flatten=acc++(PY (k+1) its).flatten:=by
   rw[QD,R0,RF]
  rw[←e2,←uS its k (acc++its),←e,QD,QP]
section
variable {X:Cx}{π:List (Pk×Obj)}{σ:St}{H:Hp}{s:Pj}{l b:Pk}{xs ys zs:ad}
def Inv.lset{its its':List Pb}{n:Nat}{f:Array Pb->Array Pb}{t':Nat}(I:Inv X π σ H s)(hH:H l=some (.lst xs))
  (e:s.heap.get? l=some { cls:=.type "list",data:=.seq its.toArray n })(hf:f its.toArray=its'.toArray)(hv:aY ys its')(hz:ys.length<=sizeLine) :
  Inv X π σ (upd H l (.lst ys)) { s with heap:=s.heap.update l (Tz f),toks:=t' }:=by
 have q:=PySem.IsL.update e f;rw[hf]at q;refine I.write (x:=l) (e:=l) (by rw[hH];exact trivial) (.inl rfl) (λb' u hb hu=>(UJ s.heap (Tz f) (QB hb)).trans hu) ⟨_,q⟩ ?_;exact⟨hz,its',_,hv,q⟩
def Inv.lnew{its:List Pb}{t':Nat}(I:Inv X π σ H s)(hv:aY ys its)(hz:ys.length<=sizeLine) :
  Inv X π σ (upd H s.heap.objs.size (.lst ys)) { s with heap:=s.heap.push { cls:=.type "list",data:=.seq its.toArray },toks:=t' } :=
 I.laid (λ_ _ q=>Px _ q) (P1 _) ⟨hz,its,0,hv,Qr _ rfl⟩
def Inv.fresh(I:Inv X π σ H s):H s.heap.objs.size=none:=I.hok.fresh (P1 _)
def Inv.lstM(I:Inv X π σ H s)(hH:H l=some (.lst xs)):xs.length<=sizeLine/\∃(its:List Pb) (n:Nat),aY xs its/\xs.length=its.length/\s.heap.get? l=some { cls:=.type "list",data:=.seq its.toArray n }:=by
 obtain⟨z,its,n,r,e⟩:=I.hok l _ hH;exact⟨z,its,n,r,r.length,e⟩
def Er{n:Nat}(h:n<=sizeLine):S7 n=false:=by
 unfold S7;exact decide_eq_false (by omega)
end
section
variable {X:Cx}
def Gn:V->ad->Hp->VK->Prop:=λx vs H Q=>∃l xs y,x=.ref l/\vs=[y]/\H l=some (.lst xs)/\xs.length<sizeLine/\Q .non (upd H l (.lst (xs++[y])))
def uJ:OD X "list.append" Gn:=by
 intro π s σ H x vs v us Q I rx rv h;obtain⟨l,xs,y,rfl,rfl,hH,hz,q⟩:=h;cases rx;obtain⟨u,rfl,ru⟩:=rv.one;obtain⟨z,its,n,r,hl,e⟩:=I.lstM hH;refine call_meets F.slot_list_append ⟨_,e,rfl⟩ F.entry_list_append (F.args_list_append_2 _ _) (PySem.list_append l its.toArray n u (by rw[PJ];omega)) ⟨e,?_⟩;refine⟨.non,_,I.lset (its':=its++[u]) hH e (by simp) (r.append (.cons ru .nil)) ?_,rfl,q⟩;rw[P9,RC];omega
def JB:V->ad->Hp->VK->Prop:=λx vs H Q=>∃l xs i k y,x=.ref l/\vs=[.int i]/\H l=some (.lst xs)/\-(2 ^ 63)<=i/\i<2 ^ 63/\seqIndex? i xs.length=some k/\xs[k]?=some y/\Q y (upd H l (.lst (xs.eraseIdx k)))
def Ez:OD X "list.pop" JB:=by
 intro π s σ H x vs v us Q I rx rv h;obtain⟨l,xs,i,k,y,rfl,rfl,hH,h1,h2,hk,hy,q⟩:=h;cases rx;obtain⟨u,rfl,ru⟩:=rv.one;obtain⟨t,rfl⟩:=ru;obtain⟨z,its,n,r,hl,e⟩:=I.lstM hH;obtain⟨w,hw,rw'⟩:=r.get hy;refine call_meets F.slot_list_pop ⟨_,e,rfl⟩ F.entry_list_pop (F.args_list_pop_2 _ _)
  (MeetsSeq.list_pop_at l its.toArray n i t k w (fitsIndex_both h1 h2) (by rw[PJ,←hl];exact hk) (by rw[←Array.getElem?_toList];exact hw) (by rw[PJ];omega)) ⟨e,?_⟩
 refine⟨y,_,I.lset (its':=its.eraseIdx k) hH e ?_ (r.eraseIdx k) ?_,rw',q⟩
 .show its.toArray.eraseIdxIfInBounds k=(its.eraseIdx k).toArray
  rw[List.eraseIdxIfInBounds_toArray]
 .have:=uK xs k
  omega
def NN:R2:=λx y H Q=>∃l k xs,x=.ref l/\y=.int k/\H l=some (.lst xs)/\-(2 ^ 63)<=k/\k<2 ^ 63/\xs.length*k.toNat<=sizeLine /\
 ∀p,H p=none->Q (.ref p) (upd H p (.lst (PY k.toNat xs).flatten))
def Hc{α:Type}(xs:List α)(k:Nat):(PY k xs).flatten.length=k*xs.length:=by
 induction k with|zero=>simp|succ k ih=>rw[QD,R0,P9,ih,Nat.succ_mul,Nat.add_comm]
def J0:fR X (binaryOp .Mult) NN:=by
 intro π s σ H x y v u Q I rx ry h;obtain⟨l,k,xs,rfl,rfl,hH,h1,h2,hz,q⟩:=h;cases rx;obtain⟨t,rfl⟩:=ry;obtain⟨z,its,n,r,hl,e⟩:=I.lstM hH;have hlen:its.toArray.size*k.toNat<=sizeLine:=by rw[PJ,←hl];exact hz
 have hcap:¬its.toArray.size*k.toNat > (2 ^ 63-1) / 8:=by
  have:(sizeLine:Nat)<=(2 ^ 63-1) / 8:=by decide
  omega
 have hfit:¬(!Builtin.List.listFitsIndex k)=true:=by
  rw[fitsIndex_both h1 h2];exact QY
 have hlong:¬S7 (its.toArray.size*k.toNat)=true:=by
  rw[Er hlen];exact QY
 have hnew:List.foldl (λx1 x2=>x1++x2) #[] (PY (if its.toArray.isEmpty=true then 0 else k.toNat) its.toArray)=(PY k.toNat its).flatten.toArray:=by
  have f0:∀m:Nat,List.foldl (λx1 x2=>x1++x2) #[] (PY m its.toArray)=(PY m its).flatten.toArray:=λm=>by
   have:=uS its m [];rw[Q6]at this;exact this
  rw[f0];cases its with|nil=>simp|cons a r'=>rw[if_neg (by simp)]
 refine wpAny_binaryOp_repeat_ref (T:="list") (U:="int") (by decide) ⟨_,e,rfl⟩ (λs'=>typeIs_int s' k t) noFill_list_mul F.fills_int_mul F.slot_int_rmul repeat_list F.slot_int_index.lookup
  (call_meets F.slot_int_rmul (typeIs_int s k t) F.entry_int_rmul (F.args_int_rmul_2 _ _) (int___rmul___int_list k t l its.toArray n)
   ⟨e,rfl,⟨_,e,rfl⟩,call_meets F.slot_list_mul ⟨_,e,rfl⟩ F.entry_list_mul (F.args_list_mul_2 _ _) (AutoListH.list___mul___list_int_3 l its.toArray n k t hfit hcap hlong) ⟨e,?_⟩⟩)
 rw[hnew];exact⟨.ref _,_,I.lnew (t':=s.toks) (r.rep k.toNat) (by rw[Hc,UB];exact hz),rfl,q _ I.fresh⟩
end
end L2
namespace Att
open PySem PySem.W PySem.Calls PyProof.Rows
def pF{P:Params}{h:PR}:∀(ns:List Int) (vs:List Pb),WellAll P h vs (ns.map WData.int)->IntsAre vs ns:=by
 intro ns
 induction ns with
 |nil=>
  intro vs w;rw[Rq]at w;cases w;exact .nil
 |cons n ns ih=>
  intro vs w;rw[Pl]at w;cases w with
  |cons a b=>
   cases a;exact .cons _ _ (ih _ b)
def BF{l:OpenLaw}{n:Nat}(hn:l.most=some n){P:Params}{h:PR}{args:List WData}{vals:List Pb}
  (hpre:l.row.toRowW.claim.pre args=true)(hwl:WellAll P h vals args) :
  ∃a vs ns,vals=[Qm a]/\args=[WData.list (ns.map WData.int)]/\h.get? a=some { cls:=.type "list",data:=.seq vs.toArray }/\IntsAre vs ns/\ns.length<=n:=by
 have hsh:WShape.hasAll [] args [.list .int]=true:=(pre_splitW hpre).1;have hc:l.pre.holds [] { args:=args }=true:=(pre_splitW hpre).2;obtain⟨d,r,rfl,h1,h2⟩:=hasAllW_cons hsh;obtain rfl:=hasAllW_nil h2;obtain⟨xs,rfl,h3⟩:=hasW_list h1;obtain⟨ns,rfl⟩:=items_int h3;have hlen:ns.length<=n:=by
  unfold OpenLaw.pre at hc;have h4:(WTm.not (.lt (.lit (.int (n:Int))) (.len (.arg 0)))).holds [] { args:=[.list (ns.map .int)] }=true:=by
   have h4:=(holds_andW hc).1;rw[hn]at h4;exact h4
  have h5:=condW_of h4 (w_not (w_lt w_lit (w_len_list (w_arg rfl))));rw[Pg]at h5;refine Nat.le_of_not_lt λq=>?_;have q':(n:Int)<((ns.length:Nat):Int):=by omega
  first
   |(rw[decide_eq_true q']at h5;exact absurd h5 (by decide))
   |(simp at h5;omega)
 cases hwl with
 |cons w1 w2=>
  cases w2;cases w1 with|list ho hall=>exact⟨_,_,ns,rfl,rfl,ho,pF ns _ hall,hlen⟩
def BJ(l:OpenLaw)(args:List WData):l.row.toRowW.claim.post args (.bool true) args=true :=
 postW_of (r:=l.row.toRowW) (X:=(true==true))
  (show WShape.has [] (.bool true) .bool=true by first|rfl|decide|simp[WShape.has,WShape.arms,WShape.armsAll])
  (show(WTm.eq .res (.lit (.bool true))).value [] { args:=args,res:=some (.bool true),after:=args }=some (.bool (true==true)) from w_eq_bool (w_res rfl) w_lit) rfl
def attach_call{l:OpenLaw}{n:Nat}{q:Qe}{loose:ce}{XP:(Pq->Option Pb)->PR->Prop}{YP:Qt->PR->Prop}{d:DefRec}
  (hn:l.most=some n)(hdf:d.params.defaults=[])
  (call:∀(w:Qt) (sf si:Pj) (mg mb:Pq->Option Pb) (fa:Pk) (o:Obj) (pm cd doc:Pb) (a:Pk) (vs:List Pb) (ns:List Int),
   Ground q loose [] XP w sf mg mb si.heap->YP w si.heap ->
   si.heap.get? fa=some o->o.data=.func (docDef d.name d.params d.body d.scope pm cd doc)->si.heap.CodeRec cd d.name->mg d.name=some (.ref fa) ->
   si.heap.get? a=some { cls:=.type "list",data:=.seq vs.toArray }->IntsAre vs ns->ns.length<=n->si.gens=#[] ->
   RJ (PX l.prog w) callerA (.call (.ref fa) ⟨[.ref a],[]⟩) (λr s'=>r=.ok (.ret (.bool true))/\OldK si.heap s'.heap/\s'.os=si.os/\AllBare s'.gens) si) :
  WalkO q loose XP YP l.row.toRowW d [] (λf vs=>PySem.call f vs):=by
 intro w sf si mg mb G Y fa o pm cd doc dV kV ho hd hcd hD hmg hg args vals as hpre hlay hrd hwl hlo;obtain rfl:dV=.none:=Dflts.none hD hdf;obtain rfl:kV=.none:=Dflts.noKw hD;obtain⟨a,vs,ns,rfl,rfl,hobj,hints,hlen⟩:=BF hn hpre hwl;refine enter_call (codeAny_mono (call w sf si mg mb fa o pm cd doc a vs ns G Y ho (fd_plain hd) hcd hmg hobj hints hlen hg) λr s' hq=>?_);obtain⟨rfl,h2,h3,h4⟩:=hq;exact⟨.inl ⟨.bool true,.bool true,[],rfl,λ_=>rfl,.bool true,BJ l _,λ_=>⟨RU.nil,λ_ hm=>(nomatch hm)⟩⟩,h2,h3,h4⟩
end Att
namespace L2
open PySem PySem.Spec PyProof.Rows
theorem uu:∀{vs:List Pb}{ns:List Int},IntsAre vs ns->aY (ns.map V.int) vs
 |_,_,.nil=>.nil
 |_,_,.cons n t h=>.cons ⟨t,rfl⟩ (uu h)
def Ie(H:Hp):Prop:=∀b,H b=none∨(∃o xs,H b=some (.frz o (.lst xs)))∨∃d,H b=some (.tbl d)
def TabsStart(K:Ph)(h:PR):Prop:=∀P d,(P,d)∈gw K->(∃c,W.CodeHd h c P)/\h.get? P=some (W.tabObj #[])/\K.lookup P=none/\(gw K).lookup P=some d
def Bx(K:Ph):Hp:=λb=>((gw K).lookup b).map HO.tbl
theorem oR{b:Pk}{d:Array Pb}:∀{l:List (Pk×Array Pb)},l.lookup b=some d->(b,d)∈l
 |[],e=>by cases e
 |(k,v)::r,e=>by
  rw[QI]at e;cases h:(b==k) with
  |true=>
   rw[h]at e;have hk:=beq_iff_eq.mp h;simp only[Rl]at e;subst hk;subst e;exact .head _
  |false=>rw[h]at e;exact .tail _ (oR e)
def uy{K:Ph}{b:Pk}{u:HO}(e:Bx K b=some u):∃d,u=.tbl d/\(b,d)∈gw K:=by
 unfold Bx at e;cases q:(gw K).lookup b with|none=>rw[q]at e;cases e|some d=>rw[q]at e;cases e;exact⟨d,rfl,oR q⟩
def EK{P:Qe}{w:Qt}{K:Ph}{mg mb:Pq->Option Pb}{CX:p6}{k:Nat}{fa a:Pk}{fd:Qy}{x:Pq}{sp:Sp}{si:Pj}{vs:List Pb}{ns:List Int}
  (KX:K.In si.heap)(TX:TabsStart K si.heap)(hns:si.heap.Ns PH mg)(hb:si.heap.Ns builtinsNs mb)(hbb:∀x:Pq,x≠"__name__"->mb x=bootBuiltins x)(hlim:si.heap.NoLimit)(hsm:∃mm,si.heap.Ns RO mm)
  (hbm:∃(b:Pk) (ob:Obj),mg "__builtins__"=some (.ref b)/\b≠builtinsNs/\si.heap.get? b=some ob/\ob.cls=.type "module"/\ob.dict=some builtinsNs/\ob.data=.plain)(hg:si.gens=#[])
  (ha:si.heap.get? a=some { cls:=.type "list",data:=.seq vs.toArray })(hi:IntsAre vs ns)(hl:ns.length<=sizeLine)(hr:cV k callerA)
  (F:∀base:PR,K.In base->base.Ns PH mg->iu P w K mg base CX k fa fd [x] sp)(hbind:∀(s:Pj) (u:Pb),BindsTo s fd ⟨[u],[]⟩ [(x,u)])
  (hsp:∀H:Hp,Ie H->fk K H a (ns.map V.int)->sp [.ref a] H (λv _=>v=.bl true) λ_ _ _=>False)
  (hCX:∀H e s',CX [] H si (λ_ _ _=>False) e s'->False) :
  RJ (PX P w) callerA (.call (.ref fa) ⟨[.ref a],[]⟩) (λr s'=>r=.ok (.ret (.bool true))/\OldK si.heap s'.heap/\s'.os=si.os/\AllBare s'.gens) si:=by
 have rv:=uu hi;have lenV:=hi.length;have hPa:∀P' d,(P',d)∈gw K->P'≠a:=λP' d hm z=>by
  have e:=(TX P' d hm).2.1;rw[z,ha]at e;cases e
 have core:∀H:Hp,(∀b u,H b=some u->(b=a/\u=.frz { cls:=.type "list",data:=.seq vs.toArray } (.lst (ns.map V.int))/\K.lookup a=none)∨∃d,u=.tbl d/\(b,d)∈gw K)->Bm K H->fk K H a (ns.map V.int) ->
   RJ (PX P w) callerA (.call (.ref fa) ⟨[.ref a],[]⟩) (λr s'=>r=.ok (.ret (.bool true))/\OldK si.heap s'.heap/\s'.os=si.os/\AllBare s'.gens) si:=by
  intro H hH hT hS;have hO:Ie H:=λb=>by
   cases q:H b with
   |none=>exact .inl rfl
   |some u=>
    rcases hH b u q with⟨_,rfl,_⟩|⟨d,rfl,_⟩
    .exact .inr (.inl ⟨_,_,rfl⟩)
    .exact .inr (.inr ⟨d,rfl⟩)
  have hok:ji P w H si.heap:=λb u q=>by
   rcases hH b u q with⟨rfl,rfl,_⟩|⟨d,rfl,hm⟩
   .exact⟨ha,by rw[Pg];exact hl,vs,_,rv,ha⟩
   .exact R3 ⟨λz=>mf (more:=#[]) hm (by rw[Array.append_empty];exact z),Pt (TX b d hm).2.1⟩
  have noA:∀{b:Pk}{o:Obj}{es:Array DictEntry}{ep:Nat},si.heap.get? b=some o->o.data=.dict es ep->H b=none:=λ{b o es ep} e d=>by
   cases q:H b with
   |none=>rfl
   |some u=>
    rcases hH b u q with⟨rfl,_,_⟩|⟨d',_,hm⟩
    .rw[ha]at e;cases e
     have d':Data.seq vs.toArray _=Data.dict es ep:=d;cases d'
    .have e2:=(TX b d' hm).2.1
     rw[e]at e2;cases e2;cases d
  have noM:∀{b:Pk}{o:Obj},si.heap.get? b=some o->o.data=.plain->H b=none:=λ{b o} e d=>by
   cases q:H b with
   |none=>rfl
   |some u=>
    rcases hH b u q with⟨rfl,_,_⟩|⟨d',_,hm⟩
    .rw[ha]at e;cases e;cases d
    .have e2:=(TX b d' hm).2.1
     rw[e]at e2;cases e2;cases d
  have nsK:∀{b:Pk}{m:Pq->Option Pb},si.heap.Ns b m->(xR si.heap H).Ns b m:=λ{b m} ⟨o,es,ep,e,d,r⟩=>⟨o,es,ep,q9 e (noA e d),d,r⟩
  have hKb:K.In (xR si.heap H):=λb o e=>q9 (KX b o e) (by
   cases q:H b with
   |none=>rfl
   |some u=>
    rcases hH b u q with⟨rfl,_,n⟩|⟨d',_,hm⟩
    .rw[n]at e;cases e
    .rw[(TX b d' hm).2.2.1]at e;cases e)
  have hM:Mod K mg (xR si.heap H):=⟨hKb,nsK hns,⟨mb,nsK hb,hbb⟩,let ⟨mc,h1,h2⟩:=hlim;⟨mc,nsK h1,h2⟩,let ⟨mm,h1⟩:=hsm;⟨mm,nsK h1⟩,let ⟨b,ob,b1,b2,b3,b4,b5,b6⟩:=hbm;⟨b,ob,b1,b2,q9 b3 (noM b3 b6),b4,b5,b6⟩⟩
  have e0:pJ P w K mg (xR si.heap H) callerA [] si H:=⟨rfl,hM,λb o e=>GZ e,UC (Ce _ _),trivial,λb hb=>absurd (show b∈([]:List Pk) from hb) (by simp),hok,.of_eq hg,hT⟩
  refine codeAny_mono ((F _ hKb (nsK hns)).run callerA [] si H ⟨[.ref a],[]⟩ [.ref a] [.ref a] _ _ hr e0 (hbind si (.ref a)) (.cons rfl .nil) (hsp H hO hS)) λr s' h=>?_;cases r with
  |error e=>exact(hCX H e s' h).elim
  |ok fl=>
   cases fl with
   |next|brk|cont=>exact QK h
   |ret u=>
    obtain⟨v,H',os,bare,un,hok',r',q⟩:=h;have q':v=.bl true:=q;subst q';obtain rfl:u=QW true:=r';have all:∀b o,si.heap.get? b=some o->asItWas si.heap s'.heap b o:=λb o e=>by
     cases q:H b with
     |none=>exact .inl (un.keep b o e q (by intro z;exact absurd (show b∈([]:List Pk) from z) (by simp)) (by simp))
     |some u=>
      rcases hH b u q with⟨rfl,rfl,_⟩|⟨d,rfl,hm⟩
      .have z2:=un.frzs b _ _ q
       obtain⟨e1,_⟩:=hok b _ q;obtain⟨e2,_⟩:=hok' b _ z2;rw[e]at e1;cases e1;exact .inl e2
      .obtain⟨⟨c,hc⟩,e1,_⟩:=TX b d hm
       rw[e]at e1;cases e1;obtain⟨more,z2⟩:=un.tbls b d q;have z3:TabOk H' s'.heap b (d++more):=hok' b _ z2;rcases z3 with⟨z4,oc,vs2,q3,t3,t4,m3,e5,e6,_⟩|⟨_,z3|⟨l,c2,qq,t1,t2,m2,m2',c',_,z3,_⟩⟩
       .exact absurd z4 (mf hm)
       .exact .inl z3
       .refine .inr (.inl ⟨?_,rfl,#[],#[l,c2,.ref c'],rfl,by rw[z3];simp⟩)
        obtain⟨⟨o',vs2,y1,y2,y3,y4⟩,_⟩:=hc.tab e;exact⟨c,o',vs2,y1,y2,y3,y4⟩
    refine⟨rfl,⟨all,λb o e=>?_⟩,os,bare⟩;rcases all b o e with z|⟨_,_,vs2,more,_,z⟩|⟨_,_,⟨o',_,_,z,_⟩,_⟩
    .exact⟨_,z⟩
    .exact⟨_,z⟩
    .exact⟨_,z⟩
 cases hk:K.lookup a with
 |some o=>
  have e:=KX a o hk;rw[ha]at e;cases e;exact core (Bx K) (λb u q=>.inr (uy q)) (λP' d hm=>⟨#[],by unfold Bx;rw[(TX P' d hm).2.2.2];simp⟩) (.inr ⟨_,vs.toArray,_,hk,rfl,rfl,rfl,by rw[PJ,lenV];exact hl,by simpa using rv⟩)
 |none=>
  refine core (upd (Bx K) a (.frz { cls:=.type "list",data:=.seq vs.toArray } (.lst (ns.map V.int)))) (λb u q=>?_) (λP' d hm=>⟨#[],?_⟩) (.inl (.inr ⟨{ cls:=.type "list",data:=.seq vs.toArray },aP⟩))
  .by_cases hb:b=a
   .subst hb
    rw[aP]at q;cases q;exact .inl ⟨rfl,rfl,hk⟩
   .rw[aG hb]at q
    exact .inr (uy q)
  .rw[aG (hPa P' d hm)]
   unfold Bx;rw[(TX P' d hm).2.2.2];simp
abbrev KOf{K:Ph}{h:PR}(_:K.In h):Ph:=K
def FW{l:W.OpenLaw}{n k:Nat}{q:Qe}{loose:ce}{XP:(Pq->Option Pb)->PR->Prop}{YP:Qt->PR->Prop}{d:DefRec}{K:Params->Ph}{CX:Qt->p6}{sp:Qt->Sp}{x:Pq}
  (hi:importsNone q=true)(hn:l.most=some n)(hn2:n<=sizeLine)(hdf:d.params.defaults=[])(hr:cV k callerA)
  (hY:∀(w:Qt) (h:PR),YP w h->(K w.params).In h)(hT:∀(w:Qt) (h:PR),YP w h->TabsStart (K w.params) h)
  (F:∀(w:Qt) (mg:Pq->Option Pb) (fa:Pk) (h:PR),(K w.params).In h->h.Ns PH mg->mg d.name=some (.ref fa) ->
   ∃fd:Qy,(∀(s:Pj) (u:Pb),BindsTo s fd ⟨[u],[]⟩ [(x,u)]) /\
    ∀base:PR,(K w.params).In base->base.Ns PH mg->iu l.prog w (K w.params) mg base (CX w) k fa fd [x] (sp w))
  (hsp:∀(w:Qt) (H:Hp) (a:Pk) (ns:List Int),ns.length<=n->Ie H->fk (K w.params) H a (ns.map V.int)->sp w [.ref a] H (λv _=>v=.bl true) λ_ _ _=>False)
  (hCX:∀(w:Qt) (H:Hp) (s:Pj) (e:Pb) (s':Pj),CX w [] H s (λ_ _ _=>False) e s'->False) :
  W.WalkO q loose XP YP l.row.toRowW d [] (λf vs=>PySem.call f vs):=by
 refine Att.attach_call hn hdf λw sf si mg mb fa o pm cd doc a vs ns G Y ho hd hcd hmg hobj hints hlen hg=>?_;have KX:=hY w _ Y;obtain⟨fd,hb,hF⟩:=F w mg fa _ KX G.T.g hmg;exact EK KX (hT w _ Y) G.T.g G.T.b G.T.builtins G.T.nolimit (let ⟨mm,h1,_⟩:=(G.T.seer hi).mods;⟨mm,h1⟩) G.T.bmain hg hobj hints (Pu hlen hn2) hr hF hb (λH hO hS=>hsp w H a ns hlen hO hS) λH e s'=>hCX w H si e s'
def walk_ofK{l:W.OpenLaw}{n k:Nat}{q:Qe}{loose:ce}{XP:(Pq->Option Pb)->PR->Prop}{YP:Qt->PR->Prop}{d:DefRec}{K:Params->Ph}{CX:p6}{sp:Ph->Sp}{x:Pq}
  (hi:importsNone q=true)(hn:l.most=some n)(hn2:n<=sizeLine)(hdf:d.params.defaults=[])(hr:cV k callerA)
  (hY:∀(w:Qt) (h:PR),YP w h->(K w.params).In h)(hT:∀(w:Qt) (h:PR),YP w h->TabsStart (K w.params) h)
  (F:∀(w:Qt) (mg:Pq->Option Pb) (fa:Pk) (h:PR),(K w.params).In h->h.Ns PH mg->mg d.name=some (.ref fa) ->
   ∃fd:Qy,(∀(s:Pj) (u:Pb),BindsTo s fd ⟨[u],[]⟩ [(x,u)]) /\
    ∀base:PR,(K w.params).In base->base.Ns PH mg->iu l.prog w (K w.params) mg base CX k fa fd [x] (sp (K w.params)))
  (hsp:∀(K:Ph) (H:Hp) (a:Pk) (ns:List Int),ns.length<=n->Ie H->fk K H a (ns.map V.int)->sp K [.ref a] H (λv _=>v=.bl true) λ_ _ _=>False)
  (hCX:∀(H:Hp) (s:Pj) (e:Pb) (s':Pj),CX [] H s (λ_ _ _=>False) e s'->False) :
  W.WalkO q loose XP YP l.row.toRowW d [] (λf vs=>PySem.call f vs) :=
 FW (K:=K) (CX:=λ_=>CX) (sp:=λw=>sp (K w.params)) hi hn hn2 hdf hr hY hT F (λw H a ns h1 h2 h3=>hsp (K w.params) H a ns h1 h2 h3) λ_ H s e s'=>hCX H s e s'
def Hl(s:Rv)(j:Nat):Rv:=match s with
 |.ClassDef _ _ _ body _ _ _ _ _ _ _=>body.getD j (.Pass ⟨0,0,0,0⟩)
 |_=>.Pass ⟨0,0,0,0⟩
def defArgs(s:Rv):Arguments:=match s with
 |.FunctionDef _ a _ _ _ _ _ _ _ _=>a
 |_=>{ posonlyargs:=[],args:=[],vararg:=none,kwonlyargs:=[],kw_defaults:=[],kwarg:=none,defaults:=[] }
def defBody(s:Rv):List Rv:=match s with
 |.FunctionDef _ _ b _ _ _ _ _ _ _=>b
 |_=>[]
def defScope(s:Rv):Sa:=match s with
 |.FunctionDef _ _ _ _ _ _ sc _ _ _=>sc
 |_=>{ kind:=.function,names:=[],isGenerator:=false,isCoroutine:=false }
abbrev CX0:p6:=λ_ _ _ _ _ _=>False
abbrev E0:XK:=λ_ _ _=>False
def xn{X:Cx}:gs CX0 X E0:=λ_ _ _ _ _ _ _ h=>h.elim
structure CK (K:Ph) (x qual:Pq) (st:Rv) (f:Pk) (fd:Qy):Prop where
 ex:∃(oc:Pb) (od:Option Pk) (kV doc pm:Pb) (an:Option Pk) (cdv ct:Pb) (osl:Array (Option Pb)),
  fd=Sd x qual (defArgs st) (defBody st) (defScope st) .none kV doc pm an cdv ct/\K.lookup f=some ⟨oc,od,.func fd,osl⟩/\Ub K cdv qual=true
 kp:S9 K (.ref f)=true
section
variable {P:Qe}{w:Qt}{K:Ph}{mg:Pq->Option Pb}{base:PR}
def CK.ok{x qual:Pq}{st:Rv}{f:Pk}{fd:Qy}{N ps:ce}{k:Nat}{sp:Sp}(F:CK K x qual st f fd)(S:fS N ps (defScope st))(len:∀vs H Q E,sp vs H Q E->vs.length=ps.length)
  (hbody:∀(cdv:Pb) (A:Qs) (outer:List Env) (s:Pj) (H:Hp) (vs:ad) (Q:VK) (E:XK),cV k (A.deeper (envOfC qual (defScope st) s.heap.objs.size f cdv))->sp vs H Q E ->
   ∃t,yI (pH CX0 P w K mg base N qual (defScope st) f cdv A outer s H E).nox (defBody st) t/\t { nx:=λ_ H'=>Q .non H',rt:=Q } (start N vs) H):iu P w K mg base CX0 (k+1) f fd ps sp:=by
 obtain⟨oc,od,kV,doc,pm,an,cdv,ct,osl,rfl,lk,hcd⟩:=F.ex;refine IG lk hcd S len λA outer s H vs Q E hr hsp=>?_;obtain⟨t,h,q⟩:=hbody cdv A outer s H vs Q E hr hsp;exact⟨t,h.nox,q⟩
def CK.binds{x qual:Pq}{st:Rv}{f:Pk}{fd:Qy}{ps:ce}(F:CK K x qual st f fd)
  (h:∀(kV doc pm:Pb) (an:Option Pk) (cdv ct:Pb) (us:List Pb),us.length=ps.length->bindArgs (Sd x qual (defArgs st) (defBody st) (defScope st) .none kV doc pm an cdv ct) ⟨us,[]⟩=pure (ps.zip us)):jT K fd ps []:=by
 obtain⟨oc,od,kV,doc,pm,an,cdv,ct,osl,rfl,lk,hcd⟩:=F.ex;exact .all (h kV doc pm an cdv ct)
def v8{x qual:Pq}{st:Rv}{f:Pk}{oc:Pb}{od an:Option Pk}{osl:Array (Option Pb)}{kV doc pm cdv ct:Pb}(l:K.lookup f=some ⟨oc,od,.func (Sd x qual (defArgs st) (defBody st) (defScope st) .none kV doc pm an cdv ct),osl⟩)
  (c:Ub K cdv qual=true)(k:S9 K (.ref f)=true):CK K x qual st f (Sd x qual (defArgs st) (defBody st) (defScope st) .none kV doc pm an cdv ct):=⟨⟨oc,od,kV,doc,pm,an,cdv,ct,osl,rfl,l,c⟩,k⟩
end
def aD(H H':Hp):Prop:=∀b o,H b=some o->H' b=some o
def aD.refl(H:Hp):aD H H:=λ_ _ h=>h
def aD.trans{H H1 H2:Hp}(a:aD H H1)(b:aD H1 H2):aD H H2:=λc o h=>b c o (a c o h)
def aD.free{H H':Hp}(e:aD H H'){l:Pk}(h:H' l=Option.none):H l=Option.none:=by
 cases q:H l with
 |none=>rfl
 |some o=>
  rw[e l o q]at h;cases h
end L2
namespace DL
open PySem PySem.Spec PySem.Calls PySem.W PyProof.Rows Builtin Builtin.ObjectAttr Builtin.Getset_descriptor
section
variable {prog:Qe}{w:Qt}{A:Qs}{E:Pb->Pj->Prop}{h:PR}{g:Array GenState}{d:Drawn}{t:Nat}{os:OsState}{a C:Pk}{o:Obj}{K:Frag}
structure uk (K:Frag) (C:Pk):Prop where
 cls:findIn K (.ref C) "__class__"=some (some (.builtin "object.__class__"))
 ga:findIn K (.ref C) "__getattribute__"=some (some (.builtin "BaseException.__getattribute__"))
 gt:findIn K (.ref C) "__getattr__"=some none
 ob:mroIn K C (.type "object")=some true
 be:subIn K (.ref C) (.type "BaseException")=some true
def IW{R:Tx->Pj->Prop}{tp:Pb}(X:K.In h)(Z:uk K C)(hx:h.get? a=some o)(hc:o.cls=.ref C)(hq:R (.ok (.ret (.ref C))) ⟨h,g,d,t,os⟩) :
  RJ (PX prog w) A (.call (.builtin "getset_descriptor.__get__") ⟨[.builtin "object.__class__",.ref a,tp],[]⟩) R ⟨h,g,d,t,os⟩:=by
 have L0:Looks (PX prog w) h (typeOf (.ref a)) (.ref C):=hc▸(Looks.ld hx).andThen .now;have L1:=looks_mroIn (M:=PX prog w) X Z.ob;refine codeAny_call_builtin KF.slot_gs.plain KF.entry_gs (KF.slot_gs.check _ _ _ _ _ _ _ _ KF.type_class (KF.args_gs _ _ _) ?_);unfold Builtin.«getset_descriptor.__get__» descrGet;rw[dga_obj];refine Py (P7 ?_);unfold descrGetter descrCheckInstance descrNameAndClass isInstance;simp only[KF.owner_class]
 repeat lk
 refine⟨Code.quiet_builtin _ (by decide +kernel),codeAny_builtin KF.entry_class ?_⟩;unfold Builtin.«object.__class__» shownTypeOf
 repeat lk
 exact hq
def CS{M:Model}{nameV:Pb}{Q:Unit->Pj->Prop}(X:K.In h)(Z:uk K C)(hx:h.get? a=some o)(hc:o.cls=.ref C)(hq:Q () ⟨h,g,d,t,os⟩):P5 M A (checkBuiltinCall "BaseException.__getattribute__" ⟨[.ref a,nameV],[]⟩) Q E ⟨h,g,d,t,os⟩:=by
 have hk:builtinKind "BaseException.__getattribute__"=some .slot:=by decide +kernel
 have hsplit:splitId "BaseException.__getattribute__"=some ("BaseException","__getattribute__"):=by decide +kernel
 have ha:=F.args_bexc_ga (.ref a) nameV;have LS:Looks M h (isSubtype (.ref C) (.type "BaseException")) true:=looks_subIn X Z.be;simp only[checkBuiltinCall,hk,hsplit];refine Py ?_
 .unfold isInstance
  repeat (first|(with_reducible refine TH hx ?_;rw[hc])|(with_reducible refine LS.at ?_)|wp_step)
  exact hq
def CQ{tk:Tok}{Q:Fin->Pj->Prop}(X:K.In h)(Z:uk K C)(hx:h.get? a=some o)(hc:o.cls=.ref C)(hq:Q (.done (.ret (.ref C))) ⟨h,g,d,t,os⟩) :
  P5 (PX prog w) A (Builtin.«object.__getattribute__» ⟨[.ref a,.str "__class__" tk],[]⟩) Q E ⟨h,g,d,t,os⟩:=by
 have hT5:(⟨h,g,d,t,os⟩:Pj).TypeIs (.builtin "object.__class__") "getset_descriptor":=RX;have f5:=RX;have f6:=Tt.lookup;have f7:=F.slot_gs_set.lookup;have LC:Looks (PX prog w) h (Te (.ref C) "__class__") (some (.builtin "object.__class__")):=looks_findIn X Z.cls
 repeat (any_goals (first|assumption|(with_reducible refine TH hx ?_;rw[hc])|(with_reducible refine LC.at ?_)|wp_step))
 refine IW X Z hx hc ?_
 repeat (any_goals (first|assumption|wp_step))
def FQ{tk:Tok}{R:Tx->Pj->Prop}(X:K.In h)(Z:uk K C)(hx:h.get? a=some o)(hc:o.cls=.ref C)(hq:R (.ok (.ret (.ref C))) ⟨h,g,d,t,os⟩) :
  RJ (PX prog w) A (.call (.builtin "BaseException.__getattribute__") ⟨[.ref a,.str "__class__" tk],[]⟩) R ⟨h,g,d,t,os⟩ :=
 codeAny_call_builtin F.attr_ValueError.ga.plain F.entry_bexc_ga (CS X Z hx hc (CQ X Z hx hc hq))
def Ls{tk:Tok}{Q:Pb->Pj->Prop}(X:K.In h)(Z:uk K C)(hx:h.get? a=some o)(hc:o.cls=.ref C)(hq:Q (.ref C) ⟨h,g,d,t,os⟩) :
  P5 (PX prog w) A (getAttrBy (.ref a) (.str "__class__" tk) false) Q E ⟨h,g,d,t,os⟩:=by
 have f3:=F.attr_ValueError.ga.bind (.ref a);have hx2:(Tr "BaseException.__getattribute__"==Tr "object.__getattribute__")=false:=by decide +kernel
 have hx1:(onTheHeap (Qm C)&&Tr "BaseException.__getattribute__"==Tr "object.__getattribute__")=false:=by rw[hx2];rfl
 have L1:Looks (PX prog w) h (Te (.ref C) "__getattribute__") (some (.builtin "BaseException.__getattribute__")):=looks_findIn X Z.ga;have L2:Looks (PX prog w) h (Te (.ref C) "__getattr__") none:=looks_findIn X Z.gt
 repeat (any_goals (first|assumption|(with_reducible refine TH hx ?_;rw[hc])|(with_reducible refine L1.at ?_)|(with_reducible refine L2.at ?_)|wp_step))
 refine FQ X Z hx hc ?_
 repeat (any_goals (first|assumption|wp_step))
def FR{Q:Option Pb->Pj->Prop}(X:K.In h)(Z:uk K C)(hx:h.get? a=some o)(hc:o.cls=.ref C)(hq:Q (some (.ref C)) ⟨h,g,d,t+1,os⟩):P5 (PX prog w) A (getAttr? (.ref a) "__class__") Q E ⟨h,g,d,t,os⟩:=by
 unfold getAttr? getAttrBy?
 repeat (any_goals (first|assumption|with_reducible apply Ls X Z hx hc|wp_step))
end
def Nl(a C:Pk)(dc:Option Pk):PR->Prop:=λh=>∃o vs,h.get? a=some o/\o.cls=.ref C/\o.data=.fields vs/\o.dict=dc
def xI{K:Frag}{a C:Pk}{dc:Option Pk}(Z:uk K C)(hC:(clsIn K C).isSome=true):KitX K (.ref a) (.ref C) (Nl a C dc) where
 ty:=λ_ _ _ ⟨o,_,h1,h2,_⟩=>h2▸(Looks.ld h1).andThen .now
 it:=λ_ _ X _=>by
  obtain⟨cd,hcD⟩:=Sh.mp hC;unfold clsIn at hcD;split at hcD
  .rename_i c' d' cd' sl' ho
   intro A' Q' E' s' k q;unfold isType loadHead;exact Py (wpAny_loadPart (k _ _ (X _ _ ho)) (P7 q))
  .cases hcD
 ne:=λh tp dd its n sl X htp=>by
  obtain⟨cd,hcD⟩:=Sh.mp hC;refine Bool.eq_false_iff.mpr λq=>?_;have e:C=tp:=Qm.inj (beq_iff_eq.mp q);subst e;unfold clsIn at hcD;split at hcD
  .rename_i c' d' cd' sl' ho
   have z:=(X _ _ ho).symm.trans htp;cases z
  .cases hcD
 ca:=λ{_ _ _ _ _ s} X ⟨o,_,h1,h2,_⟩ k=>by
  obtain⟨h,g,d,t,os⟩:=s;exact FR X Z h1 h2 k
def uk.isCls{K:Frag}{C:Pk}(Z:uk K C):(clsIn K C).isSome=true:=by
 obtain⟨cd,a,b⟩:=Option.bind_eq_some_iff.mp Z.ob;rw[a];rfl
def ie:List String:=["NoneType","bool","int","str","tuple","list","dict"]
structure XC (K:Frag) (x:Pq) (C:Pk):Prop where
 ns:nsIn K PH x=some (some (.ref C))
 ek:uk K C
 bt:∀T∈ie,kitOne K (.ref C) (.type T)=some false
end DL
namespace PySem
namespace F
def slot_function_getattribute:Slot "function" "__getattribute__" "object.__getattribute__":=.of (owner:="object") (n:="__getattribute__") (by rw[typeLookup_type,builtinLookup_eq_fast];kernel_rfl) (by decide +kernel) (by decide +kernel) (by decide +kernel)
 (by first|exact .inl (by decide +kernel)|exact .inr (by decide +kernel)) (by rw[isSubtype_type];kernel_rfl)
def args_function_getattribute_2(a b:Pb):argsOk "object.__getattribute__" ⟨[a,b],[]⟩:=by unfold argsOk;kernel_rfl
end F
end PySem
namespace PySem
open Sem (wp)
namespace F
def entry_function_ga:entryFor table "object.__getattribute__"=some Builtin.«object.__getattribute__»:=entryFor_of_tree (by kernel_rfl)
def lk_function_class:Te (.type "function") "__class__"=pure (some (.builtin "object.__class__")):=by rw[typeLookup_type,builtinLookup_eq_fast];kernel_rfl
def sub_function_class_owner:isSubtype (.type "function") (.type (".".intercalate ("object.__class__".cutAt '.').dropLast))=pure true:=by
 rw[owner_object_class,isSubtype_type];kernel_rfl
end F
section
variable {prog:Qe}{w:Qt}{A:Qs}{E:Pb->Pj->Prop}{h:PR}{g:Array GenState}{d:Drawn}{t:Nat}{os:OsState}{a:Pk}{o:Obj}
def l7{R:Tx->Pj->Prop}(hx:h.get? a=some o)(hc:o.cls=.type "function")(hq:R (.ok (.ret (.type "function"))) ⟨h,g,d,t,os⟩) :
  RJ (PX prog w) A (.call (.builtin "getset_descriptor.__get__") ⟨[.builtin "object.__class__",.ref a,.type "function"],[]⟩) R ⟨h,g,d,t,os⟩:=by
 have hT:(⟨h,g,d,t,os⟩:Pj).TypeIs (.ref a) "function":=⟨_,hx,hc⟩
 have hT5:(⟨h,g,d,t,os⟩:Pj).TypeIs (.builtin "object.__class__") "getset_descriptor":=RX;have f8:=F.sub_function_class_owner;refine codeAny_call_builtin Tt.plain F.entry_gs_get (Tt.check _ _ _ _ _ _ _ _ hT5 (F.args_gs_get _ _ _) ?_)
 repeat (any_goals (first|assumption|wp_step))
 refine⟨Code.quiet_builtin _ (by decide +kernel),codeAny_builtin F.entry_object_class ?_⟩
 repeat (any_goals (first|assumption|wp_step))
def kI{tk:Tok}{Q:Fin->Pj->Prop}(hx:h.get? a=some o)(hc:o.cls=.type "function")(hq:Q (.done (.ret (.type "function"))) ⟨h,g,d,t,os⟩) :
  P5 (PX prog w) A (Builtin.«object.__getattribute__» ⟨[.ref a,.str "__class__" tk],[]⟩) Q E ⟨h,g,d,t,os⟩:=by
 have hT:(⟨h,g,d,t,os⟩:Pj).TypeIs (.ref a) "function":=⟨_,hx,hc⟩
 have hT5:(⟨h,g,d,t,os⟩:Pj).TypeIs (.builtin "object.__class__") "getset_descriptor":=RX;have f4:=F.lk_function_class;have f5:=RX;have f6:=Tt.lookup;have f7:=F.slot_gs_set.lookup
 repeat (any_goals (first|assumption|wp_step))
 refine l7 hx hc ?_
 repeat (any_goals (first|assumption|wp_step))
def lE{tk:Tok}{R:Tx->Pj->Prop}(hx:h.get? a=some o)(hc:o.cls=.type "function")(hq:R (.ok (.ret (.type "function"))) ⟨h,g,d,t,os⟩) :
  RJ (PX prog w) A (.call (.builtin "object.__getattribute__") ⟨[.ref a,.str "__class__" tk],[]⟩) R ⟨h,g,d,t,os⟩ :=
 codeAny_call_builtin F.slot_function_getattribute.plain F.entry_function_ga (F.slot_function_getattribute.check _ _ _ _ _ _ _ _ (show(⟨h,g,d,t,os⟩:Pj).TypeIs (.ref a) "function" from⟨_,hx,hc⟩) (F.args_function_getattribute_2 _ _) (kI hx hc hq))
def nD{tk:Tok}{Q:Pb->Pj->Prop}(hx:h.get? a=some o)(hc:o.cls=.type "function")(hq:Q (.type "function") ⟨h,g,d,t,os⟩):P5 (PX prog w) A (getAttrBy (.ref a) (.str "__class__" tk) false) Q E ⟨h,g,d,t,os⟩:=by
 have hT:(⟨h,g,d,t,os⟩:Pj).TypeIs (.ref a) "function":=⟨_,hx,hc⟩
 have f2:=F.slot_function_getattribute.lookup;have f3:=F.slot_function_getattribute.bind (.ref a)
 repeat (any_goals (first|assumption|wp_step))
 refine lE hx hc ?_
 repeat (any_goals (first|assumption|wp_step))
def lF{Q:Option Pb->Pj->Prop}(hx:h.get? a=some o)(hc:o.cls=.type "function")(hq:Q (some (.type "function")) ⟨h,g,d,t+1,os⟩):P5 (PX prog w) A (getAttr? (.ref a) "__class__") Q E ⟨h,g,d,t,os⟩:=by
 unfold getAttr? getAttrBy?
 repeat (any_goals (first|assumption|with_reducible apply nD hx hc|wp_step))
end
end PySem
namespace DL
open PySem PySem.Spec PyProof.Rows L2
def IB:Qa->Bool
 |.Starred _ _=>false
 |_=>true
def bB{e:Qa}{es:List Qa}{env:QN}(h:IB e=true):PD (e::es) env=(false,eval e env)::PD es env:=by
 cases e<;>first|(rw[PD];intros;contradiction)|rw[PD]|(cases h)
def eN{e:Qa}{env:QN}(h:IB e=true):PD [e] env=[(false,eval e env)]:=by
 rw[bB h,PD]
theorem dk{env:QN}{pos:Pos}:∀{es:List Qa},es.all IB=true->(Rj pos (PD es env)).any (·.1)=false
 |[],_=>by rw[PD];rfl
 |e::es,h=>by
  rw[RT,PM]at h;rw[bB h.1];have:=dk (env:=env) (pos:=pos) h.2;show(false||(Rj pos (PD es env)).any (·.1))=false;rw[this];rfl
def rg{e:Qa}{env:QN}{pos:Pos}(h:IB e=true):((Rj pos (PD [e] env)).all (λx=>!x.1)&&(Ua pos (S3 [] env)).all (λx=>x.1.isSome)
  &&decide ([e].length+([]:List S6).length+(if([]:List S6).isEmpty then 0 else 1)<30))=true:=by
 rw[eN h,S3];rfl
inductive Kd where
 |ins (c:Pq) (ks:ce)|dint (ks:List Int)|exf (c:Pq) (ks:ce)|pl|fn (q:Pq)
inductive D where
 |non|bl (b:Bool)|int (i:Int)|str (x:Pq)|tup (xs:List D)|lst (xs:List D)|dic (ks:ce) (xs:List D)|exc (x:Pq)|ob (k:Kd) (xs:List D)
abbrev ac:=List D
structure La (K:Ph) (ks:ce) (C:Pk):Prop where
 cls:FK K C
 no:∀f∈ks,fG K C f
 gc:Q3 K (.ref C) "__class__"=some (some (.builtin "object.__class__"))
 gn:TY K (.builtin "object.__class__") "__get__"=some (some (.builtin "getset_descriptor.__get__"))
 tk:Uu K (.builtin "object.__class__")=some true
 mo:W.mroIn K C (.type "object")=some true
 bt:∀T∈ie,W.kitOne K (.ref C) (.type T)=some false
def eY(H:Hp):List (Pq×Pk)->ad->Prop
 |[],vs=>vs=[]
 |(_,c)::r,vs=>∃v rs o u,vs=v::rs/\H c=some (.frz o (.own c))/\o.data=.cell (some u)/\bh v u/\eY H r rs
def gA(sc:Sa):ce:=((sc.names.filter λp=>p.2==.free).map (·.1)).reverse
noncomputable def FA(K:Ph) (H:Hp):Kd->Pk->ad->Prop
 |.ins c ks,a,vs=>∃C dx,QT K PH c=some (some (.ref C))/\La K ks C/\H a=some (.ins C dx (ks.zip vs))/\ks.length=vs.length
 |.dint ks,a,vs=>∃kvs,Rd H a (.dK kvs)/\kvs=(ks.map SR).zip vs/\ks.length=vs.length
 |.exf c ks,a,vs=>∃C dx fs,XC K c C/\Rd H a (.ext (Nl a C (some dx)))/\H dx=some (.xd fs)/\ks.length=vs.length/\∀(i:Nat) (f:Pq) (v:V),ks[i]?=some f->vs[i]?=some v->fs.lookup f=some v
 |.pl,a,vs=>H a=some (.lst vs)
 |.fn q,a,vs=>∃F clos c' t m pm ctv,(uM K).lookup q=some F/\(clos.map (·.1)=gA F.scope/\(clos.map (·.2)).Nodup)/\H a=some (.frz (W.kla_obj "<lambda>" q F.params F.body F.scope clos pm c' ctv) (.own a))/\H c'=some (.tbl (#[.none,.str q t]++m))/\eY H clos vs
structure Lf where
 cls:Pq
 flds:List (Pq×D)
inductive au (α:Type) where
 |ok (a:α)|exn (x:Lf)|stuck
def au.bind{α β:Type}(r:au α)(f:α->au β):au β:=match r with
 |.ok a=>f a
 |.exn x=>.exn x
 |.stuck=>.stuck
mutual
def Rep(K:Ph)(H:Hp):D->V->Prop
 |.non,v=>v=.non
 |.bl b,v=>v=.bl b
 |.int i,v=>v=.int i
 |.str x,v=>v=.str x
 |.tup ds,v=>∃a vs,v=.ref a/\nV K H a vs/\Reps K H ds vs
 |.lst ds,v=>∃a vs,v=.ref a/\fk K H a vs/\Reps K H ds vs
 |.dic ks ds,v=>∃a kvs vs,v=.ref a/\Rd H a (.dK kvs)/\kvs=(ks.map QE).zip vs/\ks.length=vs.length/\Reps K H ds vs
 |.exc x,v=>∃a C dc,v=.ref a/\XC K x C/\Rd H a (.ext (Nl a C dc))
 |.ob k ds,v=>∃a vs,v=.ref a/\FA K H k a vs/\Reps K H ds vs
def Reps(K:Ph)(H:Hp):ac->ad->Prop
 |[],vs=>vs=[]
 |d::ds,vs=>∃v r,vs=v::r/\Rep K H d v/\Reps K H ds r
end
def aD.rd{H H':Hp}(e:aD H H'){a:Pk}{o:HO}(h:Rd H a o):Rd H' a o:=by
 rcases h with h|⟨o',h⟩
 .exact .inl (e _ _ h)
 .exact .inr ⟨o',e _ _ h⟩
def aD.sqT{K:Ph}{H H':Hp}(e:aD H H'){a:Pk}{xs:ad}(h:nV K H a xs):nV K H' a xs:=by
 rcases h with h|h
 .exact .inl (aD.rd e h)
 .exact .inr h
def aD.sqL{K:Ph}{H H':Hp}(e:aD H H'){a:Pk}{xs:ad}(h:fk K H a xs):fk K H' a xs:=by
 rcases h with h|h
 .exact .inl (aD.rd e h)
 .exact .inr h
theorem eY.mono{H H':Hp}(e:aD H H'):∀{cl:List (Pq×Pk)}{vs:ad},eY H cl vs->eY H' cl vs
 |[],_,h=>h
 |(_,c)::r,_,⟨v,rs,o,u,h1,h2,h3,h4,h5⟩=>⟨v,rs,o,u,h1,e _ _ h2,h3,h4,eY.mono e h5⟩
theorem FA.mono{K:Ph}{H H':Hp}(e:aD H H'):∀{k:Kd}{a:Pk}{vs:ad},FA K H k a vs->FA K H' k a vs
 |.ins c ks,a,vs,⟨C,dx,h0,h1,h2,h3⟩=>⟨C,dx,h0,h1,e _ _ h2,h3⟩
 |.dint ks,a,vs,⟨kvs,h1,h2,h3⟩=>⟨kvs,aD.rd e h1,h2,h3⟩
 |.exf c ks,a,vs,⟨C,dx,fs,h1,h2,h3,h4⟩=>⟨C,dx,fs,h1,aD.rd e h2,e _ _ h3,h4⟩
 |.pl,a,vs,h=>e _ _ h
 |.fn q,a,vs,⟨F,clos,c',t,m,pm,ctv,h0,h1,h2,h3,h4⟩=>⟨F,clos,c',t,m,pm,ctv,h0,h1,e _ _ h2,e _ _ h3,eY.mono e h4⟩
mutual
theorem Rep.mono{K:Ph}{H H':Hp}(e:aD H H'):∀{d:D}{v:V},Rep K H d v->Rep K H' d v
 |.non,_,h=>by unfold Rep at h ⊢;exact h
 |.bl _,_,h=>by unfold Rep at h ⊢;exact h
 |.int _,_,h=>by unfold Rep at h ⊢;exact h
 |.str _,_,h=>by unfold Rep at h ⊢;exact h
 |.tup ds,_,h=>by
  unfold Rep at h ⊢;obtain⟨a,vs,e1,e2,e3⟩:=h;exact⟨a,vs,e1,aD.sqT e e2,Reps.mono e e3⟩
 |.lst ds,_,h=>by
  unfold Rep at h ⊢;obtain⟨a,vs,e1,e2,e3⟩:=h;exact⟨a,vs,e1,aD.sqL e e2,Reps.mono e e3⟩
 |.dic ks ds,_,h=>by
  unfold Rep at h ⊢;obtain⟨a,kvs,vs,e1,e2,e3,e4,e5⟩:=h;exact⟨a,kvs,vs,e1,aD.rd e e2,e3,e4,Reps.mono e e5⟩
 |.exc x,_,h=>by
  unfold Rep at h ⊢;obtain⟨a,C,dc,e1,e2,e3⟩:=h;exact⟨a,C,dc,e1,e2,aD.rd e e3⟩
 |.ob k ds,_,h=>by
  unfold Rep at h ⊢;obtain⟨a,vs,e1,e2,e3⟩:=h;exact⟨a,vs,e1,e2.mono e,Reps.mono e e3⟩
theorem Reps.mono{K:Ph}{H H':Hp}(e:aD H H'):∀{ds:ac}{vs:ad},Reps K H ds vs->Reps K H' ds vs
 |[],_,h=>by unfold Reps at h ⊢;exact h
 |d::ds,_,h=>by
  unfold Reps at h ⊢;obtain⟨v,r,e1,e2,e3⟩:=h;exact⟨v,r,e1,Rep.mono e e2,Reps.mono e e3⟩
end
section
variable {K:Ph}{H:Hp}{v:V}{vs:ad}{d:D}{ds:ac}
def aR:Rep K H .non v↔v=.non:=by unfold Rep;exact T9
def aH{b}:Rep K H (.bl b) v↔v=.bl b:=by unfold Rep;exact T9
def ay{i}:Rep K H (.int i) v↔v=.int i:=by unfold Rep;exact T9
def Rep.str_iff{x}:Rep K H (.str x) v↔v=.str x:=by unfold Rep;exact T9
def aL:Rep K H (.tup ds) v↔∃a vs,v=.ref a/\nV K H a vs/\Reps K H ds vs:=by rw[Rep]
def aE:Rep K H (.lst ds) v↔∃a vs,v=.ref a/\fk K H a vs/\Reps K H ds vs:=by rw[Rep]
def iM{x}:Rep K H (.exc x) v↔∃a C dc,v=.ref a/\XC K x C/\Rd H a (.ext (Nl a C dc)):=by rw[Rep]
def bq{k}:Rep K H (.ob k ds) v↔∃a vs,v=.ref a/\FA K H k a vs/\Reps K H ds vs:=by rw[Rep]
def Reps.nil_iff:Reps K H [] vs↔vs=[]:=by unfold Reps;exact T9
def az:Reps K H (d::ds) vs↔∃v r,vs=v::r/\Rep K H d v/\Reps K H ds r:=by rw[Reps]
def Reps.nil:Reps K H [] []:=Reps.nil_iff.mpr rfl
def Reps.cons(h:Rep K H d v)(h':Reps K H ds vs):Reps K H (d::ds) (v::vs):=az.mpr ⟨_,_,rfl,h,h'⟩
end
theorem Reps.length{K:Ph}{H:Hp}:∀{ds:ac}{vs:ad},Reps K H ds vs->ds.length=vs.length
 |[],_,h=>by rw[Reps.nil_iff.mp h];rfl
 |d::ds,_,h=>by
  obtain⟨v,r,rfl,_,h⟩:=az.mp h;simp[Reps.length h]
theorem Reps.get{K:Ph}{H:Hp}:∀{ds:ac}{vs:ad}{i:Nat}{d:D},Reps K H ds vs->ds[i]?=some d->∃v,vs[i]?=some v/\Rep K H d v
 |[],_,_,_,h,e=>by simp at e
 |x::ds,_,0,d,h,e=>by
  obtain⟨v,r,rfl,h1,_⟩:=az.mp h;simp at e;subst e;exact⟨v,rfl,h1⟩
 |x::ds,_,i+1,d,h,e=>by
  obtain⟨v,r,rfl,_,h2⟩:=az.mp h;obtain⟨u,e1,e2⟩:=Reps.get (i:=i) h2 (by simpa using e);exact⟨u,by simpa using e1,e2⟩
theorem Reps.app{K:Ph}{H:Hp}:∀{ds es:ac}{vs us:ad},Reps K H ds vs->Reps K H es us->Reps K H (ds++es) (vs++us)
 |[],_,_,_,h,h'=>by rw[Reps.nil_iff.mp h];exact h'
 |d::ds,_,_,_,h,h'=>by
  obtain⟨v,r,rfl,h1,h2⟩:=az.mp h;exact Reps.cons h1 (Reps.app h2 h')
theorem Reps.take{K:Ph}{H:Hp}:∀{ds:ac}{vs:ad}(n:Nat),Reps K H ds vs->Reps K H (ds.take n) (vs.take n)
 |_,_,0,_=>by simp;exact Reps.nil
 |[],_,n+1,h=>by rw[Reps.nil_iff.mp h];exact Reps.nil
 |d::ds,_,n+1,h=>by
  obtain⟨v,r,rfl,h1,h2⟩:=az.mp h;exact Reps.cons h1 (Reps.take n h2)
theorem Reps.drop{K:Ph}{H:Hp}:∀{ds:ac}{vs:ad}(n:Nat),Reps K H ds vs->Reps K H (ds.drop n) (vs.drop n)
 |_,_,0,h=>by simpa using h
 |[],_,n+1,h=>by rw[Reps.nil_iff.mp h];exact Reps.nil
 |d::ds,_,n+1,h=>by
  obtain⟨v,r,rfl,h1,h2⟩:=az.mp h;exact Reps.drop n h2
theorem Reps.set{K:Ph}{H:Hp}{d:D}{v:V}(h:Rep K H d v):∀{ds:ac}{vs:ad}(n:Nat),Reps K H ds vs->Reps K H (ds.set n d) (vs.set n v)
 |[],_,n,h'=>by rw[Reps.nil_iff.mp h'];exact Reps.nil
 |x::ds,_,0,h'=>by
  obtain⟨v,r,rfl,h1,h2⟩:=az.mp h';exact Reps.cons h h2
 |x::ds,_,n+1,h'=>by
  obtain⟨v,r,rfl,h1,h2⟩:=az.mp h';exact Reps.cons h1 (Reps.set h n h2)
theorem vj{K:Ph}{H:Hp}:∀(ns:List Int),Reps K H (ns.map D.int) (ns.map V.int)
 |[]=>Reps.nil
 |n::r=>Reps.cons (ay.mpr rfl) (vj r)
structure bf (H Ha H' Ha':Hp):Prop where
 s:aD H H'
 z:aD Ha Ha'
 sub:aD Ha' H'
 nw:∀a,Ha' a≠none->Ha a=none->H a=none
def bf.refl{H Ha:Hp}(h:aD Ha H):bf H Ha H Ha:=⟨aD.refl _,aD.refl _,h,λa h1 h2=>absurd h2 h1⟩
theorem bf.trans{H Ha H1 H01 H2 H02:Hp}(a:bf H Ha H1 H01)(b:bf H1 H01 H2 H02):bf H Ha H2 H02 :=
 ⟨a.s.trans b.s,a.z.trans b.z,b.sub,λx h1 h2=>by
  cases q:H01 x with
  |none=>exact a.s.free (b.nw x h1 q)
  |some o=>exact a.nw x (by rw[q];simp) h2⟩
def bz{H Ha:Hp}{p:Pk}{o:HO}(hs:aD Ha H)(hp:H p=none):bf H Ha (upd H p o) (upd Ha p o) :=
 ⟨same_new hp o,same_new (hs.free hp) o,λb u e=>by
  by_cases hb:b=p
  .subst hb;rw[aP]at e ⊢;exact e
  .rw[aG hb]at e ⊢;exact hs _ _ e,λa h1 h2=>by
  by_cases hb:a=p
  .subst hb;exact hp
  .rw[aG hb]at h1;exact absurd h2 h1⟩
where
 same_new {H:Hp}{p:Pk}(h:H p=none) (o:HO):aD H (upd H p o):=λb u q=>by rw[aG (ba q h)];exact q
inductive Sl where
 |no|sh (d:D)|ow (d:D)|ox (j:Nat) (ds:ac)|pt (a:Pk)
abbrev Ev:=List Sl
abbrev am:=Ev->au D
def eB(K:Ph)(Ha:Hp)(σ:L2.St)(ρ:Ev):Prop:=∀(i:Nat) (d:D),ρ[i]?=some (.sh d)->∃v,σ[i]?=some (some v)/\Rep K Ha d v
def eB.mono{K:Ph}{H H':Hp}{σ:L2.St}{ρ:Ev}(e:aD H H')(r:eB K H σ ρ):eB K H' σ ρ:=λi d h=>
 let ⟨v,h1,h2⟩:=r i d h
 ⟨v,h1,h2.mono e⟩
def wK(K:Ph)(H:Hp)(x:Lf)(C:Pb)(ox:Option Pk):Prop :=
 (∃c,C=.ref c/\XC K x.cls c)/\match ox with
  |none=>x.flds=[]
  |some a=>∃fs,H a=some (.xd fs)/\∀n d,x.flds.lookup n=some d->∃v,fs.lookup n=some v/\Rep K H d v
def post(K:Ph)(E:XK)(H Ha:Hp)(r:au D)(Q:VK):Prop:=match r with
 |.ok d=>∀v H' Ha',bf H Ha H' Ha'->Rep K Ha' d v->Q v H'
 |.exn x=>∀C ox H' Ha',bf H Ha H' Ha'->wK K Ha' x C ox->E C ox H'
 |.stuck=>False
def uF(K:Ph)(E:XK)(H Ha:Hp)(r:au (ac))(Q:ad->Hp->Prop):Prop:=match r with
 |.ok ds=>∀vs H' Ha',bf H Ha H' Ha'->Reps K Ha' ds vs->Q vs H'
 |.exn x=>∀C ox H' Ha',bf H Ha H' Ha'->wK K Ha' x C ox->E C ox H'
 |.stuck=>False
def qw(K:Ph)(E:XK)(H Ha:Hp)(r:au D)(Q:Bool->Hp->Prop):Prop:=match r with
 |.ok (.bl b)=>∀H' Ha',bf H Ha H' Ha'->Q b H'
 |.ok _=>False
 |.exn x=>∀C ox H' Ha',bf H Ha H' Ha'->wK K Ha' x C ox->E C ox H'
 |.stuck=>False
section
variable {K:Ph}{E:XK}{H Ha H1 H01:Hp}
def post.grow{r:au D}{Q:VK}(h:post K E H Ha r Q)(g:bf H Ha H1 H01):post K E H1 H01 r Q:=by
 cases r with|ok d=>exact λv H' Ha' g'=>h v H' Ha' (g.trans g')|exn x=>exact λC ox H' Ha' g'=>h C ox H' Ha' (g.trans g')|stuck=>exact h
def uF.grow{r:au (ac)}{Q:ad->Hp->Prop}(h:uF K E H Ha r Q)(g:bf H Ha H1 H01):uF K E H1 H01 r Q:=by
 cases r with|ok d=>exact λv H' Ha' g'=>h v H' Ha' (g.trans g')|exn x=>exact λC ox H' Ha' g'=>h C ox H' Ha' (g.trans g')|stuck=>exact h
def qw.grow{r:au D}{Q:Bool->Hp->Prop}(h:qw K E H Ha r Q)(g:bf H Ha H1 H01):qw K E H1 H01 r Q:=by
 cases r with
 |ok d=>
  cases d with|bl b=>exact λH' Ha' g'=>h H' Ha' (g.trans g')| _=>exact h
 |exn x=>exact λC ox H' Ha' g'=>h C ox H' Ha' (g.trans g')
 |stuck=>exact h
end
def tD(K:Ph)(E:XK)(f:am):TE:=λσ H Q=>∃Ha ρ,aD Ha H/\eB K Ha σ ρ/\post K E H Ha (f ρ) Q
def Oj(K:Ph)(E:XK)(f:Ev->au (ac)):TA:=λσ H Q=>∃Ha ρ,aD Ha H/\eB K Ha σ ρ/\uF K E H Ha (f ρ) Q
def Lj(K:Ph)(E:XK)(f:am):TT:=λσ H Q=>∃Ha ρ,aD Ha H/\eB K Ha σ ρ/\qw K E H Ha (f ρ) Q
structure DE (X:Cx) (E:XK) (e:Qa) (f:am):Prop where
 o:PE X e (tD X.K E f)
structure DA (X:Cx) (E:XK) (es:List Qa) (f:Ev->au (ac)):Prop where
 o:PA X es (Oj X.K E f)
structure DT (X:Cx) (E:XK) (e:Qa) (f:am):Prop where
 o:PT X e (Lj X.K E f)
structure DW (X:Cx) (E:XK) (e:Qa) (f:am):Prop where
 o:PW X e (Lj X.K E f)
section
variable {X:Cx}{E:XK}{e a b:Qa}{es:List Qa}{f g:am}{fa:Ev->au (ac)}{pos:Pos}
def bp{t t':TE}(h:PE X e t)(w:∀σ H Q,t' σ H Q->t σ H Q):PE X e t':=λπ s σ H Q I q=>h π s σ H Q I (w σ H Q q)
def AH{t t':TA}(h:PA X es t)(w:∀σ H Q,t' σ H Q->t σ H Q):PA X es t':=λpos π s σ H Q I q=>h pos π s σ H Q I (w σ H Q q)
def pP{t t':TT}(h:PT X e t)(w:∀σ H Q,t' σ H Q->t σ H Q):PT X e t':=λπ s σ H Q I q=>h π s σ H Q I (w σ H Q q)
def Az{t t':TT}(h:PW X e t)(w:∀σ H Q,t' σ H Q->t σ H Q):PW X e t':=λwh π s σ H Q I q=>h wh π s σ H Q I (w σ H Q q)
def ae(i:Nat):am:=λρ=>match ρ[i]? with
 |some (.sh d)=>.ok d
 |_=>.stuck
def dC(d:D):am:=λ_=>.ok d
def KR{i:Nat}{x:Pq}(hN:X.N[i]?=some x)(hv:CC X.env.scope x)(hd:(x==("__debug__" : Pq))=false:=by decide)(hcd:(x==("__classdict__" : Pq))=false:=by decide):DE X E (.Name x pos) (ae i):=by
 refine⟨?_⟩;refine bp (ka hN hv hd hcd) λσ H Q ⟨Ha,ρ,hs,hr,q⟩=>?_;unfold ae at q;cases e:ρ[i]? with
 |none=>rw[e]at q;exact q.elim
 |some s=>
  rw[e]at q;cases s with
  |sh d=>
   obtain⟨v,e1,e2⟩:=hr i d e;exact⟨v,e1,q v H Ha (bf.refl hs) e2⟩
  |no|ow d|ox j ds|pt a=>exact q.elim
def ak{i j}:DE X E (.Constant (.int i) j pos) (dC (.int i)):=⟨bp JU λσ H Q ⟨Ha,ρ,hs,hr,q⟩=>q _ H Ha (bf.refl hs) (ay.mpr rfl)⟩
def jO{i j}:DE X E (.Constant (.bool i) j pos) (dC (.bl i)):=⟨bp Ml λσ H Q ⟨Ha,ρ,hs,hr,q⟩=>q _ H Ha (bf.refl hs) (aH.mpr rfl)⟩
def dY{j}:DE X E (.Constant .none j pos) (dC .non):=⟨bp JT λσ H Q ⟨Ha,ρ,hs,hr,q⟩=>q _ H Ha (bf.refl hs) (aR.mpr rfl)⟩
def l6{x j}:DE X E (.Constant (.str x) j pos) (dC (.str x)):=⟨bp JQ λσ H Q ⟨Ha,ρ,hs,hr,q⟩=>q _ H Ha (bf.refl hs) (Rep.str_iff.mpr rfl)⟩
def HF{x:Pq}{v:V}{u:Pb}{d:D}(hg:Gl X x)(hm:X.mg x=some u)(r:bh v u)(hr:∀H,Rep X.K H d v)(hd:(x==("__debug__" : Pq))=false:=by decide):DE X E (.Name x pos) (dC d) :=
 ⟨bp (GJ hg hm r hd) λσ H Q ⟨Ha,ρ,hs,hr',q⟩=>q _ H Ha (bf.refl hs) (hr Ha)⟩
def aa(f g:am)(op:D->D->au D):am:=λρ=>(f ρ).bind λx=>(g ρ).bind λy=>op x y
def aS(f:am)(op:D->au D):am:=λρ=>(f ρ).bind op
def yJ(K:Ph)(E:XK)(r:R2)(op:D->D->au D):Prop:=∀(x y:D) (v u:V) (H Ha:Hp) (Q:VK),aD Ha H->Rep K Ha x v->Rep K Ha y u->post K E H Ha (op x y) Q->r v u H Q
def iY{r:R2}{op:D->D->au D}(ho:yJ X.K E r op)(σ:L2.St)(H:Hp)(Q:VK)(h:tD X.K E (aa f g op) σ H Q):LF r (tD X.K E f) (tD X.K E g) σ H Q:=by
 obtain⟨Ha,ρ,hs,hr,q⟩:=h;refine⟨Ha,ρ,hs,hr,?_⟩;unfold aa at q;cases e1:f ρ with
 |stuck|exn x=>rw[e1]at q;exact q
 |ok x=>
  rw[e1]at q;intro v H1 H01 g1 r1;refine⟨H01,ρ,g1.sub,hr.mono g1.z,?_⟩;replace q:post X.K E H Ha ((g ρ).bind λy=>op x y) Q:=q;replace q:=q.grow g1;cases e2:g ρ with
  |stuck|exn x=>rw[e2]at q;exact q
  |ok y=>
   rw[e2]at q;intro u H2 H02 g2 r2;exact ho x y v u H2 H02 Q g2.sub (r1.mono g2.z) r2 (post.grow (r:=op x y) q g2)
def oW{op:Operator}{r:R2}{o:D->D->au D}(h:fR X (binaryOp op) r)(ho:yJ X.K E r o)(ha:DE X E a f)(hb:DE X E b g):DE X E (.BinOp a op b pos) (aa f g o) :=
 ⟨bp (Ec h ha.o hb.o) (iY ho)⟩
def gp{op:CmpOp}{r:R2}{o:D->D->au D}(h:fR X (Qv op) r)(ho:yJ X.K E r o)(ha:DE X E a f)(hb:DE X E b g)(hm:behindInMarks op b=false):DE X E (.Compare a [op] [b] pos) (aa f g o) :=
 ⟨bp (GN h ha.o hb.o hm) (iY ho)⟩
def MR{r:R2}{o:D->D->au D}(h:FJ X r)(ho:yJ X.K E r o)(ha:DE X E a f)(hb:DE X E b g)(hs:wC b):DE X E (.Subscript a b pos) (aa f g o) :=
 ⟨bp (Mj h ha.o hb.o hs) (iY ho)⟩
def O7(K:Ph)(E:XK)(r:V->Hp->VK->Prop)(op:D->au D):Prop:=∀(x:D) (v:V) (H Ha:Hp) (Q:VK),aD Ha H->Rep K Ha x v->post K E H Ha (op x) Q->r v H Q
def MP{op:UnaryOp}{r:V->Hp->VK->Prop}{o:D->au D}(h:Nh X (unaryOp op) r)(ho:O7 X.K E r o)(ha:DE X E a f):DE X E (.UnaryOp op a pos) (aS f o):=by
 refine⟨?_⟩;refine bp (Mh h ha.o) λσ H Q z9=>?_;obtain⟨Ha,ρ,hs,hr,q⟩:=z9;refine⟨Ha,ρ,hs,hr,?_⟩
 unfold aS at q;cases e1:f ρ with
 |stuck|exn x=>rw[e1]at q;exact q
 |ok x=>
  rw[e1]at q;intro v H1 H01 g1 r1;exact ho x v H1 H01 Q g1.sub r1 (post.grow (r:=o x) q g1)
def ax:Ev->au (ac):=λ_=>.ok []
def af(f:am)(fa:Ev->au (ac)):Ev->au (ac):=λρ=>(f ρ).bind λx=>(fa ρ).bind λxs=>.ok (x::xs)
def aw:DA X E [] ax:=⟨AH kc λσ H Q ⟨Ha,ρ,hs,hr,q⟩=>q [] H Ha (bf.refl hs) Reps.nil⟩
def ai(ha:DE X E e f)(hr:DA X E es fa)(hs:PD (e::es) X.env=(false,eval e X.env)::PD es X.env:=by exact bB rfl):DA X E (e::es) (af f fa):=by
 refine⟨?_⟩;refine AH (fH ha.o hr.o hs) λσ H Q z9=>?_;obtain⟨Ha,ρ,hs,hr,q⟩:=z9;refine⟨Ha,ρ,hs,hr,?_⟩
 unfold af at q;cases e1:f ρ with
 |stuck|exn x=>rw[e1]at q;exact q
 |ok x=>
  rw[e1]at q;intro v H1 H01 g1 r1;refine⟨H01,ρ,g1.sub,hr.mono g1.z,?_⟩;replace q:uF X.K E H Ha ((fa ρ).bind λxs=>.ok (x::xs)) Q:=q;replace q:=q.grow g1;cases e2:fa ρ with
  |stuck|exn x=>rw[e2]at q;exact q
  |ok xs=>
   rw[e2]at q;intro us H2 H02 g2 r2;exact q (v::us) H2 H02 g2 (Reps.cons (r1.mono g2.z) r2)
def line:Nat:=1000000
def eC{n:Nat}(h:n<=line):n<=sizeLine:=Pu h (by decide)
def aq(fa:Ev->au (ac))(m:ac->au D):am:=λρ=>(fa ρ).bind m
def eT:ac->au D:=λds=>if ds.length<=line then .ok (.tup ds) else .stuck
def bO:ac->au D:=λds=>if ds.length<=line then .ok (.lst ds) else .stuck
def lu{m:ac->au D}{r:ad->Hp->VK->Prop}(ho:∀(ds:ac) (vs:ad) (H Ha:Hp) (Q:VK),aD Ha H->Reps X.K Ha ds vs->post X.K E H Ha (m ds) Q->r vs H Q)
  (σ:L2.St)(H:Hp)(Q:VK)(h:tD X.K E (aq fa m) σ H Q):Oj X.K E fa σ H λvs H1=>r vs H1 Q:=by
 obtain⟨Ha,ρ,hs,hr,q⟩:=h;refine⟨Ha,ρ,hs,hr,?_⟩;unfold aq at q;cases e1:fa ρ with
 |stuck|exn x=>rw[e1]at q;exact q
 |ok x=>
  rw[e1]at q;intro v H1 H01 g1 r1;exact ho x v H1 H01 Q g1.sub r1 (post.grow (r:=m x) q g1)
def eF{x1}(h:DA X E es fa):DE X E (.Tuple es x1 pos) (aq fa eT):=by
 refine⟨?_⟩;refine bp (JP h.o) (lu (r:=λxs H1 Q=>xs.length<=sizeLine/\∀p,H1 p=none->Q (.ref p) (upd H1 p (.tup xs))) λds vs H Ha Q hs hr q=>?_);unfold eT at q
 by_cases hl:ds.length<=line
 .rw[if_pos hl]at q
  refine⟨by rw[←hr.length];exact eC hl,λp hp=>q _ _ _ (bz hs hp) (aL.mpr ⟨p,vs,rfl,nV.of aP,hr.mono (bz hs hp).z⟩)⟩
 .rw[if_neg hl]at q;exact q.elim
def cg(h:DA X E es fa):DE X E (.List es pos) (aq fa bO):=by
 refine⟨?_⟩;refine bp (Ed h.o) (lu (r:=λxs H1 Q=>xs.length<=sizeLine/\∀p,H1 p=none->Q (.ref p) (upd H1 p (.lst xs))) λds vs H Ha Q hs hr q=>?_);unfold bO at q
 by_cases hl:ds.length<=line
 .rw[if_pos hl]at q
  refine⟨by rw[←hr.length];exact eC hl,λp hp=>q _ _ _ (bz hs hp) (aE.mpr ⟨p,vs,rfl,fk.of aP,hr.mono (bz hs hp).z⟩)⟩
 .rw[if_neg hl]at q;exact q.elim
def spD(K:Ph)(n:Nat)(m:ac->au D):Sp:=λvs H Q E=>vs.length=n/\∃Ha ds,aD Ha H/\Reps K Ha ds vs/\post K E H Ha (m ds) Q
def HG{CX:p6}{k n:Nat}{fn:Pk}{fd:Qy}{ps:ce}{m:ac->au D}{x:Pq}{p:Pos}(F:iu X.prog X.w X.K X.mg X.base CX k fn fd ps (spD X.K n m))(hr:cV k X.A)(hg:Gl X x)(hm:X.mg x=some (.ref fn))
  (hk:S9 X.K (.ref fn)=true)(hb:jT X.K fd ps [])(hx:gs CX X E)(ha:DA X E (e::es) fa)(hn:(e::es).length=n:=by rfl)(hl:∀ρ ds,fa ρ=.ok ds->ds.length=(e::es).length)
  (hdb:(x==("__debug__" : Pq))=false:=by decide)(he:PD (e::es) X.env=(false,eval e X.env)::PD es X.env:=by exact bB rfl)(hpl:(Rj pos (PD es X.env)).any (·.1)=false:=by exact dk rfl) :
  DE X E (.Call (.Name x p) (e::es) [] pos) (aq fa m):=by
 refine⟨?_⟩;refine bp (GO F hr hg hm hk hb .nil hx ha.o hdb he hpl) λσ H Q h=>?_;obtain⟨Ha,ρ,hs,hr,q⟩:=h;refine⟨Ha,ρ,hs,hr,?_⟩;unfold aq at q;cases e1:fa ρ with
 |stuck|exn x=>rw[e1]at q;exact q
 |ok ds=>
  rw[e1]at q;intro v H1 H01 g1 r1;refine⟨?_,H01,ds,g1.sub,by simpa using r1,post.grow (r:=m ds) q g1⟩;have:=r1.length;have:=hl ρ ds e1;simp only[QH];omega
def yF{ρ:Ev}{ds:ac}(h:ax ρ=.ok ds):ds.length=0:=by cases h;rfl
def lB{ρ:Ev}{ds:ac}{n:Nat}(hr:∀es,fa ρ=.ok es->es.length=n)(h:af f fa ρ=.ok ds):ds.length=n+1:=by
 unfold af at h;cases e1:f ρ with
 |stuck|exn x=>rw[e1]at h;cases h
 |ok x=>
  rw[e1]at h;replace h:((fa ρ).bind λxs=>au.ok (x::xs))=.ok ds:=h;cases e2:fa ρ with
  |stuck|exn x=>rw[e2]at h;cases h
  |ok xs=>
   rw[e2]at h;cases h;simp[hr xs e2]
def pj(X:Cx)(E:XK)(r:ad->Hp->VK->Prop)(m:ac->au D):Prop:=∀(ds:ac) (vs:ad) (H Ha:Hp) (Q:VK),aD Ha H->Reps X.K Ha ds vs->post X.K E H Ha (m ds) Q->r vs H Q
def aV{id:String}{r:ad->Hp->VK->Prop}{m:ac->au D}{x:Pq}{p:Pos}(hc:nT X (.builtin id) r)(hd:pj X E r m)(hg:Gl X x)(hm:X.mg x=none)(hv:bootBuiltins x=some (.builtin id))(ha:DA X E (e::es) fa)(hn:x≠"__name__":=by decide)(hdb:(x==("__debug__" : Pq))=false:=by decide)
  (he:PD (e::es) X.env=(false,eval e X.env)::PD es X.env:=by exact bB rfl)(hpl:(Rj pos (PD es X.env)).any (·.1)=false:=by exact dk rfl):DE X E (.Call (.Name x p) (e::es) [] pos) (aq fa m) :=
 ⟨bp (xm hc hg hm hv ha.o hn hdb he hpl) (lu hd)⟩
def E5(h:PT X e (tB (tD X.K E f))):DT X E e f:=by
 refine⟨?_⟩;refine pP h λσ H Q z9=>?_;obtain⟨Ha,ρ,hs,hr,q⟩:=z9;refine⟨Ha,ρ,hs,hr,?_⟩
 cases e1:f ρ with
 |stuck|exn x=>rw[e1]at q;exact q
 |ok d=>
  rw[e1]at q;intro v H1 H01 g1 r1;cases d with|bl b=>rw[aH.mp r1];exact⟨b,rfl,q H1 H01 g1⟩| _=>exact q.elim
def cx(h:DE X E e f)(he:∀whole,isTrue e X.env whole=(do let v ←whole;standAt e.pos;Tp [v] (truthy v)):=by intro _;rfl):DT X E e f:=E5 (JE h.o he)
def aK{op:CmpOp}{r:R2}{o:D->D->au D}(h:fR X (Qv op) r)(ho:yJ X.K E r o)(ha:DE X E a f)(hb:DE X E b g)(hm:behindInMarks op b=false):DT X E (.Compare a [op] [b] pos) (aa f g o):=by
 refine⟨?_⟩;refine pP (Gw h ha.o hb.o hm) λσ H Q h=>?_;have w:tD X.K E (aa f g o) σ H λx H'=>∃k,x=.bl k/\Q k H':=by
  obtain⟨Ha,ρ,hs,hr,q⟩:=h;refine⟨Ha,ρ,hs,hr,?_⟩;cases e1:aa f g o ρ with
  |stuck|exn x=>rw[e1]at q;exact q
  |ok d=>
   rw[e1]at q;intro v H1 H01 g1 r1;cases d with|bl b=>rw[aH.mp r1];exact⟨b,rfl,q H1 H01 g1⟩| _=>exact q.elim
 exact iY ho σ H _ w
def cU(f:am):am:=aS f λx=>match x with
 |.bl b=>.ok (.bl (!b))
 |_=>.stuck
def gq(f g:am):am:=λρ=>(f ρ).bind λx=>match x with
 |.bl true=>g ρ
 |.bl false=>.ok (.bl false)
 |_=>.stuck
def jP(f g:am):am:=λρ=>(f ρ).bind λx=>match x with
 |.bl true=>.ok (.bl true)
 |.bl false=>g ρ
 |_=>.stuck
def cf(ha:DT X E a f):DT X E (.UnaryOp .Not a pos) (cU f):=by
 refine⟨?_⟩;refine pP (JF ha.o) λσ H Q z9=>?_;obtain⟨Ha,ρ,hs,hr,q⟩:=z9;refine⟨Ha,ρ,hs,hr,?_⟩
 unfold cU aS at q;cases e1:f ρ with
 |stuck|exn x=>rw[e1]at q;exact q
 |ok d=>
  rw[e1]at q;cases d with|bl b=>exact q| _=>exact q.elim
def KU(ha:DE X E a f):DE X E (.UnaryOp .Not a pos) (cU f):=by
 refine⟨?_⟩;refine bp (JS ha.o) λσ H Q z9=>?_;obtain⟨Ha,ρ,hs,hr,q⟩:=z9;refine⟨Ha,ρ,hs,hr,?_⟩
 unfold cU aS at q;cases e1:f ρ with
 |stuck|exn x=>rw[e1]at q;exact q
 |ok d=>
  rw[e1]at q;intro v H1 H01 g1 r1;cases d with|bl b=>rw[aH.mp r1];exact⟨b,rfl,q (.bl !b) H1 H01 g1 (aH.mpr rfl)⟩| _=>exact q.elim
variable {rest:List Qa}
def gZ(ha:DT X E a f):DW X E (.BoolOp .And [a] pos) f:=⟨Gu ha.o⟩
def bw(ha:DT X E a f):DW X E (.BoolOp .Or [a] pos) f:=⟨JC ha.o⟩
def sE(ha:DT X E a f)(hb:DW X E (.BoolOp .And (b::rest) pos) g):DW X E (.BoolOp .And (a::b::rest) pos) (gq f g):=by
 refine⟨?_⟩;refine Az (JD ha.o hb.o) λσ H Q z9=>?_;obtain⟨Ha,ρ,hs,hr,q⟩:=z9;refine⟨Ha,ρ,hs,hr,?_⟩
 unfold gq at q;cases e1:f ρ with
 |stuck|exn x=>rw[e1]at q;exact q
 |ok d=>
  rw[e1]at q;cases d with
  |bl b=>
   cases b with|true=>exact λH1 H01 g1=>⟨H01,ρ,g1.sub,hr.mono g1.z,qw.grow (r:=g ρ) q g1⟩|false=>exact λH1 H01 g1=>q H1 H01 g1
  |_=>exact q.elim
def dP(ha:DT X E a f)(hb:DW X E (.BoolOp .Or (b::rest) pos) g):DW X E (.BoolOp .Or (a::b::rest) pos) (jP f g):=by
 refine⟨?_⟩;refine Az (Me ha.o hb.o) λσ H Q z9=>?_;obtain⟨Ha,ρ,hs,hr,q⟩:=z9;refine⟨Ha,ρ,hs,hr,?_⟩
 unfold jP at q;cases e1:f ρ with
 |stuck|exn x=>rw[e1]at q;exact q
 |ok d=>
  rw[e1]at q;cases d with
  |bl b=>
   cases b with|false=>exact λH1 H01 g1=>⟨H01,ρ,g1.sub,hr.mono g1.z,qw.grow (r:=g ρ) q g1⟩|true=>exact λH1 H01 g1=>q H1 H01 g1
  |_=>exact q.elim
def DW.dt(h:DW X E e f):DT X E e f:=⟨PW.pt h.o⟩
def jx{op}(h:DE X E a f):DE X E (.BoolOp op [a] pos) f:=⟨JR h.o⟩
def kF(ha:DE X E a f)(hb:DE X E (.BoolOp .And (b::rest) pos) g):DE X E (.BoolOp .And (a::b::rest) pos) (gq f g):=by
 refine⟨?_⟩;refine bp (JW ha.o hb.o) λσ H Q z9=>?_;obtain⟨Ha,ρ,hs,hr,q⟩:=z9;refine⟨Ha,ρ,hs,hr,?_⟩
 unfold gq at q;cases e1:f ρ with
 |stuck|exn x=>rw[e1]at q;exact q
 |ok d=>
  rw[e1]at q;intro v H1 H01 g1 r1;cases d with
  |bl b=>
   rw[aH.mp r1];cases b with|true=>exact⟨true,rfl,H01,ρ,g1.sub,hr.mono g1.z,post.grow (r:=g ρ) q g1⟩|false=>exact⟨false,rfl,q (.bl false) H1 H01 g1 (aH.mpr rfl)⟩
  |_=>exact q.elim
def MQ(ha:DE X E a f)(hb:DE X E (.BoolOp .Or (b::rest) pos) g):DE X E (.BoolOp .Or (a::b::rest) pos) (jP f g):=by
 refine⟨?_⟩;refine bp (Mi ha.o hb.o) λσ H Q z9=>?_;obtain⟨Ha,ρ,hs,hr,q⟩:=z9;refine⟨Ha,ρ,hs,hr,?_⟩
 unfold jP at q;cases e1:f ρ with
 |stuck|exn x=>rw[e1]at q;exact q
 |ok d=>
  rw[e1]at q;intro v H1 H01 g1 r1;cases d with
  |bl b=>
   rw[aH.mp r1];cases b with|false=>exact⟨false,rfl,H01,ρ,g1.sub,hr.mono g1.z,post.grow (r:=g ρ) q g1⟩|true=>exact⟨true,rfl,q (.bl true) H1 H01 g1 (aH.mpr rfl)⟩
  |_=>exact q.elim
def KZ(c f g:am):am:=λρ=>(c ρ).bind λx=>match x with
 |.bl true=>f ρ
 |.bl false=>g ρ
 |_=>.stuck
def yo{c:Qa}{fc:am}(hc:DT X E c fc)(ha:DE X E a f)(hb:DE X E b g):DE X E (.IfExp c a b pos) (KZ fc f g):=by
 refine⟨?_⟩;refine bp (Ee hc.o ha.o hb.o) λσ H Q z9=>?_;obtain⟨Ha,ρ,hs,hr,q⟩:=z9;refine⟨Ha,ρ,hs,hr,?_⟩
 unfold KZ at q;cases e1:fc ρ with
 |stuck|exn x=>rw[e1]at q;exact q
 |ok d=>
  rw[e1]at q;cases d with
  |bl b=>
   cases b with|true=>exact λH1 H01 g1=>⟨H01,ρ,g1.sub,hr.mono g1.z,post.grow (r:=f ρ) q g1⟩|false=>exact λH1 H01 g1=>⟨H01,ρ,g1.sub,hr.mono g1.z,post.grow (r:=g ρ) q g1⟩
  |_=>exact q.elim
end
noncomputable def Ic(K:Ph) (Ha H:Hp) (a:Pk) (d:D):Prop:=match d with
 |.lst ds=>∃vs,H a=some (.lst vs)/\Reps K Ha ds vs
 |.dic ks ds=>∃vs,H a=some (.dK ((ks.map QE).zip vs))/\ks.length=vs.length/\Reps K Ha ds vs
 |.ob (.dint ks) ds=>∃vs,H a=some (.dK ((ks.map SR).zip vs))/\ks.length=vs.length/\Reps K Ha ds vs
 |_=>False
def tV(j k:Nat):Bool:=if j=99 then decide (k<=1) else k==j
noncomputable def M3(K:Ph) (He Ha H:Hp) (a:Pk) (j:Nat) (ds:ac) (P:Nat->Pk):Prop:=∃vs,He a=none/\H a=some (.tup vs)/\ds.length=vs.length /\
 (∀k,tV j k=true->∃es us,He (P k)=none/\Ha (P k)=none/\ds[k]?=some (.lst es)/\vs[k]?=some (.ref (P k))/\H (P k)=some (.lst us)/\Reps K Ha es us) /\
 (∀k l,tV j k=true->tV j l=true->P k=P l->k=l)/\∀k d v,tV j k=false->ds[k]?=some d->vs[k]?=some v->Rep K Ha d v
noncomputable def OX(K:Ph) (He Ha:Hp) (σ:L2.St) (H:Hp) (ρ:Ev):Prop:=(∀(i j:Nat) (ds:ac),ρ[i]?=some (.ox j ds)->∃a P,σ[i]?=some (some (.ref a))/\M3 K He Ha H a j ds P/\(∀(k:Nat) (d:D) (l:Nat),tV j l=true->ρ[k]?=some (.ow d)->σ[k]?≠some (some (.ref (P l))))/\∀(k j':Nat) (ds':ac),ρ[k]?=some (.ox j' ds')->k=i)/\∀(i:Nat) (a:Pk),ρ[i]?=some (.pt a)->σ[i]?=some (some (.ref a))
def OX.upd{K:Ph}{He Ha Ha' H H':Hp}{σ σ':L2.St}{ρ ρ':Ev}(h:OX K He Ha σ H ρ)
  (hk:∀(j:Nat) (s:Sl),ρ'[j]?=some s->(ρ[j]?=some s/\σ'[j]?=σ[j]?)∨(∃d,s=.sh d)∨s=.no∨∃d q,s=.ow d/\σ'[j]?=some (some (.ref q))/\∀(i j:Nat) (ds:ac) (a:Pk) (P:Nat->Pk),ρ[i]?=some (.ox j ds)->σ[i]?=some (some (.ref a))->M3 K He Ha H a j ds P->∀l,tV j l=true->q≠P l)
  (hz:aD Ha Ha')(ht:∀a vs,He a=none->H a=some (.tup vs)->H' a=some (.tup vs))
  (hl:∀p us,He p=none->Ha p=none->H p=some (.lst us)->(∀(k:Nat) (d:D),ρ[k]?=some (.ow d)->σ[k]?≠some (some (.ref p)))->H' p=some (.lst us)/\Ha' p=none):OX K He Ha' σ' H' ρ':=by
 refine⟨λi j ds e=>?_,λi a e=>?_⟩
 rotate_left
 .rcases hk i _ e with h1|⟨d,h1⟩|h1|⟨d,q,h1,_⟩
  .rw[h1.2];exact h.2 i a h1.1
  .cases h1
  .cases h1
  .cases h1
 have old:ρ[i]?=some (.ox j ds)/\σ'[i]?=σ[i]?:=by
  rcases hk i _ e with h1|⟨d,h1⟩|h1|⟨d,q,h1,_⟩
  .exact h1
  .cases h1
  .cases h1
  .cases h1
 obtain⟨a,P,h1,h2,h3,h4⟩:=h.1 i j ds old.1;have h2':=h2;obtain⟨vs,r1,r2,r3,r4,r5,r6⟩:=h2;refine⟨a,P,old.2.trans h1,⟨vs,r1,ht a vs r1 r2,r3,λk ok=>?_,r5,λk d v hk e1 e2=>(r6 k d v hk e1 e2).mono hz⟩,λk d l ok ek z=>?_,λk j' ds' ek=>?_⟩
 .obtain⟨es,us,q1,q2,q3,q4,q5,q6⟩:=r4 k ok
  obtain⟨l1,l2⟩:=hl (P k) us q1 q2 q5 λm d em=>h3 m d k ok em;exact⟨es,us,q1,l2,q3,q4,l1,q6.mono hz⟩
 .rcases hk k _ ek with h1'|⟨d',h1'⟩|h1'|⟨d',q,h1',h2'',h3'⟩
  .exact h3 k d l ok h1'.1 (by rw[←h1'.2];exact z)
  .cases h1'
  .cases h1'
  .rw[h2'']at z
   cases z;exact h3' i j ds a P old.1 h1 h2' l ok rfl
 .rcases hk k _ ek with h1'|⟨d',h1'⟩|h1'|⟨d',q,h1',_⟩
  .exact h4 k j' ds' h1'.1
  .cases h1'
  .cases h1'
  .cases h1'
def OX.none{K:Ph}{He Ha H:Hp}{σ:L2.St}{ρ:Ev}(h:∀(i j:Nat) (ds:ac),ρ[i]?≠some (.ox j ds))(h':∀(i:Nat) (a:Pk),ρ[i]?=some (.pt a)->σ[i]?=some (some (.ref a))):OX K He Ha σ H ρ:=⟨λi j ds e=>absurd e (h i j ds),h'⟩
theorem Aq{K:Ph}{H:Hp}:∀{ds:ac}{vs:ad},ds.length=vs.length->(∀(k:Nat) (d:D) (v:V),ds[k]?=some d->vs[k]?=some v->Rep K H d v)->Reps K H ds vs
 |[],[],_,_=>Reps.nil
 |d::ds,v::vs,hl,h=>Reps.cons (h 0 d v rfl rfl) (Aq (by simpa using hl) λk d' v' e1 e2=>h (k+1) d' v' e1 e2)
structure eZ (K:Ph) (He η Ha:Hp) (σ:L2.St) (H:Hp) (ρ:Ev):Prop where
 g:bf He η H Ha
 rd:eB K Ha σ ρ
 ow:∀(i:Nat) (d:D),ρ[i]?=some (.ow d)->∃a,σ[i]?=some (some (.ref a))/\He a=none/\Ha a=none/\Ic K Ha H a d
 ap:∀(i j:Nat) (d d':D),i≠j->ρ[i]?=some (.ow d)->ρ[j]?=some (.ow d')->σ[i]?≠σ[j]?
 ln:ρ.length=σ.length
 ex:OX K He Ha σ H ρ
inductive Fl where
 |nx (ρ:Ev)|rt (d:D)|bk (ρ:Ev)|ct (ρ:Ev)
abbrev bi:=Ev->au Fl
noncomputable def bU(K:Ph) (E:XK) (He η Ha:Hp) (r:au Fl) (D:jg):Prop:=match r with
 |.ok (.nx ρ)=>∀σ H Ha',aD Ha Ha'->eZ K He η Ha' σ H ρ->D.nx σ H
 |.ok (.rt d)=>∀v H Ha',bf He η H Ha'->Rep K Ha' d v->D.rt v H
 |.ok (.bk ρ)=>∀σ H Ha',aD Ha Ha'->eZ K He η Ha' σ H ρ->D.bk σ H
 |.ok (.ct ρ)=>∀σ H Ha',aD Ha Ha'->eZ K He η Ha' σ H ρ->D.ct σ H
 |.exn x=>∀C ox H Ha',bf He η H Ha'->wK K Ha' x C ox->E C ox H
 |.stuck=>False
def bU.grow{K:Ph}{E:XK}{He η Ha Hb:Hp}{r:au Fl}{D:jg}(h:bU K E He η Ha r D)(s:aD Ha Hb):bU K E He η Hb r D:=by
 cases r with
 |ok f=>
  cases f with|nx ρ=>exact λσ H Ha' s'=>h σ H Ha' (s.trans s')|rt d=>exact h|bk ρ=>exact λσ H Ha' s'=>h σ H Ha' (s.trans s')|ct ρ=>exact λσ H Ha' s'=>h σ H Ha' (s.trans s')
 |exn x=>exact h
 |stuck=>exact h
def tS(K:Ph)(E:XK)(He η:Hp)(g:bi):TS:=λD σ H=>∃Ha ρ,eZ K He η Ha σ H ρ/\bU K E He η Ha (g ρ) D
structure DS (X:Cx) (E:XK) (He η:Hp) (st:Rv) (g:bi):Prop where
 o:PS X st (tS X.K E He η g)
structure CH (X:Cx) (E:XK) (He η:Hp) (st:List Rv) (g:bi):Prop where
 o:yI X st (tS X.K E He η g)
def iP(ρ:Ev):Ev:=ρ.map λs=>match s with
 |.ow d=>.sh d
 |.ox _ ds=>.sh (.tup ds)
 |x=>x
def frz(He Ha H:Hp):Hp:=λa=>match He a with
 |none=>H a
 |some _=>Ha a
section
variable {K:Ph}{E:XK}{He η Ha H H1:Hp}{σ:L2.St}{ρ:Ev}
def eZ.same(h:eZ K He η Ha σ H ρ)(s:aD H H1):eZ K He η Ha σ H1 ρ :=
 ⟨⟨h.g.s.trans s,h.g.z,h.g.sub.trans s,h.g.nw⟩,h.rd,λi d e=>by
  obtain⟨a,h1,h2,h3,h4⟩:=h.ow i d e;refine⟨a,h1,h2,h3,?_⟩;cases d with
  |lst ds=>obtain⟨vs,h5,h6⟩:=h4;exact⟨vs,s _ _ h5,h6⟩|dic ks ds=>obtain⟨vs,h5,hl,h6⟩:=h4;exact⟨vs,s _ _ h5,hl,h6⟩
  |ob kk ds=>
   cases kk with|dint ks=>obtain⟨vs,h5,hl,h6⟩:=h4;exact⟨vs,s _ _ h5,hl,h6⟩| _=>exact h4.elim
  |_=>exact h4,h.ap,h.ln,h.ex.upd (λj s' e=>.inl ⟨e,rfl⟩) (aD.refl _) (λa vs _ e=>s _ _ e) λp us _ h0 hp _=>⟨s _ _ hp,h0⟩⟩
def eZ.grow{H01:Hp}(h:eZ K He η Ha σ H ρ)(s:bf H Ha H1 H01):eZ K He η H01 σ H1 ρ :=
 ⟨h.g.trans s,h.rd.mono s.z,λi d e=>by
  obtain⟨a,h1,h2,h3,h4⟩:=h.ow i d e;have ha:H01 a=none:=by
   cases q:H01 a with
   |none=>rfl
   |some o=>
    have:=s.nw a (by rw[q];simp) h3;cases d with
    |lst ds|dic ks ds=>obtain⟨vs,h5,_⟩:=h4;rw[h5]at this;cases this
    |ob kk ds=>
     cases kk with|dint ks=>obtain⟨vs,h5,_⟩:=h4;rw[h5]at this;cases this| _=>exact h4.elim
    |_=>exact h4.elim
  refine⟨a,h1,h2,ha,?_⟩;cases d with
  |lst ds=>obtain⟨vs,h5,h6⟩:=h4;exact⟨vs,s.s _ _ h5,h6.mono s.z⟩|dic ks ds=>obtain⟨vs,h5,hl,h6⟩:=h4;exact⟨vs,s.s _ _ h5,hl,h6.mono s.z⟩
  |ob kk ds=>
   cases kk with|dint ks=>obtain⟨vs,h5,hl,h6⟩:=h4;exact⟨vs,s.s _ _ h5,hl,h6.mono s.z⟩| _=>exact h4.elim
  |_=>exact h4,h.ap,h.ln,h.ex.upd (λj s' e=>.inl ⟨e,rfl⟩) s.z (λa vs _ e=>s.s _ _ e) λp us _ h0 hp _=>⟨s.s _ _ hp,by
   cases q:H01 p with
   |none=>rfl
   |some o=>have:=s.nw p (by rw[q];simp) h0;rw[hp]at this;cases this⟩⟩
def eZ.frz_sub(h:eZ K He η Ha σ H ρ):aD Ha (frz He Ha H):=λb o e=>by
 unfold frz;cases q:He b with|none=>exact h.g.sub _ _ e|some _=>exact e
def eZ.frz_le(h:eZ K He η Ha σ H ρ):aD (frz He Ha H) H:=λb o e=>by
 unfold frz at e;cases q:He b with|none=>rw[q]at e;exact e|some _=>rw[q]at e;exact h.g.sub _ _ e
theorem eZ.frz_grow(h:eZ K He η Ha σ H ρ):bf He η H (frz He Ha H) :=
 ⟨h.g.s,h.g.z.trans h.frz_sub,h.frz_le,λa h1 h2=>by
  cases q:He a with
  |none=>rfl
  |some o=>
   unfold frz at h1;rw[q]at h1;have:=h.g.nw a h1 h2;rw[q]at this;cases this⟩
def eZ.looks(h:eZ K He η Ha σ H ρ):eB K (frz He Ha H) σ (iP ρ):=λi d e=>by
 unfold iP at e;rw[Pp]at e;cases q:ρ[i]? with
 |none=>rw[q]at e;cases e
 |some s=>
  rw[q]at e;cases s with
  |no|pt a=>cases e
  |sh d'=>
   cases e;obtain⟨v,h1,h2⟩:=h.rd i d q;exact⟨v,h1,h2.mono h.frz_sub⟩
  |ow d'=>
   cases e;obtain⟨a,h1,h2,h3,h4⟩:=h.ow i d q;refine⟨_,h1,?_⟩;cases d with
   |lst ds=>
    obtain⟨vs,h5,h6⟩:=h4;exact aE.mpr ⟨a,vs,rfl,fk.of (by unfold frz;rw[h2];exact h5),h6.mono h.frz_sub⟩
   |dic ks ds=>
    obtain⟨vs,h5,hl,h6⟩:=h4;rw[Rep];exact⟨a,_,vs,rfl,.inl (by unfold frz;rw[h2];exact h5),rfl,hl,h6.mono h.frz_sub⟩
   |ob kk ds=>
    cases kk with
    |dint ks=>
     obtain⟨vs,h5,hl,h6⟩:=h4;exact bq.mpr ⟨a,vs,rfl,⟨_,.inl (by unfold frz;rw[h2];exact h5),rfl,hl⟩,h6.mono h.frz_sub⟩
    |_=>exact h4.elim
   |_=>exact h4.elim
  |ox j ds=>
   cases e;obtain⟨a,P,h1,⟨vs,r1,r2,r3,r4,r5,r6⟩,_⟩:=h.ex.1 i j ds q;refine⟨_,h1,aL.mpr ⟨a,vs,rfl,nV.of (by unfold frz;rw[r1];exact r2),Aq r3 λk d v e1 e2=>?_⟩⟩;cases hk:tV j k with
   |true=>
    obtain⟨es,us,q1,q2,q3,q4,q5,q6⟩:=r4 k hk;rw[q3]at e1;cases e1;rw[q4]at e2;cases e2;exact aE.mpr ⟨P k,us,rfl,fk.of (by unfold frz;rw[q1];exact q5),q6.mono h.frz_sub⟩
   |false=>exact(r6 k d v hk e1 e2).mono h.frz_sub
def eZ.put(h:eZ K He η Ha σ H ρ){i:Nat}{d:D}{v:V}(r:Rep K Ha d v):eZ K He η Ha (σ.set i (some v)) H (ρ.set i (.sh d)):=by
 have key:∀(j:Nat) (s:Sl),(ρ.set i (.sh d))[j]?=some s->(j=i/\s=.sh d/\i<σ.length)∨(j≠i/\ρ[j]?=some s):=λj s e=>by
  by_cases hj:i=j
  .subst hj
   rw[Tc]at e;cases q:ρ[i]? with
   |none=>rw[q]at e;cases e
   |some s'=>
    rw[q]at e;cases e;refine .inl ⟨rfl,rfl,?_⟩;rw[←h.ln];exact(Po.mp q).1
  .rw[PB hj]at e
   exact .inr ⟨λz=>hj z.symm,e⟩
 refine⟨h.g,λj d' e=>?_,λj d' e=>?_,λj k d1 d2 hn e1 e2=>?_,by simp[h.ln],h.ex.upd (λj s e=>?_) (aD.refl _) (λa vs _ e=>e) λp us _ h0 hp _=>⟨hp,h0⟩⟩
 rotate_left 3
 .rcases key j _ e with⟨rfl,e',hl⟩|⟨hj,e'⟩
  .exact .inr (.inl ⟨d,e'⟩)
  .exact .inl ⟨e',by rw[PB (QB hj)]⟩
 .rcases key j _ e with⟨rfl,e',hl⟩|⟨hj,e'⟩
  .cases e'
   exact⟨v,by rw[Qj hl],r⟩
  .obtain⟨v',h1,h2⟩:=h.rd j d' e'
   exact⟨v',by rw[PB (QB hj)];exact h1,h2⟩
 .rcases key j _ e with⟨rfl,e',hl⟩|⟨hj,e'⟩
  .cases e'
  .obtain⟨a,h1,h2⟩:=h.ow j d' e'
   exact⟨a,by rw[PB (QB hj)];exact h1,h2⟩
 .rcases key j _ e1 with⟨_,e',_⟩|⟨hj,e1'⟩
  .cases e'
  rcases key k _ e2 with⟨_,e',_⟩|⟨hk,e2'⟩
  .cases e'
  rw[PB (QB hj),PB (QB hk)];exact h.ap j k d1 d2 hn e1' e2'
def eZ.putOwn(h:eZ K He η Ha σ H ρ){i:Nat}{ds:ac}{vs:ad}{p:Pk}(hp:∀(j:Nat) (a:Pk),σ[j]?=some (some (V.ref a))->a=p->∀d:D,ρ[j]?≠some (Sl.ow d))(he:He p=none)(h0:Ha p=none)(hv:H p=some (.lst vs))(r:Reps K Ha ds vs)(hx:∀(i j:Nat) (ds:ac) (a:Pk) (P:Nat->Pk),ρ[i]?=some (.ox j ds)->σ[i]?=some (some (.ref a))->M3 K He Ha H a j ds P->∀l,tV j l=true->p≠P l) :
  eZ K He η Ha (σ.set i (some (.ref p))) H (ρ.set i (.ow (.lst ds))):=by
 have key:∀(j:Nat) (s:Sl),(ρ.set i (.ow (.lst ds)))[j]?=some s->(j=i/\s=.ow (.lst ds)/\i<σ.length)∨(j≠i/\ρ[j]?=some s):=λj s e=>by
  by_cases hj:i=j
  .subst hj
   rw[Tc]at e;cases q:ρ[i]? with
   |none=>rw[q]at e;cases e
   |some s'=>
    rw[q]at e;cases e;refine .inl ⟨rfl,rfl,?_⟩;rw[←h.ln];exact(Po.mp q).1
  .rw[PB hj]at e
   exact .inr ⟨λz=>hj z.symm,e⟩
 have other:∀(k:Nat) (d2:D),k≠i->ρ[k]?=some (.ow d2)->some (some (V.ref p))≠σ[k]?:=λk d2 hk e2 z=>by
  obtain⟨a,h1,_⟩:=h.ow k d2 e2;rw[h1]at z;cases z;exact hp k p h1 rfl d2 e2
 refine⟨h.g,λj d' e=>?_,λj d' e=>?_,λj k d1 d2 hn e1 e2=>?_,by simp[h.ln],h.ex.upd (λj s e=>?_) (aD.refl _) (λa vs _ e=>e) λp us _ h0 hp _=>⟨hp,h0⟩⟩
 rotate_left 3
 .rcases key j _ e with⟨rfl,e',hl⟩|⟨hj,e'⟩
  .exact .inr (.inr (.inr ⟨.lst ds,p,e',by rw[Qj hl],hx⟩))
  .exact .inl ⟨e',by rw[PB (QB hj)]⟩
 .rcases key j _ e with⟨rfl,e',hl⟩|⟨hj,e'⟩
  .cases e'
  .obtain⟨v',h1,h2⟩:=h.rd j d' e'
   exact⟨v',by rw[PB (QB hj)];exact h1,h2⟩
 .rcases key j _ e with⟨rfl,e',hl⟩|⟨hj,e'⟩
  .cases e'
   exact⟨p,by rw[Qj hl],he,h0,vs,hv,r⟩
  .obtain⟨a,h1,h2⟩:=h.ow j d' e'
   exact⟨a,by rw[PB (QB hj)];exact h1,h2⟩
 .rcases key j _ e1 with⟨rfl,_,hl⟩|⟨hj,e1'⟩
  .rcases key k _ e2 with⟨rfl,_,_⟩|⟨hk,e2'⟩
   .exact absurd rfl hn
   .rw[Qj hl,PB (QB hk)]
    exact other k d2 hk e2'
  .rcases key k _ e2 with⟨rfl,_,hl⟩|⟨hk,e2'⟩
   .rw[Qj hl,PB (QB hj)]
    exact λz=>other j d1 hj e1' z.symm
   .rw[PB (QB hj),PB (QB hk)]
    exact h.ap j k d1 d2 hn e1' e2'
def eZ.fresh_x{H01:Hp}{p:Pk}(h:eZ K He η Ha σ H ρ)(s:aD H H1)(hp:H p=none):∀(i j:Nat) (ds:ac) (a:Pk) (P:Nat->Pk),ρ[i]?=some (.ox j ds)->σ[i]?=some (some (.ref a))->M3 K He H01 H1 a j ds P->∀l,tV j l=true->p≠P l:=λi j ds a P x1 x2 x3 l ol=>by
 obtain⟨a2,P2,y1,⟨vs2,_,z3,_,y4,_⟩,_⟩:=h.ex.1 i j ds x1;rw[x2]at y1;cases y1;obtain⟨vs1,_,z1,_,y5,_⟩:=x3;have:=s _ _ z3;rw[z1]at this;cases this;obtain⟨_,us2,_,_,_,z4,z5,_⟩:=y4 l ol;obtain⟨_,_,_,_,_,z2,_⟩:=y5 l ol;rw[z2]at z4;injection z4 with z4;injection z4 with z4;intro z;rw[←z4,←z,hp]at z5;cases z5
def eZ.write(h:eZ K He η Ha σ H ρ){i:Nat}{d:D}{p:Pk}{ds:ac}{vs:ad}(e:ρ[i]?=some (.ow d))(es:σ[i]?=some (some (.ref p)))(r:Reps K Ha ds vs) :
  eZ K He η Ha σ (upd H p (.lst vs)) (ρ.set i (.ow (.lst ds))):=by
 obtain⟨a,h1,h2,h3,h4⟩:=h.ow i d e;rw[h1]at es;cases es;have hil:i<ρ.length:=(Po.mp e).1;have key:∀(j:Nat) (s:Sl),(ρ.set i (.ow (.lst ds)))[j]?=some s->(j=i/\s=.ow (.lst ds))∨(j≠i/\ρ[j]?=some s):=λj s e=>by
  by_cases hj:i=j
  .subst hj
   rw[Qj hil]at e;cases e;exact .inl ⟨rfl,rfl⟩
  .rw[PB hj]at e
   exact .inr ⟨λz=>hj z.symm,e⟩
 refine⟨⟨λb o eb=>?_,h.g.z,λb o eb=>?_,h.g.nw⟩,λj d' e'=>?_,λj d' e'=>?_,λj k d1 d2 hn e1 e2=>?_,by simp[h.ln],h.ex.upd (λj s e'=>?_) (aD.refl _) (λb us _ eb=>?_) λq us _ q0 hq hd=>?_⟩
 rotate_left 5
 .rcases key j _ e' with⟨rfl,e''⟩|⟨hj,e''⟩
  .exact .inr (.inr (.inr ⟨.lst ds,p,e'',h1,λi' j' ds' a' P' x1 x2 x3 l ol=>by
    obtain⟨a2,P2,y1,y2,y3,_⟩:=h.ex.1 i' j' ds' x1;rw[x2]at y1;cases y1;have:P2 l=P' l:=by
     obtain⟨vs1,_,z1,_,y5,_⟩:=x3;obtain⟨vs2,_,z3,_,y4,_⟩:=y2;rw[z1]at z3;cases z3;obtain⟨_,_,_,_,_,z2,_⟩:=y5 l ol;obtain⟨_,_,_,_,_,z4,_⟩:=y4 l ol;rw[z2]at z4;injection z4 with z4;injection z4 with z4;exact z4.symm
    rw[←this];intro zz;rw[zz]at h1;exact y3 j d l ol e h1⟩))
  .exact .inl ⟨e'',rfl⟩
 .rw[aG (by
   intro z;subst z;cases d with
   |lst ds'|dic ks ds'=>obtain⟨vs',h5,_⟩:=h4;rw[h5]at eb;cases eb
   |ob kk ds'=>
    cases kk with|dint ks=>obtain⟨vs',h5,_⟩:=h4;rw[h5]at eb;cases eb| _=>exact h4.elim
   |_=>exact h4)];exact eb
 .have hq':q≠p:=by
   intro z;subst z;exact hd i d e h1
  exact⟨by rw[aG hq'];exact hq,q0⟩
 .rw[aG (by intro z;subst z;rw[h2]at eb;cases eb)];exact h.g.s _ _ eb
 .rw[aG (by intro z;subst z;rw[h3]at eb;cases eb)];exact h.g.sub _ _ eb
 .rcases key j _ e' with⟨rfl,e''⟩|⟨hj,e''⟩
  .cases e''
  .exact h.rd j d' e''
 .rcases key j _ e' with⟨rfl,e''⟩|⟨hj,e''⟩
  .cases e''
   exact⟨p,h1,h2,h3,vs,aP,r⟩
  .obtain⟨b,k1,k2,k3,k4⟩:=h.ow j d' e''
   refine⟨b,k1,k2,k3,?_⟩;have hb:b≠p:=by
    intro z;subst z;exact h.ap j i d' d hj e'' e (by rw[k1,h1])
   cases d' with
   |lst ds'=>
    obtain⟨vs',h5,h6⟩:=k4;exact⟨vs',by rw[aG hb];exact h5,h6⟩
   |dic ks ds'=>
    obtain⟨vs',h5,hl,h6⟩:=k4;exact⟨vs',by rw[aG hb];exact h5,hl,h6⟩
   |ob kk ds'=>
    cases kk with
    |dint ks=>
     obtain⟨vs',h5,hl,h6⟩:=k4;exact⟨vs',by rw[aG hb];exact h5,hl,h6⟩
    |_=>exact k4.elim
   |_=>exact k4.elim
 .rcases key j _ e1 with⟨rfl,e1'⟩|⟨hj,e1'⟩
  .rcases key k _ e2 with⟨rfl,_⟩|⟨hk,e2'⟩
   .exact absurd rfl hn
   .exact h.ap j k d d2 hn e e2'
  .rcases key k _ e2 with⟨rfl,_⟩|⟨hk,e2'⟩
   .exact h.ap j k d1 d hn e1' e
   .exact h.ap j k d1 d2 hn e1' e2'
end
mutual
def ko:D->Bool
 |.lst _=>false
 |.dic _ _=>false
 |.exc _=>false
 |.ob _ _=>false
 |.tup ds=>flats ds
 |_=>true
def flats:ac->Bool
 |[]=>true
 |d::ds=>ko d&&flats ds
end
mutual
theorem Rep.flat_to{K:Ph}{H H':Hp}(e:∀a vs,Rd H a (.tup vs)->Rd H' a (.tup vs)):∀{d:D}{v:V},ko d=true->Rep K H d v->Rep K H' d v
 |.non,_,_,h=>by unfold Rep at h ⊢;exact h
 |.bl _,_,_,h=>by unfold Rep at h ⊢;exact h
 |.int _,_,_,h=>by unfold Rep at h ⊢;exact h
 |.str _,_,_,h=>by unfold Rep at h ⊢;exact h
 |.tup ds,_,f,h=>by
  unfold ko at f;obtain⟨a,vs,e1,e2,e3⟩:=aL.mp h;refine aL.mpr ⟨a,vs,e1,?_,Reps.flat_to e f e3⟩;rcases e2 with e2|e2
  .exact .inl (e _ _ e2)
  .exact .inr e2
 |.lst ds,_,f,h=>by unfold ko at f;cases f
 |.dic ks ds,_,f,h=>by unfold ko at f;cases f
 |.exc x,_,f,h=>by unfold ko at f;cases f
 |.ob k ds,_,f,h=>by unfold ko at f;cases f
theorem Reps.flat_to{K:Ph}{H H':Hp}(e:∀a vs,Rd H a (.tup vs)->Rd H' a (.tup vs)):∀{ds:ac}{vs:ad},flats ds=true->Reps K H ds vs->Reps K H' ds vs
 |[],_,_,h=>by unfold Reps at h ⊢;exact h
 |d::ds,_,f,h=>by
  unfold flats at f;rw[PM]at f;obtain⟨v,r,e1,e2,e3⟩:=az.mp h;exact az.mpr ⟨v,r,e1,Rep.flat_to e f.1 e2,Reps.flat_to e f.2 e3⟩
end
def jW(Ha J:Hp):Hp:=λa=>match Ha a with
 |some o=>some o
 |none=>match J a with
  |some (.tup vs)=>some (.tup vs)
  |some (.frz o (.tup vs))=>some (.frz o (.tup vs))
  |_=>none
section
variable {K:Ph}{E:XK}{He η Ha H H1 J:Hp}{σ:L2.St}{ρ:Ev}
def HX(h:aD Ha J):∀a o,jW Ha J a=some o->J a=some o:=λa o e=>by
 unfold jW at e;cases q:Ha a with
 |some u=>rw[q]at e;cases e;exact h _ _ q
 |none=>
  rw[q]at e;cases q2:J a with
  |none=>rw[q2]at e;cases e
  |some u=>
   rw[q2]at e;cases u with
   |tup vs=>cases e;rfl
   |frz o u'=>
    cases u' with|tup vs=>cases e;rfl| _=>cases e
   |_=>cases e
def Bk(h:aD Ha J)(a:Pk)(vs:ad)(e:Rd J a (.tup vs)):Rd (jW Ha J) a (.tup vs):=by
 rcases e with e|⟨o,e⟩
 .refine .inl ?_
  unfold jW;cases q:Ha a with|some u=>have:=h _ _ q;rw[e]at this;cases this;rfl|none=>rw[e]
 .refine .inr ⟨o,?_⟩
  unfold jW;cases q:Ha a with|some u=>have:=h _ _ q;rw[e]at this;cases this;rfl|none=>rw[e]
def eZ.behind(h:eZ K He η Ha σ H ρ)(g:bf H (frz He Ha H) H1 J):eZ K He η (jW Ha J) σ H1 ρ:=by
 have hJ:aD Ha J:=h.frz_sub.trans g.z;have le:=HX (Ha:=Ha) (J:=J) hJ;have z:aD Ha (jW Ha J):=λb o e=>by unfold jW;rw[e]
 refine⟨⟨h.g.s.trans g.s,h.g.z.trans z,λb o e=>g.sub _ _ (le b o e),λa h1 h2=>?_⟩,h.rd.mono z,λi d e=>?_,h.ap,h.ln,h.ex.upd (λj s e=>.inl ⟨e,rfl⟩) z (λa vs _ e=>g.s _ _ e) λp us hp h0 hl _=>⟨g.s _ _ hl,by
  have:frz He Ha H p=some (.lst us):=by unfold frz;rw[hp];exact hl
  have:=g.z _ _ this;unfold jW;rw[h0,this]⟩⟩
 .cases q:jW Ha J a with
  |none=>exact absurd q h1
  |some o=>
   have hj:=le a o q;exact(h.frz_grow.trans g).nw a (by rw[hj];simp) h2
 .obtain⟨a,k1,k2,k3,k4⟩:=h.ow i d e
  refine⟨a,k1,k2,?_,?_⟩
  .cases d with
   |lst ds=>
    obtain⟨vs,h5,_⟩:=k4;have:frz He Ha H a=some (.lst vs):=by unfold frz;rw[k2];exact h5
    have:=g.z _ _ this;unfold jW;rw[k3,this]
   |dic ks ds=>
    obtain⟨vs,h5,_⟩:=k4;have:frz He Ha H a=some (.dK ((ks.map QE).zip vs)):=by unfold frz;rw[k2];exact h5
    have:=g.z _ _ this;unfold jW;rw[k3,this]
   |ob kk ds=>
    cases kk with
    |dint ks=>
     obtain⟨vs,h5,_⟩:=k4;have:frz He Ha H a=some (.dK ((ks.map SR).zip vs)):=by unfold frz;rw[k2];exact h5
     have:=g.z _ _ this;unfold jW;rw[k3,this]
    |_=>exact k4.elim
   |_=>exact k4.elim
  .cases d with
   |lst ds=>obtain⟨vs,h5,h6⟩:=k4;exact⟨vs,g.s _ _ h5,h6.mono z⟩
   |dic ks ds=>obtain⟨vs,h5,hl,h6⟩:=k4;exact⟨vs,g.s _ _ h5,hl,h6.mono z⟩
   |ob kk ds=>
    cases kk with|dint ks=>obtain⟨vs,h5,hl,h6⟩:=k4;exact⟨vs,g.s _ _ h5,hl,h6.mono z⟩| _=>exact k4.elim
   |_=>exact k4.elim
end
section
variable {X:Cx}{E:XK}{He η:Hp}{st:Rv}{rest:List Rv}{e a b:Qa}{es:List Qa}{f g:am}{fa:Ev->au (ac)}{s t:bi}{pos:Pos}
def cu{t t':TS}(h:PS X st t)(w:∀D σ H,t' D σ H->t D σ H):PS X st t':=λπ s σ H D I q=>h π s σ H D I (w D σ H q)
def mj{t t':TS}(h:yI X rest t)(w:∀D σ H,t' D σ H->t D σ H):yI X rest t':=λπ s σ H D I q=>h π s σ H D I (w D σ H q)
def aj:bi:=λρ=>.ok (.nx ρ)
def ao(s t:bi):bi:=λρ=>(s ρ).bind λr=>match r with
 |.nx ρ'=>t ρ'
 |r=>.ok r
def ar:CH X E He η [] aj:=⟨mj AB λD σ H ⟨Ha,ρ,h,q⟩=>q σ H Ha (aD.refl _) h⟩
def ag(h1:DS X E He η st s)(h2:CH X E He η rest t):CH X E He η (st::rest) (ao s t):=by
 refine⟨?_⟩;refine mj (xj h1.o h2.o) λD σ H z9=>?_;obtain⟨Ha,ρ,h,q⟩:=z9;refine⟨Ha,ρ,h,?_⟩
 unfold ao at q;cases e1:s ρ with
 |stuck|exn x=>rw[e1]at q;exact q
 |ok r=>
  rw[e1]at q;cases r with|nx ρ'=>exact λσ' H' Ha' s' h'=>⟨Ha',ρ',h',bU.grow (r:=t ρ') q s'⟩|rt d|bk ρ'|ct ρ'=>exact q
def cG:bi:=λ_=>.stuck
def cm:DS X E He η st cG:=⟨cu D4 λD σ H ⟨Ha,ρ,h,q⟩=>q⟩
def plain{K:Ph}{Ha H:Hp}{σ:L2.St}{ρ:Ev}{k:D->au Fl}{D':jg}(h:eZ K He η Ha σ H ρ){r:au D}{Q:VK}
  (q:bU K E He η Ha (r.bind k) D')(hk:∀d v H' Ha',r=.ok d->bf H Ha H' Ha'->Rep K Ha' d v->bU K E He η Ha' (k d) D'->Q v H'):post K E H Ha r Q:=by
 cases r with|stuck=>exact q|exn x=>exact λC ox H' Ha' g ex=>q C ox H' Ha' (h.g.trans g) ex|ok d=>exact λv H' Ha' g rp=>hk d v H' Ha' rfl g rp (bU.grow (r:=k d) q g.z)
def look{K:Ph}{Ha H:Hp}{σ:L2.St}{ρ:Ev}{k:D->au Fl}{D':jg}(h:eZ K He η Ha σ H ρ){r:au D}{Q:VK}
  (q:bU K E He η Ha (r.bind k) D')(hk:∀d v H' J,r=.ok d->bf H (frz He Ha H) H' J->Rep K J d v->bU K E He η Ha (k d) D'->Q v H'):post K E H (frz He Ha H) r Q:=by
 cases r with|stuck=>exact q|exn x=>exact λC ox H' Ha' g ex=>q C ox H' Ha' (h.frz_grow.trans g) ex|ok d=>exact λv H' J g rp=>hk d v H' J rfl g rp q
def IC{K:Ph}{Ha H:Hp}{σ:L2.St}{ρ:Ev}{k:Bool->au Fl}{D':jg}(h:eZ K He η Ha σ H ρ){r:au D}{Q:Bool->Hp->Prop}
  (q:bU K E He η Ha (r.bind λx=>match x with|.bl b=>k b|_=>.stuck) D')(hk:∀b H',aD H H'->bU K E He η Ha (k b) D'->Q b H'):qw K E H (frz He Ha H) r Q:=by
 cases r with
 |stuck=>exact q|exn x=>exact λC ox H' Ha' g ex=>q C ox H' Ha' (h.frz_grow.trans g) ex
 |ok d=>
  cases d with|bl b=>exact λH' J g=>hk b H' g.s q| _=>exact q.elim
def aF(i:Nat)(f:am):bi:=λρ=>(f ρ).bind λd=>.ok (.nx (ρ.set i (.sh d)))
def Am(i:Nat)(f:am):bi:=λρ=>(f (iP ρ)).bind λd=>if ko d=true then .ok (.nx (ρ.set i (.sh d))) else .stuck
def aT(f:am):bi:=λρ=>(f (iP ρ)).bind λd=>.ok (.rt d)
def fX(f:am):bi:=λρ=>(f (iP ρ)).bind λ_=>.ok (.nx ρ)
def cH(c:am)(s t:bi):bi:=λρ=>(c (iP ρ)).bind λx=>match x with
 |.bl b=>if b=true then s ρ else t ρ
 |_=>.stuck
def aI{i:Nat}{x:Pq}{pos':Pos}(hN:X.N.Nodup)(hi:X.N[i]?=some x)(hx:Fx X.env.scope x)(he:DE X E e f)(hs:Rt e (some (.Name x pos')) pos.line X.env=pure false:=by rfl)
  (hf:X.fn x=true∨X.env.scope.names.lookup x=some .local := by first|exact .inl rfl|exact .inr rfl|assumption):DS X E He η (.Assign [.Name x pos'] e pos) (aF i f):=by
 refine⟨?_⟩;refine cu (qv hN hi hx he.o hs hf) λD σ H z9=>?_;obtain⟨Ha,ρ,h,q⟩:=z9;refine⟨Ha,ρ,h.g.sub,h.rd,?_⟩
 refine plain h q λd v H' Ha' _ g rp q'=>?_;exact q' _ H' Ha' (aD.refl _) ((h.grow g).put rp)
def Hz{i:Nat}{x:Pq}{pos':Pos}(hN:X.N.Nodup)(hi:X.N[i]?=some x)(hx:Fx X.env.scope x)(he:DE X E e f)(hs:Rt e (some (.Name x pos')) pos.line X.env=pure false:=by rfl)
  (hf:X.fn x=true∨X.env.scope.names.lookup x=some .local := by first|exact .inl rfl|exact .inr rfl|assumption):DS X E He η (.Assign [.Name x pos'] e pos) (Am i f):=by
 refine⟨?_⟩;refine cu (qv hN hi hx he.o hs hf) λD σ H z9=>?_;obtain⟨Ha,ρ,h,q⟩:=z9;refine⟨frz He Ha H,iP ρ,h.frz_le,h.looks,?_⟩
 refine look h q λd v H' J _ g rp q'=>?_
 by_cases fl:ko d=true
 .rw[if_pos fl]at q'
  have hJ:aD Ha J:=h.frz_sub.trans g.z;refine q' _ H' (jW Ha J) (λb o e=>by unfold jW;rw[e]) ((h.behind g).put (rp.flat_to (Bk hJ) fl))
 .rw[if_neg fl]at q';exact q'.elim
def aM(he:DE X E e f):DS X E He η (.Return (some e) pos) (aT f):=by
 refine⟨?_⟩;refine cu (JG he.o) λD σ H z9=>?_;obtain⟨Ha,ρ,h,q⟩:=z9;refine⟨frz He Ha H,iP ρ,h.frz_le,h.looks,?_⟩
 exact look h q λd v H' J _ g rp q'=>q' v H' J (h.frz_grow.trans g) rp
def fJ(he:DE X E e f)(hs:Rt e none pos.line X.env=pure false:=by rfl):DS X E He η (.Expr e pos) (fX f):=by
 refine⟨?_⟩;refine cu (AD he.o hs) λD σ H z9=>?_;obtain⟨Ha,ρ,h,q⟩:=z9;refine⟨frz He Ha H,iP ρ,h.frz_le,h.looks,?_⟩
 exact look h q λd v H' J _ g rp q'=>q' σ H' Ha (aD.refl _) (h.same g.s)
def bC{c:Qa}{fc:am}{sa sb:List Rv}(hc:DT X E c fc)(ha:CH X E He η sa s)(hb:CH X E He η sb t):DS X E He η (.If c sa sb pos) (cH fc s t):=by
 refine⟨?_⟩;refine cu (Mf hc.o ha.o hb.o) λD σ H z9=>?_;obtain⟨Ha,ρ,h,q⟩:=z9;refine⟨frz He Ha H,iP ρ,h.frz_le,h.looks,?_⟩
 refine IC (k:=λb=>if b=true then s ρ else t ρ) h q λb H' hs q'=>?_;cases b with|true=>rw[if_pos rfl]at q' ⊢;exact⟨Ha,ρ,h.same hs,q'⟩|false=>rw[if_neg QY]at q' ⊢;exact⟨Ha,ρ,h.same hs,q'⟩
noncomputable def tF(K:Ph) (E:XK) (f:am):TE:=λσ H Q=>∃Ha ρ,aD Ha H/\eB K Ha σ ρ/\match f ρ with
 |.ok (.lst ds)=>∀p vs H' Ha',bf H Ha H' Ha'->H p=none->Ha' p=none->H' p=some (.lst vs)->Reps K Ha' ds vs->Q (.ref p) H'
 |.ok _=>False
 |.exn x=>∀C ox H' Ha',bf H Ha H' Ha'->wK K Ha' x C ox->E C ox H'
 |.stuck=>False
structure DF (X:Cx) (E:XK) (e:Qa) (f:am):Prop where
 o:PE X e (tF X.K E f)
def pB(i:Nat)(f:am):bi:=λρ=>(f ρ).bind λd=>match d with
 |.lst ds=>.ok (.nx (ρ.set i (.ow (.lst ds))))
 |_=>.stuck
def l5{i:Nat}{x:Pq}{pos':Pos}(hN:X.N.Nodup)(hi:X.N[i]?=some x)(hx:Fx X.env.scope x)(he:DF X E e f)(hs:Rt e (some (.Name x pos')) pos.line X.env=pure false:=by rfl)
  (hf:X.fn x=true∨X.env.scope.names.lookup x=some .local := by first|exact .inl rfl|exact .inr rfl|assumption):DS X E He η (.Assign [.Name x pos'] e pos) (pB i f):=by
 refine⟨?_⟩;refine cu (qv hN hi hx he.o hs hf) λD σ H z9=>?_;obtain⟨Ha,ρ,h,q⟩:=z9;refine⟨Ha,ρ,h.g.sub,h.rd,?_⟩
 unfold pB at q;cases e1:f ρ with
 |stuck=>rw[e1]at q;exact q|exn x=>rw[e1]at q;exact λC ox H' Ha' g ex=>q C ox H' Ha' (h.g.trans g) ex
 |ok d=>
  rw[e1]at q;cases d with
  |lst ds=>
   intro p vs H' Ha' g hp h0 hv rp;refine q _ H' Ha' g.z ((h.grow g).putOwn (λj a ej ea d ed=>?_) (h.g.s.free hp) h0 hv rp (h.fresh_x g.s hp));subst ea;obtain⟨a',k1,_,_,k4⟩:=h.ow j d ed;rw[ej]at k1;cases k1;cases d with
   |lst ds'|dic ks ds'=>obtain⟨vs',h5,_⟩:=k4;rw[hp]at h5;cases h5
   |ob kk ds'=>
    cases kk with|dint ks=>obtain⟨vs',h5,_⟩:=k4;rw[hp]at h5;cases h5| _=>exact k4.elim
   |_=>exact k4.elim
  |_=>exact q.elim
def kD(h:DA X E es fa):DF X E (.List es pos) (aq fa bO):=by
 refine⟨?_⟩;refine bp (Ed h.o) λσ H Q h=>?_;obtain⟨Ha,ρ,hs,hr,q⟩:=h;refine⟨Ha,ρ,hs,hr,?_⟩;unfold aq at q;cases e1:fa ρ with
 |stuck|exn x=>rw[e1]at q;exact q
 |ok ds=>
  rw[e1]at q;intro vs H1 H01 g1 r1;replace q:match bO ds with
   |.ok (.lst ds)=>∀p vs H' Ha',bf H Ha H' Ha'->H p=none->Ha' p=none->H' p=some (.lst vs)->Reps X.K Ha' ds vs->Q (.ref p) H'
   |.ok _=>False
   |.exn x=>∀C ox H' Ha',bf H Ha H' Ha'->wK X.K Ha' x C ox->E C ox H'
   |.stuck=>False:=q
  unfold bO at q
  by_cases hl:ds.length<=line
  .rw[if_pos hl]at q
   refine⟨by rw[←r1.length];exact eC hl,λp hp=>?_⟩;have h0:H01 p=none:=g1.sub.free hp;refine q p vs _ H01 (g1.trans ⟨λb o q=>by rw[aG (ba q hp)];exact q,aD.refl _,λb o q=>?_,λa h1 h2=>absurd h2 h1⟩) (g1.s.free hp) h0 aP r1;rw[aG (by intro z;subst z;rw[h0]at q;cases q)];exact g1.sub _ _ q
  .rw[if_neg hl]at q;exact q.elim
def xo(ρ:Ev)(i:Nat)(k:ac->au Fl):au Fl:=match ρ[i]? with
 |some (.ow (.lst ds))=>k ds
 |_=>.stuck
def bP(i:Nat)(f:am):bi:=λρ=>xo ρ i λds=>(f ρ).bind λd=>if ds.length<line then .ok (.nx (ρ.set i (.ow (.lst (ds++[d]))))) else .stuck
def qC{K:Ph}{Ha H:Hp}{σ:L2.St}{ρ:Ev}{i:Nat}{k:ac->au Fl}{D':jg}(h:eZ K He η Ha σ H ρ)(q:bU K E He η Ha (xo ρ i k) D') :
  ∃ds p vs,ρ[i]?=some (.ow (.lst ds))/\σ[i]?=some (some (.ref p))/\He p=none/\Ha p=none/\H p=some (.lst vs)/\Reps K Ha ds vs/\bU K E He η Ha (k ds) D':=by
 unfold xo at q;cases e:ρ[i]? with
 |none=>rw[e]at q;exact q.elim
 |some s=>
  rw[e]at q;cases s with
  |no|sh d|ox j ds|pt a=>exact q.elim
  |ow d=>
   cases d with
   |lst ds=>
    obtain⟨p,h1,h2,h3,vs,h4,h5⟩:=h.ow i _ e;exact⟨ds,p,vs,rfl,h1,h2,h3,h4,h5,q⟩
   |_=>exact q.elim
def eL{i:Nat}{x:Pq}{p1 p2 p3:Pos}(hN:X.N[i]?=some x)(hv:CC X.env.scope x)(he:DE X E e f)
  (hd:(x==("__debug__" : Pq))=false:=by decide)(hcd:(x==("__classdict__" : Pq))=false:=by decide)
  (hbase:Sg (.Name x p1) "append" X.env (eval (.Name x p1) X.env)=eval (.Name x p1) X.env:=by rfl)
  (hfew:((Rj p3 (PD [e] X.env)).all (λx=>!x.1)&&(Ua p3 (S3 [] X.env)).all (λx=>x.1.isSome)
  &&decide ([e].length+([]:List S6).length+(if([]:List S6).isEmpty then 0 else 1)<30))=true:=by exact rg rfl)
  (hline:(p2.endLine==p3.line)=true:=by rfl) (hs:PD [e] X.env=(false,eval e X.env)::PD [] X.env:=by exact bB rfl) (hplain:(Rj p3 (PD [] X.env)).any (·.1)=false:=by exact dk rfl)
  (hw:Rt (.Call (.Attribute (.Name x p1) "append" p2) [e] [] p3) none pos.line X.env=pure false:=by rfl) :
  DS X E He η (.Expr (.Call (.Attribute (.Name x p1) "append" p2) [e] [] p3) pos) (bP i f):=by
 refine⟨?_⟩;refine cu (AD (Eg Uv PySem.F.slot_list_append PySem.F.type_list_append uJ (ka hN hv hd hcd) (fH he.o kc hs) hbase hfew hline hs hplain) hw) λD σ H ⟨Ha,ρ,h,q⟩=>?_;obtain⟨ds,p,vs,e1,e2,e3,e4,e5,e6,q⟩:=qC h q;refine⟨.ref p,e2,.inl ⟨rfl,vs,fk.of e5⟩,?_⟩;refine⟨Ha,ρ,h.g.sub,h.rd,plain h q λd v H' Ha' _ g rp q'=>?_⟩
 by_cases hl:ds.length<line
 .rw[if_pos hl]at q'
  have e5':H' p=some (.lst vs):=g.s _ _ e5;refine⟨p,vs,v,rfl,rfl,e5',by rw[←e6.length];exact Pm hl (by decide),?_⟩;exact q' σ _ Ha' (aD.refl _) ((h.grow g).write e1 e2 ((e6.mono g.z).app (Reps.cons rp Reps.nil)))
 .rw[if_neg hl]at q';exact q'.elim
def putAt(ρ:Ev)(i:Nat)(ds:ac)(d:D)(j:D):au Fl:=match j with
 |.int j=>match xM ds.length j with
  |some n=>.ok (.nx (ρ.set i (.ow (.lst (ds.set n d)))))
  |none=>.stuck
 |_=>.stuck
def An(i:Nat)(f k:am):bi:=λρ=>xo ρ i λds=>(f (iP ρ)).bind λd=>(k (iP ρ)).bind λj=>if ko d=true then putAt ρ i ds d j else .stuck
def D1{K:Ph}{Ha H:Hp}{σ:L2.St}{ρ:Ev}{i:Nat}{D':jg}{ds:ac}{d j:D}{p:Pk}{vs:ad}{v u:V}(h:eZ K He η Ha σ H ρ)(e1:ρ[i]?=some (.ow (.lst ds)))(e2:σ[i]?=some (some (.ref p)))(e5:H p=some (.lst vs))(e6:Reps K Ha ds vs)
  (rp:Rep K Ha d v)(rj:Rep K Ha j u)(q:bU K E He η Ha (putAt ρ i ds d j) D'):Iy (.ref p) u v H λH'=>D'.nx σ H':=by
 unfold putAt at q;cases j with
 |int n=>
  cases en:xM ds.length n with
  |none=>simp only[en]at q;exact q.elim
  |some m=>
   simp only[en]at q;refine⟨p,vs,n,m,rfl,ay.mp rj,e5,by rw[←e6.length];exact en,?_⟩;exact q σ _ Ha (aD.refl _) (h.write e1 e2 (e6.set rp m))
 |_=>exact q.elim
section
variable {i:Nat}{x:Pq}{p1 p2:Pos}{k:am}
def HA(hN:X.N[i]?=some x)(hv:CC X.env.scope x)(he:DE X E e f)(hk:DE X E b k)
  (hd:(x==("__debug__" : Pq))=false:=by decide)(hcd:(x==("__classdict__" : Pq))=false:=by decide)
  (ha:∀v,assign (.Subscript (.Name x p1) b p2) X.env v=(do
   let ov ←Tp [v] (eval (.Name x p1) X.env)
   let iv ←Tp [v,ov] (eval b X.env)
   standAt p2
   Tp [v,ov,iv] (setItem ov iv v)
   release [v,ov,iv] []):=by intro _;rfl)
  (hs:swapsWithSole [.Subscript (.Name x p1) b p2] e pos.line X.env=pure false:=by rfl) (hw:swappedStores [.Subscript (.Name x p1) b p2] e X.env=pure none:=by rfl)
  (h1:(assignEach [.Subscript (.Name x p1) b p2] X.env).map (·.2)=[assign (.Subscript (.Name x p1) b p2) X.env]:=by rfl) :
  DS X E He η (.Assign [.Subscript (.Name x p1) b p2] e pos) (An i f k):=by
 refine⟨?_⟩;refine cu (D5 he.o (JM (ka hN hv hd hcd) hk.o Dk ha) hs hw h1) λD σ H z9=>?_;obtain⟨Ha,ρ,h,q⟩:=z9;refine⟨frz He Ha H,iP ρ,h.frz_le,h.looks,?_⟩
 obtain⟨ds,p,vs,e1,e2,e3,e4,e5,e6,q⟩:=qC h q;refine look (k:=λd=>(k (iP ρ)).bind λj=>if ko d=true then putAt ρ i ds d j else .stuck) h q λd v H1 J1 _ g1 r1 q1=>⟨.ref p,e2,?_⟩
 have hJ1:aD Ha J1:=h.frz_sub.trans g1.z;refine⟨J1,iP ρ,g1.sub,h.looks.mono g1.z,?_⟩;cases ek:k (iP ρ) with
 |stuck=>rw[ek]at q1;exact q1|exn x=>rw[ek]at q1;exact λC ox H' Ha' g ex=>q1 C ox H' Ha' (h.frz_grow.trans (g1.trans g)) ex
 |ok j=>
  rw[ek]at q1;intro u H2 J2 g2 r2;replace q1:bU X.K E He η Ha (if ko d=true then putAt ρ i ds d j else .stuck) D:=q1
  by_cases fl:ko d=true
  .rw[if_pos fl]at q1
   have g:=g1.trans g2;have hJ:aD Ha J2:=h.frz_sub.trans g.z;have z:aD Ha (jW Ha J2):=λb o e=>by unfold jW;rw[e]
   have rd:=(r1.mono g2.z).flat_to (Bk hJ) fl;have rj:Rep X.K (jW Ha J2) j u:=by
    cases j with|int n=>exact ay.mpr (ay.mp r2)| _=>exact q1.elim
   exact D1 (h.behind g) e1 e2 (g.s _ _ e5) (e6.mono z) rd rj (q1.grow z)
  .rw[if_neg fl]at q1;exact q1.elim
end
noncomputable def bS(tg:Ev->D->au Ev) (body:bi):ac->bi
 |[],ρ=>.ok (.nx ρ)
 |d::r,ρ=>(tg ρ d).bind λρ1=>(body ρ1).bind λx=>match x with
  |.nx ρ2=>bS tg body r ρ2
  |.ct ρ2=>bS tg body r ρ2
  |.bk ρ2=>.ok (.nx ρ2)
  |.rt d=>.ok (.rt d)
def tG(K:Ph)(He η:Hp)(tg:Ev->D->au Ev):TG:=λv σ H Q=>∃Ha ρ d,eZ K He η Ha σ H ρ/\Rep K Ha d v/\match tg ρ d with
  |.ok ρ'=>∀σ' H' Ha',aD Ha Ha'->eZ K He η Ha' σ' H' ρ'->Q σ' H'
  |_=>False
structure DG (X:Cx) (E:XK) (He η:Hp) (target:Qa) (tg:Ev->D->au Ev):Prop where
 o:PG X target (tG X.K He η tg)
def br(i:Nat):Ev->D->au Ev:=λρ d=>.ok (ρ.set i (.sh d))
def vH{tgt:Qa}{t t':TG}(h:PG X tgt t)(w:∀v σ H Q,t' v σ H Q->t v σ H Q):PG X tgt t':=λπ s σ H v u Q I r q=>h π s σ H v u Q I r (w v σ H Q q)
def bE{i:Nat}{x:Pq}(hN:X.N.Nodup)(hi:X.N[i]?=some x)(hx:Fx X.env.scope x)(hf:X.fn x=true∨X.env.scope.names.lookup x=some .local := by first|exact .inl rfl|exact .inr rfl|assumption):DG X E He η (.Name x pos) (br i) :=
 ⟨vH (AG hN hi hx hf) λv σ H Q ⟨Ha,ρ,d,h,rp,q⟩=>q _ H Ha (aD.refl _) (h.put rp)⟩
def iN(K:Ph)(E:XK)(He η Hb:Hp)(tg:Ev->D->au Ev)(s:bi)(ds:ac)(D':jg)(i:Nat)(σ:L2.St)(H:Hp):Prop :=
 ∃Ha ρ,aD Hb Ha/\eZ K He η Ha σ H ρ/\bU K E He η Ha (bS tg s (ds.drop i) ρ) D'
def iN.step{K:Ph}{Hb:Hp}{tg:Ev->D->au Ev}{ds:ac}{D':jg}{i:Nat}{σ:L2.St}{H:Hp}{d:D}{v:V}(h:iN K E He η Hb tg s ds D' i σ H)(hd:ds[i]?=some d)(rv:Rep K Hb d v)
  (he:∀ρ,tg ρ d=.stuck∨∃ρ',tg ρ d=.ok ρ') :
  tG K He η tg v σ H λσ2 H2=>tS K E He η s { D' with nx:=iN K E He η Hb tg s ds D' (i+1),ct:=iN K E He η Hb tg s ds D' (i+1),bk:=D'.nx } σ2 H2:=by
 obtain⟨Ha,ρ,z,h,q⟩:=h;have hi:i<ds.length:=(Po.mp hd).1;have hdr:ds.drop i=d::ds.drop (i+1):=by
  rw[QQ hi];rw[Pd hi]at hd;cases hd;rfl
 rw[hdr]at q;refine⟨Ha,ρ,d,h,rv.mono z,?_⟩;unfold bS at q;rcases he ρ with e1|⟨ρ1,e1⟩
 .rw[e1]at q;exact q.elim
 .rw[e1]at q ⊢
  intro σ' H' Ha' z' h';refine⟨Ha',ρ1,h',?_⟩;replace q:=bU.grow (r:=(s ρ1).bind λx=>match x with
   |.nx ρ2=>bS tg s (ds.drop (i+1)) ρ2
   |.ct ρ2=>bS tg s (ds.drop (i+1)) ρ2
   |.bk ρ2=>.ok (.nx ρ2)
   |.rt d=>.ok (.rt d)) q z'
  cases e2:s ρ1 with
  |stuck|exn x=>rw[e2]at q;exact q
  |ok r=>
   rw[e2]at q;cases r with|nx ρ2=>exact λσ3 H3 H03 z3 h3=>⟨H03,ρ2,(z.trans z').trans z3,h3,bU.grow (r:=bS tg s (ds.drop (i+1)) ρ2) q z3⟩|ct ρ2=>exact λσ3 H3 H03 z3 h3=>⟨H03,ρ2,(z.trans z').trans z3,h3,bU.grow (r:=bS tg s (ds.drop (i+1)) ρ2) q z3⟩|bk ρ2|rt d=>exact q
def iN.done{K:Ph}{Hb:Hp}{tg:Ev->D->au Ev}{ds:ac}{D':jg}{σ:L2.St}{H:Hp}(h:iN K E He η Hb tg s ds D' ds.length σ H):D'.nx σ H:=by
 obtain⟨Ha,ρ,z,h,q⟩:=h;rw[List.drop_length]at q;unfold bS at q;exact q σ H Ha (aD.refl _) h
def yG(tg:Ev->D->au Ev):Prop:=∀ρ d,tg ρ d=.stuck∨∃ρ',tg ρ d=.ok ρ'
def dm{i:Nat}:yG (br i):=λρ d=>.inr ⟨_,rfl⟩
def iR(f:am)(tg:Ev->D->au Ev)(s:bi):bi:=λρ=>(f ρ).bind λd=>match d with
 |.lst ds=>bS tg s ds ρ
 |_=>.stuck
def jv{tgt iter:Qa}{body:List Rv}{tg:Ev->D->au Ev}(hp:PassesOwn (PX X.prog X.w) X.A X.env X.xe)(hc:X.calm=true)(hi:DE X E iter f)(hg:DG X E He η tgt tg)(ht:yG tg)(hb:CH X E He η body s)
  (hs:∀x,foldedSetIterable iter X.env x=pure x:=by intro _;rfl):DS X E He η (.For tgt iter body [] pos) (iR f tg s):=by
 refine⟨?_⟩;refine cu (ze hp hc (AF hi.o) hg.o hb.o hs) λD' σ H z9=>?_;obtain⟨Ha,ρ,h,q⟩:=z9;refine⟨Ha,ρ,h.g.sub,h.rd,?_⟩
 refine plain h q λd v H1 H01 _ g rp q1=>?_;cases d with
 |lst ds=>
  obtain⟨a,vs,rfl,hv,hr⟩:=aE.mp rp;refine⟨a,rfl,⟨vs,aD.sqL g.sub hv⟩,?_⟩;refine EW (K:=X.K) (a:=a) (g:=tG X.K He η tg) (tb:=tS X.K E He η s) (D:=D') (xs:=vs) (iN X.K E He η H01 tg s ds D') ⟨H01,ρ,aD.refl _,h.grow g,q1⟩ ?_ ?_ ?_
  .rintro i σ' H' _ ⟨Ha',ρ',z,h',_⟩
   exact aD.sqL (z.trans h'.g.sub) hv
  .intro i x σ' H' hx hI
   have hil:i<ds.length:=by rw[hr.length];exact(Po.mp hx).1
   obtain⟨u,e1,e2⟩:=hr.get (Pd hil);rw[hx]at e1;cases e1;exact hI.step (Pd hil) e2 λρ=>ht ρ _
  .intro σ' H' hI
   rw[←hr.length]at hI;exact hI.done
 |_=>exact q1.elim
def intsFrom(lo:Int)(n:Nat):ac:=(Qu n).map λ(k:Nat)=>D.int (lo+(k:Int))
def xb(f:am)(tg:Ev->D->au Ev)(s:bi):bi:=λρ=>(f (iP ρ)).bind λd=>match d with
 |.int j=>if -4611686018427387904<=j/\j<4611686018427387904 then bS tg s (intsFrom 0 j.toNat) ρ else .stuck
 |_=>.stuck
def A5{tgt iter:Qa}{p pos2:Pos}{body:List Rv}{tg:Ev->D->au Ev}(hp:PassesOwn (PX X.prog X.w) X.A X.env X.xe)(hc:X.calm=true)(hgl:Gl X "range")(hm:X.mg "range"=none)(hi:DE X E iter f)(hg:DG X E He η tgt tg)(ht:yG tg)(hb:CH X E He η body s)
  (hst:PD [iter] X.env=[(false,eval iter X.env)]:=by exact eN rfl)(hs:∀x,foldedSetIterable (.Call (.Name "range" p) [iter] [] pos2) X.env x=pure x:=by intro _;rfl):DS X E He η (.For tgt (.Call (.Name "range" p) [iter] [] pos2) body [] pos) (xb f tg s):=by
 refine⟨?_⟩;refine cu (ze hp hc (uG hgl hm (fH hi.o kc hst) hst) hg.o hb.o hs) λD' σ H ⟨Ha,ρ,h,q⟩=>?_;refine⟨frz He Ha H,iP ρ,h.frz_le,h.looks,look h q λd v H1 J _ g rp q1=>?_⟩;cases d with
 |int j=>
  rw[ay.mp rp];replace q1:bU X.K E He η Ha (if -4611686018427387904<=j/\j<4611686018427387904 then bS tg s (intsFrom 0 j.toNat) ρ else .stuck) D':=q1
  by_cases hj:-4611686018427387904<=j/\j<4611686018427387904
  .rw[if_pos hj]at q1
   refine⟨j,rfl,by omega,by omega,?_⟩;have hlen:(intsFrom 0 j.toNat).length=j.toNat:=by unfold intsFrom;simp
   refine Ci (lo:=0) (n:=j.toNat) (g:=tG X.K He η tg) (tb:=tS X.K E He η s) (D:=D') (iN X.K E He η Ha tg s (intsFrom 0 j.toNat) D') ⟨Ha,ρ,aD.refl _,h.same g.s,q1⟩ ?_ ?_
   .intro i σ' H' hlt hI
    refine hI.step (d:=.int (0+i)) ?_ (ay.mpr rfl) λρ=>ht ρ _;unfold intsFrom;simp[hlt]
   .intro σ' H' hI
    exact iN.done (ds:=intsFrom 0 j.toNat) (by rw[hlen];exact hI)
  .rw[if_neg hj]at q1;exact q1.elim
 |_=>exact q1.elim
noncomputable def bY(c:am) (s:bi):Nat->bi
 |0,_=>.stuck
 |n+1,ρ=>(c (iP ρ)).bind λx=>match x with
  |.bl b=>if b=true then(s ρ).bind λx=>match x with
    |.nx ρ2=>bY c s n ρ2
    |.ct ρ2=>bY c s n ρ2
    |.bk ρ2=>.ok (.nx ρ2)
    |.rt d=>.ok (.rt d)
   else .ok (.nx ρ)
  |_=>.stuck
def fw(fuel:Ev->Nat)(c:am)(s:bi):bi:=λρ=>bY c s (fuel ρ) ρ
def kC(fuel:Ev->Nat){c:Qa}{body:List Rv}{fc:am}(hp:PassesOwn (PX X.prog X.w) X.A X.env X.xe)(hc:DT X E c fc)(hb:CH X E He η body s):DS X E He η (.While c body [] pos) (fw fuel fc s):=by
 refine⟨?_⟩;refine cu (D3 hp hc.o hb.o) λD' σ H ⟨Ha,ρ,h,q⟩=>?_;refine⟨λm σ H=>∃Ha ρ,eZ X.K He η Ha σ H ρ/\bU X.K E He η Ha (bY fc s m ρ) D',⟨fuel ρ,Ha,ρ,h,q⟩,?_⟩;rintro m σ1 H1 ⟨H01,ρ1,h1,q1⟩;cases m with
 |zero=>exact q1.elim
 |succ m=>
  refine⟨frz He H01 H1,iP ρ1,h1.frz_le,h1.looks,?_⟩;unfold bY at q1;refine IC (k:=λb=>if b=true then(s ρ1).bind λx=>match x with
    |.nx ρ2=>bY fc s m ρ2
    |.ct ρ2=>bY fc s m ρ2
    |.bk ρ2=>.ok (.nx ρ2)
    |.rt d=>.ok (.rt d)
   else .ok (.nx ρ1)) h1 q1 λb H2 hs q2=>?_
  cases b with
  |false=>
   rw[if_neg QY]at q2 ⊢;exact q2 σ1 H2 H01 (aD.refl _) (h1.same hs)
  |true=>
   rw[if_pos rfl]at q2 ⊢;refine⟨λσ' H'=>∃m',m' < m+1/\∃Ha ρ,eZ X.K He η Ha σ' H' ρ/\bU X.K E He η Ha (bY fc s m' ρ) D',λσ' H' z=>z,H01,ρ1,h1.same hs,?_⟩;cases e2:s ρ1 with
   |stuck|exn x=>rw[e2]at q2;exact q2
   |ok r=>
    rw[e2]at q2;cases r with|nx ρ2=>exact λσ3 H3 H03 z3 h3=>⟨m,RN _,H03,ρ2,h3,bU.grow (r:=bY fc s m ρ2) q2 z3⟩|ct ρ2=>exact λσ3 H3 H03 z3 h3=>⟨m,RN _,H03,ρ2,h3,bU.grow (r:=bY fc s m ρ2) q2 z3⟩|bk ρ2|rt d=>exact q2
end
def bj(n:Nat)(s:bi)(ds:ac):au D:=(s (ds.map Sl.sh++PY (n-ds.length) .no)).bind λr=>match r with
 |.nx _=>.ok .non
 |.rt d=>.ok d
 |_=>.stuck
def wX{K:Ph}{Ha:Hp}{N:ce}{ds:ac}{vs:ad}(h:Reps K Ha ds vs):eB K Ha (start N vs) (ds.map Sl.sh++PY (N.length-ds.length) .no):=by
 intro i d e;have hl:=h.length
 by_cases hi:i<ds.length
 .rw[P0 (by simpa using hi),Pp]at e
  cases q:ds[i]? with
  |none=>rw[q]at e;cases e
  |some d'=>
   rw[q]at e;cases e;obtain⟨v,h1,h2⟩:=h.get q;refine⟨v,?_,h2⟩;unfold L2.start;rw[P0 (by simp;omega),Pp,h1];rfl
 .rw[Qc (by simpa using hi),Qn]at e
  split at e<;>cases e
def BA{ds:ac}{n:Nat}(i j:Nat)(es:ac):(ds.map Sl.sh++PY n Sl.no)[i]?≠some (.ox j es):=λe=>by
 have:=PN e;rw[Pz]at this;rcases this with h|h
 .obtain⟨_,_,h⟩:=Pw.mp h;cases h
 .have:=Us h;cases this
def yY{ds:ac}{n:Nat}{σ:L2.St}(i:Nat)(a:Pk)(e:(ds.map Sl.sh++PY n Sl.no)[i]?=some (.pt a)):σ[i]?=some (some (.ref a)):=by
 have:=PN e;rw[Pz]at this;rcases this with h|h
 .obtain⟨_,_,h⟩:=Pw.mp h;cases h
 .have:=Us h;cases this
def Ii{P:Qe}{w:Qt}{K:Ph}{mg:Pq->Option Pb}{base:PR}{x qual:Pq}{st:Rv}{f:Pk}{fd:Qy}{N ps:ce}{k:Nat}{sp:Sp}(F:CK K x qual st f fd)(S:fS N ps (defScope st))(len:∀vs H Q E,sp vs H Q E->vs.length=ps.length)
  (hbody:∀(cdv:Pb),fd.code=cdv->∀(A:Qs) (outer:List QN) (s:Pj) (H:Hp) (vs:ad) (Q:VK) (E:XK),cV k (A.deeper (envOfC qual (defScope st) s.heap.objs.size f cdv))->sp vs H Q E ->
   ∃t,yI (pH CX0 P w K mg base N qual (defScope st) f cdv A outer s H E).nox (defBody st) t/\t { nx:=λ_ H'=>Q .non H',rt:=Q } (start N vs) H):iu P w K mg base CX0 (k+1) f fd ps sp:=by
 obtain⟨oc,od,kV,doc,pm,an,cdv,ct,osl,rfl,lk,hcd⟩:=F.ex;refine IG lk hcd S len λA outer s H vs Q E hr hsp=>?_;obtain⟨t,h,q⟩:=hbody cdv rfl A outer s H vs Q E hr hsp;exact⟨t,h.nox,q⟩
def ra{P:Qe}{w:Qt}{K:Ph}{mg:Pq->Option Pb}{base:PR}{x qual:Pq}{st:Rv}{f:Pk}{fd:Qy}{N ps:ce}{k:Nat}{s:bi}(F:CK K x qual st f fd)(S:fS N ps (defScope st))
  (hbody:∀(cdv:Pb),fd.code=cdv->∀(A:Qs) (outer:List QN) (s0:Pj) (H Ha:Hp) (E:XK),cV k (A.deeper (envOfC qual (defScope st) s0.heap.objs.size f cdv)) ->
   CH (pH CX0 P w K mg base N qual (defScope st) f cdv A outer s0 H E).nox E H Ha (defBody st) s):iu P w K mg base CX0 (k+1) f fd ps (spD K ps.length (bj N.length s)):=by
 have hpl:ps.length<=N.length:=by have:=congrArg S5 S.pre;rw[Ru]at this;omega
 refine Ii F S (λvs H Q E h=>h.1) λcdv hc A outer s0 H vs Q E hr h=>?_;obtain⟨hn,Ha,ds,hs,hv,q⟩:=h;refine⟨_,(hbody cdv hc A outer s0 H Ha E hr).o,Ha,ds.map Sl.sh++PY (N.length-ds.length) .no,?_,?_⟩
 .refine⟨bf.refl hs,wX hv,λi d e=>?_,λi j d d' hij e=>?_,?_,OX.none BA yY⟩
  .by_cases hi:i<ds.length
   .rw[P0 (by simpa using hi),Pp]at e
    cases q:ds[i]? with|none|some d'=>rw[q]at e;cases e
   .rw[Qc (by simpa using hi),Qn]at e
    split at e<;>cases e
  .by_cases hi:i<ds.length
   .rw[P0 (by simpa using hi),Pp]at e
    cases q:ds[i]? with|none|some d'=>rw[q]at e;cases e
   .rw[Qc (by simpa using hi),Qn]at e
    split at e<;>cases e
  .unfold L2.start
   have:=hv.length;simp only[P9,Pg,RD];omega
 .unfold bj at q
  cases e1:s (ds.map Sl.sh++PY (N.length-ds.length) .no) with
  |stuck|exn x=>rw[e1]at q;exact q
  |ok r=>
   rw[e1]at q;cases r with|nx ρ'=>exact λσ' H' Ha' _ h'=>q .non H' Ha' h'.g (aR.mpr rfl)|rt d=>exact λv H' Ha' g rp=>q v H' Ha' g rp|bk ρ'|ct ρ'=>exact q.elim
def Cj{P:Qe}{w:Qt}{K:Ph}{mg:Pq->Option Pb}{base:PR}{x qual:Pq}{st:Rv}{f:Pk}{fd:Qy}{N ps:ce}{k:Nat}{s:bi}(F:CK K x qual st f fd)(S:fS N ps (defScope st))
  (hbody:∀(cdv:Pb) (A:Qs) (outer:List QN) (s0:Pj) (H Ha:Hp) (E:XK),cV k (A.deeper (envOfC qual (defScope st) s0.heap.objs.size f cdv)) ->
   CH (pH CX0 P w K mg base N qual (defScope st) f cdv A outer s0 H E).nox E H Ha (defBody st) s):iu P w K mg base CX0 (k+1) f fd ps (spD K ps.length (bj N.length s)):=ra F S λcdv _=>hbody cdv
mutual
def cN:D->D->Bool
 |.non,.non=>true
 |.bl a,.bl b=>a==b
 |.bl a,.int b=>(if a then 1 else 0)==b
 |.int a,.bl b=>a==(if b then 1 else 0)
 |.int a,.int b=>a==b
 |.str a,.str b=>a==b
 |.tup xs,.tup ys=>eqDs xs ys
 |.lst xs,.lst ys=>eqDs xs ys
 |_,_=>false
def eqDs:ac->ac->Bool
 |[],[]=>true
 |x::xs,y::ys=>cN x y&&eqDs xs ys
 |_,_=>false
end
def bg:Nat->D->Bool
 |_,.non=>true
 |_,.bl _=>true
 |_,.int _=>true
 |_,.str _=>true
 |n+1,.tup ds=>ds.all (bg n)
 |n+1,.lst ds=>ds.all (bg n)
 |_,_=>false
def uU{ds:ac}(h:∀d∈ds,cN d d=true):eqDs ds ds=true:=by
 induction ds with
 |nil=>simp[eqDs]
 |cons d r ih=>
  unfold eqDs;rw[h d Pf,ih λx hx=>h x (Pc _ hx)];rfl
theorem nz:∀(n:Nat) (d:D),bg n d=true->cN d d=true
 |_,.non,_=>by simp[cN]
 |_,.bl b,_=>by simp[cN]
 |_,.int b,_=>by simp[cN]
 |_,.str b,_=>by simp[cN]
 |n+1,.tup ds,h=>by
  unfold bg at h;unfold cN;exact uU λd hd=>nz n d (Qi.mp h d hd)
 |n+1,.lst ds,h=>by
  unfold bg at h;unfold cN;exact uU λd hd=>nz n d (Qi.mp h d hd)
 |0,.tup ds,h=>by unfold bg at h;cases h
 |0,.lst ds,h=>by unfold bg at h;cases h
 |0,.dic ks ds,h=>by unfold bg at h;cases h
 |n+1,.dic ks ds,h=>by unfold bg at h;cases h
 |0,.exc x,h=>by unfold bg at h;cases h
 |0,.ob k x,h=>by unfold bg at h;cases h
 |n+1,.ob k x,h=>by unfold bg at h;cases h
 |n+1,.exc x,h=>by unfold bg at h;cases h
def Hw{xs ys:ac}:cN (.tup xs) (.tup ys)=eqDs xs ys:=by rw[cN]
def wc{xs ys:ac}:cN (.lst xs) (.lst ys)=eqDs xs ys:=by rw[cN]
theorem l4:∀(xs ys:ac),xs.length=ys.length->eqDs xs ys=(Qu xs.length).all λj=>cN (xs.getD j .non) (ys.getD j .non)
 |[],[],_=>by simp[eqDs]
 |x::xs,y::ys,h=>by
  have ih:=l4 xs ys (by simpa using h);unfold eqDs;rw[ih,PL,Tg,RT,UE];rfl
 |[],_::_,h=>by simp at h
 |_::_,[],h=>by simp at h
theorem sD:∀(xs ys:ac),xs.length≠ys.length->eqDs xs ys=false
 |[],[],h=>absurd rfl h
 |x::xs,y::ys,h=>by
  unfold eqDs;rw[sD xs ys (by simpa using h),Ul]
 |[],_::_,h=>by simp[eqDs]
 |_::_,[],h=>by simp[eqDs]
section
variable {X:Cx}{π:List (Pk×Obj)}{σ:L2.St}{H:Hp}{s:Pj}
def bo(I:Inv X π σ H s){ds:ac}{v:V}{u:Pb}(r:Rep X.K H (.tup ds) v)(rv:bh v u):∃a vs its,v=.ref a/\u=.ref a/\nV X.K H a vs/\Reps X.K H ds vs/\aY vs its/\IsTup s.heap a its.toArray/\ds.length=its.length:=by
 obtain⟨a,vs,rfl,h1,h2⟩:=aL.mp r;obtain rfl:u=Qm a:=rv;obtain⟨its,h3,h4,_⟩:=I.tuple h1;exact⟨a,vs,its,rfl,rfl,h1,h2,h3,h4,h2.length.trans h3.length⟩
def aX(I:Inv X π σ H s){ds:ac}{v:V}{u:Pb}(r:Rep X.K H (.lst ds) v)(rv:bh v u):∃a vs its,v=.ref a/\u=.ref a/\fk X.K H a vs/\Reps X.K H ds vs/\aY vs its/\s.heap.IsList a its.toArray/\ds.length=its.length:=by
 obtain⟨a,vs,rfl,h1,h2⟩:=aE.mp r;obtain rfl:u=Qm a:=rv;obtain⟨its,h3,h4,_⟩:=I.list h1;exact⟨a,vs,its,rfl,rfl,h1,h2,h3,h4.isList,h2.length.trans h3.length⟩
theorem qm{n:Nat}(ih:∀(d d':D) (v:V),bg n d=true->bg n d'=true->Rep X.K H d v->Rep X.K H d' v->d=d'):∀(ds ds':ac) (vs:ad),ds.all (bg n)=true->ds'.all (bg n)=true->Reps X.K H ds vs->Reps X.K H ds' vs->ds=ds'
 |[],ds',vs,_,_,h,h'=>by
  rw[Reps.nil_iff.mp h]at h';cases ds' with|nil=>rfl|cons d r=>obtain⟨_,_,e,_⟩:=az.mp h';cases e
 |d::ds,ds',vs,a,a',h,h'=>by
  obtain⟨v,r,rfl,h1,h2⟩:=az.mp h;cases ds' with
  |nil=>cases Reps.nil_iff.mp h'
  |cons d' ds'=>
   obtain⟨v',r',e,h1',h2'⟩:=az.mp h';cases e;rw[RT,PM]at a a';rw[ih d d' v a.1 a'.1 h1 h1',qm ih ds ds' r a.2 a'.2 h2 h2']
def Rep.inj(I:Inv X π σ H s):∀(n:Nat) (d d':D) (v:V),bg n d=true->bg n d'=true->Rep X.K H d v->Rep X.K H d' v->d=d':=by
 have atom:∀(n:Nat) (d d':D) (v:V),(∀ds,d≠.tup ds)->(∀ds,d≠.lst ds)->bg n d=true->bg n d'=true->Rep X.K H d v->Rep X.K H d' v->d=d':=by
  intro n d d' v n1 n2 s1 s2 h h';have nd:∀m ks ds,bg m (.dic ks ds)=true->False:=λm ks ds h=>by cases m<;>(unfold bg at h;cases h)
  have nx:∀m x,bg m (.exc x)=true->False:=λm x h=>by cases m<;>(unfold bg at h;cases h)
  have nb:∀m k x,bg m (.ob k x)=true->False:=λm k x h=>by cases m<;>(unfold bg at h;cases h)
  cases d with
  |tup ds=>exact absurd rfl (n1 ds)|lst ds=>exact absurd rfl (n2 ds)|dic ks ds=>exact(nd _ _ _ s1).elim|exc x=>exact(nx _ _ s1).elim|ob k x=>exact(nb _ _ _ s1).elim
  |non=>
   rw[aR.mp h]at h';cases d' with|non=>rfl|bl b=>cases aH.mp h'|int b=>cases ay.mp h'|str b=>cases Rep.str_iff.mp h'|tup ds=>obtain⟨_,_,e,_⟩:=aL.mp h';cases e|lst ds=>obtain⟨_,_,e,_⟩:=aE.mp h';cases e|dic ks ds=>exact(nd _ _ _ s2).elim|exc x=>exact(nx _ _ s2).elim|ob k x=>exact(nb _ _ _ s2).elim
  |bl x=>
   rw[aH.mp h]at h';cases d' with|non=>cases aR.mp h'|bl b=>cases aH.mp h';rfl|int b=>cases ay.mp h'|str b=>cases Rep.str_iff.mp h'|tup ds=>obtain⟨_,_,e,_⟩:=aL.mp h';cases e|lst ds=>obtain⟨_,_,e,_⟩:=aE.mp h';cases e|dic ks ds=>exact(nd _ _ _ s2).elim|exc x=>exact(nx _ _ s2).elim|ob k x=>exact(nb _ _ _ s2).elim
  |int x=>
   rw[ay.mp h]at h';cases d' with|non=>cases aR.mp h'|bl b=>cases aH.mp h'|int b=>cases ay.mp h';rfl|str b=>cases Rep.str_iff.mp h'|tup ds=>obtain⟨_,_,e,_⟩:=aL.mp h';cases e|lst ds=>obtain⟨_,_,e,_⟩:=aE.mp h';cases e|dic ks ds=>exact(nd _ _ _ s2).elim|exc x=>exact(nx _ _ s2).elim|ob k x=>exact(nb _ _ _ s2).elim
  |str x=>
   rw[Rep.str_iff.mp h]at h';cases d' with|non=>cases aR.mp h'|bl b=>cases aH.mp h'|int b=>cases ay.mp h'|str b=>cases Rep.str_iff.mp h';rfl|tup ds=>obtain⟨_,_,e,_⟩:=aL.mp h';cases e|lst ds=>obtain⟨_,_,e,_⟩:=aE.mp h';cases e|dic ks ds=>exact(nd _ _ _ s2).elim|exc x=>exact(nx _ _ s2).elim|ob k x=>exact(nb _ _ _ s2).elim
 intro n
 induction n with
 |zero=>
  intro d d' v s1 s2 h h';exact atom 0 d d' v (λds e=>by subst e;unfold bg at s1;cases s1) (λds e=>by subst e;unfold bg at s1;cases s1) s1 s2 h h'
 |succ n ih=>
  intro d d' v s1 s2 h h'
  by_cases t1:∃ds,d=.tup ds
  .obtain⟨ds,rfl⟩:=t1
   by_cases t2:∃ds',d'=.tup ds'
   .obtain⟨ds',rfl⟩:=t2
    obtain⟨a,vs,rfl,h1,h2⟩:=aL.mp h;obtain⟨a',vs',e,h1',h2'⟩:=aL.mp h';cases e;rw[I.tuple_inj h1' h1]at h2';unfold bg at s1 s2;rw[qm ih ds ds' vs s1 s2 h2 h2']
   .by_cases t3:∃ds',d'=.lst ds'
    .obtain⟨ds',rfl⟩:=t3
     obtain⟨a0,_,ev,_,_⟩:=aL.mp h;subst ev;obtain⟨a,vs,its,ea,_,h1,h2,h3,h4,_⟩:=bo I h rfl;cases ea;obtain⟨a',vs',its',e,_,h1',h2',h3',h4',_⟩:=aX I h' rfl;cases e;exact absurd rfl (Uy h4' h4)
    .exact(atom (n+1) d' _ v (λds e=>t2 ⟨ds,e⟩) (λds e=>t3 ⟨ds,e⟩) s2 s1 h' h).symm
  .by_cases t1':∃ds,d=.lst ds
   .obtain⟨ds,rfl⟩:=t1'
    by_cases t2:∃ds',d'=.lst ds'
    .obtain⟨ds',rfl⟩:=t2
     obtain⟨a,vs,rfl,h1,h2⟩:=aE.mp h;obtain⟨a',vs',e,h1',h2'⟩:=aE.mp h';cases e;rw[I.list_inj h1' h1]at h2';unfold bg at s1 s2;rw[qm ih ds ds' vs s1 s2 h2 h2']
    .by_cases t3:∃ds',d'=.tup ds'
     .obtain⟨ds',rfl⟩:=t3
      obtain⟨a0,_,ev,_,_⟩:=aE.mp h;subst ev;obtain⟨a,vs,its,ea,_,h1,h2,h3,h4,_⟩:=aX I h rfl;cases ea;obtain⟨a',vs',its',e,_,h1',h2',h3',h4',_⟩:=bo I h' rfl;cases e;exact absurd rfl (Uy h4 h4')
     .exact(atom (n+1) d' _ v (λds e=>t3 ⟨ds,e⟩) (λds e=>t2 ⟨ds,e⟩) s2 s1 h' h).symm
   .exact atom (n+1) d d' v (λds e=>t1 ⟨ds,e⟩) (λds e=>t1' ⟨ds,e⟩) s1 s2 h h'
def xN{n:Nat}{A:Qs}{xs ys:ac}{vs us:ad}{is js:List Pb}
  (ih:∀(x y:D) (v u:V) (a b:Pb),bg n x=true->bg n y=true->Rep X.K H x v->Rep X.K H y u->bh v a->bh u b->PV A.in1 s a b (cN x y))
  (sx:xs.all (bg n)=true)(sy:ys.all (bg n)=true)(rx:Reps X.K H xs vs)(ry:Reps X.K H ys us)(qx:aY vs is)(qy:aY us js) :
  ∀j (h1:j<is.toArray.size) (h2:j<js.toArray.size),PV A.in1 s is.toArray[j] js.toArray[j] (cN (xs.getD j .non) (ys.getD j .non)):=by
 intro j h1 h2;have lx:=rx.length;have ly:=ry.length;have kx:=qx.length;have ky:=qy.length;have h1':j<is.length:=by simpa using h1
 have h2':j<js.length:=by simpa using h2
 have hx:j<xs.length:=by omega
 have hy:j<ys.length:=by omega
 obtain⟨v,e1,r1⟩:=rx.get (Pd hx);obtain⟨u,e2,r2⟩:=ry.get (Pd hy);obtain⟨a,e3,r3⟩:=qx.get e1;obtain⟨b,e4,r4⟩:=qy.get e2;have ea:is.toArray[j]=a:=by
  rw[Pd h1']at e3;simpa using QF e3
 have eb:js.toArray[j]=b:=by
  rw[Pd h2']at e4;simpa using QF e4
 rw[ea,eb];have gx:xs.getD j .non=xs[j]:=by simp[List.getD,Pd hx]
 have gy:ys.getD j .non=ys[j]:=by simp[List.getD,Pd hy]
 rw[gx,gy];exact ih _ _ v u a b (Qi.mp sx _ (Rb hx)) (Qi.mp sy _ (Rb hy)) r1 r2 r3 r4
def xf(I:Inv X π σ H s){A:Qs}(hu:A.units<RY){x y:D}{v u:V}{a b:Pb}(rx:Rep X.K H x v)(ry:Rep X.K H y u)(qx:bh v a)(qy:bh u b)
  (n1:∀ds ds',¬(x=.lst ds/\y=.lst ds'))(n2:∀ds ds',¬(x=.tup ds/\y=.tup ds'))(d1:∀ks ds,x≠.dic ks ds)(d2:∀ks ds,y≠.dic ks ds)(x1:∀c,x≠.exc c)(x2:∀c,y≠.exc c)(o1:∀k c,x≠.ob k c)(o2:∀k c,y≠.ob k c) :
  P8 A s a b (cN x y)/\PV A s a b (cN x y)/\PU A s a b (!(cN x y)):=by
 cases x with
 |non=>
  cases y with
  |non=>
   obtain rfl:=aR.mp rx;obtain rfl:a=Q4:=qx;obtain rfl:=aR.mp ry;obtain rfl:b=Q4:=qy;unfold cN;exact⟨P8.none_none ,T4 _,PU.none_none ⟩
  |bl y=>
   obtain rfl:=aR.mp rx;obtain rfl:a=Q4:=qx;obtain rfl:=aH.mp ry;obtain rfl:b=QW _:=qy;unfold cN;exact⟨P8.none_bool _,PV.none_bool _,PU.none_bool _⟩
  |int y=>
   obtain rfl:=aR.mp rx;obtain rfl:a=Q4:=qx;obtain rfl:=ay.mp ry;obtain⟨ty,rfl⟩:∃t,b=Q9 _ t:=qy;unfold cN;exact⟨P8.none_int _ _,PV.none_int _ _,PU.none_int _ _⟩
  |str y=>
   obtain rfl:=aR.mp rx;obtain rfl:a=Q4:=qx;obtain rfl:=Rep.str_iff.mp ry;obtain⟨ty,rfl⟩:∃t,b=Q8 _ t:=qy;unfold cN;exact⟨P8.none_str _ _,PV.none_str _ _,PU.none_str _ _⟩
  |lst y=>
   obtain rfl:=aR.mp rx;obtain rfl:a=Q4:=qx;obtain⟨ly,_,_,rfl,rfl,_,_,_,hy,_⟩:=aX I ry qy;unfold cN;exact⟨P8.none_list  hy hu,PV.none_list  hy hu,PU.none_list  hy hu⟩
  |tup y=>
   obtain rfl:=aR.mp rx;obtain rfl:a=Q4:=qx;obtain⟨ly,_,_,rfl,rfl,_,_,_,hy,_⟩:=bo I ry qy;unfold cN;exact⟨P8.none_tuple  hy hu,PV.none_tuple  hy hu,PU.none_tuple  hy hu⟩
  |dic ks ds=>exact absurd rfl (d2 ks ds)|exc c=>exact absurd rfl (x2 c)|ob k c=>exact absurd rfl (o2 k c)
 |bl x=>
  cases y with
  |non=>
   obtain rfl:=aH.mp rx;obtain rfl:a=QW _:=qx;obtain rfl:=aR.mp ry;obtain rfl:b=Q4:=qy;unfold cN;exact⟨P8.bool_none _,PV.bool_none _,PU.bool_none _⟩
  |bl y=>
   obtain rfl:=aH.mp rx;obtain rfl:a=QW _:=qx;obtain rfl:=aH.mp ry;obtain rfl:b=QW _:=qy;unfold cN;exact⟨P8.bool_bool _ _,PV.bool_bool _ _,PU.bool_bool _ _⟩
  |int y=>
   obtain rfl:=aH.mp rx;obtain rfl:a=QW _:=qx;obtain rfl:=ay.mp ry;obtain⟨ty,rfl⟩:∃t,b=Q9 _ t:=qy;unfold cN;exact⟨P8.bool_int _ _ _,PV.bool_int _ _ _,PU.bool_int _ _ _⟩
  |str y=>
   obtain rfl:=aH.mp rx;obtain rfl:a=QW _:=qx;obtain rfl:=Rep.str_iff.mp ry;obtain⟨ty,rfl⟩:∃t,b=Q8 _ t:=qy;unfold cN;exact⟨P8.bool_str _ _ _,PV.bool_str _ _ _,PU.bool_str _ _ _⟩
  |lst y=>
   obtain rfl:=aH.mp rx;obtain rfl:a=QW _:=qx;obtain⟨ly,_,_,rfl,rfl,_,_,_,hy,_⟩:=aX I ry qy;unfold cN;exact⟨P8.bool_list _ hy hu,PV.bool_list _ hy hu,PU.bool_list _ hy hu⟩
  |tup y=>
   obtain rfl:=aH.mp rx;obtain rfl:a=QW _:=qx;obtain⟨ly,_,_,rfl,rfl,_,_,_,hy,_⟩:=bo I ry qy;unfold cN;exact⟨P8.bool_tuple _ hy hu,PV.bool_tuple _ hy hu,PU.bool_tuple _ hy hu⟩
  |dic ks ds=>exact absurd rfl (d2 ks ds)|exc c=>exact absurd rfl (x2 c)|ob k c=>exact absurd rfl (o2 k c)
 |int x=>
  cases y with
  |non=>
   obtain rfl:=ay.mp rx;obtain⟨tx,rfl⟩:∃t,a=Q9 _ t:=qx;obtain rfl:=aR.mp ry;obtain rfl:b=Q4:=qy;unfold cN;exact⟨P8.int_none _ _,PV.int_none _ _,PU.int_none _ _⟩
  |bl y=>
   obtain rfl:=ay.mp rx;obtain⟨tx,rfl⟩:∃t,a=Q9 _ t:=qx;obtain rfl:=aH.mp ry;obtain rfl:b=QW _:=qy;unfold cN;exact⟨P8.int_bool _ _ _,PV.int_bool _ _ _,PU.int_bool _ _ _⟩
  |int y=>
   obtain rfl:=ay.mp rx;obtain⟨tx,rfl⟩:∃t,a=Q9 _ t:=qx;obtain rfl:=ay.mp ry;obtain⟨ty,rfl⟩:∃t,b=Q9 _ t:=qy;unfold cN;exact⟨P8.int_int _ _ _ _,PV.int_int _ _ _ _,PU.int_int _ _ _ _⟩
  |str y=>
   obtain rfl:=ay.mp rx;obtain⟨tx,rfl⟩:∃t,a=Q9 _ t:=qx;obtain rfl:=Rep.str_iff.mp ry;obtain⟨ty,rfl⟩:∃t,b=Q8 _ t:=qy;unfold cN;exact⟨P8.int_str _ _ _ _,PV.int_str _ _ _ _,PU.int_str _ _ _ _⟩
  |lst y=>
   obtain rfl:=ay.mp rx;obtain⟨tx,rfl⟩:∃t,a=Q9 _ t:=qx;obtain⟨ly,_,_,rfl,rfl,_,_,_,hy,_⟩:=aX I ry qy;unfold cN;exact⟨P8.int_list _ _ hy hu,PV.int_list _ _ hy hu,PU.int_list _ _ hy hu⟩
  |tup y=>
   obtain rfl:=ay.mp rx;obtain⟨tx,rfl⟩:∃t,a=Q9 _ t:=qx;obtain⟨ly,_,_,rfl,rfl,_,_,_,hy,_⟩:=bo I ry qy;unfold cN;exact⟨P8.int_tuple _ _ hy hu,PV.int_tuple _ _ hy hu,PU.int_tuple _ _ hy hu⟩
  |dic ks ds=>exact absurd rfl (d2 ks ds)|exc c=>exact absurd rfl (x2 c)|ob k c=>exact absurd rfl (o2 k c)
 |str x=>
  cases y with
  |non=>
   obtain rfl:=Rep.str_iff.mp rx;obtain⟨tx,rfl⟩:∃t,a=Q8 _ t:=qx;obtain rfl:=aR.mp ry;obtain rfl:b=Q4:=qy;unfold cN;exact⟨P8.str_none _ _,PV.str_none _ _,PU.str_none _ _⟩
  |bl y=>
   obtain rfl:=Rep.str_iff.mp rx;obtain⟨tx,rfl⟩:∃t,a=Q8 _ t:=qx;obtain rfl:=aH.mp ry;obtain rfl:b=QW _:=qy;unfold cN;exact⟨P8.str_bool _ _ _,PV.str_bool _ _ _,PU.str_bool _ _ _⟩
  |int y=>
   obtain rfl:=Rep.str_iff.mp rx;obtain⟨tx,rfl⟩:∃t,a=Q8 _ t:=qx;obtain rfl:=ay.mp ry;obtain⟨ty,rfl⟩:∃t,b=Q9 _ t:=qy;unfold cN;exact⟨P8.str_int _ _ _ _,PV.str_int _ _ _ _,PU.str_int _ _ _ _⟩
  |str y=>
   obtain rfl:=Rep.str_iff.mp rx;obtain⟨tx,rfl⟩:∃t,a=Q8 _ t:=qx;obtain rfl:=Rep.str_iff.mp ry;obtain⟨ty,rfl⟩:∃t,b=Q8 _ t:=qy;unfold cN;exact⟨P8.str_str _ _ _ _,PV.str_str _ _ _ _,PU.str_str _ _ _ _⟩
  |lst y=>
   obtain rfl:=Rep.str_iff.mp rx;obtain⟨tx,rfl⟩:∃t,a=Q8 _ t:=qx;obtain⟨ly,_,_,rfl,rfl,_,_,_,hy,_⟩:=aX I ry qy;unfold cN;exact⟨P8.str_list _ _ hy hu,PV.str_list _ _ hy hu,PU.str_list _ _ hy hu⟩
  |tup y=>
   obtain rfl:=Rep.str_iff.mp rx;obtain⟨tx,rfl⟩:∃t,a=Q8 _ t:=qx;obtain⟨ly,_,_,rfl,rfl,_,_,_,hy,_⟩:=bo I ry qy;unfold cN;exact⟨P8.str_tuple _ _ hy hu,PV.str_tuple _ _ hy hu,PU.str_tuple _ _ hy hu⟩
  |dic ks ds=>exact absurd rfl (d2 ks ds)|exc c=>exact absurd rfl (x2 c)|ob k c=>exact absurd rfl (o2 k c)
 |lst x=>
  cases y with
  |non=>
   obtain⟨lx,_,_,rfl,rfl,_,_,_,hx,_⟩:=aX I rx qx;obtain rfl:=aR.mp ry;obtain rfl:b=Q4:=qy;unfold cN;exact⟨P8.list_none  hx hu,PV.list_none  hx hu,PU.list_none  hx hu⟩
  |bl y=>
   obtain⟨lx,_,_,rfl,rfl,_,_,_,hx,_⟩:=aX I rx qx;obtain rfl:=aH.mp ry;obtain rfl:b=QW _:=qy;unfold cN;exact⟨P8.list_bool _ hx hu,PV.list_bool _ hx hu,PU.list_bool _ hx hu⟩
  |int y=>
   obtain⟨lx,_,_,rfl,rfl,_,_,_,hx,_⟩:=aX I rx qx;obtain rfl:=ay.mp ry;obtain⟨ty,rfl⟩:∃t,b=Q9 _ t:=qy;unfold cN;exact⟨P8.list_int _ _ hx hu,PV.list_int _ _ hx hu,PU.list_int _ _ hx hu⟩
  |str y=>
   obtain⟨lx,_,_,rfl,rfl,_,_,_,hx,_⟩:=aX I rx qx;obtain rfl:=Rep.str_iff.mp ry;obtain⟨ty,rfl⟩:∃t,b=Q8 _ t:=qy;unfold cN;exact⟨P8.list_str _ _ hx hu,PV.list_str _ _ hx hu,PU.list_str _ _ hx hu⟩
  |lst y=>
   exact absurd ⟨rfl,rfl⟩ (n1 x y)
  |tup y=>
   obtain⟨lx,_,_,rfl,rfl,_,_,_,hx,_⟩:=aX I rx qx;obtain⟨ly,_,_,rfl,rfl,_,_,_,hy,_⟩:=bo I ry qy;unfold cN;exact⟨P8.list_tuple  hx hy hu,PV.list_tuple  hx hy hu,PU.list_tuple  hx hy hu⟩
  |dic ks ds=>exact absurd rfl (d2 ks ds)|exc c=>exact absurd rfl (x2 c)|ob k c=>exact absurd rfl (o2 k c)
 |tup x=>
  cases y with
  |non=>
   obtain⟨lx,_,_,rfl,rfl,_,_,_,hx,_⟩:=bo I rx qx;obtain rfl:=aR.mp ry;obtain rfl:b=Q4:=qy;unfold cN;exact⟨P8.tuple_none  hx hu,PV.tuple_none  hx hu,PU.tuple_none  hx hu⟩
  |bl y=>
   obtain⟨lx,_,_,rfl,rfl,_,_,_,hx,_⟩:=bo I rx qx;obtain rfl:=aH.mp ry;obtain rfl:b=QW _:=qy;unfold cN;exact⟨P8.tuple_bool _ hx hu,PV.tuple_bool _ hx hu,PU.tuple_bool _ hx hu⟩
  |int y=>
   obtain⟨lx,_,_,rfl,rfl,_,_,_,hx,_⟩:=bo I rx qx;obtain rfl:=ay.mp ry;obtain⟨ty,rfl⟩:∃t,b=Q9 _ t:=qy;unfold cN;exact⟨P8.tuple_int _ _ hx hu,PV.tuple_int _ _ hx hu,PU.tuple_int _ _ hx hu⟩
  |str y=>
   obtain⟨lx,_,_,rfl,rfl,_,_,_,hx,_⟩:=bo I rx qx;obtain rfl:=Rep.str_iff.mp ry;obtain⟨ty,rfl⟩:∃t,b=Q8 _ t:=qy;unfold cN;exact⟨P8.tuple_str _ _ hx hu,PV.tuple_str _ _ hx hu,PU.tuple_str _ _ hx hu⟩
  |lst y=>
   obtain⟨lx,_,_,rfl,rfl,_,_,_,hx,_⟩:=bo I rx qx;obtain⟨ly,_,_,rfl,rfl,_,_,_,hy,_⟩:=aX I ry qy;unfold cN;exact⟨P8.tuple_list  hx hy hu,PV.tuple_list  hx hy hu,PU.tuple_list  hx hy hu⟩
  |tup y=>
   exact absurd ⟨rfl,rfl⟩ (n2 x y)
  |dic ks ds=>exact absurd rfl (d2 ks ds)|exc c=>exact absurd rfl (x2 c)|ob k c=>exact absurd rfl (o2 k c)
 |dic ks ds=>exact absurd rfl (d1 ks ds)
 |exc c=>exact absurd rfl (x1 c)
 |ob k c=>exact absurd rfl (o1 k c)
def JA(I:Inv X π σ H s):∀(n:Nat) (A:Qs),A.units+n<RY->∀(x y:D) (v u:V) (a b:Pb),bg n x=true->bg n y=true->Rep X.K H x v->Rep X.K H y u->bh v a->bh u b ->
  P8 A s a b (cN x y)/\PV A s a b (cN x y)/\PU A s a b (!(cN x y)):=by
 have nd:∀m ks ds,bg m (.dic ks ds)=true->False:=λm ks ds h=>by cases m<;>(unfold bg at h;cases h)
 have nx:∀m x,bg m (.exc x)=true->False:=λm x h=>by cases m<;>(unfold bg at h;cases h)
 have nb:∀m k x,bg m (.ob k x)=true->False:=λm k x h=>by cases m<;>(unfold bg at h;cases h)
 intro n
 induction n with
 |zero=>
  intro A hu x y v u a b sx sy rx ry qa qb;refine xf I (by omega) rx ry qa qb (λds ds' z=>?_) (λds ds' z=>?_) (λks ds z=>?_) (λks ds z=>?_) (λc z=>nx _ _ (z▸sx)) (λc z=>nx _ _ (z▸sy)) (λk c z=>nb _ _ _ (z▸sx)) (λk c z=>nb _ _ _ (z▸sy))
  .rw[z.1]at sx;unfold bg at sx;cases sx
  .rw[z.1]at sx;unfold bg at sx;cases sx
  .rw[z]at sx;exact nd _ _ _ sx
  .rw[z]at sy;exact nd _ _ _ sy
 |succ n ih=>
  intro A hu x y v u a b sx sy rx ry qa qb;have ih':∀(x y:D) (v u:V) (a b:Pb),bg n x=true->bg n y=true->Rep X.K H x v->Rep X.K H y u->bh v a->bh u b->PV A.in1 s a b (cN x y) :=
   λx y v u a b s1 s2 r1 r2 q1 q2=>(ih A.in1 (by show A.units+1+n<RY;omega) x y v u a b s1 s2 r1 r2 q1 q2).2.1
  by_cases t1:∃ds ds',x=.tup ds/\y=.tup ds'
  .obtain⟨xs,ys,rfl,rfl⟩:=t1
   obtain⟨l,vs,is,rfl,rfl,h1,h2,h3,h4,h5⟩:=bo I rx qa;obtain⟨m,us,js,rfl,rfl,k1,k2,k3,k4,k5⟩:=bo I ry qb;have hsx:=sx;have hsy:=sy;unfold bg at sx sy;have each:=xN (A:=A) ih' sx sy h2 k2 h3 k3;have eall:cN (.tup xs) (.tup ys)=((Qu (min is.toArray.size js.toArray.size)).all (λj=>cN (xs.getD j .non) (ys.getD j .non))&&is.toArray.size==js.toArray.size):=by
    rw[Hw];simp only[PJ,←h5,←k5]
    by_cases hl:xs.length=ys.length
    .rw[l4 xs ys hl,←hl,Nat.min_self,beq_self_eq_true,Bool.and_true]
    .rw[sD xs ys hl,beq_eq_false_iff_ne.mpr hl,Ul]
   refine⟨?_,?_,?_⟩
   .rw[eall];exact P8.tuples h4 k4 (by omega) each
   .by_cases hlm:l=m
    .subst hlm
     rw[Rep.inj I (n+1) _ _ _ hsx hsy rx ry,nz (n+1) _ hsy];exact T4 _
    .refine Tw hlm ?_
     rw[eall];exact P8.tuples h4 k4 (by omega) each
   .rw[eall];exact PU.tuples h4 k4 (by omega) each
  .by_cases t2:∃ds ds',x=.lst ds/\y=.lst ds'
   .obtain⟨xs,ys,rfl,rfl⟩:=t2
    obtain⟨l,vs,is,rfl,rfl,h1,h2,h3,h4,h5⟩:=aX I rx qa;obtain⟨m,us,js,rfl,rfl,k1,k2,k3,k4,k5⟩:=aX I ry qb;have hsx:=sx;have hsy:=sy;unfold bg at sx sy;have each:=xN (A:=A) ih' sx sy h2 k2 h3 k3
    by_cases hl:xs.length=ys.length
    .have hsz:is.toArray.size=js.toArray.size:=by simp only[PJ];omega
     have eall:cN (.lst xs) (.lst ys)=(Qu is.toArray.size).all (λj=>cN (xs.getD j .non) (ys.getD j .non)):=by
      rw[wc];simp only[PJ,←h5];exact l4 xs ys hl
     refine⟨?_,?_,?_⟩
     .rw[eall];exact P8.lists h4 k4 hsz (by omega) each
     .by_cases hlm:l=m
      .subst hlm
       rw[Rep.inj I (n+1) _ _ _ hsx hsy rx ry,nz (n+1) _ hsy];exact T4 _
      .refine Tw hlm ?_
       rw[eall];exact P8.lists h4 k4 hsz (by omega) each
     .rw[eall];exact PU.lists h4 k4 hsz (by omega) each
    .have hsz:(is.toArray.size != js.toArray.size)=true:=by simp only[PJ,bne_iff_ne,ne_eq];omega
     have eall:cN (.lst xs) (.lst ys)=false:=by rw[wc];exact sD xs ys hl
     rw[eall];refine⟨Up h4 k4 hsz (by omega),?_,PU.lists_lengths h4 k4 hsz (by omega)⟩;refine Tw (λe=>?_) (Up h4 k4 hsz (by omega));subst e;have:=Rep.inj I (n+1) _ _ _ hsx hsy rx ry;cases this;exact hl rfl
   .exact xf I (by omega) rx ry qa qb (λds ds' z=>t2 ⟨ds,ds',z⟩) (λds ds' z=>t1 ⟨ds,ds',z⟩) (λks ds z=>by rw[z]at sx;exact nd _ _ _ sx) (λks ds z=>by rw[z]at sy;exact nd _ _ _ sy) (λc z=>nx _ _ (z▸sx)) (λc z=>nx _ _ (z▸sy)) (λk c z=>nb _ _ _ (z▸sx)) (λk c z=>nb _ _ _ (z▸sy))
end
section
variable {X:Cx}{E:XK}
def ij(x y:D):au D:=if bg 40 x=true/\bg 40 y=true then .ok (.bl (cN x y)) else .stuck
def jh(x y:D):au D:=if bg 40 x=true/\bg 40 y=true then .ok (.bl (!(cN x y))) else .stuck
def L9(K:Ph):R2:=λv u H Q=>∃x y,Rep K H x v/\Rep K H y u/\bg 40 x=true/\bg 40 y=true/\Q (.bl (cN x y)) H
def L4(K:Ph):R2:=λv u H Q=>∃x y,Rep K H x v/\Rep K H y u/\bg 40 x=true/\bg 40 y=true/\Q (.bl (!(cN x y))) H
def dG(hu:X.A.units+64<RY):fR X (Qv .Eq) (L9 X.K):=by
 intro π s σ H x y v u Q I rx ry h;obtain⟨d,d',h1,h2,s1,s2,q⟩:=h;exact(JA I 40 X.A (by omega) d d' x y v u s1 s2 h1 h2 rx ry).1 _ _ _ _ ⟨.bl _,H,I,rfl,q⟩
def eQ(hu:X.A.units+64<RY):fR X (Qv .NotEq) (L4 X.K):=by
 intro π s σ H x y v u Q I rx ry h;obtain⟨d,d',h1,h2,s1,s2,q⟩:=h;exact(JA I 40 X.A (by omega) d d' x y v u s1 s2 h1 h2 rx ry).2.2 _ _ _ _ ⟨.bl _,H,I,rfl,q⟩
def fZ:yJ X.K E (L9 X.K) ij:=by
 intro x y v u H Ha Q hs r1 r2 q;unfold ij at q
 by_cases c:bg 40 x=true/\bg 40 y=true
 .rw[if_pos c]at q
  exact⟨x,y,r1.mono hs,r2.mono hs,c.1,c.2,q _ H Ha (bf.refl hs) (aH.mpr rfl)⟩
 .rw[if_neg c]at q;exact q.elim
def iy:yJ X.K E (L4 X.K) jh:=by
 intro x y v u H Ha Q hs r1 r2 q;unfold jh at q
 by_cases c:bg 40 x=true/\bg 40 y=true
 .rw[if_pos c]at q
  exact⟨x,y,r1.mono hs,r2.mono hs,c.1,c.2,q _ H Ha (bf.refl hs) (aH.mpr rfl)⟩
 .rw[if_neg c]at q;exact q.elim
open Classical in
noncomputable def lC(K:Ph) (H:Hp) (ds:ac) (x:D) (u:Pb):Bool :=
 if h:∃d,d∈ds/\∃v,Rep K H d v/\bh v u then cN h.choose x else false
def A4{π:List (Pk×Obj)}{σ:L2.St}{H:Hp}{s:Pj}(I:Inv X π σ H s){ds:ac}{x d:D}{v:V}{u:Pb}(sd:ds.all (bg 40)=true)(hd:d∈ds)(r:Rep X.K H d v)(q:bh v u):lC X.K H ds x u=cN d x:=by
 have h:∃d,d∈ds/\∃v,Rep X.K H d v/\bh v u:=⟨d,hd,v,r,q⟩
 unfold lC;rw[dif_pos h];obtain⟨h1,v',h2,h3⟩:=h.choose_spec;have e:v'=v:=h3.inj q;subst e;rw[Rep.inj I 40 _ _ _ (Qi.mp sd _ h1) (Qi.mp sd _ hd) h2 r]
def zc(K:Ph)(neg:Bool):R2:=λv u H Q=>∃x ds,Rep K H x v/\(Rep K H (.lst ds) u∨Rep K H (.tup ds) u)/\bg 40 x=true/\ds.all (bg 40)=true/\Q (.bl (if neg then !(ds.any λd=>cN d x) else ds.any λd=>cN d x)) H
theorem kQ{π:List (Pk×Obj)}{σ:L2.St}{H:Hp}{s:Pj}(I:Inv X π σ H s){x:D}{es:ac}(se:es.all (bg 40)=true):∀{ds:ac}{vs:ad}{us:List Pb},(∀d∈ds,d∈es)->Reps X.K H ds vs->aY vs us->us.any (lC X.K H es x)=ds.any λd=>cN d x
 |[],_,_,_,h,q=>by
  rw[Reps.nil_iff.mp h]at q;cases q;rfl
 |d::ds,_,_,hm,h,q=>by
  obtain⟨v,r,rfl,h1,h2⟩:=az.mp h;cases q with
  |cons q1 q2=>
   rw[RI,RI,A4 I se (hm d Pf) h1 q1,kQ I se (λx hx=>hm x (Pc _ hx)) h2 q2]
theorem jc{π:List (Pk×Obj)}{σ:L2.St}{H:Hp}{s:Pj}(I:Inv X π σ H s)(hu:X.A.units+64<RY){x:D}{v:V}{u:Pb}(sx:bg 40 x=true)(rx:Rep X.K H x v)(qx:bh v u){es:ac}(se:es.all (bg 40)=true):∀{ds:ac}{vs:ad}{us:List Pb},(∀d∈ds,d∈es)->Reps X.K H ds vs->aY vs us->∀y∈us,PV X.A.in1 s y u (lC X.K H es x y)
 |[],_,_,_,h,q=>λy hy=>by
  rw[Reps.nil_iff.mp h]at q;cases q;cases hy
 |d::ds,_,_,hm,h,q=>λy hy=>by
  obtain⟨w,r,rfl,h1,h2⟩:=az.mp h;cases q with
  |cons q1 q2=>
   rcases Pr.mp hy with rfl|hy
   .rw[A4 I se (hm d Pf) h1 q1]
    exact(JA I 40 X.A.in1 (by show X.A.units+1+40<RY;omega) d x w v _ u (Qi.mp se _ (hm d Pf)) sx h1 rx q1 qx).2.1
   .exact jc I hu sx rx qx se (λx hx=>hm x (Pc _ hx)) h2 q2 y hy
def J4(hu:X.A.units+64<RY):fR X (Qv .In) (zc X.K false):=by
 intro π s σ H x y v u Q I rx ry h;obtain⟨d,ds,h1,h2,s1,s2,q⟩:=h;rcases h2 with h2|h2
 .obtain⟨a,vs,its,rfl,rfl,k1,k2,k3,k4,k5⟩:=aX I h2 ry
  refine SeqAt.in_listAt (lC X.K H ds d) k4 (λw hw=>jc I hu s1 h1 rx s2 (λ_ z=>z) k2 k3 w (by simpa using hw)) ⟨.bl _,H,I,rfl,?_⟩;rw[show its.toArray.any (lC X.K H ds d)=its.any (lC X.K H ds d) by simp,kQ I s2 (λ_ z=>z) k2 k3];exact q
 .obtain⟨a,vs,its,rfl,rfl,k1,k2,k3,k4,k5⟩:=bo I h2 ry
  refine SeqAt.in_tupleAt (lC X.K H ds d) k4 (λw hw=>jc I hu s1 h1 rx s2 (λ_ z=>z) k2 k3 w (by simpa using hw)) ⟨.bl _,H,I,rfl,?_⟩;rw[show its.toArray.any (lC X.K H ds d)=its.any (lC X.K H ds d) by simp,kQ I s2 (λ_ z=>z) k2 k3];exact q
def BO(hu:X.A.units+64<RY):fR X (Qv .NotIn) (zc X.K true):=by
 intro π s σ H x y v u Q I rx ry h;obtain⟨d,ds,h1,h2,s1,s2,q⟩:=h;rcases h2 with h2|h2
 .obtain⟨a,vs,its,rfl,rfl,k1,k2,k3,k4,k5⟩:=aX I h2 ry
  refine SeqAt.notIn_listAt (lC X.K H ds d) k4 (λw hw=>jc I hu s1 h1 rx s2 (λ_ z=>z) k2 k3 w (by simpa using hw)) ⟨.bl _,H,I,rfl,?_⟩;rw[show its.toArray.any (lC X.K H ds d)=its.any (lC X.K H ds d) by simp,kQ I s2 (λ_ z=>z) k2 k3];exact q
 .obtain⟨a,vs,its,rfl,rfl,k1,k2,k3,k4,k5⟩:=bo I h2 ry
  refine SeqAt.notIn_tupleAt (lC X.K H ds d) k4 (λw hw=>jc I hu s1 h1 rx s2 (λ_ z=>z) k2 k3 w (by simpa using hw)) ⟨.bl _,H,I,rfl,?_⟩;rw[show its.toArray.any (lC X.K H ds d)=its.any (lC X.K H ds d) by simp,kQ I s2 (λ_ z=>z) k2 k3];exact q
def Nb(i j:Pq):Bool:=!(Td j i 0 j.length 1).isEmpty
noncomputable def Cd(x y:D):Option Bool:=match y with
 |.lst ds=>if bg 40 x=true/\ds.all (bg 40)=true then some (ds.any λd=>cN d x) else none
 |.tup ds=>if bg 40 x=true/\ds.all (bg 40)=true then some (ds.any λd=>cN d x) else none
 |.str j=>match x with
  |.str i=>some (Nb i j)
  |_=>none
 |_=>none
def pG(x y:D):au D:=match Cd x y with
 |some b=>.ok (.bl b)
 |none=>.stuck
def bA(x y:D):au D:=match Cd x y with
 |some b=>.ok (.bl (!b))
 |none=>.stuck
def DX(neg:Bool):R2:=λx y H Q=>∃i j,x=.str i/\y=.str j/\Q (.bl (if neg then !(Nb i j) else Nb i j)) H
def lI(hu:X.A.units+64<RY):fR X (Qv .In) (λv u H Q=>zc X.K false v u H Q∨DX false v u H Q):=fR.or (J4 hu) (by
 intro π s σ H x y v u Q I rx ry h;obtain⟨i,j,rfl,rfl,q⟩:=h;exact BP π s σ H _ _ v u Q I rx ry ⟨i,j,rfl,rfl,q⟩)
def dF(hu:X.A.units+64<RY):fR X (Qv .NotIn) (λv u H Q=>zc X.K true v u H Q∨DX true v u H Q):=fR.or (BO hu) (by
 intro π s σ H x y v u Q I rx ry h;obtain⟨i,j,rfl,rfl,q⟩:=h;exact vK π s σ H _ _ v u Q I rx ry ⟨i,j,rfl,rfl,q⟩)
def xu{neg:Bool}{x y:D}{v u:V}{H Ha:Hp}{Q:VK}(hs:aD Ha H)(r1:Rep X.K Ha x v)(r2:Rep X.K Ha y u)
  (q:post X.K E H Ha (match Cd x y with|some b=>.ok (.bl (if neg then !b else b))|none=>.stuck) Q):zc X.K neg v u H Q∨DX neg v u H Q:=by
 cases y with
 |lst ds=>
  simp only[Cd]at q
  by_cases c:bg 40 x=true/\ds.all (bg 40)=true
  .rw[if_pos c]at q
   exact .inl ⟨x,ds,r1.mono hs,.inl (r2.mono hs),c.1,c.2,q _ H Ha (bf.refl hs) (aH.mpr rfl)⟩
  .rw[if_neg c]at q;exact q.elim
 |tup ds=>
  simp only[Cd]at q
  by_cases c:bg 40 x=true/\ds.all (bg 40)=true
  .rw[if_pos c]at q
   exact .inl ⟨x,ds,r1.mono hs,.inr (r2.mono hs),c.1,c.2,q _ H Ha (bf.refl hs) (aH.mpr rfl)⟩
  .rw[if_neg c]at q;exact q.elim
 |str j=>
  cases x with|str i=>exact .inr ⟨i,j,Rep.str_iff.mp r1,Rep.str_iff.mp r2,q _ H Ha (bf.refl hs) (aH.mpr rfl)⟩| _=>exact q.elim
 |_=>exact q.elim
def lJ:yJ X.K E (λv u H Q=>zc X.K false v u H Q∨DX false v u H Q) pG:=λx y v u H Ha Q hs r1 r2 q=>xu (neg:=false) (E:=E) hs r1 r2 (by
 unfold pG at q;cases e:Cd x y with
 |none=>rw[e]at q;exact q
 |some b=>rw[e]at q;exact q)
def dH:yJ X.K E (λv u H Q=>zc X.K true v u H Q∨DX true v u H Q) bA:=λx y v u H Ha Q hs r1 r2 q=>xu (neg:=true) (E:=E) hs r1 r2 (by
 unfold bA at q;cases e:Cd x y with
 |none=>rw[e]at q;exact q
 |some b=>rw[e]at q;exact q)
end
@[irreducible] def B9:Nat:=2 ^ 9000
@[irreducible] def pK:Nat:=2 ^ 13500
@[irreducible] def nU:Nat:=2 ^ 60000
theorem FE:B9=2 ^ 9000:=by unfold B9;rfl
def jJ:pK=2 ^ 13500:=by unfold pK;rfl
def oK:nU=2 ^ 60000:=by unfold nU;rfl
def qQ{n k:Nat}(h:n<2 ^ k)(hk:0<k):n.log2<k:=by
 by_cases h0:n=0
 .rw[h0]
  have:Nat.log2 0=0:=by decide
  omega
 .exact(Nat.log2_lt h0).mpr h
def Mr{x y:Int}(h:y.natAbs<B9):RS x y=false:=by
 rw[FE]at h;exact PyProof.noPylong_of_log2 (qQ h (by omega))
def J8{x y:Int}(h:x.natAbs<pK):RS x y=false:=by
 rw[jJ]at h;have hx:x.natAbs.log2<13500:=qQ h (by omega);show(decide ((if y==0 then 0 else y.natAbs.log2 / 30+1) > 300)&&decide ((if x==0 then 0 else x.natAbs.log2 / 30+1) > (if y==0 then 0 else y.natAbs.log2 / 30+1)+150))=false;have k:(if x==0 then 0 else x.natAbs.log2 / 30+1)<=450:=by
  by_cases hx0:(x==0)=true
  .rw[if_pos hx0];omega
  .rw[if_neg hx0];omega
 by_cases c:(if y==0 then 0 else y.natAbs.log2 / 30+1) > 300
 .rw[UN];right;exact decide_eq_false (by omega)
 .rw[UN];left;exact decide_eq_false c
def gk(i j:Int):Bool:=decide (j≠0)&&(decide (j.natAbs<B9)||decide (i.natAbs<pK))
def dg(i j:Int):Bool:=decide (i.natAbs<nU)&&decide (j.natAbs<nU)
def gk.ok{i j:Int}(h:gk i j=true):j≠0/\RS i j=false:=by
 unfold gk at h;rw[PM,T7]at h;refine⟨of_decide_eq_true h.1,?_⟩;rcases h.2 with h|h
 .exact Mr (of_decide_eq_true h)
 .exact J8 (of_decide_eq_true h)
def dg.ok{i j:Int}(h:dg i j=true):IntMulOk i j:=by
 unfold dg at h;rw[PM]at h;have h1:=of_decide_eq_true h.1;have h2:=of_decide_eq_true h.2;rw[oK]at h1 h2;exact PyProof.Rows.mulOk_of_bits (m:=60000) (n:=60000) (US.mpr h1) (US.mpr h2) (by decide)
section
variable {X:Cx}{E:XK}{e a b c:Qa}{es:List Qa}{f g k:am}{fa:Ev->au (ac)}{pos:Pos}
def bL{K:Ph}{H Ha:Hp}{d:D}{v:V}{Q:VK}(hs:aD Ha H)(q:post K E H Ha (.ok d) Q)(r:Rep K Ha d v):Q v H:=q v H Ha (bf.refl hs) r
def vZ(c:Int->Int->Bool)(g:Int->Int->D)(x y:D):au D:=match x,y with
 |.int i,.int j=>if c i j=true then .ok (g i j) else .stuck
 |_,_=>.stuck
def vR{C:Int->Int->Prop}{c:Int->Int->Bool}{gv:Int->Int->V}{g:Int->Int->D}(hc:∀i j,c i j=true->C i j)(hg:∀K H i j,Rep K H (g i j) (gv i j)):yJ X.K E (rI C gv) (vZ c g):=by
 intro x y v u H Ha Q hs r1 r2 q;unfold vZ at q;cases x with
 |int i=>
  cases y with
  |int j=>
   by_cases h:c i j=true
   .simp only[if_pos h]at q
    exact⟨i,j,ay.mp r1,ay.mp r2,hc i j h,bL hs q (hg _ _ i j)⟩
   .simp only[if_neg h]at q;exact q.elim
  |_=>exact q.elim
 |_=>exact q.elim
def cY{gv:Int->Int->V}{g:Int->Int->D}(hg:∀K H i j,Rep K H (g i j) (gv i j)):yJ X.K E (DY gv) (vZ (λ_ _=>true) g):=by
 intro x y v u H Ha Q hs r1 r2 q;unfold vZ at q;cases x with
 |int i=>
  cases y with|int j=>simp only[if_pos]at q;exact⟨i,j,ay.mp r1,ay.mp r2,bL hs q (hg _ _ i j)⟩| _=>exact q.elim
 |_=>exact q.elim
def ri{K:Ph}{H:Hp}(n:Int):Rep K H (.int n) (.int n):=ay.mpr rfl
def rb{K:Ph}{H:Hp}(n:Bool):Rep K H (.bl n) (.bl n):=aH.mpr rfl
abbrev gJ:=vZ (λ_ _=>true) λi j=>.int (i-j)
abbrev jz:=vZ gk λi j=>.int (i.fdiv j)
abbrev cn:=vZ (λ_ j=>decide (j≠0)) λi j=>.int (i.fmod j)
abbrev jU:=vZ (λi j=>decide (0<=j)&&decide (j<=1000000)&&decide (i.natAbs<18446744073709551616)) λi j=>.int (i ^ j.toNat)
abbrev KY:=vZ (λ_ _=>true) λi j=>.bl (decide (i<j))
abbrev HJ:=vZ (λ_ _=>true) λi j=>.bl (decide (i<=j))
abbrev yO:=vZ (λ_ _=>true) λi j=>.bl (decide (j<i))
abbrev MT:=vZ (λ_ _=>true) λi j=>.bl (decide (j<=i))
def GS:fR X (binaryOp .Mult) (rI IntMulOk λi j=>.int (i*j)):=Mo λ_ _ _ _ _ _ _ hc q=>mul_int q hc
def GV:fR X (binaryOp .FloorDiv) (rI (λi j=>j≠0/\RS i j=false) λi j=>.int (i.fdiv j)):=Mo λ_ _ _ _ _ _ _ hc q=>floordiv_int hc.1 q (.inl hc.2)
def ou(ha:DE X E a f)(hb:DE X E b g):DE X E (.BinOp a .Sub b pos) (aa f g gJ):=oW JY (cY λ_ _ _ _=>ri _) ha hb
def kE(ha:DE X E a f)(hb:DE X E b g):DE X E (.BinOp a .FloorDiv b pos) (aa f g jz):=oW GV (vR (λ_ _ h=>gk.ok h) λ_ _ _ _=>ri _) ha hb
def cP(ha:DE X E a f)(hb:DE X E b g):DE X E (.BinOp a .Mod b pos) (aa f g cn):=oW GU (vR (λ_ _ h=>of_decide_eq_true h) λ_ _ _ _=>ri _) ha hb
def oy(ha:DE X E a f)(hb:DE X E b g):DE X E (.BinOp a .Pow b pos) (aa f g jU):=oW J3 (vR (λi j h=>by
 rw[PM,PM]at h;exact⟨of_decide_eq_true h.1.1,of_decide_eq_true h.1.2,of_decide_eq_true h.2⟩) λ_ _ _ _=>ri _) ha hb
def nm{op:CmpOp}{b:Qa}(h1:op≠.In:=by decide)(h2:op≠.NotIn:=by decide):behindInMarks op b=false:=Es _ h1 h2
def jV(x:D):au D:=match x with
 |.int i=>.ok (.int (-i))
 |_=>.stuck
def sF(ha:DE X E a f):DE X E (.UnaryOp .USub a pos) (aS f jV):=MP Jc (by
 intro x v H Ha Q hs r q;cases x with
 |int i=>exact⟨i,ay.mp r,bL hs q (ri _)⟩
 |_=>exact q.elim) ha
def AJ:fR X (binaryOp .Add) (λx y H Q=>∃l b xs zs,x=.ref l/\y=.ref b/\fk X.K H l xs/\fk X.K H b zs/\xs.length+zs.length<=sizeLine/\∀p,H p=none->Q (.ref p) (upd H p (.lst (xs++zs)))):=by
 intro π s σ H x y v u Q I rx ry h;obtain⟨l,b,xs,zs,rfl,rfl,hH,hB,hz,q⟩:=h;cases rx;cases ry;obtain⟨its,r,pl,z⟩:=I.list hH;obtain⟨its2,r2,pl2,z2⟩:=I.list hB;obtain⟨⟨cls,dd,data,sl⟩,ho,hc,n,hd⟩:=pl.isList;obtain⟨⟨cls2,dd2,data2,sl2⟩,ho2,hc2,n2,hd2⟩:=pl2.isList;simp only at hc hd hc2 hd2;subst hc hd hc2 hd2;have e:its.toArray++its2.toArray=(its++its2).toArray:=by simp
 have l1:=r.length;have l2:=r2.length;refine concat_meets ⟨_,ho,rfl⟩ ⟨_,ho2,rfl⟩ noFill_list_add seq_list_add PySem.F.slot_list_add PySem.F.entry_list_add (PySem.F.args_list_add_2 _ _) (list_addW l b its.toArray its2.toArray n n2 dd dd2 sl sl2 (by simp only[PJ];omega)) ⟨ho,ho2,?_⟩;rw[e];exact⟨.ref _,_,I.lnew (t':=s.toks) (r.append r2) (by rw[P9];omega),rfl,q _ I.fresh⟩
noncomputable def bc(x y:D):au D:=match x,y with
 |.int i,.int j=>.ok (.int (i+j))
 |.str i,.str j=>if i.length+j.length<=line then .ok (.str (i++j)) else .stuck
 |.lst ds,.lst es=>if ds.length+es.length<=line then .ok (.lst (ds++es)) else .stuck
 |.tup ds,.tup es=>if ds.isEmpty=false/\ds.length+es.length<=line then .ok (.tup (ds++es)) else .stuck
 |_,_=>.stuck
def bH(ha:DE X E a f)(hb:DE X E b g):DE X E (.BinOp a .Add b pos) (aa f g bc):=oW (fR.or J6 (fR.or zi (fR.or AJ GW))) (by
 intro x y v u H Ha Q hs r1 r2 q;unfold bc at q;cases x with
 |int i=>
  cases y with|int j=>exact .inl ⟨i,j,ay.mp r1,ay.mp r2,bL hs q (ri _)⟩| _=>exact q.elim
 |str i=>
  cases y with
  |str j=>
   by_cases h:i.length+j.length<=line
   .simp only[if_pos h]at q
    exact .inr (.inl ⟨i,j,Rep.str_iff.mp r1,Rep.str_iff.mp r2,eC h,bL hs q (Rep.str_iff.mpr rfl)⟩)
   .simp only[if_neg h]at q;exact q.elim
  |_=>exact q.elim
 |lst ds=>
  cases y with
  |lst es=>
   by_cases h:ds.length+es.length<=line
   .simp only[if_pos h]at q
    obtain⟨l,vs,rfl,h1,h2⟩:=aE.mp r1;obtain⟨m,us,rfl,k1,k2⟩:=aE.mp r2;refine .inr (.inr (.inl ⟨l,m,vs,us,rfl,rfl,aD.sqL hs h1,aD.sqL hs k1,by rw[←h2.length,←k2.length];exact eC h,λp hp=>?_⟩));exact q _ _ _ (bz hs hp) (aE.mpr ⟨p,_,rfl,fk.of aP,(h2.app k2).mono (bz hs hp).z⟩)
   .simp only[if_neg h]at q;exact q.elim
  |_=>exact q.elim
 |tup ds=>
  cases y with
  |tup es=>
   by_cases h:ds.isEmpty=false/\ds.length+es.length<=line
   .simp only[if_pos h]at q
    obtain⟨l,vs,rfl,h1,h2⟩:=aL.mp r1;obtain⟨m,us,rfl,k1,k2⟩:=aL.mp r2;refine .inr (.inr (.inr ⟨l,m,vs,us,rfl,rfl,aD.sqT hs h1,aD.sqT hs k1,λz=>?_,by rw[←h2.length,←k2.length];exact eC h.2,λz=>?_,λz p hp=>?_⟩))
    .have:=h2.length
     rw[z]at this;have e:ds=[]:=Ta.mp this;rw[e]at h;exact absurd h.1 (by decide)
    .have:=k2.length
     rw[z]at this;have e:es=[]:=Ta.mp this;rw[e,QH]at q;exact bL hs q r1
    .exact q _ _ _ (bz hs hp) (aL.mpr ⟨p,_,rfl,nV.of aP,(h2.app k2).mono (bz hs hp).z⟩)
   .simp only[if_neg h]at q;exact q.elim
  |_=>exact q.elim
 |_=>exact q.elim) ha hb
noncomputable def aC(x y:D):au D:=match y with
 |.int i=>match x with
  |.lst ds=>match atI ds i with
   |some d=>.ok d
   |none=>.stuck
  |.tup ds=>match atI ds i with
   |some d=>.ok d
   |none=>.stuck
  |.str z=>if z.length<=line then match atI z.cps.toList i with
   |some c=>.ok (.str ⟨#[c]⟩)
   |none=>.stuck else .stuck
  |_=>.stuck
 |_=>.stuck
def Reps.atI{K:Ph}{H:Hp}{ds:ac}{vs:ad}{i:Int}{d:D}(h:Reps K H ds vs)(e:atI ds i=some d):∃v,L2.atI vs i=some v/\Rep K H d v:=by
 unfold L2.atI at e ⊢;rw[←h.length];cases q:xM ds.length i with
 |none=>rw[q]at e;cases e
 |some j=>
  rw[q]at e;exact h.get e
def Mp:yJ X.K E (Oo X.K) aC:=by
 intro x y v u H Ha Q hs r1 r2 q;unfold aC at q;cases y with
 |int i=>
  cases x with
  |lst ds=>
   obtain⟨l,vs,rfl,h1,h2⟩:=aE.mp r1;cases e:atI ds i with
   |none=>simp only[e]at q;exact q.elim
   |some d=>
    simp only[e]at q;obtain⟨w,e1,e2⟩:=h2.atI e;exact .inl ⟨l,vs,i,w,rfl,ay.mp r2,aD.sqL hs h1,e1,bL hs q e2⟩
  |tup ds=>
   obtain⟨l,vs,rfl,h1,h2⟩:=aL.mp r1;cases e:atI ds i with
   |none=>simp only[e]at q;exact q.elim
   |some d=>
    simp only[e]at q;obtain⟨w,e1,e2⟩:=h2.atI e;exact .inr (.inl ⟨l,vs,i,w,rfl,ay.mp r2,aD.sqT hs h1,e1,bL hs q e2⟩)
  |str z=>
   by_cases hz:z.length<=line
   .simp only[if_pos hz]at q
    cases e:atI z.cps.toList i with
    |none=>simp only[e]at q;exact q.elim
    |some c=>
     simp only[e]at q;exact .inr (.inr ⟨z,i,c,Rep.str_iff.mp r1,ay.mp r2,eC hz,e,bL hs q (Rep.str_iff.mpr rfl)⟩)
   .simp only[if_neg hz]at q;exact q.elim
  |_=>exact q.elim
 |_=>exact q.elim
def av(ha:DE X E a f)(hb:DE X E b g)(hs:wC b:=by intro _ _;rfl):DE X E (.Subscript a b pos) (aa f g aC):=MR Kk Mp ha hb hs
def eJ:Ev->au (Option Int):=λ_=>.ok none
def cj(f:am):Ev->au (Option Int):=λρ=>(f ρ).bind λx=>match x with
 |.int i=>.ok (some i)
 |_=>.stuck
def NC(K:Ph)(E:XK)(f:Ev->au (Option Int)):TO:=λσ H Q=>∃Ha ρ,aD Ha H/\eB K Ha σ ρ/\match f ρ with
 |.ok o=>∀H' Ha',bf H Ha H' Ha'->Q o H'
 |.exn x=>∀C ox H' Ha',bf H Ha H' Ha'->wK K Ha' x C ox->E C ox H'
 |.stuck=>False
structure DO (X:Cx) (E:XK) (e:Option Qa) (f:Ev->au (Option Int)):Prop where
 o:PO X e (NC X.K E f)
def AE{eo:Option Qa}{t t':TO}(h:PO X eo t)(w:∀σ H Q,t' σ H Q->t σ H Q):PO X eo t':=λπ s σ H Q I q=>h π s σ H Q I (w σ H Q q)
def nB:DO X E none eJ:=⟨AE GA λσ H Q ⟨Ha,ρ,hs,hr,q⟩=>q H Ha (bf.refl hs)⟩
def c9(ha:DE X E a f):DO X E (some a) (cj f):=by
 refine⟨?_⟩;refine AE (Gz ha.o) λσ H Q z9=>?_;obtain⟨Ha,ρ,hs,hr,q⟩:=z9;refine⟨Ha,ρ,hs,hr,?_⟩
 unfold cj at q;cases e1:f ρ with
 |stuck|exn x=>rw[e1]at q;exact q
 |ok d=>
  rw[e1]at q;intro v H1 H01 g1 r1;cases d with|int i=>exact⟨i,ay.mp r1,q H1 H01 g1⟩| _=>exact q.elim
def lD(xs:ac)(lo hi:Option Int):ac:=(xs.drop (HT.sIx xs.length 0 lo)).take (HT.sIx xs.length xs.length hi-HT.sIx xs.length 0 lo)
def Reps.cut{K:Ph}{H:Hp}{ds:ac}{vs:ad}(h:Reps K H ds vs)(lo hi:Option Int):Reps K H (lD ds lo hi) (yx vs lo hi):=by
 unfold lD yx;rw[←h.length];exact(h.drop _).take _
def wZ{r:V->Option Int->Option Int->Hp->VK->Prop}{lo hi:Ev->au (Option Int)}{m:D->Option Int->Option Int->au D}
  (ho:∀x v l h H Ha Q,aD Ha H->Rep X.K Ha x v->post X.K E H Ha (m x l h) Q->r v l h H Q)(σ:L2.St)(H:Hp)(Q:VK)
  (h:tD X.K E (λρ=>(f ρ).bind λx=>(lo ρ).bind λl=>(hi ρ).bind λh=>m x l h) σ H Q):Oi r (tD X.K E f) (NC X.K E lo) (NC X.K E hi) σ H Q:=by
 obtain⟨Ha,ρ,hs,hr,q⟩:=h;refine⟨Ha,ρ,hs,hr,?_⟩;replace q:post X.K E H Ha ((f ρ).bind λx=>(lo ρ).bind λl=>(hi ρ).bind λh=>m x l h) Q:=q;cases e1:f ρ with
 |stuck|exn x=>rw[e1]at q;exact q
 |ok x=>
  rw[e1]at q;intro v H1 H01 g1 r1;refine⟨H01,ρ,g1.sub,hr.mono g1.z,?_⟩;replace q:post X.K E H Ha ((lo ρ).bind λl=>(hi ρ).bind λh=>m x l h) Q:=q;replace q:=q.grow g1;cases e2:lo ρ with
  |stuck|exn x=>rw[e2]at q;exact q
  |ok l=>
   rw[e2]at q;intro H2 H02 g2;refine⟨H02,ρ,g2.sub,(hr.mono g1.z).mono g2.z,?_⟩;replace q:post X.K E H1 H01 ((hi ρ).bind λh=>m x l h) Q:=q;replace q:=q.grow g2;cases e3:hi ρ with
   |stuck|exn x=>rw[e3]at q;exact q
   |ok h=>
    rw[e3]at q;intro H3 H03 g3;exact ho x v l h H3 H03 Q g3.sub ((r1.mono g2.z).mono g3.z) (post.grow (r:=m x l h) q g3)
def m1(m:D->au D)(ds:ac):au D:=match ds with
 |[x]=>m x
 |_=>.stuck
def m2(m:D->D->au D)(ds:ac):au D:=match ds with
 |[x,y]=>m x y
 |_=>.stuck
def Bc{r:ad->Hp->VK->Prop}{m:D->au D}(h:∀x v H Ha Q,aD Ha H->Rep X.K Ha x v->post X.K E H Ha (m x) Q->r [v] H Q):pj X E r (m1 m):=by
 intro ds vs H Ha Q hs hr q;unfold m1 at q
 match ds,hr,q with
 |[x],hr,q=>
  obtain⟨v,r',rfl,h1,h2⟩:=az.mp hr;rw[Reps.nil_iff.mp h2];exact h x v H Ha Q hs h1 q
 |[],_,q=>exact q.elim
 |_::_::_,_,q=>exact q.elim
def MW{r:ad->Hp->VK->Prop}{m:D->D->au D}(h:∀x y v u H Ha Q,aD Ha H->Rep X.K Ha x v->Rep X.K Ha y u->post X.K E H Ha (m x y) Q->r [v,u] H Q):pj X E r (m2 m):=by
 intro ds vs H Ha Q hs hr q;unfold m2 at q
 match ds,hr,q with
 |[x,y],hr,q=>
  obtain⟨v,r',rfl,h1,h2⟩:=az.mp hr;obtain⟨u,r'',rfl,h3,h4⟩:=az.mp h2;rw[Reps.nil_iff.mp h4];exact h x y v u H Ha Q hs h1 h3 q
 |[],_,q=>exact q.elim
 |[_],_,q=>exact q.elim
 |_::_::_::_,_,q=>exact q.elim
def wm(x:D):au D:=match x with
 |.int i=>.ok (.int (if i<0 then -i else i))
 |_=>.stuck
def N9(x y:D):au D:=match x,y with
 |.int i,.int j=>.ok (.int (if j > i then j else i))
 |_,_=>.stuck
def fg(x:D):au D:=match x with
 |.lst ds=>.ok (.int ds.length)
 |.tup ds=>.ok (.int ds.length)
 |.str z=>if z.length<=line then .ok (.int z.length) else .stuck
 |_=>.stuck
def sG(x:D):au D:=match x with
 |.lst ds=>.ok (.lst ds)
 |.tup ds=>.ok (.lst ds)
 |_=>.stuck
def sS:pj X E (λxs H Q=>∃i,xs=[.int i]/\Q (.int (if i<0 then -i else i)) H) (m1 wm):=Bc λx v H Ha Q hs r q=>by
 cases x with|int i=>exact⟨i,by rw[ay.mp r],bL hs q (ri _)⟩| _=>exact q.elim
def du:pj X E (λxs H Q=>∃x n,xs=[x]/\M5 X.K x H n/\Q (.int n) H) (m1 fg):=Bc λx v H Ha Q hs r q=>by
 cases x with
 |lst ds=>
  obtain⟨p,vs,rfl,h1,h2⟩:=aE.mp r;refine⟨_,vs.length,rfl,.inl ⟨vs,aD.sqL hs h1,rfl⟩,?_⟩;rw[←h2.length];exact bL hs q (ri _)
 |tup ds=>
  obtain⟨p,vs,rfl,h1,h2⟩:=aL.mp r;refine⟨_,vs.length,rfl,.inr ⟨vs,aD.sqT hs h1,rfl⟩,?_⟩;rw[←h2.length];exact bL hs q (ri _)
 |str z=>
  unfold fg at q
  by_cases hz:z.length<=line
  .simp only[if_pos hz]at q
   rw[Rep.str_iff.mp r];exact⟨_,z.length,rfl,⟨eC hz,rfl⟩,bL hs q (ri _)⟩
  .simp only[if_neg hz]at q;exact q.elim
 |_=>exact q.elim
def HC{x:Qa}{p:Pos}(hg:Gl X "list")(hm:X.mg "list"=none)(ha:DA X E [x] fa)(he:PD [x] X.env=(false,eval x X.env)::PD [] X.env:=by exact bB rfl)(hpl:(Rj pos (PD [] X.env)).any (·.1)=false:=by exact dk rfl) :
  DF X E (.Call (.Name "list" p) [x] [] pos) (aq fa (m1 sG)):=by
 refine⟨?_⟩;refine bp (BL wq hg hm PyProof.Rows.Boot.«list» ha.o (by decide) (by decide) he hpl) λσ H Q h=>?_;obtain⟨Ha,ρ,hs,hr,q⟩:=h;refine⟨Ha,ρ,hs,hr,?_⟩;unfold aq at q;cases e1:fa ρ with
 |stuck|exn x=>rw[e1]at q;exact q
 |ok ds=>
  rw[e1]at q;intro vs H1 H01 g1 r1;have fin:∀(es:ac) (us:ad) (p:Pk),m1 sG ds=.ok (.lst es)->H1 p=none->Reps X.K H01 es us->Q (.ref p) (upd H1 p (.lst us)):=λes us p hm hp hu=>by
   have h0:H01 p=none:=g1.sub.free hp;have q':∀p vs H' Ha',bf H Ha H' Ha'->H p=none->Ha' p=none->H' p=some (.lst vs)->Reps X.K Ha' es vs->Q (.ref p) H':=by
    have q2:match m1 sG ds with
     |.ok (.lst ds)=>∀p vs H' Ha',bf H Ha H' Ha'->H p=none->Ha' p=none->H' p=some (.lst vs)->Reps X.K Ha' ds vs->Q (.ref p) H'
     |.ok _=>False
     |.exn x=>∀C ox H' Ha',bf H Ha H' Ha'->wK X.K Ha' x C ox->E C ox H'
     |.stuck=>False:=q
    rw[hm]at q2;exact q2
   refine q' p us _ H01 (g1.trans ⟨λb o q=>by rw[aG (ba q hp)];exact q,aD.refl _,λb o q=>?_,λa h1 h2=>absurd h2 h1⟩) (g1.s.free hp) h0 aP hu;rw[aG (by intro z;subst z;rw[h0]at q;cases q)];exact g1.sub _ _ q
  have q2:match m1 sG ds with
     |.ok (.lst ds)=>∀p vs H' Ha',bf H Ha H' Ha'->H p=none->Ha' p=none->H' p=some (.lst vs)->Reps X.K Ha' ds vs->Q (.ref p) H'
     |.ok _=>False
     |.exn x=>∀C ox H' Ha',bf H Ha H' Ha'->wK X.K Ha' x C ox->E C ox H'
     |.stuck=>False:=q
  match ds,r1,q2,fin with
  |[],_,q2,_=>exact q2.elim
  |_::_::_,_,q2,_=>exact q2.elim
  |[x],r1,q2,fin=>
   obtain⟨v,r',rfl,h1,h2⟩:=az.mp r1;rw[Reps.nil_iff.mp h2];cases x with
   |lst ds=>
    obtain⟨p,vs,rfl,k1,k2⟩:=aE.mp h1;exact⟨p,vs,rfl,.inl (aD.sqL g1.sub k1),λn hn=>fin ds vs n rfl hn k2⟩
   |tup ds=>
    obtain⟨p,vs,rfl,k1,k2⟩:=aL.mp h1;exact⟨p,vs,rfl,.inr (aD.sqT g1.sub k1),λn hn=>fin ds vs n rfl hn k2⟩
   |_=>exact q2.elim
def uQ:D->Bool
 |.non=>true
 |_=>false
def ia(x y:D):au D:=match y with
 |.non=>.ok (.bl (uQ x))
 |_=>.stuck
def kG(x y:D):au D:=match y with
 |.non=>.ok (.bl (!(uQ x)))
 |_=>.stuck
def Rep.is_non{K:Ph}{H:Hp}{x:D}{v:V}(r:Rep K H x v):decide (v=.non)=uQ x:=by
 cases x with|non=>rw[aR.mp r];rfl|bl b=>rw[aH.mp r];rfl|int b=>rw[ay.mp r];rfl|str b=>rw[Rep.str_iff.mp r];rfl|tup ds=>obtain⟨_,_,e,_⟩:=aL.mp r;rw[e];rfl|lst ds=>obtain⟨_,_,e,_⟩:=aE.mp r;rw[e];rfl|dic ks ds=>rw[Rep]at r;obtain⟨_,_,_,e,_⟩:=r;rw[e];rfl|exc x=>obtain⟨_,_,_,e,_⟩:=iM.mp r;rw[e];rfl|ob k x=>obtain⟨_,_,e,_⟩:=bq.mp r;rw[e];rfl
def ki:yJ X.K E (λx y H Q=>y=.non/\Q (.bl (decide (x=.non))) H) ia:=by
 intro x y v u H Ha Q hs r1 r2 q;unfold ia at q;cases y with|non=>exact⟨aR.mp r2,by rw[r1.is_non];exact bL hs q (rb _)⟩| _=>exact q.elim
def vQ:yJ X.K E (λx y H Q=>y=.non/\Q (.bl (!decide (x=.non))) H) kG:=by
 intro x y v u H Ha Q hs r1 r2 q;unfold kG at q;cases y with
 |non=>
  refine⟨aR.mp r2,?_⟩;rw[r1.is_non];exact bL hs q (rb _)
 |_=>exact q.elim
noncomputable def yN:D->String
 |.non=>"NoneType"
 |.bl _=>"bool"
 |.int _=>"int"
 |.str _=>"str"
 |.tup _=>"tuple"
 |.lst _=>"list"
 |.dic _ _=>"dict"
 |.exc _=>"<exc>"
 |.ob (.ins _ _) _=>"<exc>"
 |.ob (.dint _) _=>"dict"
 |.ob (.exf _ _) _=>"<exc>"
 |.ob .pl _=>"list"
 |.ob (.fn _) _=>"function"
def jy(T:String)(x:D):au D:=.ok (.bl (yN x==T||(yN x=="bool"&&T=="int")))
def tK(K:Ph)(T:String):Prop:=∀S,S∈["NoneType","bool","int","str","tuple","list","dict","function"]->W.kitOne K (.type S) (.type T)=some (S==T||(S=="bool"&&T=="int"))
def EO{π:List (Pk×Obj)}{σ:L2.St}{H:Hp}{s:Pj}{A:Qs}{Q:Pb->Pj->Prop}{x:D}{v:V}{u:Pb}{T:String}(I:Inv X π σ H s)(r:Rep X.K H x v)(q:bh v u)(hk:tK X.K T)(hT:T∈ie)(h:∀tk,Q (.bool (yN x==T||(yN x=="bool"&&T=="int"))) { s with toks:=tk }) :
  P5 (PX X.prog X.w) A (call (.builtin "isinstance") [u,.type T]) Q X.xe s:=by
 cases x with
 |non=>rw[aR.mp r]at q;exact i8 I q .non (hk _ (by simp)) h|bl b=>rw[aH.mp r]at q;exact i8 I q (.bl b) (hk _ (by simp)) h|int b=>rw[ay.mp r]at q;exact i8 I q (.int b) (hk _ (by simp)) h|str b=>rw[Rep.str_iff.mp r]at q;exact i8 I q (.str b) (hk _ (by simp)) h
 |tup ds=>
  obtain⟨a,vs,its,rfl,rfl,h1,h2,h3,h4,_⟩:=bo I r q;obtain⟨o,k1,k2,_⟩:=h4;exact QZ W.kitx_tuple I.kIn ⟨o,k1,k2⟩ (hk _ (by simp)) (λz=>nomatch z) h
 |lst ds=>
  obtain⟨a,vs,its,rfl,rfl,h1,h2,h3,h4,_⟩:=aX I r q;obtain⟨o,k1,k2,_⟩:=h4;exact QZ UP I.kIn ⟨o,k1,k2⟩ (hk _ (by simp)) (λz=>nomatch z) h
 |dic ks ds=>
  rw[Rep]at r;obtain⟨a,kvs,vs,rfl,h1,h2,_⟩:=r;cases (show u=Qm a from q);obtain⟨_,_,vs',_,p⟩:=h1.ok I.hok;obtain⟨o,es,ep,k1,k2,_⟩:=p;exact QZ T1 I.kIn ⟨o,k1,k2.1⟩ (hk _ (by simp)) (λz=>nomatch z) h
 |exc x=>
  obtain⟨a,C,dc,rfl,hc,h1⟩:=iM.mp r;cases (show u=Qm a from q);obtain⟨p,_,_⟩:=h1.ok I.hok;have e:(yN (.exc x)==T||(yN (.exc x)=="bool"&&T=="int"))=false:=by
   have:∀T∈ie,(yN (.exc x)==T||(yN (.exc x)=="bool"&&T=="int"))=false:=by show ∀T∈ie,("<exc>"==T||("<exc>"=="bool"&&T=="int"))=false;decide
   exact this T hT
  rw[e]at h;exact QZ (xI hc.ek hc.ek.isCls) I.kIn p (hc.bt T hT) (λz=>nomatch z) h
 |ob k xs=>
  obtain⟨a,vs,rfl,h1,_⟩:=bq.mp r;cases (show u=Qm a from q);cases k with
  |exf c ks=>
   obtain⟨C,dx,fs,hc,h2,_⟩:=h1;obtain⟨p,_,_⟩:=h2.ok I.hok;have e:(yN (.ob (.exf c ks) xs)==T||(yN (.ob (.exf c ks) xs)=="bool"&&T=="int"))=false:=by
    have:∀T∈ie,("<exc>"==T||("<exc>"=="bool"&&T=="int"))=false:=by decide
    exact this T hT
   rw[e]at h;exact QZ (xI hc.ek hc.ek.isCls) I.kIn p (hc.bt T hT) (λz=>nomatch z) h
  |ins c ks=>
   obtain⟨C,dx,_,hc,h2,_⟩:=h1;obtain⟨mA,O,_⟩:=pS I.hok h2;obtain⟨od,O',_⟩:=O.look;have e:(yN (.ob (.ins c ks) xs)==T||(yN (.ob (.ins c ks) xs)=="bool"&&T=="int"))=false:=by
    have:∀T∈ie,(yN (.ob (.ins c ks) xs)==T||(yN (.ob (.ins c ks) xs)=="bool"&&T=="int"))=false:=by show ∀T∈ie,("<exc>"==T||("<exc>"=="bool"&&T=="int"))=false;decide
    exact this T hT
   rw[e]at h;exact QZ (W.kitx_own (hc.cls.get _) hc.cls.hd hc.gc hc.gn hc.tk hc.mo) I.kIn O' (hc.bt T hT) (λz=>nomatch z) h
  |dint ks=>
   obtain⟨kvs,h2,_⟩:=h1;obtain⟨_,_,vs',_,p⟩:=h2.ok I.hok;obtain⟨o,es,ep,k1,k2,_⟩:=p;exact QZ T1 I.kIn ⟨o,k1,k2.1⟩ (hk _ (by simp)) (λz=>nomatch z) h
  |pl=>exact i8 I (show bh (.ref a) (Qm a) from rfl) (.lst h1) (hk _ (by simp)) h
  |fn q=>
   obtain⟨F,clos,c',t,m,pm,ctv,_,_,h2,_⟩:=h1;obtain⟨e,_⟩:=I.hok a _ h2;exact QZ (W.kitx_of W.kitAt_ty (λ{_ _ _ _ _ s} p k=>by obtain⟨h,g,d,t,os⟩:=s;obtain⟨o,h1,h2⟩:=p;exact lF h1 h2 k)) I.kIn ⟨_,e,rfl⟩ (hk _ (by simp)) (λz=>nomatch z) h
def cI{T:String}{x:Pq}{p1 p2:Pos}(hk:tK X.K T)(hgi:Gl X "isinstance")(hmi:X.mg "isinstance"=none)(hg:Gl X x)(hm:X.mg x=none)(hv:bootBuiltins x=some (.type T))(ha:DE X E a f)
  (hn:x≠"__name__":=by decide)(hdb:(x==("__debug__" : Pq))=false:=by decide)(hT:T∈ie:=by decide)
  (he:PD [a,.Name x p2] X.env=(false,eval a X.env)::PD [.Name x p2] X.env:=by exact bB rfl)(he2:PD [.Name x p2] X.env=(false,eval (.Name x p2) X.env)::PD [] X.env:=by exact bB rfl)(hpl:(Rj pos (PD [.Name x p2] X.env)).any (·.1)=false:=by exact dk rfl) :
  DE X E (.Call (.Name "isinstance" p1) [a,.Name x p2] [] pos) (aS f (jy T)):=by
 refine⟨?_⟩;refine bp (xm (r:=λvs H Q=>∃d v,vs=[v,.ty T]/\Rep X.K H d v/\Q (.bl (yN d==T||(yN d=="bool"&&T=="int"))) H) ?_ hgi hmi PyProof.Rows.Boot.«isinstance» (fH ha.o (fH (GP (v:=.ty T) hg hm hv rfl hn hdb) kc he2) he) (by decide) (by decide) he hpl) λσ H Q ⟨Ha,ρ,hs,hr,q⟩=>⟨Ha,ρ,hs,hr,?_⟩
 .intro π s σ H xs us Q I r h
  obtain⟨d,v,rfl,h1,q⟩:=h;cases r with
  |cons r1 r2=>
   cases r2 with
   |cons r3 r4=>
    cases r4;rename_i u1 u2;obtain rfl:u2=Value.type T:=r3;exact EO I h1 r1 hk hT λtk=>⟨.bl _,H,I.tok _,rfl,q⟩
 .unfold aS at q
  cases e1:f ρ with
  |stuck|exn x=>rw[e1]at q;exact q
  |ok d=>
   rw[e1]at q;intro v H1 H01 g1 r1;exact⟨d,v,rfl,r1.mono g1.sub,q _ H1 H01 g1 (rb _)⟩
end
theorem uV{prog:Qe}{w:Qt}{A:Qs}{E:Pb->Pj->Prop}{it t:Pk}{items:Array Pb}(hne:t≠it):∀(n i:Nat) (s:Pj) (Q:List Pb->Pj->Prop),s.heap.IsListIter it t i->s.heap.IsList t items->i+n<=items.size ->
  (∀h',h'.IsListIter it t (i+n)->SV it s.heap h'->Q ((items.toList.drop i).take n) { s with heap:=h' })->P5 (PX prog w) A (draw (.ref it) n) Q E s
 |0,i,s,Q,hit,_,_,hQ=>by
  show P5 _ _ (pure []) Q E s;exact P7 (by simpa using hQ s.heap hit (SV.refl ..))
 |n+1,i,s,Q,hit,ht,hle,hQ=>by
  have hlt:i<items.size:=by omega
  show P5 _ _ (pyNext (.ref it) >>= _) Q E s;refine Py (wpAny_pyNext_list_item hit ht (x:=items[i]) (by simp[hlt]) λh₁ hit₁ hs₁=>?_);have ht₁:h₁.IsList t items:=by
   obtain⟨o,k1,k2⟩:=ht;exact⟨o,(hs₁.2 t hne).trans k1,k2⟩
  refine Py (RG (uV hne n (i+1) _ _ hit₁ ht₁ (by omega) λhE hit₂ hs₂=>P7 ?_));have hd:items.toList.drop i=items[i]::items.toList.drop (i+1):=by simp[QQ,hlt]
  have:=hQ hE (by rw[show i+(n+1)=i+1+n by omega];exact hit₂) (hs₁.trans hs₂);rw[hd,List.take_succ_cons]at this;exact this
def nW{prog:Qe}{w:Qt}{A:Qs}{E:Pb->Pj->Prop}{s:Pj}{t:Pk}{items:Array Pb}{Q:List Pb->Pj->Prop}(hh:A.handled=none)(ht:s.heap.IsList t items)
  (hQ:∀h',Heap.ExtBut s.heap.objs.size s.heap h'->Q items.toList { s with heap:=h' }):P5 (PX prog w) A (unpackItems (.ref t) items.size none) Q E s:=by
 have hlt:t≠s.heap.objs.size:=by obtain⟨o,ho,_⟩:=ht;exact Qh (PQ ho)
 unfold unpackItems;refine Py ?_
 .unfold notIterableAtAll
  refine Py (wpAny_specialOf ht.typeIs slot_list_iter.lookup ?_);refine P7 ?_;simp only[S1,if_false];refine Py (RG (wpAny_pyIter_list ht ?_));have ht0:(s.heap.push { cls:=.type "list_iterator",data:=.fields #[.ref t,.int 0 0] }).IsList t items:=by
   obtain⟨o,k1,k2⟩:=ht;exact⟨o,Px _ k1,k2⟩
  refine Py (RG (uV hlt items.size 0 _ _ ⟨_,Qr _ rfl,rfl,rfl⟩ ht0 (by omega) λh₁ hit₁ hs₁=>?_));have hall:List.take items.size (List.drop 0 items.toList)=items.toList:=by
   rw[List.drop_zero];exact Tf (by simp)
  rw[hall];rw[if_neg (by simp)];have ht₁:h₁.IsList t items:=by
   obtain⟨o,k1,k2⟩:=ht0;exact⟨o,(hs₁.2 t hlt).trans k1,k2⟩
  refine Py (RG (wpAny_pyNext_list_end hh hit₁ ht₁ (by simp) λhE he₂=>?_));simp only[Option.isSome_none,S1,if_false];refine P7 (hQ hE λb o hb e=>he₂ b o hb (hs₁.extBut b o hb (Px _ e)))
def y9(σ:L2.St):ci->ad->L2.St
 |i::is,v::vs=>y9 (σ.set i (some v)) is vs
 |_,_=>σ
def cR(ρ:Ev):ci->ac->Ev
 |i::is,d::ds=>cR (ρ.set i (.sh d)) is ds
 |_,_=>ρ
theorem eZ.putAll{K:Ph}{He η Ha H:Hp}:∀{is:ci}{ds:ac}{vs:ad}{σ:L2.St}{ρ:Ev},eZ K He η Ha σ H ρ->Reps K Ha ds vs->eZ K He η Ha (y9 σ is vs) H (cR ρ is ds)
 |[],_,_,_,_,h,_=>by unfold y9 cR;exact h
 |_::_,[],_,_,_,h,r=>by rw[Reps.nil_iff.mp r];unfold y9 cR;exact h
 |i::is,d::ds,_,_,_,h,r=>by
  obtain⟨v,vs,rfl,h1,h2⟩:=az.mp r;unfold y9 cR;exact eZ.putAll (h.put h1) h2
section
variable {X:Cx}{E:XK}{He η:Hp}{e a b:Qa}{es:List Qa}{f g:am}{fa:Ev->au (ac)}{pos:Pos}{is:ci}
def Li(is:ci):FH:=λvs σ H Q=>vs.length=is.length/\Q (y9 σ is vs) H
def xl{t t':FH}(h:CF X es t)(w:∀vs σ H Q,t' vs σ H Q->t vs σ H Q):CF X es t':=λπ s σ H vs us Q I r q=>h π s σ H vs us Q I r (w vs σ H Q q)
def dB:CF X [] (Li []):=xl GG λvs σ H Q z9=>by
 obtain⟨h,q⟩:=z9;have e:vs=[]:=Ta.mp h;subst e;exact⟨rfl,q⟩
def aU{i:Nat}{x:Pq}{p:Pos}(hN:X.N.Nodup)(hi:X.N[i]?=some x)(hx:Fx X.env.scope x)(h:CF X es (Li is))(hf:X.fn x=true∨X.env.scope.names.lookup x=some .local := by first|exact .inl rfl|exact .inr rfl|assumption)
  (hs:(assignEach (.Name x p::es) X.env).map (·.2)=assign (.Name x p) X.env::(assignEach es X.env).map (·.2):=by rfl):CF X (.Name x p::es) (Li (i::is)) :=
 xl (D9 (AG hN hi hx hf) h hs) λvs σ H Q z9=>by
  obtain⟨h,q⟩:=z9;cases vs with|nil=>simp at h|cons v vs=>exact⟨v,vs,rfl,by simpa using h,q⟩
def GH{k:Nat}{t:FH}{n:Nat}(hc:X.calm=true)(h:CF X es t)
  (hn:(assignEach es X.env).length=n:=by rfl)(hst:(assignEach es X.env).findIdx? (·.1)=none:=by rfl):PG X (.Tuple es k pos) (λv σ H Q=>∃a xs,v=.ref a/\fk X.K H a xs/\xs.length=n/\t xs σ H Q):=by
 intro π s σ H v u Q I r hw;obtain⟨a,xs,e1,hq,hl,hw⟩:=hw;subst e1;cases r;obtain⟨its,rv,ht,hz⟩:=I.list hq;rw[assign_Tuple];refine Py (wpAny_standAt ?_);unfold unpack;rw[hn,hst];have hsz:n=its.toArray.size:=by rw[PJ,←rv.length,hl]
 rw[hsz];refine Py (RG (nW (I.ok.hd hc) ht.isList λh' hx=>?_));have I1:Inv X π σ H { s with heap:=h' }:=I.kept (t':=s.toks) λb o e=>hx b o (Qh (PQ e)) e;exact h π _ σ H xs _ Q I1 (by simpa using rv) hw
def Mg{tgt:Qa}{t t':TG}(h:PG X tgt t)(h':PG X tgt t'):PG X tgt (λv σ H Q=>t v σ H Q∨t' v σ H Q):=λπ s σ H v u Q I r q=>q.elim (h π s σ H v u Q I r) (h' π s σ H v u Q I r)
def Ea{k:Nat}(hc:X.calm=true)(h:CF X es (Li is))(hn:(assignEach es X.env).length=is.length:=by rfl)(hst:(assignEach es X.env).findIdx? (·.1)=none:=by rfl) :
  PG X (.Tuple es k pos) (λv σ H Q=>∃a xs,v=.ref a/\(nV X.K H a xs∨fk X.K H a xs)/\xs.length=is.length/\Q (y9 σ is xs) H) :=
 vH (Mg (JL hc h hn hst) (GH hc h hn hst)) λv σ H Q ⟨a,xs,e,hq,hl,q⟩=>hq.elim (λz=>.inl ⟨a,xs,e,z,hl,hl,q⟩) λz=>.inr ⟨a,xs,e,z,hl,hl,q⟩
def eO(n:Nat)(d:D):Option (ac):=match d with
 |.tup ds=>if ds.length=n then some ds else none
 |.lst ds=>if ds.length=n then some ds else none
 |_=>none
def oP{K:Ph}{H:Hp}{n:Nat}{d:D}{ds:ac}{v:V}(h:eO n d=some ds)(r:Rep K H d v):∃a vs,v=.ref a/\(nV K H a vs∨fk K H a vs)/\vs.length=n/\Reps K H ds vs:=by
 unfold eO at h;cases d with
 |tup es=>
  by_cases c:es.length=n
  .simp only[if_pos c]at h;cases h
   obtain⟨a,vs,rfl,h1,h2⟩:=aL.mp r;exact⟨a,vs,rfl,.inl h1,by rw[←h2.length];exact c,h2⟩
  .simp only[if_neg c]at h;cases h
 |lst es=>
  by_cases c:es.length=n
  .simp only[if_pos c]at h;cases h
   obtain⟨a,vs,rfl,h1,h2⟩:=aE.mp r;exact⟨a,vs,rfl,.inr h1,by rw[←h2.length];exact c,h2⟩
  .simp only[if_neg c]at h;cases h
 |_=>cases h
def w4{K:Ph}{H H':Hp}{a:Pk}{vs:ad}(hs:aD H H')(h:nV K H a vs∨fk K H a vs):nV K H' a vs∨fk K H' a vs:=h.elim (λz=>.inl (aD.sqT hs z)) λz=>.inr (aD.sqL hs z)
def Gg(is:ci)(f:am):bi:=λρ=>(f ρ).bind λd=>match eO is.length d with
 |some ds=>.ok (.nx (cR ρ is ds))
 |none=>.stuck
def KL{k:Nat}{tp:Pos}(hc:X.calm=true)(he:DE X E e f)(h:CF X es (Li is))(hs:swapsWithSole [.Tuple es k tp] e pos.line X.env=pure false:=by rfl)(hw:swappedStores [.Tuple es k tp] e X.env=pure none:=by rfl)
  (h1:(assignEach [.Tuple es k tp] X.env).map (·.2)=[assign (.Tuple es k tp) X.env]:=by rfl)(hn:(assignEach es X.env).length=is.length:=by rfl)(hst:(assignEach es X.env).findIdx? (·.1)=none:=by rfl) :
  DS X E He η (.Assign [.Tuple es k tp] e pos) (Gg is f):=by
 refine⟨?_⟩;refine cu (D5 he.o (Ea hc h hn hst) hs hw h1) λD σ H z9=>?_;obtain⟨Ha,ρ,h,q⟩:=z9;refine⟨Ha,ρ,h.g.sub,h.rd,?_⟩
 refine plain (k:=λd=>match eO is.length d with
  |some ds=>.ok (.nx (cR ρ is ds))
  |none=>.stuck) h q λd v H' Ha' _ g rp q'=>?_
 cases e1:eO is.length d with
 |none=>rw[e1]at q';exact q'.elim
 |some ds=>
  rw[e1]at q';obtain⟨a,vs,rfl,k1,k2,k3⟩:=oP e1 rp;exact⟨a,vs,rfl,w4 g.sub k1,k2,q' _ H' Ha' (aD.refl _) ((h.grow g).putAll k3)⟩
def cB(is:ci):Ev->D->au Ev:=λρ d=>match eO is.length d with
 |some ds=>.ok (cR ρ is ds)
 |none=>.stuck
def eI:yG (cB is):=λρ d=>by
 unfold cB;cases eO is.length d with|none=>exact .inl rfl|some ds=>exact .inr ⟨_,rfl⟩
def fF{k:Nat}(hc:X.calm=true)(h:CF X es (Li is))(hn:(assignEach es X.env).length=is.length:=by rfl)(hst:(assignEach es X.env).findIdx? (·.1)=none:=by rfl):DG X E He η (.Tuple es k pos) (cB is) :=
 ⟨vH (Ea hc h hn hst) λv σ H Q z9=>by
  obtain⟨Ha,ρ,d,h,rp,q⟩:=z9;unfold cB at q;cases e1:eO is.length d with
  |none=>rw[e1]at q;exact q.elim
  |some ds=>
   rw[e1]at q;obtain⟨a,vs,rfl,k1,k2,k3⟩:=oP e1 rp;exact⟨a,vs,rfl,w4 h.g.sub k1,k2,q _ H Ha (aD.refl _) (h.putAll k3)⟩⟩
def BH(i j:Nat)(fa:Ev->au (ac)):bi:=λρ=>(fa ρ).bind λds=>match ds with
 |[x,y]=>.ok (.nx ((ρ.set i (.sh x)).set j (.sh y)))
 |_=>.stuck
def KN{i j:Nat}{x y:Pq}{px py pt pt2:Pos}{kt k2}(hc:X.calm=true)(hN:X.N.Nodup)(hi:X.N[i]?=some x)(hj:X.N[j]?=some y)(hij:i≠j)
  (hx:X.env.scope.names.lookup x=some .local)(hy:X.env.scope.names.lookup y=some .local)(ha:DA X E [a,b] fa)
  (hw:swappedStores [.Tuple [.Name x px,.Name y py] kt pt] (.Tuple [a,b] k2 pt2) X.env=pure (some [x,y]))
  (hs:swapsWithSole [.Tuple [.Name x px,.Name y py] kt pt] (.Tuple [a,b] k2 pt2) pos.line X.env=pure false:=by rfl) :
  DS X E He η (.Assign [.Tuple [.Name x px,.Name y py] kt pt] (.Tuple [a,b] k2 pt2) pos) (BH i j fa):=by
 refine⟨?_⟩;refine cu (JH hc hN hi hj hij hx hy ha.o hw hs) λD σ H z9=>?_;obtain⟨Ha,ρ,h,q⟩:=z9;refine⟨Ha,ρ,h.g.sub,h.rd,?_⟩
 unfold BH at q;cases e1:fa ρ with
 |stuck=>rw[e1]at q;exact q|exn x=>rw[e1]at q;exact λC ox H' Ha' g ex=>q C ox H' Ha' (h.g.trans g) ex
 |ok ds=>
  rw[e1]at q;intro vs H1 H01 g1 r1
  match ds,r1,q with
  |[x,y],r1,q=>
   obtain⟨v,r',rfl,h1,h2⟩:=az.mp r1;obtain⟨u,r'',rfl,h3,h4⟩:=az.mp h2;rw[Reps.nil_iff.mp h4];exact⟨v,u,rfl,q _ H1 H01 g1.z (((h.grow g1).put h1).put h3)⟩
  |[],_,q=>exact q.elim
  |[_],_,q=>exact q.elim
  |_::_::_::_,_,q=>exact q.elim
end
def zv{K:Ph}:tK K "int":=by
 intro S hS;simp only[Pr,SH,or_false]at hS;rcases hS with rfl|rfl|rfl|rfl|rfl|rfl|rfl|rfl<;>first|rfl|decide +kernel
def xJ{K:Ph}:tK K "bool":=by
 intro S hS;simp only[Pr,SH,or_false]at hS;rcases hS with rfl|rfl|rfl|rfl|rfl|rfl|rfl|rfl<;>first|rfl|decide +kernel
def qU{K:Ph}:tK K "str":=by
 intro S hS;simp only[Pr,SH,or_false]at hS;rcases hS with rfl|rfl|rfl|rfl|rfl|rfl|rfl|rfl<;>first|rfl|decide +kernel
def jt{K:Ph}:tK K "tuple":=by
 intro S hS;simp only[Pr,SH,or_false]at hS;rcases hS with rfl|rfl|rfl|rfl|rfl|rfl|rfl|rfl<;>first|rfl|decide +kernel
def gb{K:Ph}:tK K "list":=by
 intro S hS;simp only[Pr,SH,or_false]at hS;rcases hS with rfl|rfl|rfl|rfl|rfl|rfl|rfl|rfl<;>first|rfl|decide +kernel
section
variable {X:Cx}{E:XK}{He η:Hp}{e a b c:Qa}{f g h:am}{pos:Pos}
def dv(i:Nat){x:Pq}(hN:X.N[i]?=some x:=by rfl)(hv:CC X.env.scope x:=by first|exact Pt rfl|exact R3 (Pt rfl)|exact R3 (R3 rfl))(hd:(x==("__debug__" : Pq))=false:=by decide)
  (hcd:(x==("__classdict__" : Pq))=false:=by decide):DE X E (.Name x pos) (ae i):=KR hN hv hd hcd
def vk(K:Ph)(mg:Pq->Option Pb)(x:Pq)(d:D):Prop:=∃v u,mg x=some u/\bh v u/\∀H,Rep K H d v
def aQ{x:Pq}{d:D}(k:vk X.K X.mg x d)(hg:Gl X x)(hd:(x==("__debug__" : Pq))=false:=by decide):DE X E (.Name x pos) (dC d):=by
 obtain⟨v,u,h1,h2,h3⟩:=k;exact HF hg h1 h2 h3 hd
def dS{K:Ph}{mg:Pq->Option Pb}{x:Pq}{i:Int}{t:Tok}(h:mg x=some (.int i t)):vk K mg x (.int i):=⟨.int i,_,h,⟨t,rfl⟩,λ_=>ri _⟩
def Hg{K:Ph}{mg:Pq->Option Pb}{x:Pq}{i:Pq}{t:Tok}(h:mg x=some (.str i t)):vk K mg x (.str i):=⟨.str i,_,h,⟨t,rfl⟩,λ_=>Rep.str_iff.mpr rfl⟩
def AS{K:Ph}{mg:Pq->Option Pb}{x:Pq}{a:Pk}{od:Option Pk}{its:Array Pb}{n:Nat}{sl:Array (Option Pb)}{ds:ac}{vs:ad}(h:mg x=some (.ref a))(l:K.lookup a=some ⟨.type "tuple",od,.seq its n,sl⟩)
  (hv:aY vs its.toList)(hz:its.size<=sizeLine)(hd:∀H,Reps K H ds vs):vk K mg x (.tup ds):=⟨.ref a,_,h,rfl,λH=>aL.mpr ⟨a,vs,rfl,.inr ⟨_,its,n,l,rfl,rfl,hz,hv⟩,hd H⟩⟩
def iV(op op':D->D->au D)(f g h:am):am:=λρ=>(f ρ).bind λx=>(g ρ).bind λy=>(op x y).bind λz=>match z with
 |.bl true=>(h ρ).bind λw=>op' y w
 |.bl false=>.ok (.bl false)
 |_=>.stuck
def tH(r:R2)(o:D->D->au D):Prop:=∀(K:Ph) (x y:D) (v u:V) (H Ha:Hp) (Q:VK) (d:D),aD Ha H->Rep K Ha x v->Rep K Ha y u->o x y=.ok d->(∀w,Rep K Ha d w->Q w H)->r v u H Q
def gP{gv:Int->Int->V}{g:Int->Int->D}(hg:∀K H i j,Rep K H (g i j) (gv i j)):tH (DY gv) (vZ (λ_ _=>true) g):=by
 intro K x y v u H Ha Q d hs r1 r2 e q;unfold vZ at e;cases x with
 |int i=>
  cases y with|int j=>simp only[if_pos]at e;cases e;exact⟨i,j,ay.mp r1,ay.mp r2,q _ (hg _ _ i j)⟩| _=>cases e
 |_=>cases e
def tI(o:D->D->au D):Prop:=∀x y,∀z,o x y≠.exn z
def o7{r r':R2}{o o':D->D->au D}(p:tH r o)(p':tH r' o')(n:tI o)(n':tI o')(σ:L2.St)(H:Hp)(Q:VK)(q:tD X.K E (iV o o' f g h) σ H Q) :
  yX r r' (tD X.K E f) (tD X.K E g) (tD X.K E h) σ H Q:=by
 obtain⟨Ha,ρ,hs,hr,q⟩:=q;refine⟨Ha,ρ,hs,hr,?_⟩;unfold iV at q;cases e1:f ρ with
 |stuck|exn x=>rw[e1]at q;exact q
 |ok x=>
  rw[e1]at q;intro v H1 H01 g1 r1;refine⟨H01,ρ,g1.sub,hr.mono g1.z,?_⟩;replace q:=post.grow (r:=(g ρ).bind λy=>(o x y).bind λz=>match z with
   |.bl true=>(h ρ).bind λw=>o' y w
   |.bl false=>.ok (.bl false)
   |_=>.stuck) q g1
  cases e2:g ρ with
  |stuck|exn x=>rw[e2]at q;exact q
  |ok y=>
   rw[e2]at q;intro u H2 H02 g2 r2;replace q:=post.grow (r:=(o x y).bind λz=>match z with
    |.bl true=>(h ρ).bind λw=>o' y w
    |.bl false=>.ok (.bl false)
    |_=>.stuck) q g2
   cases e3:o x y with
   |stuck=>rw[e3]at q;exact q.elim|exn z=>exact absurd e3 (n x y z)
   |ok z=>
    rw[e3]at q;refine p X.K x y v u H2 H02 _ z g2.sub (r1.mono g2.z) r2 e3 λw rw'=>?_;cases z with
    |bl b=>
     rw[aH.mp rw'];refine⟨b,rfl,?_⟩;cases b with
     |false=>rw[if_neg QY];exact q _ H2 H02 (bf.refl g2.sub) (rb _)
     |true=>
      rw[if_pos rfl];refine⟨H02,ρ,g2.sub,(hr.mono g1.z).mono g2.z,?_⟩;replace q:post X.K E H2 H02 ((h ρ).bind λw=>o' y w) Q:=q;cases e4:h ρ with
      |stuck|exn x=>rw[e4]at q;exact q
      |ok w2=>
       rw[e4]at q;intro v3 H3 H03 g3 r3;replace q:=post.grow (r:=o' y w2) q g3;cases e5:o' y w2 with
       |stuck=>rw[e5]at q;exact q.elim|exn z=>exact absurd e5 (n' y w2 z)
       |ok d=>
        rw[e5]at q;exact p' X.K y w2 u v3 H3 H03 Q d g3.sub (r2.mono g3.z) r3 e5 λw3 r5=>q w3 H3 H03 (bf.refl g3.sub) r5
    |_=>exact q.elim
def Fe{op op':CmpOp}{r r':R2}{o o':D->D->au D}(ho:fR X (Qv op) r)(ho':fR X (Qv op') r')(p:tH r o)(p':tH r' o')(n:tI o)(n':tI o')(ha:DE X E a f)(hb:DE X E b g)(hc:DE X E c h)
  (hm:lastMarks [op,op'] [b,c]=false:=by with_unfolding_all rfl):DE X E (.Compare a [op,op'] [b,c] pos) (iV o o' f g h):=⟨bp (Ef ho ho' ha.o hb.o hc.o hm) (o7 p p' n n')⟩
def yk{op op':CmpOp}{r r':R2}{o o':D->D->au D}(ho:fR X (Qv op) r)(ho':fR X (Qv op') r')(p:tH r o)(p':tH r' o')(n:tI o)(n':tI o')(ha:DE X E a f)(hb:DE X E b g)(hc:DE X E c h)
  (hm:lastMarks [op,op'] [b,c]=false:=by with_unfolding_all rfl):DT X E (.Compare a [op,op'] [b,c] pos) (iV o o' f g h):=by
 refine⟨?_⟩;refine pP (D2 ho ho' ha.o hb.o hc.o hm) λσ H Q q=>?_;have w:tD X.K E (iV o o' f g h) σ H λx H'=>∃k,x=.bl k/\Q k H':=by
  obtain⟨Ha,ρ,hs,hr,q⟩:=q;refine⟨Ha,ρ,hs,hr,?_⟩;cases e1:iV o o' f g h ρ with
  |stuck|exn x=>rw[e1]at q;exact q
  |ok d=>
   rw[e1]at q;intro v H1 H01 g1 r1;cases d with|bl b=>rw[aH.mp r1];exact⟨b,rfl,q H1 H01 g1⟩| _=>exact q.elim
 exact o7 p p' n n' σ H _ w
def gQ{c:Int->Int->Bool}{g:Int->Int->D}:tI (vZ c g):=by
 intro x y z;unfold vZ;cases x<;>cases y<;>simp<;>split<;>simp
end
def mB(i:Nat):Ev->Nat:=λρ=>match ρ[i]? with
 |some (.sh (.int j))=>j.natAbs+1
 |_=>0
section
variable {X:Cx}{E:XK}{a b:Qa}{f g:am}{pos:Pos}
def aW(x y:D):au D:=match x,y with
 |.int i,.int j=>if dg i j=true then .ok (.int (i*j)) else .stuck
 |_,_=>.stuck
def cy(ha:DE X E a f)(hb:DE X E b g):DE X E (.BinOp a .Mult b pos) (aa f g aW):=oW GS (by
 intro x y v u H Ha Q hs r1 r2 q;unfold aW at q;cases x with
 |int i=>
  cases y with
  |int j=>
   by_cases h:dg i j=true
   .simp only[if_pos h]at q
    exact⟨i,j,ay.mp r1,ay.mp r2,dg.ok h,bL hs q (ri _)⟩
   .simp only[if_neg h]at q;exact q.elim
  |_=>exact q.elim
 |_=>exact q.elim) ha hb
end
def Kt(K:Ph)(tg:Ev->D->au Ev):TG:=λv σ H Q=>∃He η,tG K He η tg v σ H Q
theorem Reps.rep{K:Ph}{H:Hp}{ds:ac}{vs:ad}(h:Reps K H ds vs):∀k:Nat,Reps K H (PY k ds).flatten (PY k vs).flatten
 |0=>by simp;exact Reps.nil
 |k+1=>by
  rw[QD,QD,R0,R0];exact h.app (Reps.rep h k)
section
variable {X:Cx}{E:XK}{a b:Qa}{f g:am}{pos:Pos}
def HI(x y:D):au D:=match x,y with
 |.lst ds,.int k=>if ds.length*k.toNat<=line/\-9223372036854775808<=k/\k<9223372036854775808 then .ok (.lst (PY k.toNat ds).flatten) else .stuck
 |_,_=>.stuck
def tU(f g:am):am:=λρ=>(f ρ).bind λx=>match x with
 |.lst ds=>(g ρ).bind λy=>HI (.lst ds) y
 |_=>.stuck
def we(ha:DF X E a f)(hb:DE X E b g):DE X E (.BinOp a .Mult b pos) (tU f g):=by
 refine⟨?_⟩;refine bp (Ec J0 ha.o hb.o) λσ H Q z9=>?_;obtain⟨Ha,ρ,hs,hr,q⟩:=z9;refine⟨Ha,ρ,hs,hr,?_⟩
 unfold tU at q;cases e1:f ρ with
 |stuck|exn x=>rw[e1]at q;exact q
 |ok x=>
  rw[e1]at q;cases x with
  |lst ds=>
   replace q:post X.K E H Ha ((g ρ).bind λy=>HI (.lst ds) y) Q:=q;intro p vs H1 H01 g1 hp h0 hv rp;refine⟨H01,ρ,g1.sub,hr.mono g1.z,?_⟩;replace q:=q.grow g1;cases e2:g ρ with
   |stuck|exn x=>rw[e2]at q;exact q
   |ok y=>
    rw[e2]at q;intro u H2 H02 g2 r2;replace q:=post.grow (r:=HI (.lst ds) y) q g2;cases y with
    |int k=>
     unfold HI at q
     by_cases c:ds.length*k.toNat<=line/\-9223372036854775808<=k/\k<9223372036854775808
     .simp only[if_pos c]at q
      refine⟨p,k,vs,rfl,ay.mp r2,g2.s _ _ hv,by omega,by omega,by rw[←rp.length];exact eC c.1,λn hn=>?_⟩;exact q _ _ _ (bz g2.sub hn) (aE.mpr ⟨n,_,rfl,fk.of aP,((rp.mono g2.z).rep _).mono (bz g2.sub hn).z⟩)
     .simp only[if_neg c]at q;exact q.elim
    |_=>exact q.elim
  |_=>exact q.elim
end
def iO:ac->Option (ce)
 |[]=>some []
 |.str x::r=>(iO r).map (x::·)
 |_=>none
theorem wW{K:Ph}{H:Hp}:∀{ds:ac}{ys:ce}{vs:ad}{us:List Pb},iO ds=some ys->Reps K H ds vs->aY vs us->StrsAre us ys
 |[],ys,vs,us,h,r,q=>by
  cases h;rw[Reps.nil_iff.mp r]at q;cases q;exact .nil
 |d::ds,ys,vs,us,h,r,q=>by
  obtain⟨v,r',rfl,h1,h2⟩:=az.mp r;cases q with
  |cons q1 q2=>
   cases d with
   |str x=>
    unfold iO at h;cases e:iO ds with
    |none=>rw[e]at h;cases h
    |some zs=>
     rw[e]at h;cases h;rw[Rep.str_iff.mp h1]at q1;obtain⟨t,rfl⟩:=q1;exact .cons _ _ (wW e h2 q2)
   |_=>cases h
section
variable {X:Cx}{E:XK}{o e:Qa}{fo:am}{fa:Ev->au (ac)}
def iE(z:Pq)(ys:ce):Bool:=decide (z.length<=16)&&decide ((ys.map (·.length)).sum+ys.length<=1048576)
def L5(K:Ph):V->ad->Hp->VK->Prop:=λx xs H Q=>∃z p ds ys,x=.str z/\xs=[.ref p]/\Rep K H (.lst ds) (.ref p)/\iO ds=some ys/\iE z ys=true/\Q (.str (Ud z ys)) H
def G6:OC X "str.join" (L5 X.K):=by
 intro π s σ H x xs v us Q I rx rs h;obtain⟨z,p,ds,ys,rfl,rfl,hr,hy,hf,q⟩:=h;obtain⟨t,rfl⟩:=rx;obtain⟨u,rfl,ru⟩:=rs.one;obtain⟨a,vs,its,ea,rfl,h1,h2,h3,h4,_⟩:=aX I hr ru;unfold iE at hf;rw[PM]at hf;exact join_listW h4 (by simpa using wW hy h2 h3) (of_decide_eq_true hf.1) (of_decide_eq_true hf.2) λt' k=>⟨.str (Ud z ys),H,I.tok _,⟨_,rfl⟩,q⟩
def qW(z:Pq)(xs:ac):au D:=match xs with
 |[.lst ds]=>match iO ds with
  |some ys=>if iE z ys=true then .ok (.str (Ud z ys)) else .stuck
  |none=>.stuck
 |_=>.stuck
def yr(fo:am)(fa:Ev->au (ac)):am:=λρ=>(fo ρ).bind λx=>match x with
 |.str z=>(fa ρ).bind λxs=>qW z xs
 |_=>.stuck
def HE{apos cpos:Pos}(ho:DE X E o fo)(ha:DA X E [e] fa)
  (hbase:Sg o "join" X.env (eval o X.env)=eval o X.env:=by rfl)
  (hfew:((Rj cpos (PD [e] X.env)).all (λx=>!x.1)&&(Ua cpos (S3 [] X.env)).all (λx=>x.1.isSome)
  &&decide ([e].length+([]:List S6).length+(if([]:List S6).isEmpty then 0 else 1)<30))=true:=by exact rg rfl)
  (hline:(apos.endLine==cpos.line)=true:=by rfl) (hs:PD [e] X.env=(false,eval e X.env)::PD [] X.env:=by exact bB rfl) (hplain:(Rj cpos (PD [] X.env)).any (·.1)=false:=by exact dk rfl) :
  DE X E (.Call (.Attribute o "join" apos) [e] [] cpos) (yr fo fa):=by
 refine⟨?_⟩;refine bp (Eg PySem.F.plainAttrs_str PySem.F.slot_str_join PySem.F.type_str_join G6 ho.o ha.o hbase hfew hline hs hplain) λσ H Q z9=>?_;obtain⟨Ha,ρ,hs,hr,q⟩:=z9;refine⟨Ha,ρ,hs,hr,?_⟩
 unfold yr at q;cases e1:fo ρ with
 |stuck|exn x=>rw[e1]at q;exact q
 |ok x=>
  rw[e1]at q;intro v H1 H01 g1 r1;cases x with
  |str z=>
   rw[Rep.str_iff.mp r1];refine⟨rfl,H01,ρ,g1.sub,hr.mono g1.z,?_⟩;replace q:=post.grow (r:=(fa ρ).bind λxs=>qW z xs) q g1;cases e2:fa ρ with
   |stuck|exn x=>rw[e2]at q;exact q
   |ok xs=>
    rw[e2]at q;intro us H2 H02 g2 r2;replace q:=post.grow (r:=qW z xs) q g2;unfold qW at q
    match xs,r2,q with
    |[.lst ds],r2,q=>
     obtain⟨w,r',rfl,k1,k2⟩:=az.mp r2;rw[Reps.nil_iff.mp k2];obtain⟨p,vs,rfl,k3,k4⟩:=aE.mp k1;cases e3:iO ds with
     |none=>simp only[e3]at q;exact q.elim
     |some ys=>
      simp only[e3]at q
      by_cases c:iE z ys=true
      .rw[if_pos c]at q
       exact⟨z,p,ds,ys,rfl,rfl,k1.mono g2.sub,e3,c,bL g2.sub q (Rep.str_iff.mpr rfl)⟩
      .rw[if_neg c]at q;exact q.elim
    |[],_,q=>exact q.elim
    |d1::_::_,_,q=>cases d1<;>exact QK q
    |[.non],_,q=>exact q.elim
    |[.bl _],_,q=>exact q.elim
    |[.int _],_,q=>exact q.elim
    |[.str _],_,q=>exact q.elim
    |[.tup _],_,q=>exact q.elim
    |[.dic _ _],_,q=>exact q.elim
    |[.exc _],_,q=>exact q.elim
    |[.ob _ _],_,q=>exact q.elim
  |_=>exact q.elim
end
section
variable {X:Cx}{E:XK}{a:Qa}{f:am}{pos:Pos}
def NL:V->Option Int->Option Int->Hp->VK->Prop:=λx lo hi H Q=>∃z,x=.str z/\z.length<=sizeLine/\Q (.str (Ss z lo hi)) H
def Jt:FI X NL:=by
 intro π s σ H x v vl vu lo hi sl Q I rx hs pl pu h;obtain⟨z,rfl,hz,q⟩:=h;obtain⟨t,rfl⟩:=rx;have fin:∀t' k,EP X π σ Q (.str (Ss z lo hi) t') { s with toks:=k }:=λt' k=>⟨.str (Ss z lo hi),H,I.tok _,⟨_,rfl⟩,q⟩
 refine⟨"str",_,PySem.F.slot_str_getitem.lookup,typeIs_str s z t,?_⟩;cases pl with
 |none=>
  cases pu with|none=>exact wpAny_getItem_str_slice (l:=none) (u:=none) (st:=none) hs rfl (post_val_or_str ⟨Pu (TJ z _ _) hz,fin⟩)|int j uj=>exact wpAny_getItem_str_slice (l:=none) (u:=some (j,uj)) (st:=none) hs rfl (post_val_or_str ⟨Pu (TJ z _ _) hz,fin⟩)
 |int i ui=>
  cases pu with|none=>exact wpAny_getItem_str_slice (l:=some (i,ui)) (u:=none) (st:=none) hs rfl (post_val_or_str ⟨Pu (TJ z _ _) hz,fin⟩)|int j uj=>exact wpAny_getItem_str_slice (l:=some (i,ui)) (u:=some (j,uj)) (st:=none) hs rfl (post_val_or_str ⟨Pu (TJ z _ _) hz,fin⟩)
noncomputable def qi(x:D) (l h:Option Int):au D:=match x with
 |.lst ds=>.ok (.lst (lD ds l h))
 |.str z=>if z.length<=line then .ok (.str (Ss z l h)) else .stuck
 |.tup ds=>if HT.sIx ds.length 0 l=0/\HT.sIx ds.length ds.length h=ds.length then .stuck else .ok (.tup (lD ds l h))
 |_=>.stuck
def gm(f:am)(lo hi:Ev->au (Option Int)):am:=λρ=>(f ρ).bind λx=>(lo ρ).bind λl=>(hi ρ).bind λh=>qi x l h
def dq{lo hi:Option Qa}{p2:Pos}{fl fh:Ev->au (Option Int)}(ha:DE X E a f)(hl:DO X E lo fl)(hh:DO X E hi fh):DE X E (.Subscript a (.Slice lo hi none p2) pos) (gm f fl fh) :=
 ⟨bp (Eb (FI.or Ga (FI.or Jt Js)) ha.o hl.o hh.o) (wZ (m:=qi) λx v l h H Ha Q hs r q=>by
  cases x with
  |lst ds=>
   obtain⟨p,vs,rfl,h1,h2⟩:=aE.mp r;exact .inl ⟨p,vs,rfl,aD.sqL hs h1,λn hn=>q _ _ _ (bz hs hn) (aE.mpr ⟨n,_,rfl,fk.of aP,(h2.cut l h).mono (bz hs hn).z⟩)⟩
  |str z=>
   unfold qi at q
   by_cases c:z.length<=line
   .simp only[if_pos c]at q
    exact .inr (.inl ⟨z,Rep.str_iff.mp r,eC c,bL hs q (Rep.str_iff.mpr rfl)⟩)
   .simp only[if_neg c]at q;exact q.elim
  |tup ds=>
   unfold qi at q
   by_cases c:HT.sIx ds.length 0 l=0/\HT.sIx ds.length ds.length h=ds.length
   .simp only[if_pos c]at q;exact q.elim
   .simp only[if_neg c]at q
    obtain⟨p,vs,rfl,h1,h2⟩:=aL.mp r;exact .inr (.inr ⟨p,vs,rfl,aD.sqT hs h1,by rw[←h2.length];exact c,λn hn=>q _ _ _ (bz hs hn) (aL.mpr ⟨n,_,rfl,nV.of aP,(h2.cut l h).mono (bz hs hn).z⟩)⟩)
  |_=>exact q.elim)⟩
end
def Of(z:Pq):It:=⟨λi _=>i<z.cps.size,λi H x H'=>H'=H/\∃c,z.cps[i]?=some c/\x=.str ⟨#[c]⟩,λi _=>z.cps.size<=i⟩
def yU{P:Qe}{w:Qt}{K:Ph}{tg:Qa}(z:Pq)(t:Tok)(it:Pk):zY P w K tg (Of z) [it] it (λi h=>h.IsStrIter it "str_ascii_iterator" z t i) where
 mem:=by simp
 obj:=λi h st b hb=>by
  have e:b=it:=by simpa using hb
  subst e;obtain⟨o,e,c,d⟩:=st;exact⟨o,e,λv z=>by rw[d]at z;cases z⟩
 keep:=λi h h' st k=>let ⟨o,ho,r⟩:=st;⟨o,k it (by simp) o ho,r⟩
 item:=by
  intro X hP hw hK hc i π s σ H E I hf st hg;subst hP hw hK;have hg':i<z.cps.size:=hg;obtain⟨f0,f1,f2,f3,f4,f5⟩:=hf it (by simp);refine wpAny_pyNext_ascii_item st (c:=z.cps[i]) (by simp[hg']) λh' st' sb=>?_;have I1:Inv X π σ H { s with heap:=h',toks:=s.toks+1 }:=I.turned (t':=s.toks+1) (λb o hb e=>(sb.2 b hb).trans e) f0 f1 f3 f4 f5;obtain⟨o,e,c,d⟩:=id st';exact⟨_,rfl,AY (s:={ s with heap:=h',toks:=s.toks+1 }) e c d (by decide) ⟨.str ⟨#[z.cps[i]]⟩,H,I1,⟨_,rfl⟩,⟨rfl,_,by simp[hg'],rfl⟩,st',λb hb=>(hf b hb).1⟩⟩
 done:=by
  intro X hP hw hK hc i π s σ H E I hf st hg;subst hP hw hK;have hg':z.cps.size<=i:=hg;obtain⟨f0,f1,f2,f3,f4,f5⟩:=hf it (by simp);exact wpAny_pyNext_ascii_end (I.ok.hd hc) st (by simp[hg']) λh' eb=>⟨rfl,I.turned (t':=s.toks) (λb o hb e=>eb b o hb e) f0 f1 f3 f4 f5⟩
 self:=λ_ _ _ _ _ st h=>wpAny_pyIter_striter_ascii st h
def Bs{P:Qe}{w:Qt}{K:Ph}{tg:Qa}(z:Pq)(t:Tok)(it:Pk):zY P w K tg (Of z) [it] it (λi h=>h.IsStrIter it "str_iterator" z t i) where
 mem:=by simp
 obj:=λi h st b hb=>by
  have e:b=it:=by simpa using hb
  subst e;obtain⟨o,e,c,d⟩:=st;exact⟨o,e,λv z=>by rw[d]at z;cases z⟩
 keep:=λi h h' st k=>let ⟨o,ho,r⟩:=st;⟨o,k it (by simp) o ho,r⟩
 item:=by
  intro X hP hw hK hc i π s σ H E I hf st hg;subst hP hw hK;have hg':i<z.cps.size:=hg;obtain⟨f0,f1,f2,f3,f4,f5⟩:=hf it (by simp);refine wpAny_pyNext_wide_item st (c:=z.cps[i]) (by simp[hg']) λh' st' sb=>?_;have I1:Inv X π σ H { s with heap:=h',toks:=s.toks+1 }:=I.turned (t':=s.toks+1) (λb o hb e=>(sb.2 b hb).trans e) f0 f1 f3 f4 f5;obtain⟨o,e,c,d⟩:=id st';exact⟨_,rfl,AY (s:={ s with heap:=h',toks:=s.toks+1 }) e c d (by decide) ⟨.str ⟨#[z.cps[i]]⟩,H,I1,⟨_,rfl⟩,⟨rfl,_,by simp[hg'],rfl⟩,st',λb hb=>(hf b hb).1⟩⟩
 done:=by
  intro X hP hw hK hc i π s σ H E I hf st hg;subst hP hw hK;have hg':z.cps.size<=i:=hg;obtain⟨f0,f1,f2,f3,f4,f5⟩:=hf it (by simp);exact wpAny_pyNext_wide_end (I.ok.hd hc) st (by simp[hg']) λh' eb=>⟨rfl,I.turned (t':=s.toks) (λb o hb e=>eb b o hb e) f0 f1 f3 f4 f5⟩
 self:=λ_ _ _ _ _ st h=>wpAny_pyIter_striter_wide st h
def NX(tl:TE):TI:=λσ H R=>tl σ H λx H1=>∃z,x=.str z/\R (Of z) H1
def JK{X:Cx}{tg l:Qa}{tl:TE}(hl:PE X l tl):PI X tg l (NX tl):=by
 intro π s σ H R I h;refine cJ (hl π s σ H _ I h) λv s1 ⟨x,H1,I1,r1,q1⟩=>?_;obtain⟨z,rfl,q⟩:=q1;obtain⟨t,rfl⟩:=r1;have fpo:∀b∈[s1.heap.objs.size],oJ X π H1 b:=λb hb=>by
  have e:b=s1.heap.objs.size:=by simpa using hb
  subst e;exact I1.fpOk (P1 _) (I1.hok.fresh (P1 _))
 cases ha:z.cps.all (· < 128) with|false=>exact wpAny_pyIter_wide ha ⟨s1.heap.objs.size,[s1.heap.objs.size],_,_,H1,rfl,I1.kept (t':=s1.toks) λb o e=>Px _ e,Bs z t _,⟨_,Qr _ rfl,rfl,rfl⟩,fpo,q⟩|true=>exact wpAny_pyIter_ascii ha ⟨s1.heap.objs.size,[s1.heap.objs.size],_,_,H1,rfl,I1.kept (t':=s1.toks) λb o e=>Px _ e,yU z t _,⟨_,Qr _ rfl,rfl,rfl⟩,fpo,q⟩
def j8(z:Pq):ac:=z.cps.toList.map λc=>.str ⟨#[c]⟩
def lQ(z:Pq):(j8 z).length=z.cps.size:=by unfold j8;simp
section
variable {X:Cx}{E:XK}
def Md(K:Ph):ad->Hp->VK->Prop:=λxs H Q=>∃(p:Pk) (bs:List Bool),xs=[.ref p]/\fk K H p (bs.map V.bl)/\Q (.bl (bs.all id)) H
theorem vh:∀bs:List Bool,(Qu bs.length).all (λi=>bs.getD i false)=bs.all id
 |[]=>rfl
 |b::r=>by
  rw[PL,Tg,RT,UE,RT,←vh r];rfl
def sV(hc:X.calm=true):nT X (.builtin "all") (Md X.K):=by
 intro π s σ H xs us Q I r h;obtain⟨p,bs,rfl,hq,q⟩:=h;obtain⟨u,rfl,rx⟩:=z9 r;cases rx;obtain⟨its,rv,pl,hz⟩:=I.list hq;have hlen:=rv.length;rw[Pg]at hlen;have hne:p≠s.heap.objs.size:=Qh pl.lt;refine call_all_walk (wpAny_pyIter_list pl.isList ?_);have pl2:(s.heap.push { cls:=.type "list_iterator",data:=.fields #[.ref p,.int 0 0] }).IsList p its.toArray:=by
  obtain⟨o,k1,k2⟩:=pl.isList;exact⟨o,Px _ k1,k2⟩
 refine⟨s.heap.objs.size,_,_,_,_,_,λi=>bs.getD i false,rfl,Walks.list (A:=X.A.in1) (I.ok.hd hc) s.heap.objs.size p hne its.toArray,⟨⟨_,Qr _ rfl,rfl,rfl⟩,pl2⟩,?_,λh' tk hk=>?_⟩
 .intro i v s' Q' E' hv hQ
  have hv':its[i]?=some v:=by simpa using hv
  have hi:i<its.length:=(Po.mp hv').1;obtain⟨w,e1,e2⟩:=rv.get (show(bs.map V.bl)[i]?=some (V.bl (bs.getD i false)) by
   rw[Pp,Pd (by omega)];simp[List.getD,Pd (show i<bs.length by omega)])
  rw[hv']at e1;cases e1;obtain rfl:v=QW _:=e2;exact Q1 hQ
 .have hall:(Qu its.toArray.size).all (λi=>bs.getD i false)=bs.all id:=by
   rw[PJ,←hlen];exact vh bs
  rw[hall];exact⟨.bl _,H,I.kept (t':=tk) (λb o e=>hk b o (by simp only[PF];exact Qh (PQ e)) (Px _ e)),rfl,q⟩
def fM:ac->Option (List Bool)
 |[]=>some []
 |.bl b::r=>(fM r).map (b::·)
 |_=>none
theorem u3{K:Ph}{H:Hp}:∀{ds:ac}{bs:List Bool}{vs:ad},fM ds=some bs->Reps K H ds vs->vs=bs.map V.bl
 |[],bs,vs,h,r=>by cases h;exact Reps.nil_iff.mp r
 |d::ds,bs,vs,h,r=>by
  obtain⟨v,r',rfl,h1,h2⟩:=az.mp r;cases d with
  |bl x=>
   unfold fM at h;cases e:fM ds with
   |none=>rw[e]at h;cases h
   |some zs=>
    rw[e]at h;cases h;rw[aH.mp h1,u3 e h2];rfl
  |_=>cases h
def sI(x:D):au D:=match x with
 |.lst ds=>match fM ds with
  |some bs=>.ok (.bl (bs.all id))
  |none=>.stuck
 |_=>.stuck
def zN:pj X E (Md X.K) (m1 sI):=Bc λx v H Ha Q hs r q=>by
 cases x with
 |lst ds=>
  unfold sI at q;obtain⟨p,vs,rfl,h1,h2⟩:=aE.mp r;cases e:fM ds with
  |none=>simp only[e]at q;exact q.elim
  |some bs=>
   simp only[e]at q;exact⟨p,bs,rfl,by rw[←u3 e h2];exact aD.sqL hs h1,bL hs q (rb _)⟩
 |_=>exact q.elim
end
end DL
namespace L2
open PySem PySem.Spec PyProof.Rows
section
variable {κ:Type}[DecidableEq κ]
def pz(kvs:List (κ×V))(k:κ):Option V:=(kvs.find? λkv=>decide (kv.1=k)).map (·.2)
def j9(kvs:List (κ×V))(k:κ)(v:V):List (κ×V) :=
 if(kvs.any λkv=>decide (kv.1=k))=true then kvs.map (λkv=>if kv.1=k then(kv.1,v) else kv) else kvs++[(k,v)]
def ma{p:κ×V}{r:List (κ×V)}{k:κ}(e:p.1=k):pz (p::r) k=some p.2:=by simp[pz,Sm,e]
def jZ{p:κ×V}{r:List (κ×V)}{k:κ}(e:¬p.1=k):pz (p::r) k=pz r k:=by simp[pz,Sm,e]
theorem wN(k:κ):∀kvs:List (κ×V),(kvs.any λkv=>decide (kv.1=k))=(pz kvs k).isSome
 |[]=>rfl
 |p::r=>by
  rw[RI]
  by_cases e:p.1=k
  .simp only[ma e,decide_eq_true e,Bool.true_or,Option.isSome_some]
  .rw[jZ e,decide_eq_false e,Tu];exact wN k r
def kl(kvs:List (κ×V))(k:κ)(v:V):(j9 kvs k v).length<=kvs.length+1:=by
 unfold j9;split
 .rw[Pg];omega
 .rw[P9,PL,RQ];omega
def wA.isSome_eq{o:Option V}{u:Option Pb}(r:wA o u):o.isSome=u.isSome:=by
 cases o with
 |none=>cases u with
  |none=>rfl
  |some _=>exact(show False from r).elim
 |some _=>cases u with
  |none=>exact(show False from r).elim
  |some _=>rfl
def KV.val{kvs:List (κ×V)}{vs:List (κ×Pb)}(r:KV kvs vs)(k:κ):wA (pz kvs k) (valueAt vs k):=by
 unfold KV at r
 induction r with
 |nil=>exact Ra
 |@cons p q ps qs h t ih=>
  obtain⟨h1,h2⟩:=h
  by_cases e:p.1=k
  .have e':q.1=k:=h1.symm.trans e
   have b:valueAt (q::qs) k=some q.2:=by simp[valueAt,Sm,e']
   rw[ma e,b];exact h2
  .have e':¬q.1=k:=λz=>e (h1.trans z)
   have b:valueAt (q::qs) k=valueAt qs k:=by simp[valueAt,Sm,e']
   rw[jZ e,b];exact ih
def KV.any{kvs:List (κ×V)}{vs:List (κ×Pb)}(r:KV kvs vs)(k:κ):(kvs.any λkv=>decide (kv.1=k))=vs.any λkv=>decide (kv.1=k):=by
 unfold KV at r
 induction r with|nil=>rfl|cons h t ih=>rw[RI,RI,ih,h.1]
def KV.repl{kvs:List (κ×V)}{vs:List (κ×Pb)}(r:KV kvs vs)(k:κ){y:V}{u:Pb}(ry:bh y u) :
  KV (kvs.map λkv=>if kv.1=k then(kv.1,y) else kv) (vs.map λkv=>if kv.1=k then(kv.1,u) else kv):=by
 unfold KV at r ⊢
 induction r with
 |nil=>exact .nil
 |@cons p q ps qs h t ih=>
  rw[Pl,Pl];refine .cons ?_ ih;obtain⟨h1,h2⟩:=h
  by_cases e:p.1=k
  .rw[if_pos e,if_pos (h1.symm.trans e)];exact⟨h1,ry⟩
  .rw[if_neg e,if_neg (λz=>e (h1.trans z))];exact⟨h1,h2⟩
def KV.put{kvs:List (κ×V)}{vs:List (κ×Pb)}(r:KV kvs vs)(k:κ){y:V}{u:Pb}(ry:bh y u):KV (j9 kvs k y) (stored vs k u):=by
 unfold j9 stored;rw[r.any k]
 by_cases e:(vs.any λkv=>decide (kv.1=k))=true
 .rw[if_pos e,if_pos e];exact r.repl k ry
 .rw[if_neg e,if_neg e];exact Paired.snoc r ⟨rfl,ry⟩
def KV.length{kvs:List (κ×V)}{vs:List (κ×Pb)}(r:KV kvs vs):kvs.length=vs.length:=Ur r
end
def uO{P:Qe}{w:Qt}{k:eD}{u:Pb}(r:bh (kV k) u):(c5 P w).is k u=true:=by
 cases k with|inl i=>obtain⟨t,e⟩:=(show ∃t,u=Q9 i t from r);subst e;exact xD P w i t|inr x=>obtain⟨t,e⟩:=(show ∃t,u=Q8 x t from r);subst e;exact xC P w x t
theorem uP{P:Qe}{w:Qt}:∀{ks:List eD}{us:List Pb},aY (ks.map kV) us->ItemsAre (c5 P w) ks us
 |[],_,r=>by rw[Rq]at r;cases r;exact .nil
 |k::ks,_,r=>by
  rw[Pl]at r;cases r with|cons h t=>exact .cons (uO h) (uP t)
abbrev KT(H:Hp):List (List eD×V)->List (List eD×Pk×Pb)->Prop:=Paired λp q=>p.1=q.1/\H q.2.1=some (.tup (p.1.map kV))/\bh p.2 q.2.2
def KT.val{H:Hp}{kvs:List (List eD×V)}{xs:List (List eD×Pk×Pb)}(r:KT H kvs xs)(k:List eD):wA (pz kvs k) ((atKey xs k).map (·.2)):=by
 induction r with
 |nil=>exact Ra
 |@cons p q ps qs h t ih=>
  obtain⟨h1,_,h2⟩:=h
  by_cases e:p.1=k
  .have e':q.1=k:=h1.symm.trans e
   have b:atKey (q::qs) k=some q.2:=by simp[atKey,Sm,e']
   rw[ma e,b];exact h2
  .have e':¬q.1=k:=λz=>e (h1.trans z)
   have b:atKey (q::qs) k=atKey qs k:=by simp[atKey,Sm,e']
   rw[jZ e,b];exact ih
def KT.repl{H:Hp}{kvs:List (List eD×V)}{xs:List (List eD×Pk×Pb)}(r:KT H kvs xs)(k:List eD){y:V}{u:Pb}(ry:bh y u) :
  KT H (kvs.map λkv=>if kv.1=k then(kv.1,y) else kv) (xs.map (putAt k u)):=by
 induction r with
 |nil=>exact .nil
 |@cons p q ps qs h t ih=>
  rw[Pl,Pl];refine .cons ?_ ih;obtain⟨h1,h2,h3⟩:=h;unfold putAt
  by_cases e:p.1=k
  .rw[if_pos e,if_pos (h1.symm.trans e)];exact⟨h1,h2,ry⟩
  .rw[if_neg e,if_neg (λz=>e (h1.trans z))];exact⟨h1,h2,h3⟩
def KT.put{H:Hp}{kvs:List (List eD×V)}{xs:List (List eD×Pk×Pb)}(r:KT H kvs xs)(k:List eD){b:Pk}{y:V}{u:Pb}(hb:H b=some (.tup (k.map kV)))(ry:bh y u) :
  KT H (j9 kvs k y) (storedH xs k b u):=by
 have e:(kvs.any λkv=>decide (kv.1=k))=(atKey xs k).isSome:=by
  rw[wN,(r.val k).isSome_eq,TM]
 unfold j9 storedH;rw[e]
 by_cases q:(atKey xs k).isSome=true
 .rw[if_pos q,if_pos q];exact r.repl k ry
 .rw[if_neg q,if_neg q];exact Paired.snoc r ⟨rfl,hb,ry⟩
def KT.keeps{H H':Hp}{kvs:List (List eD×V)}{xs:List (List eD×Pk×Pb)}(r:KT H kvs xs)(ht:∀b ys,H b=some (.tup ys)->H' b=some (.tup ys)):KT H' kvs xs :=
 kS r λ_ _ z=>⟨z.1,ht _ _ z.2.1,z.2.2⟩
section
variable {P:Qe}{w:Qt}{H:Hp}{h:PR}{a:Pk}
def Iw{u:HO}(ok:ji P w H h)(e:Rd H a u):cT P w H h a u:=e.ok ok
def ym{kvs:List (eD×V)}(ok:ji P w H h)(e:Rd H a (.dK kvs)):kvs.length<=sizeLine/\(a==RO)=false/\∃vs,KV kvs vs/\h.DictOf (c5 P w) a vs :=
 show cT P w H h a (.dK kvs) from Iw ok e
def IJ{kvs:List (eD×V)}(ok:ji P w H h)(e:H a=some (.dK kvs)):kvs.length<=sizeLine/\(a==RO)=false/\∃vs,KV kvs vs/\h.DictOf (c5 P w) a vs:=ym ok (.inl e)
def qV{ks:List eD}(ok:ji P w H h)(e:H a=some (.tup (ks.map kV))):(tupleKind (c5 P w)).is h ks a:=by
 obtain⟨_,its,r,o,h1,h2,n,h3⟩:=(show cT P w H h a (.tup (ks.map kV)) from ok a _ e)
 exact⟨o,its.toArray,n,h1,h2,h3,by simpa using uP r⟩
def yj{kvs:List (List eD×V)}(ok:ji P w H h)(e:Rd H a (.dT kvs)):kvs.length<=sizeLine/\(a==RO)=false /\
  ∃xs,KT H kvs xs/\h.DictOfH (tupleKind (c5 P w)) a xs:=by
 obtain⟨z,y,xs,r,o,es,ep,h1,h2,h3,h4,h5⟩:=(show cT P w H h a (.dT kvs) from Iw ok e)
 refine⟨z,y,xs,r,o,es,ep,h1,h2,h3,h4,λx hx=>?_,h5⟩;have all:∀{l:List (List eD×V)}{m:List (List eD×Pk×Pb)},KT H l m->∀x∈m,(tupleKind (c5 P w)).is h x.1 x.2.1:=by
  intro l m q
  induction q with
  |nil=>intro x hx;exact nomatch hx
  |@cons p q ps qs hq t ih=>
   intro x hx;rcases Pr.mp hx with e|hx
   .subst e
    exact qV ok (by rw[←hq.1];exact hq.2.1)
   .exact ih x hx
 exact all r x hx
def MN{kvs:List (List eD×V)}(ok:ji P w H h)(e:H a=some (.dT kvs)):kvs.length<=sizeLine/\(a==RO)=false /\
  ∃xs,KT H kvs xs/\h.DictOfH (tupleKind (c5 P w)) a xs:=yj ok (.inl e)
end
def wH(H:Hp)(a:Pk)(y:V)(r:Option V):Prop :=
 (∃kvs k,Rd H a (.dK kvs)/\y=kV k/\r=pz kvs k)∨∃kvs k b,Rd H a (.dT kvs)/\y=.ref b/\H b=some (.tup (k.map kV))/\r=pz kvs k
noncomputable def CI(H:Hp) (a:Pk) (y v:V) (H':Hp):Prop :=
 (∃kvs k,H a=some (.dK kvs)/\y=kV k/\kvs.length<sizeLine/\H'=upd H a (.dK (j9 kvs k v))) ∨
 ∃kvs k b,H a=some (.dT kvs)/\y=.ref b/\H b=some (.tup (k.map kV))/\kvs.length<sizeLine/\H'=upd H a (.dT (j9 kvs k v))
theorem CI.k{H:Hp}{a:Pk}{kvs:List (eD×V)}{k:eD}{v:V}(e:H a=some (.dK kvs))(hl:kvs.length<sizeLine):CI H a (kV k) v (upd H a (.dK (j9 kvs k v))):=.inl ⟨kvs,k,e,rfl,hl,rfl⟩
section
variable {X:Cx}{π:List (Pk×Obj)}{σ:St}{H:Hp}{s:Pj}{a:Pk}{y v:V}{u r:Pb}{o:Option V}{A:Qs}{E:Pb->Pj->Prop}
def Inv.big(I:Inv X π σ H s):RO<s.heap.objs.size:=by
 have h:PH<s.heap.objs.size:=(I.mod.glob.keeps I.bk).lt;exact Nat.lt_trans (by decide) h
def Cp{Q:Pb->Pj->Prop}(hu:A.units+1<RY)(I:Inv X π σ H s)(g:wH H a y (some v))(ry:bh y u)(h:∀w' s',Inv X π σ H s'->bh v w'->Q w' s') :
  P5 (PX X.prog X.w) A (getItem (.ref a) u) Q E s:=by
 rcases g with⟨kvs,k,e,ey,l⟩|⟨kvs,k,b,e,ey,eb,l⟩
 .subst ey
  obtain⟨z,hd,vs,rel,dd⟩:=ym I.hok e;obtain⟨w',hw,rw'⟩:=jH (v:=v) (o:=valueAt vs k) (by rw[l];exact rel.val k);exact wpAny_getItem_of (uO ry) dd.mapOf hw (h w' _ (I.tok _) rw')
 .subst ey
  cases (show u=Qm b from ry);obtain⟨z,hd,xs,rel,dd⟩:=yj I.hok e;obtain⟨w',hw,rw'⟩:=jH (v:=v) (o:=(atKey xs k).map (·.2)) (by rw[l];exact rel.val k);obtain⟨p,hp,hp2⟩:=UA.mp hw;refine wpAny_getItem_heap (tupleKind_room_in1 hu) (qV I.hok eb) dd hp ?_;rw[hp2];exact h w' _ (I.tok _) rw'
def N8{Q:Pb->Pj->Prop}(hu:A.units+1<RY)(I:Inv X π σ H s)(g:wH H a y o)(ry:bh y u)(h:∀s',Inv X π σ H s'->Q (.bool o.isSome) s') :
  P5 (PX X.prog X.w) A (Qv .In u (.ref a)) Q E s:=by
 rcases g with⟨kvs,k,e,ey,l⟩|⟨kvs,k,b,e,ey,eb,l⟩
 .subst ey
  obtain⟨z,hd,vs,rel,dd⟩:=ym I.hok e;refine wpAny_in_of (uO ry) hd dd.mapOf ?_;rw[←(rel.val k).isSome_eq,←l];exact h _ (I.tok _)
 .subst ey
  cases (show u=Qm b from ry);obtain⟨z,hd,xs,rel,dd⟩:=yj I.hok e;refine wpAny_in_heap (tupleKind_room_in1 hu) (qV I.hok eb) hd dd ?_;have q:=(rel.val k).isSome_eq;rw[TM]at q;rw[←q,←l];exact h _ (I.tok _)
def HH{Q:Pb->Pj->Prop}(hu:A.units+1<RY)(I:Inv X π σ H s)(g:wH H a y o)(ry:bh y u)(h:∀s',Inv X π σ H s'->Q (.bool (!o.isSome)) s') :
  P5 (PX X.prog X.w) A (Qv .NotIn u (.ref a)) Q E s:=by
 rcases g with⟨kvs,k,e,ey,l⟩|⟨kvs,k,b,e,ey,eb,l⟩
 .subst ey
  obtain⟨z,hd,vs,rel,dd⟩:=ym I.hok e;refine wpAny_notIn_of (uO ry) hd dd.mapOf ?_;rw[←(rel.val k).isSome_eq,←l];exact h _ (I.tok _)
 .subst ey
  cases (show u=Qm b from ry);obtain⟨z,hd,xs,rel,dd⟩:=yj I.hok e;refine wpAny_notIn_heap (tupleKind_room_in1 hu) (qV I.hok eb) hd dd ?_;have q:=(rel.val k).isSome_eq;rw[TM]at q;rw[←q,←l];exact h _ (I.tok _)
def wj{h':PR}{t':Nat}{ob:HO}(I:Inv X π σ H s)(mu:M4 (H a))(hs:SV a s.heap h')(he:∃q,h'.get? a=some q)(new:cT X.prog X.w (upd H a ob) h' a ob) :
  Inv X π σ (upd H a ob) { s with heap:=h',toks:=t' } :=
 I.write (x:=a) (e:=a) mu (.inl rfl) (λb q hb z=>(hs.2 b hb).trans z) he new
def E7{P:Qe}{w:Qt}{H':Hp}{h':PR}{kvs:List (eD×V)}{vs:List (eD×Pb)}(z:kvs.length<=sizeLine)(hd:(a==RO)=false)(rel:KV kvs vs)(dd:h'.DictOf (c5 P w) a vs) :
  cT P w H' h' a (.dK kvs):=⟨z,hd,vs,rel,dd⟩
def Co{H':Hp}{Q:Unit->Pj->Prop}(hu:A.units+1<RY)(I:Inv X π σ H s)(g:CI H a y v H')(ry:bh y u)(rv:bh v r)(h:∀s',Inv X π σ H' s'->Q () s') :
  P5 (PX X.prog X.w) A (setItem (.ref a) u r) Q E s:=by
 rcases g with⟨kvs,k,e,ey,l,eH⟩|⟨kvs,k,b,e,ey,eb,l,eH⟩
 .subst ey eH
  obtain⟨z,hd,vs,rel,dd⟩:=IJ I.hok e;have hz:vs.length<=sizeLine:=by rw[←rel.length];exact z
  have hl:(j9 kvs k v).length<=sizeLine:=by have:=kl kvs k v;omega
  refine wpAny_setItem_pairs (hsz:=hz) (uO ry) dd λh' dd' hs=>h _ ?_;have he:∃q,h'.get? a=some q:=let ⟨q,_,_,hq,_⟩:=dd';⟨q,hq⟩;exact wj I (by rw[e];exact Ra) hs he (E7 hl hd (rel.put k rv) dd')
 .subst ey eH
  cases (show u=Qm b from ry);obtain⟨z,hd,xs,rel,dd⟩:=MN I.hok e;have hz:xs.length<=sizeLine:=by rw[←Ur rel];exact z
  have hl:(j9 kvs k v).length<=sizeLine:=by have:=kl kvs k v;omega
  refine wpAny_setItem_heap (hsz:=hz) (tupleKind_room_in1 hu) (qV I.hok eb) dd λh' dd' hs=>h _ ?_;obtain⟨q,es,ep,hq,h2,h3,h4,_,h5⟩:=dd';refine wj I (by rw[e];exact Ra) hs ⟨q,hq⟩ ⟨hl,hd,_,(rel.put k eb rv).keeps λc ys ec=>?_,q,es,ep,hq,h2,h3,h4,h5⟩;rw[aG (Ms ec e (λz=>nomatch z))];exact ec
end
def Lb(i:Qa):Prop:=∀ov iv,subscripted i false ov iv=operate [ov,iv] (getItem ov iv)
def F6{prog:Qe}{w:Qt}{A:Qs}{E:Pb->Pj->Prop}{s:Pj}{env:Env}{value slice:Qa}{pos:Pos}{T id:String}{Q:Pb->Pj->Prop}
  (hl:Te (.type T) "__getitem__"=pure (some (.builtin id)))(hs:Lb slice)
  (h:P5 (PX prog w) A (eval value env) (λo si=>P5 (PX prog w) A (eval slice env) (λi sj=>sj.TypeIs o T/\P5 (PX prog w) A (getItem o i) Q E sj) E si) E s) :
  P5 (PX prog w) A (eval (.Subscript value slice pos) env) Q E s:=by
 refine Subscript_ (Rn h (λo si h₁=>Rn h₁ (λi sj hE=>?_) λ_ _ x=>x) λ_ _ x=>x);obtain⟨hT,hE⟩:=hE;unfold subscriptTail;refine Py ?_;rw[getitemInPython_of_ne hT.not_modules];refine Py (wpAny_specialOf hT hl ?_);have fin:P5 (PX prog w) A (subscripted slice false o i) (λr sk=>P5 (PX prog w) A (letTemporaryGo value o r >>= λ_=>pure r) Q E sk) E sj:=by
  rw[hs o i];exact wpAny_operating (Rn hE (λr sk hU=>Py (wpAny_letTemporaryGo (P7 hU))) λ_ _ x=>x)
 first
  |exact P7 (Py fin)
  |exact Py (P7 (Py fin))
  |exact Py fin
def yn{X:Cx}{π:List (Pk×Obj)}{σ:St}{H:Hp}{s:Pj}{a:Pk}{y:V}{o:Option V}(I:Inv X π σ H s)(g:wH H a y o):s.TypeIs (.ref a) "dict":=by
 rcases g with⟨kvs,k,e,_,_⟩|⟨kvs,k,b,e,_,_,_⟩
 .obtain⟨_,_,vs,_,dd⟩:=ym I.hok e
  exact dd.typeIs
 .obtain⟨_,_,xs,_,dd⟩:=yj I.hok e
  exact dd.typeIs
def LM(td ty:TE):TE:=λσ H Q=>td σ H λx H1=>ty σ H1 λy H2=>∃a v,x=.ref a/\wH H2 a y (some v)/\Q v H2
def LX(td ty tv:TE):TS:=λD σ H=>tv σ H λv H1=>td σ H1 λx H2=>ty σ H2 λy H3=>∃a H4,x=.ref a/\CI H3 a y v H4/\D.nx σ H4
section
variable {X:Cx}{o i e value:Qa}{pos pos' tpos:Pos}{td ty tv:TE}
def GL(hu:X.A.units+1<RY)(ho:PE X o td)(hi:PE X i ty)(hs:Lb i):PE X (.Subscript o i pos) (LM td ty):=by
 intro π s σ H Q I h;refine F6 PySem.F.slot_dict_getitem.lookup hs (cJ (ho π s σ H _ I h) λu s1 ⟨x,H1,I1,rx,q1⟩=>cJ (hi π s1 σ H1 _ I1 q1) λiv s2 z9=>?_);obtain⟨y,H2,I2,ry,a,v,ex,g,q2⟩:=z9;subst ex;obtain rfl:u=Qm a:=rx;exact⟨yn I2 g,Cp hu I2 g ry λw' s3 I3 rw'=>⟨v,H2,I3,rw',q2⟩⟩
def Gx(hu:X.A.units+1<RY)(ho:PE X o td)(hi:PE X i ty)(hv:PE X value tv)(hs:Rt value (some (.Subscript o i pos')) pos.line X.env=pure false) :
  PS X (.Assign [.Subscript o i pos'] value pos) (LX td ty tv):=by
 intro π s σ H D I h;refine wpAny_Assign_Subscript (cJ (hv π s σ H _ I h) λr s1 ⟨v,H1,I1,rv,q1⟩=>cJ (ho π s1 σ H1 _ I1 q1) λu s2 ⟨x,H2,I2,rx,q2⟩=>cJ (hi π s2 σ H2 _ I2 q2) λiv s3 z9=>?_) hs;obtain⟨y,H3,I3,ry,a,H4,ex,g,q3⟩:=z9;subst ex;obtain rfl:u=Qm a:=rx;exact Co hu I3 g ry rv λs4 I4=>⟨σ,H4,I4,q3⟩
end
def E8{P:Qe}{w:Qt}{H:Hp}(h:PR)(hb:RO<h.objs.size):cT P w H (h.push { cls:=.type "dict",data:=.dict #[] }) h.objs.size (.dK []) :=
 ⟨R4 _,beq_eq_false_iff_ne.mpr (QB (Qh hb)),[],.nil,Heap.DictOf.new h⟩
def yW:List (TE×TE)->St->Hp->(List (V×V)->Hp->Prop)->Prop
 |[],_,H,Q=>Q [] H
 |(tk,tv)::r,σ,H,Q=>tk σ H λx H1=>tv σ H1 λy H2=>yW r σ H2 λps H3=>Q ((x,y)::ps) H3
abbrev VV:List (V×V)->List (Pb×Pb)->Prop:=Paired λp q=>bh p.1 q.1/\bh p.2 q.2
noncomputable def Nk(X:Cx) (pos:Pos) (keys:List (Option Qa)) (values:List Qa) (trs:List (TE×TE)):Prop :=
 ∀(π:List (Pk×Obj)) (s:Pj) (σ:St) (H:Hp) (Q:List (V×V)->Hp->Prop),Inv X π σ H s->yW trs σ H Q ->
  P5 (PX X.prog X.w) X.A (evalPairs (pairTrees keys values X.env pos)) (λvs s'=>∃ps H',Inv X π σ H' s'/\VV ps vs/\Q ps H') X.xe s
def Gy{X:Cx}{pos:Pos}:Nk X pos [] [] []:=λπ s σ H Q I h=>pairTrees_nil_walk ⟨[],H,I,.nil,h⟩
def D6{X:Cx}{pos:Pos}{k v:Qa}{ks:List (Option Qa)}{vs:List Qa}{tk tv:TE}{trs:List (TE×TE)}(hk:PE X k tk)(hv:PE X v tv)(hr:Nk X pos ks vs trs) :
  Nk X pos (some k::ks) (v::vs) ((tk,tv)::trs):=λπ s σ H Q I h=>
 pairTrees_cons_walk (cJ (hk π s σ H _ I h) λu s1 ⟨x,H1,I1,rx,q1⟩=>cJ (hv π s1 σ H1 _ I1 q1) λw2 s2 ⟨y,H2,I2,ry,q2⟩ =>
  cJ (hr π s2 σ H2 _ I2 q2) λws s3 ⟨ps,H3,I3,rel,q3⟩=>⟨(x,y)::ps,H3,I3,.cons ⟨rx,ry⟩ rel,q3⟩)
def qJ(kvs more:List (eD×V)):List (eD×V):=more.foldl (λacc kv=>j9 acc kv.1 kv.2) kvs
def KV.merge:∀{more:List (eD×V)}{rs:List (eD×Pb)}{kvs:List (eD×V)}{vs:List (eD×Pb)},KV more rs->KV kvs vs->KV (qJ kvs more) (merged vs rs):=by
 intro more rs kvs vs r;unfold KV at r
 induction r generalizing kvs vs with
 |nil=>intro q;exact q
 |@cons p q ps qs h t ih=>
  intro r0;have e:KV (j9 kvs p.1 p.2) (stored vs q.1 q.2):=by
   have:=r0.put p.1 h.2;rw[←h.1];exact this
  exact ih e
theorem lM:∀(more kvs:List (eD×V)),(qJ kvs more).length<=kvs.length+more.length
 |[],kvs=>by show kvs.length<=kvs.length+0;omega
 |p::r,kvs=>by
  have h1:=lM r (j9 kvs p.1 p.2);have h2:=kl kvs p.1 p.2;show(qJ (j9 kvs p.1 p.2) r).length<=_;rw[PL];omega
theorem sT{P:Qe}{w:Qt}:∀{kvs:List (eD×V)}{ws:List (Pb×Pb)},VV (kvs.map λkv=>(kV kv.1,kv.2)) ws->∃rs,Carries (c5 P w) ws rs/\KV kvs rs
 |[],_,r=>by rw[Rq]at r;cases r;exact⟨[],Ra,.nil⟩
 |p::kvs,_,r=>by
  rw[Pl]at r;cases r with
  |@cons a b as bs h t=>
   obtain⟨rs,c,q⟩:=sT (P:=P) (w:=w) t;obtain⟨b1,b2⟩:=b;exact⟨(p.1,b2)::rs,⟨uO h.1,rfl,c⟩,.cons ⟨rfl,h.2⟩ q⟩
def LL(trs:List (TE×TE)):TE:=λσ H Q=>∀p,H p=none->yW trs σ (upd H p (.dK [])) λps H2=>H2 p=some (.dK [])/\∃kvs:List (eD×V),ps=kvs.map (λkv=>(kV kv.1,kv.2))/\kvs.length<=15/\Q (.ref p) (upd H2 p (.dK (qJ [] kvs)))
def GK{X:Cx}{pos:Pos}{keys:List (Option Qa)}{values:List Qa}{trs:List (TE×TE)}(h:Nk X pos keys values trs)(hall:keys.all (·.isSome)=true)(hl:keys.length=values.length)(h0:keys≠[])
  (h15:keys.length<=15):PE X (.Dict keys values pos) (LL trs):=by
 intro π s σ H Q I q;have hn:=I.hok.fresh (P1 s.heap.objs.size);have I1:=I.laid (a:=s.heap.objs.size) (o:=.dK []) (h':=s.heap.push { cls:=.type "dict",data:=.dict #[] }) (t':=s.toks) (λ_ _ q=>Px _ q) (P1 _) (E8 s.heap I.big);refine wpAny_Dict_walk (knd:=c5 X.prog X.w) hall hl h0 h15 (cJ (h π _ σ _ _ I1 (q _ hn)) λws s2 ⟨ps,H2,I2,rel,e,kvs,ep,lk,q2⟩=>?_);subst ep;obtain⟨rs,c,rk⟩:=sT (P:=X.prog) (w:=X.w) rel;obtain⟨z,hd,vs0,r0,dd⟩:=IJ I2.hok e;cases r0;refine⟨rs,c,dd,λh' dd' hs=>⟨.ref s.heap.objs.size,_,?_,rfl,q2⟩⟩;have hz:(qJ [] kvs).length<=sizeLine:=by
  have h1:=lM kvs [];rw[RQ]at h1;rw[sizeLine_eq];omega
 have he:∃q,h'.get? s.heap.objs.size=some q:=let ⟨q,_,_,hq,_⟩:=dd';⟨q,hq⟩;exact wj I2 (by rw[e];exact Ra) hs he (E7 hz hd (rk.merge .nil) dd')
end L2
namespace DL
open PySem PySem.Spec PyProof.Rows L2
section
variable {X:Cx}{E:XK}{e:Qa}{f:am}{pos p1:Pos}
def dOne(x:Pq)(d:D):au D:=.ok (.dic [x] [d])
end
def iW(cells:List (Pq×Pk)):List (Pq×Q5)->List (Pq×Pk)->List (Pq×Pk)
 |[],acc=>acc
 |(n,k)::r,acc=>if(k==Rr)=true then iW cells r ((n,(cells.lookup n).getD 0)::acc) else iW cells r acc
def uf{scope:Sa}{env:QN}(h:∀x∈scope.names,x.2=.free->∃c,env.cells.lookup x.1=some c):closureFor scope env=pure (iW env.cells scope.names []):=by
 simp only[closureFor];have key:∀(names:List (Pq×Q5)) (acc:List (Pq×Pk)),(∀x∈names,x.2=.free->∃c,env.cells.lookup x.1=some c) ->
   (forIn names acc λ(x:Pq×Q5) (z:List (Pq×Pk))=>
      if(x.snd==Rr)=true then do
       let y ←cellOf env x.fst
       pure (So ((x.fst,y)::z))
      else(pure (So z):Sem _))=pure (iW env.cells names acc):=by
  intro names
  induction names with
  |nil=>intro acc _;rfl
  |cons x r ih=>
   intro acc hh;obtain⟨n,k⟩:=x;rw[List.forIn_cons]
   by_cases hk:(k==Rr)=true
   .obtain⟨c,hc⟩:=hh (n,k) Pf (by simpa using hk)
    have hcell:cellOf env n=pure c:=by unfold cellOf;rw[show env.cells.lookup n=some c from hc]
    simp only[hk,if_true];rw[hcell];have:=ih ((n,c)::acc) (λy hy=>hh y (Pc _ hy));rw[show iW env.cells ((n,k)::r) acc=iW env.cells r ((n,c)::acc) by
     show(if(k==Rr)=true then _ else _)=_;rw[if_pos hk,show env.cells.lookup n=some c from hc];rfl]
    rw[←this];rfl
   .have:=ih acc (λy hy=>hh y (Pc _ hy))
    rw[if_neg hk];rw[show iW env.cells ((n,k)::r) acc=iW env.cells r acc by
     show(if(k==Rr)=true then _ else _)=_;rw[if_neg hk]]
    rw[←this];rfl
 rw[key _ _ h];rfl
theorem sO{cells:List (Pq×Pk)}:∀{names:List (Pq×Q5)}{acc:List (Pq×Pk)}{x:Pq}{c:Pk},(∀y∈names,y.2=.free->∃c,cells.lookup y.1=some c) ->
  (iW cells names acc).lookup x=some c->acc.lookup x=some c∨cells.lookup x=some c
 |[],acc,x,c,_,h=>.inl h
 |(n,k)::r,acc,x,c,hh,h=>by
  unfold iW at h
  by_cases hk:(k==Rr)=true
  .rw[if_pos hk]at h
   obtain⟨d,hd⟩:=hh (n,k) Pf (by simpa using hk);rcases sO (λy hy=>hh y (Pc _ hy)) h with h|h
   .rw[QI]at h
    cases e:x==n with
    |true=>
     rw[e]at h;rw[show cells.lookup n=some d from hd]at h;cases h;rw[eq_of_beq e];exact .inr hd
    |false=>rw[e]at h;exact .inl h
   .exact .inr h
  .rw[if_neg hk]at h
   exact sO (λy hy=>hh y (Pc _ hy)) h
theorem oT{α:Type}{x:Pq}:∀{l:List (Pq×α)},(∃v,(x,v)∈l)->∃v,l.lookup x=some v
 |[],⟨v,h⟩=>by cases h
 |(n,w)::r,⟨v,h⟩=>by
  rw[QI];cases e:x==n with
  |true=>exact⟨w,rfl⟩
  |false=>
   rcases Pr.mp h with h|h
   .cases h;simp at e
   .exact oT ⟨v,h⟩
theorem sQ{cells:List (Pq×Pk)}{x:Pq}{c:Pk}:∀{names:List (Pq×Q5)}{acc:List (Pq×Pk)},(x,c)∈acc->(x,c)∈iW cells names acc
 |[],acc,h=>h
 |(n,k)::r,acc,h=>by
  unfold iW
  by_cases hk:(k==Rr)=true
  .rw[if_pos hk];exact sQ (Pc _ h)
  .rw[if_neg hk];exact sQ h
def sP{cells:List (Pq×Pk)}{x:Pq}:∀{names:List (Pq×Q5)}{acc:List (Pq×Pk)},(x,Rr)∈names->∃c,(iW cells names acc).lookup x=some c:=by
 intro names
 induction names with
 |nil=>intro acc h;cases h
 |cons y r ih=>
  intro acc h;obtain⟨n,k⟩:=y;unfold iW;rcases Pr.mp h with h|h
  .cases h
   rw[if_pos (by rfl)];exact oT ⟨_,sQ Pf⟩
  .by_cases hk:(k==Rr)=true
   .rw[if_pos hk];exact ih h
   .rw[if_neg hk];exact ih h
noncomputable def eM(X:Cx) (N:ce) (scope:Sa) (s:Pj) (H:Hp) (C:Pk) (fp:List Pk) (pn:List (Pk×Obj)):Cx :=
 { X with N:=N,sf:=s,Ha:=H,env:=compEnvC scope (iW X.env.cells scope.names []) C X.env,outer:=X.stack,stack:=X.stack,ex:=fp,fn:=λ_=>false,pn:=pn,xe:=λ_ _=>False }
def nE(n:Nat)(fr:ci)(σ:L2.St):L2.St:=PY n none++fr.map λ(i:Nat)=>(σ[i]?).getD none
noncomputable def FD(X:Cx) (N:ce) (n:Nat) (fr:ci) (scope:Sa):Prop :=
 N.length=n+fr.length/\((N.drop n).zip fr).all (λp=>X.N[p.2]?==some p.1&&X.env.scope.names.lookup p.1==some .cell&&scope.names.lookup p.1==some .free&&(relabel scope X.env).names.lookup p.1==some .cell)=true
theorem FD.at{X:Cx}{N:ce}{n:Nat}{fr:ci}{scope:Sa}(h:FD X N n fr scope){k:Nat}{x:Pq}{v:V}{σ:L2.St}(hx:N[k]?=some x)(hv:(nE n fr σ)[k]?=some (some v)) :
  ∃i:Nat,X.N[i]?=some x/\σ[i]?=some (some v)/\X.env.scope.names.lookup x=some .cell/\scope.names.lookup x=some .free/\(relabel scope X.env).names.lookup x=some .cell:=by
 unfold nE at hv
 by_cases hk:k<n
 .rw[P0 (by simpa using hk),Qn,if_pos hk]at hv
  cases hv
 .rw[Qc (by simpa using hk),RD,Pp]at hv
  cases hi:fr[k-n]? with
  |none=>rw[hi]at hv;cases hv
  |some i=>
   rw[hi]at hv;have hz:((N.drop n).zip fr)[k-n]?=some (x,i):=by
    rw[List.getElem?_zip_eq_some];exact⟨by rw[RP,show n+(k-n)=k by omega];exact hx,hi⟩
   have:=Qi.mp h.2 _ (PN hz);simp only[PM,beq_iff_eq]at this;refine⟨i,this.1.1.1,?_,this.1.1.2,this.1.2,this.2⟩;simp only[Sk,Rl]at hv;cases hs:σ[i]? with|none=>rw[hs]at hv;cases hv|some u=>rw[hs]at hv;exact congrArg some hv
noncomputable def M1(X:Cx) (ifs:List Qa) (t:TT):Prop :=
 ∀(π:List (Pk×Obj)) (s:Pj) (σ:L2.St) (H:Hp) (Q:Bool->Hp->Prop),Inv X π σ H s->t σ H Q ->
  P5 (PX X.prog X.w) X.A (forIn ifs true λc r=>if r=true then do let ok ←isTrue c X.env (eval c X.env);pure (So ok) else pure (So r)) (TP X π σ Q) X.xe s
def Nn:TT:=λ_ H Q=>Q true H
def GD{X:Cx}:M1 X [] Nn:=λ_ _ _ H _ I h=>wpAny_tests_nil ⟨H,I,h⟩
def GC{X:Cx}{c:Qa}{t:TT}(h:PT X c t):M1 X [c] t:=λπ s σ H Q I q=>wpAny_tests_one (h π s σ H Q I q)
theorem sJ{prog:Qe}{w:Qt}{A:Qs}{R:Tx->Pj->Prop}{s:Pj}{elt target iter:Qa}{ifs:List Qa}{scope:Sa}{pos:Pos}{it acc:Pb}{env:QN}(I:Nat->Pj->Prop)
  (turn:∀n s,I n s->P5 (PX prog w) A (pyNext it) (λr si=>match r with
   |none=>R (.ok .next) si
   |some v=>P5 (PX prog w) A (letOwnedTupleGo target it v) (λ_ si'=>P5 (PX prog w) A (assign target env v) (λ_ sj=>
     P5 (PX prog w) A (forIn ifs true λc r=>if r=true then do let ok ←isTrue c env (eval c env);pure (So ok) else pure (So r)) (λok sk=>
      if ok=true then P5 (PX prog w) A (eval elt env) (λx sn=>
       P5 (PX prog w) A (call (.builtin "list.append") [acc,x]) (λ_ so=>∃m,m<n/\I m so) (λ_ _=>False) sn) (λ_ _=>False) sk
      else ∃m,m<n/\I m sk) (λ_ _=>False) sj) (λ_ _=>False) si') (λ_ _=>False) si) (λ_ _=>False) s)
  (n:Nat) (h:I n s) :
  RJ (PX prog w) A (.compLoop (.ListComp elt [⟨target,iter,ifs,0⟩] scope pos) 0 it acc env) R s:=by
 refine codeAny_loop rfl I (λn s hI=>?_) n h;show P5 _ A ((compTurn (.ListComp elt [⟨target,iter,ifs,0⟩] scope pos) 0 it acc env).onRaise (λx=>do noteFrame x env;theTreesLotGoes x)) _ _ s;refine wpAny_noted ?_;rw[compTurn_list];refine Py (wpAny_standAt (Py (Rn (turn n s hI) (λr si h₁=>?_) λ_ _ h'=>h'.elim)));cases r with
 |none=>exact P7 h₁
 |some v=>
  refine Py (Rn h₁ (λ_ si' h₁'=>?_) λ_ _ h'=>h'.elim);refine Py (Rn h₁' (λ_ sj hE=>Py (Rn hE (λok sk hU=>?_) λ_ _ h'=>h'.elim)) λ_ _ h'=>h'.elim);cases ok with
  |false=>exact P7 ⟨rfl,hU⟩
  |true=>
   exact Py (Py (Rn hU (λx sn hX=>Py (Rn hX (λ_ so h₅=>P7 (P7 ⟨rfl,h₅⟩)) λ_ _ h'=>h'.elim)) λ_ _ h'=>h'.elim))
noncomputable def yV(n:Nat) (fr:ci) (g:TG) (tt:TT) (te:TE) (J:It) (σ:L2.St) (H1:Hp) (Q:VK):Prop:=∀D,H1 D=none->∃W:Nat->Nat->ad->L2.St->Hp->Prop,(∃m,W 0 m [] (nE n fr σ) (upd H1 D (.lst []))) /\
 ∀i m ys σ' H',W i m ys σ' H'->H' D=some (.lst ys)/\((J.stop i H'/\Q (.ref D) H')∨(J.go i H'/\ys.length<sizeLine/\∀x H2,J.yld i H' x H2->g x σ' H2 λσ3 H3=>tt σ3 H3 λb H4=>
  if b=true then te σ3 H4 λy H5=>H5 D=some (.lst ys)/\∃m',m' < m/\W (i+1) m' (ys++[y]) σ3 (upd H5 D (.lst (ys++[y])))
  else ∃m',m' < m/\W (i+1) m' ys σ3 H4))
def Cq{X:Cx}{tg iter elt:Qa}{ifs:List Qa}{scope:Sa}{pos:Pos}{N:ce}{n:Nat}{fr:ci}{g:TG}{tt:TT}{te:TE}(hc:X.calm=true)(hfr:FD X N n fr scope)
  (hcell:∀x∈scope.names,x.2≠.cell)(hfree:∀x∈scope.names,x.2=.free->X.env.scope.names.lookup x.1=some .cell)(hkind:scope.kind=.function)
  (blk:∀s H C fp pn,PG (eM X N scope s H C fp pn) tg g/\M1 (eM X N scope s H C fp pn) ifs tt/\PE (eM X N scope s H C fp pn) elt te)
  {π:List (Pk×Obj)}{σ:L2.St}{s2:Pj}{Q:VK}{itv:Pb}{RR:Pb->Pk->Tx->Pj->Prop}
  (h2:Od X π σ tg (λJ H1=>yV n fr g tt te J σ H1 Q) itv s2)
  (fin:∀(Da C:Pk) (s6:Pj) (H5:Hp) (m:Pq->Option Pb),Inv X π σ H5 s6->s6.heap.Ns C m->oJ X π H5 C->Q (.ref Da) H5->RR (.ref Da) C (.ok .next) s6) :
  P5 (PX X.prog X.w) X.A (newList []) (λacc sk=>P5 (PX X.prog X.w) X.A (newFunctionEnv scope X.env.globals (iW X.env.cells scope.names []) [] X.env.qual none .none (some X.env)) (λcenv sn=>
   RJ (PX X.prog X.w) X.A (.compStart (.ListComp elt [⟨tg,iter,ifs,0⟩] scope pos) 0 itv acc { cenv with scope:=relabel scope X.env }) (RR acc cenv.locals) sn) X.xe sk) X.xe s2:=by
 obtain⟨it,fp,tn,J,H2,e,I2,T,st2,f2,q⟩:=h2;subst e;have hD:H2 s2.heap.objs.size=none:=I2.fresh;refine wpAny_newObj_type ?_;have I3:Inv X π σ (upd H2 s2.heap.objs.size (.lst [])) { s2 with heap:=s2.heap.push { cls:=.type "list",data:=.seq ([]:List Pb).toArray } }:=I2.lnew (t':=s2.toks) (its:=[]) .nil (R4 _);obtain⟨W,⟨m0,w0⟩,turn⟩:=q s2.heap.objs.size hD;generalize hs3:({ s2 with heap:=s2.heap.push { cls:=.type "list",data:=.seq ([]:List Pb).toArray } }:Pj)=s3 at I3 ⊢;have hs3h:s3.heap=s2.heap.push { cls:=.type "list",data:=.seq ([]:List Pb).toArray }:=by rw[←hs3]
 have hDs:s2.heap.objs.size<s3.heap.objs.size:=by rw[hs3h,Ui];exact RN _
 have fpl:∀b∈fp,b<s2.heap.objs.size:=λb hb=>by
  obtain⟨o,ho,_⟩:=T.obj _ _ st2 b hb;exact PQ ho
 have kept3:∀b o,s2.heap.get? b=some o->s3.heap.get? b=some o:=λb o e=>by rw[hs3h];exact Px _ e
 have st3:tn 0 s3.heap:=T.keep _ _ _ st2 λb _ o e=>kept3 b o e;generalize hDa:s2.heap.objs.size=Da at *;generalize hH3:upd H2 Da (.lst [])=H3 at *;have fr3:∀b∈fp,H3 b=none:=λb hb=>by rw[←hH3,aG (Qh (fpl b hb))];exact(f2 b hb).1
 have cls:∀x c,(iW X.env.cells scope.names []).lookup x=some c->X.env.cells.lookup x=some c:=λx c e=>by
  rcases sO (λy hy hf=>I3.ok.has y.1 (.inl (hfree y hy hf))) e with e|e
  .cases e
  .exact e
 refine wpAny_newFunctionEnv hcell (by intro y hy;simp at hy) (λh4 ns4 sb4=>?_) hkind;have k4:∀b o,s3.heap.get? b=some o->h4.get? b=some o:=λb o e=>(sb4.2 b (Qh (PQ e))).trans (Px _ e);generalize hC:s3.heap.objs.size=C at *;have hCn:H3 C=none:=I3.hok.fresh (by rw[hC];exact P1 _);have ltC:∀b o,s3.heap.get? b=some o->b≠C:=λb o e=>by rw[←hC];exact Qh (PQ e)
 have cellC:∀x c,X.env.cells.lookup x=some c->c≠C:=λx c e=>by
  obtain⟨v,o,ho,_⟩:=I3.cell x c e;exact ltC c o ho
 have fpC:∀b∈fp,b≠C:=λb hb=>by
  have:=fpl b hb;exact Qh (Nat.lt_trans this hDs)
 show RJ (PX X.prog X.w) X.A (.compStart (.ListComp elt [⟨tg,iter,ifs,0⟩] scope pos) 0 (.ref it) (.ref Da) (compEnvC scope (iW X.env.cells scope.names []) C X.env)) _ _;generalize hs4:({ s3 with heap:=h4,toks:=s3.toks+([]:List (Pq×Pb)).length }:Pj)=s4;have hs4h:s4.heap=h4:=by rw[←hs4]
 have ok:(eM X N scope s3 H3 C fp (X.pn++π)).Ok:=by
  refine⟨I3.ok.mod,hkind,I3.ok.glob,I3.ok.blt,UC hC,λx y c e1 e2=>I3.ok.inj x y c (cls x c e1) (cls y c e2),λx e=>?_,λx c e=>?_,λ_=>I3.ok.hd hc,I3.ok.frames,.inl rfl,λb hb=>⟨fpC b hb,λx c e=>(f2 b hb).2.2.2.2.1 x c (cls x c e)⟩,I3.bs,Pu I3.ok.bsz I3.sz,λb o e hb=>?_,λb hb z=>?_,I3.stack,I3.stkFree,I3.tab⟩
  .have mm:∀k:Q5,(relabel scope X.env).names.lookup x=some k->(k=.cell∨k=.free)->(x,Rr)∈scope.names:=λk hk hk2=>by
    have hm:=Qx hk;obtain⟨⟨n',k'⟩,hm1,hm2⟩:=Pw.mp hm;dsimp only at hm2;split at hm2
    .rename_i hcnd
     cases hm2;simp only[PM,beq_iff_eq]at hcnd;rw[hcnd.1.1]at hm1;exact hm1
    .cases hm2
     rcases hk2 with rfl|rfl
     .exact absurd rfl (hcell _ hm1)
     .exact hm1
   rcases e with e|e
   .exact sP (mm _ e (.inl rfl))
   .exact sP (mm _ e (.inr rfl))
  .cases e
  .rcases(f2 b hb).2.2.2.1 with z|z
   .exact I3.ok.noex b o e z
   .exact absurd (Pm (PQ e) (Pu I3.ok.bsz z)) (RH _)
  .rcases Pr.mp (I3.stkSub b z) with z|z
   .exact(f2 b hb).2.1 z
   .exact(f2 b hb).2.2.1 z
 have I4:Inv (eM X N scope s3 H3 C fp (X.pn++π)) [] (nE n fr σ) H3 s4:=by
  refine⟨ok,by rw[←hs4];rfl,by rw[←hs4];exact I3.bare,by rw[hs4h];exact Un.kept k4,⟨_,by rw[hs4h];exact ns4,λi x v h1 h2 h3=>?_⟩,λx c e=>?_,hCn,λx c e=>I3.freeC x c (cls x c e),λp hp=>?_,by rw[hs4h];exact I3.hok.kept k4,?_⟩
  .obtain⟨j,j1,j2,j3,j4,j5⟩:=hfr.at h1 h2
   obtain⟨m,hn,hl⟩:=I3.loc;obtain⟨u,ru,l⟩:=hl j x v j1 j2 (.inr (.inl j3));refine⟨u,ru,.inr ⟨.inl j5,?_⟩⟩;rcases l with⟨z,_⟩|⟨_,c,z1,z2⟩
   .rw[show X.env.kindOf x=X.env.scope.names.lookup x from rfl,j3]at z;cases z
   .obtain⟨c',hc'⟩:=sP (cells:=X.env.cells) (names:=scope.names) (acc:=[]) (Qx j4)
    have:=cls x c' hc';rw[z1]at this;cases this;obtain⟨oc,q1,q2⟩:=z2;exact⟨c,hc',oc,by rw[hs4h];exact k4 _ _ q1,q2⟩
  .obtain⟨v,oc,q1,q2⟩:=I3.cell x c (cls x c e)
   exact⟨v,oc,by rw[hs4h];exact k4 _ _ q1,q2⟩
  .rw[QH]at hp
   obtain⟨p1,p2,p3,p4,p5⟩:=I3.pin p hp;refine⟨by rw[hs4h];exact k4 _ _ p1,p2,ltC _ _ p1,λz=>?_,p5⟩;rcases Pr.mp (I3.stkSub _ z) with z|z
   .exact p3 z
   .exact p4 z
  .show(nE n fr σ).length=N.length
   unfold nE;rw[P9,RD,Pg,hfr.1]
 have st4:tn 0 s4.heap:=by rw[hs4h];exact T.keep _ _ _ st3 λb _ o e=>k4 b o e
 have stat:∀{H':Hp},(∀b∈fp,H' b=none)->∀b∈fp,oJ (eM X N scope s3 H3 C fp (X.pn++π)) [] H' b:=λhn b hb=>by
  refine⟨hn b hb,fpC b hb,λz=>?_,.inl hb,λx c e=>(f2 b hb).2.2.2.2.1 x c (cls x c e),λp hp=>?_⟩
  .rcases Pr.mp (I3.stkSub b z) with z|z
   .exact(f2 b hb).2.1 z
   .exact(f2 b hb).2.2.1 z
  .rw[QH]at hp
   exact(f2 b hb).2.2.2.2.2 p hp
 have loop:RJ (PX X.prog X.w) X.A (.compLoop (.ListComp elt [⟨tg,iter,ifs,0⟩] scope pos) 0 (.ref it) (.ref Da) (compEnvC scope (iW X.env.cells scope.names []) C X.env)) (RR (.ref Da) C) s4:=by
  refine sJ (λn s'=>∃i ys σ' H',Inv (eM X N scope s3 H3 C fp (X.pn++π)) [] σ' H' s'/\tn i s'.heap/\(∀b∈fp,H' b=none)/\W i n ys σ' H') ?_ m0 ⟨0,[],_,H3,I4,st4,fr3,w0⟩;rintro k s5 ⟨i,ys,σ5,H5,I5,st5,fr5,w5⟩;obtain⟨hDl,ways⟩:=turn i k ys σ5 H5 w5;rcases ways with⟨stop,fin'⟩|⟨go,hz,step⟩
  .refine cJ (T.done (eM X N scope s3 H3 C fp (X.pn++π)) rfl rfl rfl hc i [] s5 σ5 H5 (λ_ _=>False) I5 (stat fr5) st5 stop) λr s6 ⟨hr,I6⟩=>?_
   subst hr;obtain⟨mm,nsm,_⟩:=I6.loc;have free6:H5 C=none:=I6.free;have hok:ji X.prog X.w H5 s6.heap:=I6.hok;have un:Un (zE X.stack) fp H3 H5 s3.heap s6.heap:=I6.base;have IX:Inv X π σ H5 s6:=I3.call' (s':=s6) (ch:=fp) I6.os un hok I6.bare (λb hb=>⟨(f2 b hb).2.2.2.1,(f2 b hb).2.1,(f2 b hb).2.2.2.2.1,(f2 b hb).2.2.2.2.2⟩);have fC:oJ X π H5 C:=I3.fpOk (b:=C) (H':=H5) (by rw[hC];exact P1 _) free6;exact fin Da C s6 H5 mm IX nsm fC fin'
  .refine cJ (T.item (eM X N scope s3 H3 C fp (X.pn++π)) rfl rfl rfl hc i [] s5 σ5 H5 (λ_ _=>False) I5 (stat fr5) st5 go) λr s6 ⟨u,hr,h6⟩=>?_
   subst hr;refine cJ h6 λ_ s7 ⟨x,H7,I7,r7,y7,st7,fr7⟩=>?_;have I7':=I7.pinned (stat fr7) (T.obj _ _ st7);refine cJ ((blk s3 H3 C fp (X.pn++π)).1 _ s7 σ5 H7 x u _ I7' r7 (step x H7 y7)) λ_ s8 ⟨σ8,H8,I8,q8⟩=>?_;refine cJ ((blk s3 H3 C fp (X.pn++π)).2.1 _ s8 σ8 H8 _ I8 q8) λb s8b ⟨H8b,I8b,q8b⟩=>?_;have back:∀{σ':L2.St}{H':Hp}{s':Pj},L2.Inv (eM X N scope s3 H3 C fp (X.pn++π)) (([]:List (Pk×Obj))++qz fp s7.heap) σ' H' s'->tn (i+1) s'.heap/\∀b∈fp,H' b=none:=λ{σ' H' s'} I'=>by
    refine⟨T.keep _ _ _ st7 λb hb o e=>(I'.pin (b,o) (P4 _ (P4 _ (jr hb e)))).1,λb hb=>?_⟩;obtain⟨o,e,d⟩:=T.obj _ _ st7 b hb;exact(I'.pin (b,o) (P4 _ (P4 _ (jr hb e)))).2.1
   cases b with
   |false=>
    rw[if_neg QY]at q8b ⊢;obtain⟨m',hm,w9⟩:=q8b;exact⟨m',hm,i+1,ys,σ8,_,I8b.unpinned,(back I8b).1,(back I8b).2,w9⟩
   |true=>
    rw[if_pos rfl]at q8b ⊢;refine cJ ((blk s3 H3 C fp (X.pn++π)).2.2 _ s8b σ8 H8b _ I8b q8b) λy s9 ⟨yv,H9,I9,r9,hD9,m',hm,w9⟩=>?_;refine cJ (uJ (X:=eM X N scope s3 H3 C fp (X.pn++π)) _ s9 σ8 H9 (.ref Da) [yv] (.ref Da) [y] (λv H'=>H'=upd H9 Da (.lst (ys++[yv]))) I9 rfl (.cons r9 .nil) ⟨Da,ys,yv,rfl,rfl,hD9,hz,rfl⟩) λ_ s10 ⟨v10,H10,I10,_,e10⟩=>?_;subst e10;exact⟨m',hm,i+1,ys++[yv],σ8,_,I10.unpinned,(back I10).1,(back I10).2,w9⟩
 exact codeAny_compStart_list loop (T.self _ 0 _ _ _ st4 loop)
structure M7 (K:Ph) (ds:ac) (J:It) (Ha:Hp):Prop where
 go:∀(i:Nat) (H' Ha':Hp),aD Ha Ha'->aD Ha' H'->i<ds.length->J.go i H'
 yld:∀(i:Nat) (H' Ha':Hp) (x:V) (H2:Hp) (d:D),aD Ha Ha'->aD Ha' H'->ds[i]?=some d->J.yld i H' x H2->∃H₀2,bf H' Ha' H2 H₀2/\Rep K H₀2 d x
 stop:∀(i:Nat) (H' Ha':Hp),aD Ha Ha'->aD Ha' H'->ds.length<=i->J.stop i H'
noncomputable def OO(K:Ph) (E:XK) (src:Ev->au (ac)):TI:=λσ H R=>∃Ha ρ,aD Ha H/\eB K Ha σ ρ/\match src ρ with
 |.ok ds=>∀J H' Ha',bf H Ha H' Ha'->M7 K ds J Ha'->R J H'
 |.exn x=>∀C ox H' Ha',bf H Ha H' Ha'->wK K Ha' x C ox->E C ox H'
 |.stuck=>False
structure DI (X:Cx) (E:XK) (tg iter:Qa) (src:Ev->au (ac)):Prop where
 o:PI X tg iter (OO X.K E src)
def ml{X:Cx}{tg iter:Qa}{t t':TI}(h:PI X tg iter t)(w:∀σ H R,t' σ H R->t σ H R):PI X tg iter t':=λπ s σ H R I q=>h π s σ H R I (w σ H R q)
def ff(f:am):Ev->au (ac):=λρ=>(f ρ).bind λd=>match d with
 |.lst ds=>.ok ds
 |_=>.stuck
def F9(f:am):Ev->au (ac):=λρ=>(f ρ).bind λd=>match d with
 |.str z=>.ok (j8 z)
 |_=>.stuck
def wY(f:am):Ev->au (ac):=λρ=>(f ρ).bind λd=>match d with
 |.int j=>if -4611686018427387904<=j/\j<4611686018427387904 then .ok (intsFrom 0 j.toNat) else .stuck
 |_=>.stuck
section
variable {X:Cx}{E:XK}{tg e a b:Qa}{f g:am}
def cE(h:DE X E e f):DI X E tg e (ff f):=by
 refine⟨ml (AF h.o) λσ H R z9=>?_⟩;obtain⟨Ha,ρ,hs,hr,q⟩:=z9;refine⟨Ha,ρ,hs,hr,?_⟩;unfold ff at q;cases e1:f ρ with
 |stuck|exn x=>rw[e1]at q;exact q
 |ok d=>
  rw[e1]at q;intro v H1 H01 g1 r1;cases d with
  |lst ds=>
   obtain⟨p,vs,rfl,hv,hrv⟩:=aE.mp r1;refine⟨p,rfl,⟨vs,aD.sqL g1.sub hv⟩,q _ H1 H01 g1 ⟨λi H' Ha' s1 s2 hi=>?_,λi H' Ha' x H2 d s1 s2 hd hy=>?_,λi H' Ha' s1 s2 hi=>?_⟩⟩
   .exact⟨vs,vs[i]'(by rw[←hrv.length];exact hi),aD.sqL (s1.trans s2) hv,by simp⟩
   .obtain⟨rfl,hy⟩:=hy
    obtain⟨u,k1,k2⟩:=hrv.get hd;have:=hy vs (aD.sqL (s1.trans s2) hv);rw[k1]at this;cases this;exact⟨Ha',bf.refl s2,k2.mono s1⟩
   .exact⟨vs,aD.sqL (s1.trans s2) hv,by rw[←hrv.length];exact hi⟩
  |_=>exact q.elim
def KP(h:DE X E e f):DI X E tg e (F9 f):=by
 refine⟨ml (JK h.o) λσ H R z9=>?_⟩;obtain⟨Ha,ρ,hs,hr,q⟩:=z9;refine⟨Ha,ρ,hs,hr,?_⟩;unfold F9 at q;cases e1:f ρ with
 |stuck|exn x=>rw[e1]at q;exact q
 |ok d=>
  rw[e1]at q;intro v H1 H01 g1 r1;cases d with
  |str z=>
   refine⟨z,Rep.str_iff.mp r1,q _ H1 H01 g1 ⟨λi H' Ha' s1 s2 hi=>?_,λi H' Ha' x H2 d s1 s2 hd hy=>?_,λi H' Ha' s1 s2 hi=>?_⟩⟩
   .rw[lQ]at hi;exact hi
   .obtain⟨rfl,c,hc,rfl⟩:=hy
    have:d=.str ⟨#[c]⟩:=by
     unfold j8 at hd;rw[Pp]at hd;have h2:z.cps.toList[i]?=some c:=by simpa using hc
     rw[h2]at hd;cases hd;rfl
    subst this;exact⟨Ha',bf.refl s2,Rep.str_iff.mpr rfl⟩
   .rw[lQ]at hi;exact hi
  |_=>exact q.elim
def Ca{K:Ph}{lo:Int}{n:Nat}{H:Hp}:M7 K (intsFrom lo n) (Le lo n) H:=by
 have hl:(intsFrom lo n).length=n:=by unfold intsFrom;simp
 refine⟨λi H' Ha' _ _ hi=>?_,λi H' Ha' x H2 d s1 s2 hd hy=>?_,λi H' Ha' _ _ hi=>?_⟩
 .rw[hl]at hi;exact hi
 .obtain⟨rfl,rfl⟩:=hy
  have:d=.int (lo+i):=by
   unfold intsFrom at hd;rw[Pp]at hd;cases e:(Qu n)[i]? with
   |none=>rw[e]at hd;cases hd
   |some k=>
    rw[e]at hd;have hk:k=i:=by
     obtain⟨h1,h2⟩:=Po.mp e;simpa using h2.symm
    subst hk;cases hd;rfl
  subst this;exact⟨Ha',bf.refl s2,ay.mpr rfl⟩
 .rw[hl]at hi;exact hi
def Cm{p pos:Pos}(hg:Gl X "range")(hm:X.mg "range"=none)(h:DE X E a f)(hn:IB a=true:=by exact rfl):DI X E tg (.Call (.Name "range" p) [a] [] pos) (wY f):=by
 refine⟨ml (uG hg hm (fH h.o kc (eN hn)) (eN hn)) λσ H R z9=>?_⟩;obtain⟨Ha,ρ,hs,hr,q⟩:=z9;refine⟨Ha,ρ,hs,hr,?_⟩;unfold wY at q;cases e1:f ρ with
 |stuck|exn x=>rw[e1]at q;exact q
 |ok d=>
  rw[e1]at q;intro v H1 H01 g1 r1;cases d with
  |int j=>
   replace q:match (if -4611686018427387904<=j/\j<4611686018427387904 then au.ok (intsFrom 0 j.toNat) else .stuck) with
    |.ok ds=>∀J H' Ha',bf H Ha H' Ha'->M7 X.K ds J Ha'->R J H'
    |.exn x=>∀C ox H' Ha',bf H Ha H' Ha'->wK X.K Ha' x C ox->E C ox H'
    |.stuck=>False:=q
   by_cases hj:-4611686018427387904<=j/\j<4611686018427387904
   .rw[if_pos hj]at q
    rw[ay.mp r1];exact⟨j,rfl,hj.1,hj.2,q _ H1 H01 g1 Ca⟩
   .rw[if_neg hj]at q;exact q.elim
  |_=>exact q.elim
end
def gz(src:Ev->au (ac))(tg:Ev->D->au Ev)(s:bi):bi:=λρ=>(src ρ).bind λds=>bS tg s ds ρ
section
variable {X:Cx}{E:XK}{He η:Hp}{st:Rv}{s:bi}{pos:Pos}
def yK{K:Ph}{Hb Ha:Hp}{tg:Ev->D->au Ev}{ds:ac}{D':jg}{i:Nat}{σ:L2.St}{H:Hp}{d:D}{v:V}{ρ:Ev}(z:aD Hb Ha)(h:eZ K He η Ha σ H ρ)(q:bU K E He η Ha (bS tg s (ds.drop i) ρ) D')(hd:ds[i]?=some d)(rv:Rep K Ha d v)
  (he:∀ρ,tg ρ d=.stuck∨∃ρ',tg ρ d=.ok ρ') :
  tG K He η tg v σ H λσ2 H2=>tS K E He η s { D' with nx:=iN K E He η Hb tg s ds D' (i+1),ct:=iN K E He η Hb tg s ds D' (i+1),bk:=D'.nx } σ2 H2:=by
 have hi:i<ds.length:=(Po.mp hd).1;have hdr:ds.drop i=d::ds.drop (i+1):=by
  rw[QQ hi];rw[Pd hi]at hd;cases hd;rfl
 rw[hdr]at q;refine⟨Ha,ρ,d,h,rv,?_⟩;unfold bS at q;rcases he ρ with e1|⟨ρ1,e1⟩
 .rw[e1]at q;exact q.elim
 .rw[e1]at q ⊢
  intro σ' H' Ha' z' h';refine⟨Ha',ρ1,h',?_⟩;replace q:=bU.grow (r:=(s ρ1).bind λx=>match x with
   |.nx ρ2=>bS tg s (ds.drop (i+1)) ρ2
   |.ct ρ2=>bS tg s (ds.drop (i+1)) ρ2
   |.bk ρ2=>.ok (.nx ρ2)
   |.rt d=>.ok (.rt d)) q z'
  cases e2:s ρ1 with
  |stuck|exn x=>rw[e2]at q;exact q
  |ok r=>
   rw[e2]at q;cases r with|nx ρ2=>exact λσ3 H3 H03 z3 h3=>⟨H03,ρ2,(z.trans z').trans z3,h3,bU.grow (r:=bS tg s (ds.drop (i+1)) ρ2) q z3⟩|ct ρ2=>exact λσ3 H3 H03 z3 h3=>⟨H03,ρ2,(z.trans z').trans z3,h3,bU.grow (r:=bS tg s (ds.drop (i+1)) ρ2) q z3⟩|bk ρ2|rt d=>exact q
def ju{tgt iter:Qa}{body:List Rv}{tg:Ev->D->au Ev}{src:Ev->au (ac)}(hp:PassesOwn (PX X.prog X.w) X.A X.env X.xe)(hc:X.calm=true)(hi:DI X E tgt iter src)(hg:DG X E He η tgt tg)(ht:yG tg)(hb:CH X E He η body s)
  (hs:∀x,foldedSetIterable iter X.env x=pure x:=by intro _;rfl):DS X E He η (.For tgt iter body [] pos) (gz src tg s):=by
 refine⟨cu (ze hp hc hi.o hg.o hb.o hs) λD' σ H z9=>?_⟩;obtain⟨Ha,ρ,h,q⟩:=z9;refine⟨Ha,ρ,h.g.sub,h.rd,?_⟩;unfold gz at q;cases e1:src ρ with
 |stuck=>rw[e1]at q;exact q|exn x=>rw[e1]at q;exact λC ox H' Ha' g r=>q C ox H' Ha' (h.g.trans g) r
 |ok ds=>
  rw[e1]at q;intro J H1 H01 g it;have q1:bU X.K E He η H01 (bS tg s ds ρ) D':=bU.grow (r:=bS tg s ds ρ) q g.z;refine⟨λi m σ' H'=>m+i=ds.length/\iN X.K E He η H01 tg s ds D' i σ' H',⟨ds.length,rfl,H01,ρ,aD.refl _,h.grow g,q1⟩,?_⟩;rintro i m σ' H' ⟨hm,Ha',ρ',z,h',hq⟩
  by_cases hlt:i<ds.length
  .refine .inr ⟨it.go i H' Ha' z h'.g.sub hlt,λσ2 H2=>iN X.K E He η H01 tg s ds D' (i+1) σ2 H2,λσ2 H2 hl=>⟨m-1,by omega,by omega,hl⟩,λx H2 hy=>?_⟩
   obtain⟨H₀2,g2,rp⟩:=it.yld i H' Ha' x H2 ds[i] z h'.g.sub (Pd hlt) hy;exact yK (z.trans g2.z) (h'.grow g2) (bU.grow (r:=bS tg s (ds.drop i) ρ') hq g2.z) (Pd hlt) rp λρ=>ht ρ _
  .have e:i=ds.length:=by omega
   refine .inl ⟨it.stop i H' Ha' z h'.g.sub (by omega),?_⟩;subst e;exact iN.done ⟨Ha',ρ',z,h',hq⟩
end
def nS(f:am):Prop:=∀ρ d,f ρ=.ok d->∃ds,d=.lst ds
def wV{K:Ph}{E:XK}{f:am}(hf:nS f){σ:L2.St}{H:Hp}{Q:VK}(h:tD K E f σ H Q):tF K E f σ H Q:=by
 obtain⟨Ha,ρ,hs,hr,q⟩:=h;refine⟨Ha,ρ,hs,hr,?_⟩;cases e1:f ρ with
 |stuck|exn x=>rw[e1]at q;exact q
 |ok d=>
  obtain⟨ds,rfl⟩:=hf ρ d e1;rw[e1]at q;intro p vs H' Ha' g hp h0 hv rp;have n0:Ha p=none:=hs.free hp;refine q (.ref p) H' (upd Ha' p (.lst vs)) ⟨g.s,λb o e=>?_,λb o e=>?_,λb k1 k2=>?_⟩ (aE.mpr ⟨p,vs,rfl,fk.of aP,rp.mono λb o e=>?_⟩)
  .rw[aG (by intro z;subst z;rw[n0]at e;cases e)];exact g.z _ _ e
  .by_cases hb:b=p
   .subst hb;rw[aP]at e;cases e;exact hv
   .rw[aG hb]at e;exact g.sub _ _ e
  .by_cases hb:b=p
   .subst hb;exact hp
   .rw[aG hb]at k1;exact g.nw b k1 k2
  .rw[aG (by intro z;subst z;rw[h0]at e;cases e)];exact e
def Fc{X:Cx}{E:XK}{e:Qa}{f:am}(hf:nS f)(h:DF X E e f):DE X E e f:=⟨bp h.o λσ H Q q=>wV hf q⟩
def cS(n:Nat)(fr:ci)(ρ:Ev):Ev:=PY n .no++fr.map λ(i:Nat)=>match ρ[i]? with
 |some (.sh d)=>.sh d
 |_=>.no
noncomputable def bN(b:Ev) (tg:Ev->D->au Ev) (tt fe:am):ac->au (ac)
 |[]=>.ok []
 |d::r=>(tg b d).bind λρ1=>(tt ρ1).bind λt=>match t with
  |.bl true=>(fe ρ1).bind λx=>(bN b tg tt fe r).bind λxs=>.ok (x::xs)
  |.bl false=>bN b tg tt fe r
  |_=>.stuck
def bK(n:Nat)(fr:ci)(src:Ev->au (ac))(tg:Ev->D->au Ev)(tt fe:am):am:=λρ=>(src ρ).bind λds=>
 if ds.length<=line then match bN (cS n fr ρ) tg tt fe ds with
  |.ok es=>.ok (.lst es)
  |_=>.stuck
 else .stuck
def gS{n:Nat}{fr:ci}{src:Ev->au (ac)}{tg:Ev->D->au Ev}{tt fe:am}:nS (bK n fr src tg tt fe):=λρ d h=>by
 unfold bK at h;cases e1:src ρ with
 |stuck|exn x=>rw[e1]at h;cases h
 |ok ds=>
  rw[e1]at h;replace h:(if ds.length<=line then match bN (cS n fr ρ) tg tt fe ds with
   |.ok es=>au.ok (D.lst es)
   |_=>.stuck else .stuck)=.ok d:=h
  split at h
  .split at h
   .cases h;exact⟨_,rfl⟩
   .cases h
  .cases h
def jD{b:Ev}{tg:Ev->D->au Ev}{tt fe:am}{d:D}{r es:ac}(h:bN b tg tt fe (d::r)=.ok es) :
  ∃ρ1 t,tg b d=.ok ρ1/\tt ρ1=.ok (.bl t)/\((t=true/\∃x xs,fe ρ1=.ok x/\bN b tg tt fe r=.ok xs/\es=x::xs)∨(t=false/\bN b tg tt fe r=.ok es)):=by
 unfold bN at h;cases e1:tg b d with
 |stuck|exn z=>rw[e1]at h;cases h
 |ok ρ1=>
  rw[e1]at h;replace h:((tt ρ1).bind λt=>match t with
   |.bl true=>(fe ρ1).bind λx=>(bN b tg tt fe r).bind λxs=>au.ok (x::xs)
   |.bl false=>bN b tg tt fe r
   |_=>.stuck)=.ok es:=h
  cases e2:tt ρ1 with
  |stuck|exn z=>rw[e2]at h;cases h
  |ok t=>
   rw[e2]at h;cases t with
   |bl t=>
    cases t with
    |true=>
     replace h:((fe ρ1).bind λx=>(bN b tg tt fe r).bind λxs=>au.ok (x::xs))=.ok es:=h;cases e3:fe ρ1 with
     |stuck|exn z=>rw[e3]at h;cases h
     |ok x=>
      rw[e3]at h;replace h:((bN b tg tt fe r).bind λxs=>au.ok (x::xs))=.ok es:=h;cases e4:bN b tg tt fe r with|stuck|exn z=>rw[e4]at h;cases h|ok xs=>rw[e4]at h;cases h;exact⟨ρ1,true,rfl,e2,.inl ⟨rfl,x,xs,e3,rfl,rfl⟩⟩
    |false=>exact⟨ρ1,false,rfl,e2,.inr ⟨rfl,h⟩⟩
   |_=>cases h
def jd{b:Ev}{tg:Ev->D->au Ev}{tt fe:am}{d x:D}{r:ac}{ρ1:Ev}(h1:tg b d=.ok ρ1)(h2:tt ρ1=.ok (.bl true))(h3:fe ρ1=.ok x):bN b tg tt fe (d::r)=(bN b tg tt fe r).bind λxs=>.ok (x::xs):=by
 rw[bN,h1];simp only[au.bind,h2,h3]
def sL{b:Ev}{tg:Ev->D->au Ev}{tt fe:am}{d:D}{r:ac}{ρ1:Ev}(h1:tg b d=.ok ρ1)(h2:tt ρ1=.ok (.bl false)):bN b tg tt fe (d::r)=bN b tg tt fe r:=by
 rw[bN,h1];simp only[au.bind,h2]
theorem oE{b:Ev}{tg:Ev->D->au Ev}{tt fe:am}:∀{r q es:ac},bN b tg tt fe (r++q)=.ok es->∃e1 e2,bN b tg tt fe r=.ok e1/\bN b tg tt fe q=.ok e2/\es=e1++e2
 |[],q,es,h=>⟨[],es,rfl,h,rfl⟩
 |d::r,q,es,h=>by
  obtain⟨ρ1,t,h1,h2,h3⟩:=jD h;rcases h3 with⟨rfl,x,xs,h3,h4,rfl⟩|⟨rfl,h4⟩
  .obtain⟨e1,e2,k1,k2,rfl⟩:=oE h4
   refine⟨x::e1,e2,?_,k2,rfl⟩;rw[jd h1 h2 h3,k1];rfl
  .obtain⟨e1,e2,k1,k2,rfl⟩:=oE h4
   refine⟨e1,e2,?_,k2,rfl⟩;rw[sL h1 h2];exact k1
theorem jC{b:Ev}{tg:Ev->D->au Ev}{tt fe:am}:∀{r q e1 e2:ac},bN b tg tt fe r=.ok e1->bN b tg tt fe q=.ok e2->bN b tg tt fe (r++q)=.ok (e1++e2)
 |[],q,e1,e2,h,h'=>by cases h;exact h'
 |d::r,q,e1,e2,h,h'=>by
  obtain⟨ρ1,t,h1,h2,h3⟩:=jD h;show bN b tg tt fe (d::(r++q))=_;rcases h3 with⟨rfl,x,xs,h3,h4,rfl⟩|⟨rfl,h4⟩
  .rw[jd h1 h2 h3,jC h4 h'];rfl
  .rw[sL h1 h2];exact jC h4 h'
theorem sN{b:Ev}{tg:Ev->D->au Ev}{tt fe:am}:∀{r es:ac},bN b tg tt fe r=.ok es->es.length<=r.length
 |[],es,h=>by cases h;exact P1 _
 |d::r,es,h=>by
  obtain⟨ρ1,t,h1,h2,h3⟩:=jD h;rcases h3 with⟨rfl,x,xs,h3,h4,rfl⟩|⟨rfl,h4⟩
  .exact Nat.succ_le_succ (sN h4)
  .exact Nat.le_succ_of_le (sN h4)
def Fw(n:Nat)(tg:Ev->D->au Ev):Prop:=∀ρ d ρ',tg ρ d=.ok ρ'->ρ'.length=ρ.length/\∀(k:Nat),n<=k->ρ'[k]?=ρ[k]?
def bV{i n:Nat}(h:i<n):Fw n (br i):=λρ d ρ' e=>by
 cases e;exact⟨by simp,λk hk=>by rw[PB (by omega)]⟩
theorem mi{n:Nat}:∀{is:ci}{ds:ac}{ρ:Ev},(is.all λi=>decide (i<n))=true->(cR ρ is ds).length=ρ.length/\∀(k:Nat),n<=k->(cR ρ is ds)[k]?=ρ[k]?
 |[],ds,ρ,_=>by unfold cR;exact⟨rfl,λ_ _=>rfl⟩
 |i::is,[],ρ,_=>by unfold cR;exact⟨rfl,λ_ _=>rfl⟩
 |i::is,d::ds,ρ,h=>by
  rw[RT,PM,decide_eq_true_eq]at h;unfold cR;obtain⟨h1,h2⟩:=mi (ds:=ds) (ρ:=ρ.set i (.sh d)) h.2;exact⟨by rw[h1];simp,λk hk=>by rw[h2 k hk,PB (by omega)]⟩
def j7{n:Nat}{is:ci}(h:(is.all λi=>decide (i<n))=true):Fw n (cB is):=λρ d ρ' e=>by
 unfold cB at e;cases hp:eO is.length d with|none=>rw[hp]at e;cases e|some ds=>rw[hp]at e;cases e;exact mi h
def zQ{K:Ph}{Ha:Hp}{σ:L2.St}{ρ:Ev}{n:Nat}{fr:ci}(h:eB K Ha σ ρ):eB K Ha (nE n fr σ) (cS n fr ρ):=λi d e=>by
 unfold cS at e;unfold nE
 by_cases hi:i<n
 .rw[P0 (by simpa using hi),Qn,if_pos hi]at e
  cases e
 .rw[Qc (by simpa using hi),RD,Pp]at e ⊢
  cases hf:fr[i-n]? with
  |none=>rw[hf]at e;cases e
  |some j=>
   rw[hf]at e;simp only[Sk,Rl]at e ⊢;cases hj:ρ[j]? with
   |none=>rw[hj]at e;cases e
   |some s=>
    rw[hj]at e;cases s with
    |sh d'=>
     cases e;obtain⟨v,h1,h2⟩:=h j d hj;exact⟨v,by rw[h1];rfl,h2⟩
    |_=>cases e
def HR{n:Nat}{fr:ci}{ρ:Ev}{k:Nat}(h:k<n):(cS n fr ρ)[k]?=some .no:=by
 unfold cS;rw[P0 (by simpa using h),Qn,if_pos h]
def Fq{n:Nat}{fr:ci}{ρ:Ev}(i j:Nat)(es:ac):(cS n fr ρ)[i]?≠some (.ox j es):=λe=>by
 unfold cS at e
 by_cases hj:i<n
 .rw[P0 (by simpa using hj),Qn,if_pos hj]at e;cases e
 .rw[Qc (by simpa using hj),Pp]at e
  cases hf:fr[i-(PY n Sl.no).length]? with
  |none=>rw[hf]at e;cases e
  |some z=>
   rw[hf]at e;simp only[Sk,Rl]at e;split at e<;>cases e
def Cz{n:Nat}{fr:ci}{ρ:Ev}{σ:L2.St}(i:Nat)(a:Pk)(e:(cS n fr ρ)[i]?=some (.pt a)):σ[i]?=some (some (.ref a)):=by
 unfold cS at e
 by_cases hj:i<n
 .rw[P0 (by simpa using hj),Qn,if_pos hj]at e;cases e
 .rw[Qc (by simpa using hj),Pp]at e
  cases hf:fr[i-(PY n Sl.no).length]? with
  |none=>rw[hf]at e;cases e
  |some z=>
   rw[hf]at e;simp only[Sk,Rl]at e;split at e<;>cases e
def yC{n:Nat}{fr:ci}{ρ:Ev}:(cS n fr ρ).length=n+fr.length:=by unfold cS;simp
def zL{K:Ph}{E:XK}{n:Nat}{fr:ci}{tg:Ev->D->au Ev}{tt fe:am}{σ:L2.St}{ρ:Ev}{H Ha H1 H01:Hp}{ds es:ac}{J:It}{Q:VK}(hsame:aD Ha H)(g1:bf H Ha H1 H01)(it:M7 K ds J H01)(hl:ds.length<=line)
  (e2:bN (cS n fr ρ) tg tt fe ds=.ok es)(hr:eB K H01 σ ρ)(hok:Fw n tg)
  (q:∀p vs H' Ha',bf H Ha H' Ha'->H p=none->Ha' p=none->H' p=some (.lst vs)->Reps K Ha' es vs->Q (.ref p) H') :
  yV n fr (Kt K tg) (Lj K E tt) (tD K E fe) J σ H1 Q:=by
 intro Da hDa;have h0D:H01 Da=none:=g1.sub.free hDa;refine⟨λi m ys σ' H'=>m=ds.length-i/\i<=ds.length/\σ'.length=n+fr.length/\∃Ha',bf H1 H01 H' Ha'/\Ha' Da=none/\H' Da=some (.lst ys)/\eB K Ha' σ' (cS n fr ρ)/\∃es1,bN (cS n fr ρ) tg tt fe (ds.take i)=.ok es1/\Reps K Ha' es1 ys,
  ⟨ds.length,by simp,R4 _,by unfold nE;simp,H01,?_,h0D,aP,zQ hr,[],rfl,Reps.nil⟩,?_⟩
 .refine⟨λb o e=>by rw[aG (ba e hDa)];exact e,aD.refl _,λb o e=>?_,λb k1 k2=>absurd k2 k1⟩
  rw[aG (by intro z;subst z;rw[h0D]at e;cases e)];exact g1.sub _ _ e
 .rintro i m ys σ' H' ⟨rfl,hile,hsl,Ha',gg,hD0,hDl,hrd,es1,hes1,hys⟩
  refine⟨hDl,?_⟩
  by_cases hlt:i<ds.length
  .refine .inr ⟨it.go i H' Ha' gg.z gg.sub hlt,?_,?_⟩
   .rw[←hys.length]
    have:=sN hes1;rw[Ru]at this;have h2:line<sizeLine:=by decide
    omega
   .intro x H2 hy
    obtain⟨H₀2,g2,rp⟩:=it.yld i H' Ha' x H2 ds[i] gg.z gg.sub (Pd hlt) hy;have hsplit:ds=ds.take i++(ds[i]::ds.drop (i+1)):=by rw[←QQ hlt,List.take_append_drop]
    rw[hsplit]at e2;obtain⟨a1,a2,k1,k2,k3⟩:=oE e2;rw[hes1]at k1;cases k1;obtain⟨ρ1,t,t1,t2,t3⟩:=jD k2;have hn2:H₀2 Da=none:=by
     cases qq:H₀2 Da with|none=>rfl|some o=>have:=g2.nw Da (by rw[qq];simp) hD0;rw[hDl]at this;cases this
    have hD2:H2 Da=some (.lst ys):=g2.s _ _ hDl;refine⟨H2,H₀2,H₀2,cS n fr ρ,ds[i],⟨bf.refl g2.sub,hrd.mono g2.z,λj d' e=>?_,λj k d1 d2 _ e=>?_,by rw[yC,hsl],OX.none Fq Cz⟩,rp,?_⟩
    .unfold cS at e
     by_cases hj:j<n
     .rw[P0 (by simpa using hj),Qn,if_pos hj]at e;cases e
     .rw[Qc (by simpa using hj),Pp]at e
      cases hf:fr[j-(PY n Sl.no).length]? with
      |none=>rw[hf]at e;cases e
      |some z=>
       rw[hf]at e;simp only[Sk,Rl]at e;split at e<;>cases e
    .unfold cS at e
     by_cases hj:j<n
     .rw[P0 (by simpa using hj),Qn,if_pos hj]at e;cases e
     .rw[Qc (by simpa using hj),Pp]at e
      cases hf:fr[j-(PY n Sl.no).length]? with
      |none=>rw[hf]at e;cases e
      |some z=>
       rw[hf]at e;simp only[Sk,Rl]at e;split at e<;>cases e
    .rw[t1]
     intro σ3 H3 H03 z3 s3;have hrl:=hok _ _ _ t1;have hσ3:σ3.length=n+fr.length:=by rw[←s3.ln,hrl.1,yC]
     have back:∀{Hx:Hp},aD H03 Hx->eB K Hx σ3 (cS n fr ρ):=λ{Hx} sx k d e=>by
      by_cases hk:k<n
      .rw[HR hk]at e;cases e
      .rw[←hrl.2 k (by omega)]at e
       obtain⟨v,h1,h2⟩:=s3.rd k d e;exact⟨v,h1,h2.mono sx⟩
     have n3:H03 Da=none:=by
      cases qq:H03 Da with|none=>rfl|some o=>have:=s3.g.nw Da (by rw[qq];simp) hn2;rw[hD2]at this;cases this
     have hD3:H3 Da=some (.lst ys):=s3.g.s _ _ hD2;refine⟨H03,ρ1,s3.g.sub,s3.rd,?_⟩;rw[t2];intro H4 H04 g4;have hD4:H4 Da=some (.lst ys):=g4.s _ _ hD3;have n4:H04 Da=none:=by
      cases qq:H04 Da with|none=>rfl|some o=>have:=g4.nw Da (by rw[qq];simp) n3;rw[hD3]at this;cases this
     have htake:ds.take (i+1)=ds.take i++[ds[i]]:=by rw[List.take_add_one,Pd hlt];rfl
     have g04:=(gg.trans g2).trans (s3.g.trans g4);rcases t3 with⟨rfl,y,xs,t3,t4,_⟩|⟨rfl,t4⟩
     .rw[if_pos rfl]
      refine⟨H04,ρ1,g4.sub,s3.rd.mono g4.z,?_⟩;rw[t3];intro yv H5 H05 g5 ry;have hD5:H5 Da=some (.lst ys):=g5.s _ _ hD4;have n5:H05 Da=none:=by
       cases qq:H05 Da with|none=>rfl|some o=>have:=g5.nw Da (by rw[qq];simp) n4;rw[hD4]at this;cases this
      have gall:=g04.trans g5;refine⟨hD5,ds.length-(i+1),by omega,rfl,hlt,hσ3,H05,⟨λb o e=>?_,gall.z,λb o e=>?_,gall.nw⟩,n5,aP,back (g4.z.trans g5.z),es1++[y],?_,?_⟩
      .rw[aG (ba e hDa)];exact gall.s _ _ e
      .rw[aG (by intro z;subst z;rw[n5]at e;cases e)];exact gall.sub _ _ e
      .rw[htake]
       refine jC hes1 ?_;rw[jd t1 t2 t3];rfl
      .exact(hys.mono ((g2.z.trans s3.g.z).trans (g4.z.trans g5.z))).app (Reps.cons ry Reps.nil)
     .rw[if_neg QY]
      refine⟨ds.length-(i+1),by omega,rfl,hlt,hσ3,H04,g04,n4,hD4,back g4.z,es1,?_,hys.mono ((g2.z.trans s3.g.z).trans g4.z)⟩;rw[htake];rw[show es1=es1++[] by simp];refine jC hes1 ?_;rw[sL t1 t2];rfl
  .have hi2:i=ds.length:=by omega
   refine .inl ⟨it.stop i H' Ha' gg.z gg.sub (by omega),?_⟩;rw[hi2,R8]at hes1;rw[e2]at hes1;cases hes1;exact q Da ys H' Ha' (g1.trans gg) (g1.s.free hDa) hD0 hDl hys
structure Nm (X:Cx) (E:XK) (ifs:List Qa) (f:am):Prop where
 o:M1 X ifs (Lj X.K E f)
def mYes:am:=λ_=>.ok (.bl true)
def dU{X:Cx}{E:XK}:Nm X E [] mYes:=⟨λπ s σ H Q I ⟨Ha,ρ,hs,hr,q⟩=>GD π s σ H Q I (q H Ha (bf.refl hs))⟩
def fK{X:Cx}{E:XK}{c:Qa}{f:am}(h:DT X E c f):Nm X E [c] f:=⟨GC h.o⟩
structure M8 (X:Cx) (E:XK) (e:Qa) (f:am):Prop where
 ev:PE X e (tF X.K E f)
 st:∀{i:Nat}{x:Pq}{pos' spos:Pos},X.N.Nodup->X.N[i]?=some x->X.env.scope.names.lookup x=some .local -> Rt e (some (.Name x pos')) spos.line X.env=pure true->PS X (.Assign [.Name x pos'] e spos) (Jp (tF X.K E f) (ET i))
def OY{X:Cx}{E:XK}{tgt iter elt:Qa}{ifs:List Qa}{scope:Sa}{pos:Pos}(N:ce)(n:Nat)(fr:ci){src:Ev->au (ac)}{tg:Ev->D->au Ev}{tt fe:am}(hc:X.calm=true)(hi:DI X E tgt iter src)(hok:Fw n tg)
  (blk:∀s H C fp pn,(∀He η,DG (eM X N scope s H C fp pn) E He η tgt tg)/\Nm (eM X N scope s H C fp pn) E ifs tt/\DE (eM X N scope s H C fp pn) E elt fe)
  (hfr:FD X N n fr scope)(hcell:∀x∈scope.names,x.2≠.cell)(hfree:∀x∈scope.names,x.2=.free->X.env.scope.names.lookup x.1=some .cell)(hkind:scope.kind=.function)(hnames:∀x∈scope.names,x.2=.local -> scope.names.lookup x.1=some .local)
  (hs:∀x,foldedSetIterable iter X.env x=pure x:=by intro _;rfl):M8 X E (.ListComp elt [⟨tgt,iter,ifs,0⟩] scope pos) (bK n fr src tg tt fe):=by
 have blk':∀s H C fp pn,PG (eM X N scope s H C fp pn) tgt (Kt X.K tg)/\M1 (eM X N scope s H C fp pn) ifs (Lj X.K E tt)/\PE (eM X N scope s H C fp pn) elt (tD X.K E fe):=λs H C fp pn=>
  ⟨λπ s' σ' H' v u Q' I r ⟨He,η,q'⟩=>((blk s H C fp pn).1 He η).o π s' σ' H' v u Q' I r q',(blk s H C fp pn).2.1.o,(blk s H C fp pn).2.2.o⟩
 have first:∀{π:List (Pk×Obj)}{s:Pj}{σ:L2.St}{H:Hp}{Q:VK}{RR:Pb->Pk->Tx->Pj->Prop},L2.Inv X π σ H s->tF X.K E (bK n fr src tg tt fe) σ H Q ->
   (∀(Da C:Pk) (s6:Pj) (H5:Hp) (m:Pq->Option Pb),L2.Inv X π σ H5 s6->s6.heap.Ns C m->oJ X π H5 C->Q (.ref Da) H5->RR (.ref Da) C (.ok .next) s6) ->
   P5 (PX X.prog X.w) X.A (eval iter X.env) (λx si=>P5 (PX X.prog X.w) X.A (pyIter x) (λit sj=>P5 (PX X.prog X.w) X.A (newList []) (λacc sk=>
    P5 (PX X.prog X.w) X.A (newFunctionEnv scope X.env.globals (iW X.env.cells scope.names []) [] X.env.qual none .none (some X.env)) (λcenv sn=>
     RJ (PX X.prog X.w) X.A (.compStart (.ListComp elt [⟨tgt,iter,ifs,0⟩] scope pos) 0 it acc { cenv with scope:=relabel scope X.env }) (RR acc cenv.locals) sn) X.xe sk) X.xe sj) X.xe si) X.xe s:=by
  intro π s σ H Q RR I ⟨Ha,ρ,hsame,hr,q⟩ fin;refine cJ (hi.o π s σ H (λJ H1=>yV n fr (Kt X.K tg) (Lj X.K E tt) (tD X.K E fe) J σ H1 Q) I ⟨Ha,ρ,hsame,hr,?_⟩) λv s1 h1=>cJ h1 λitv s2 h2=>Cq (N:=N) hc hfr hcell hfree hkind blk' h2 fin;unfold bK at q;cases e1:src ρ with
  |stuck|exn x=>rw[e1]at q;exact q
  |ok ds=>
   rw[e1]at q;intro J H1 H01 g1 it;replace q:match (if ds.length<=line then match bN (cS n fr ρ) tg tt fe ds with
     |.ok es=>au.ok (D.lst es)
     |_=>.stuck else .stuck) with
    |.ok (.lst ds)=>∀p vs H' Ha',bf H Ha H' Ha'->H p=none->Ha' p=none->H' p=some (.lst vs)->Reps X.K Ha' ds vs->Q (.ref p) H'
    |.ok _=>False
    |.exn x=>∀C ox H' Ha',bf H Ha H' Ha'->wK X.K Ha' x C ox->E C ox H'
    |.stuck=>False:=q
   by_cases hl:ds.length<=line
   .rw[if_pos hl]at q
    cases e2:bN (cS n fr ρ) tg tt fe ds with
    |stuck|exn x=>rw[e2]at q;exact q.elim
    |ok es=>
     rw[e2]at q;exact zL hsame g1 it hl e2 (hr.mono g1.z) hok q
   .rw[if_neg hl]at q;exact q.elim
 have hcl:∀{π:List (Pk×Obj)}{s:Pj}{σ:L2.St}{H:Hp},L2.Inv X π σ H s->closureFor scope X.env=pure (iW X.env.cells scope.names []):=λ{π s σ H} I=>uf λy hy hf=>I.ok.has y.1 (.inl (hfree y hy hf));refine⟨λπ s σ H Q I h=>?_,λ{i x pos' spos} hN hi' hx hsw π s σ H D' I h=>?_⟩
 .rw[eval_ListComp]
  refine wpAny_comprehension_free (use:=none) rfl hs (hcl I) hkind hnames (first (RR:=λacc C=>compPost (PX X.prog X.w) X.A X.xe none (EP X π σ Q) acc C) I h λDa C s6 H5 m I6 ns fC q=>?_);refine⟨m,ns,λh' sb=>⟨.ref Da,H5,?_,rfl,q⟩⟩;exact I6.turned (t':=s6.toks) (it:=C) (λb o hb e=>(sb.2 b hb).trans e) fC.1 fC.2.1 fC.2.2.2.1 fC.2.2.2.2.1 fC.2.2.2.2.2
 .rw[exec_Assign_Name_used _ _ _ _ hsw]
  refine Py (wpAny_standAt (Py ?_));show P5 _ X.A (do let _ ←comprehension (.ListComp elt [⟨tgt,iter,ifs,0⟩] scope pos) scope X.env _ (newList []) false (eval iter X.env) (some (assign (.Name x pos') X.env))) _ _ s;refine Py (Rn (wpAny_comprehension_free (use:=some (assign (.Name x pos') X.env)) (Q:=λ_ s'=>SP X π D' .next s') rfl hs (hcl I) hkind hnames
   (first (RR:=λacc C=>compPost (PX X.prog X.w) X.A X.xe (some (assign (.Name x pos') X.env)) (λ_ s'=>SP X π D' .next s') acc C) I h λDa C s6 H5 m I6 ns fC q=>?_)) (λ_ s' hq=>P7 (P7 hq)) λ_ _ e=>e)
  show P5 _ X.A (assign (.Name x pos') X.env (.ref Da)) _ _ _;refine wpAny_assign_Name (uA (v:=.ref Da) I6 hN hi' (.inl hx) rfl (λs' I' z9=>?_) (.inr hx));obtain⟨a,sb,ha⟩:=z9;have hCa:C≠a:=by
   rcases ha with rfl|ha
   .exact fC.2.1
   .exact λz=>fC.2.2.2.2.1 x a ha z.symm
  refine⟨m,ns.sameBut sb hCa,λh' sb'=>⟨_,H5,?_,q⟩⟩;exact I'.turned (t':=s'.toks) (it:=C) (λb o hb e=>(sb'.2 b hb).trans e) fC.1 fC.2.1 fC.2.2.2.1 fC.2.2.2.2.1 fC.2.2.2.2.2
def MO{X:Cx}{E:XK}{e:Qa}{f:am}(h:M8 X E e f):DF X E e f:=⟨h.ev⟩
def ft{X:Cx}{E:XK}{e:Qa}{n:Nat}{fr:ci}{src:Ev->au (ac)}{tg:Ev->D->au Ev}{tt fe:am}(h:M8 X E e (bK n fr src tg tt fe)):DE X E e (bK n fr src tg tt fe):=Fc gS (MO h)
def h9{X:Cx}{E:XK}{tgt iter elt:Qa}{ifs:List Qa}{scope:Sa}{pos:Pos}(N:ce)(n:Nat)(fr:ci){src:Ev->au (ac)}{tg:Ev->D->au Ev}{tt fe:am}(hc:X.calm=true)(hi:DI X E tgt iter src)(hok:Fw n tg)
  (blk:∀s H C fp pn,(∀He η,DG (eM X N scope s H C fp pn) E He η tgt tg)/\Nm (eM X N scope s H C fp pn) E ifs tt/\DE (eM X N scope s H C fp pn) E elt fe)
  (hfr:FD X N n fr scope)(hcell:(scope.names.all λx=>!(x.2==.cell))=true)(hfree:(scope.names.all λx=>!(x.2==.free)||(X.env.scope.names.lookup x.1==some .cell))=true)(hkind:scope.kind=.function)
  (hnames:(scope.names.all λx=>!(x.2==.local)||(scope.names.lookup x.1==some .local))=true)
  (hs:∀x,foldedSetIterable iter X.env x=pure x:=by intro _;rfl):M8 X E (.ListComp elt [⟨tgt,iter,ifs,0⟩] scope pos) (bK n fr src tg tt fe):=by
 refine OY N n fr hc hi hok blk hfr (λx hx z=>?_) (λx hx z=>?_) hkind (λx hx z=>?_) hs
 .have:=Qi.mp hcell x hx
  rw[z]at this;simp at this
 .have:=Qi.mp hfree x hx
  rw[z]at this;simpa using this
 .have:=Qi.mp hnames x hx
  rw[z]at this;simpa using this
def nA{X:Cx}{E:XK}{He η:Hp}{e:Qa}{f:am}{pos:Pos}{i:Nat}{x:Pq}{pos':Pos}(hN:X.N.Nodup)(hi:X.N[i]?=some x)(hx:X.env.scope.names.lookup x=some .local)(hl:nS f)(he:M8 X E e f)(hs:Rt e (some (.Name x pos')) pos.line X.env=pure true:=by rfl):DS X E He η (.Assign [.Name x pos'] e pos) (aF i f):=by
 refine⟨cu (he.st hN hi hx hs) λD σ H ⟨Ha,ρ,h,q⟩=>?_⟩;refine wV hl ⟨Ha,ρ,h.g.sub,h.rd,?_⟩;refine plain h q λd v H' Ha' _ g rp q'=>?_;exact q' _ H' Ha' (aD.refl _) ((h.grow g).put rp)
end DL
namespace Com
open PySem L2 DL
noncomputable def gM:bi :=
 (ao (aF 2 (aq (af (ae 0) (af (aa (aS (dC (.int 1)) jV) (ae 0) gJ) ax)) (m2 N9)))
 (ao (aF 3 (ae 2))
 (ao (pB 4 (aq ax bO))
 (ao (xb (aq (af (ae 1) ax) (m1 fg)) (br 5)
 (ao (cH (gq (aa (ae 2) (aa (dC (.int 10)) (dC (.int 18)) jU) MT) (aa (ae 3) (dC (.int 0)) yO))
 (ao (bP 4 (aa (ae 3) (aa (ae 1) (ae 5) aC) cn))
 (ao (aF 3 (aa (ae 3) (aa (ae 1) (ae 5) aC) jz))
 aj))
 (ao (aF 6 (aa (aa (aa (aa (aa (aa (ae 2) (dC (.int 2147483647)) cn) (aa (aa (dC (.int 1009)) (ae 5) aW) (ae 5) aW) bc) (aa (dC (.int 31)) (ae 5) aW) bc) (dC (.int 7)) bc) (dC (.int 48271)) aW) (dC (.int 2147483629)) cn))
 (ao (aF 6 (aa (aa (aa (aa (aa (ae 6) (ae 6) aW) (dC (.int 2147483647)) cn) (ae 5) bc) (dC (.int 39373)) aW) (dC (.int 2147483587)) cn))
 (ao (bP 4 (aa (aa (ae 6) (dC (.int 8)) jz) (aa (ae 1) (ae 5) aC) cn))
 aj))))
 aj))
 (ao (aT (ae 4))
 aj)))))
def aB:ac->au D:=bj 7 gM
def tw:bi :=
 (ao (fw (mB 1) (aa (ae 1) (dC (.int 0)) jh)
 (ao (BH 0 1 (af (ae 1) (af (aa (ae 0) (ae 1) cn) ax)))
 aj))
 (ao (aT (aq (af (ae 0) ax) (m1 wm)))
 aj))
def qK:ac->au D:=bj 2 tw
def ug:bi :=
 (ao (aF 2 (aq (af (ae 0) (af (ae 1) ax)) qK))
 (ao (aT (aq (af (aa (ae 0) (ae 2) jz) (af (aa (ae 1) (ae 2) jz) ax)) eT))
 aj))
def lK:ac->au D:=bj 3 ug
def zT:bi :=
 (ao (aT (gq (aS (ae 0) (jy "int")) (cU (aS (ae 0) (jy "bool")))))
 aj)
def m_is_whole:ac->au D:=bj 1 zT
noncomputable def dW:bi :=
 (ao (aF 2 (aq (af (ae 0) ax) (m1 wm)))
 (ao (aF 3 (aq (af (ae 1) ax) (m1 wm)))
 (ao (fw (mB 3) (aa (ae 3) (dC (.int 0)) jh)
 (ao (aF 4 (aa (ae 2) (ae 3) cn))
 (ao (aF 2 (ae 3))
 (ao (aF 3 (ae 4))
 aj))))
 (ao (aT (ae 2))
 aj))))
def m_common_divisor:ac->au D:=bj 5 dW
noncomputable def pY:bi :=
 (ao (cH (jP (cU (aq (af (ae 0) ax) m_is_whole)) (cU (aq (af (ae 1) ax) m_is_whole)))
 (ao cG
 aj)
 aj)
 (ao (cH (aa (ae 1) (dC (.int 0)) ij)
 (ao cG
 aj)
 aj)
 (ao (aF 2 (aq (af (ae 0) (af (ae 1) ax)) m_common_divisor))
 (ao (cH (aa (ae 1) (dC (.int 0)) KY)
 (ao (aF 2 (aS (ae 2) jV))
 aj)
 aj)
 (ao (aT (aq (af (aa (ae 0) (ae 2) jz) (af (aa (ae 1) (ae 2) jz) ax)) eT))
 aj)))))
def m_ratio:ac->au D:=bj 3 pY
noncomputable def zS:bi :=
 (ao (aT (aq (af (aa (aa (aa (ae 0) (dC (.int 0)) aC) (aa (ae 1) (dC (.int 1)) aC) aW) (aa (aa (ae 1) (dC (.int 0)) aC) (aa (ae 0) (dC (.int 1)) aC) aW) bc) (af (aa (aa (ae 0) (dC (.int 1)) aC) (aa (ae 1) (dC (.int 1)) aC) aW) ax)) m_ratio))
 aj)
def m_plus:ac->au D:=bj 2 zS
def sZ:bi :=
 (ao (aF 1 (dC (.tup [(.int 0),(.int 1)])))
 (ao (iR (ae 0) (br 2)
 (ao (aF 1 (aq (af (ae 1) (af (ae 2) ax)) m_plus))
 aj))
 (ao (aT (ae 1))
 aj)))
def m_sum_of:ac->au D:=bj 3 sZ
def Cy{α β:Type}{a:α}{f:α->au β}:(au.ok a).bind f=f a:=rfl
def iQ{s t:bi}{ρ ρ':Ev}(h:s ρ=.ok (.nx ρ')):ao s t ρ=t ρ':=by unfold ao;rw[h];rfl
def vy{s t:bi}{ρ:Ev}{d:D}(h:s ρ=.ok (.rt d)):ao s t ρ=.ok (.rt d):=by unfold ao;rw[h];rfl
def Dl{s:bi}{ρ ρ':Ev}(h:s ρ=.ok (.nx ρ')):ao s aj ρ=.ok (.nx ρ'):=by unfold ao;rw[h];rfl
def y8{i:Nat}{f:am}{ρ:Ev}{d:D}(h:f ρ=.ok d):aF i f ρ=.ok (.nx (ρ.set i (.sh d))):=by unfold aF;rw[h];rfl
def vE{f:am}{ρ:Ev}{d:D}(h:f (iP ρ)=.ok d):aT f ρ=.ok (.rt d):=by unfold aT;rw[h];rfl
def Ko{c:am}{s t:bi}{ρ:Ev}(h:c (iP ρ)=.ok (.bl false)):cH c s t ρ=t ρ:=by unfold cH;rw[h];rfl
def oi{i j:Int}:jh (.int i) (.int j)=.ok (.bl (!(i==j))):=by unfold jh;rw[if_pos ⟨rfl,rfl⟩,cN]
def oq{i j:Int}:ij (.int i) (.int j)=.ok (.bl (i==j)):=by unfold ij;rw[if_pos ⟨rfl,rfl⟩,cN]
def Dp{n:Nat}{s:bi}{ds:ac}{d:D}(h:s (ds.map Sl.sh++PY (n-ds.length) .no)=.ok (.rt d)):bj n s ds=.ok d:=by unfold bj;rw[h];rfl
def nO{f:am}{fa:Ev->au (ac)}{ρ:Ev}{x:D}{xs:ac}(h:f ρ=.ok x)(h':fa ρ=.ok xs):af f fa ρ=.ok (x::xs):=by unfold af;rw[h,Cy,h'];rfl
def ig{f g:am}{op:D->D->au D}{ρ:Ev}{x y:D}(h:f ρ=.ok x)(h':g ρ=.ok y):aa f g op ρ=op x y:=by unfold aa;rw[h,Cy,h'];rfl
def nF{fa:Ev->au (ac)}{m:ac->au D}{ρ:Ev}{xs:ac}(h:fa ρ=.ok xs):aq fa m ρ=m xs:=by unfold aq;rw[h];rfl
def EA{a b:Int}(h:b≠0):cn (.int a) (.int b)=.ok (.int (a.fmod b)):=by
 show(if decide (b≠0)=true then au.ok (D.int (a.fmod b)) else .stuck)=_;rw[if_pos (decide_eq_true h)]
def zI{a b:Int}(h:gk a b=true):jz (.int a) (.int b)=.ok (.int (a.fdiv b)):=by
 show(if gk a b=true then au.ok (D.int (a.fdiv b)) else .stuck)=_;rw[if_pos h]
def zo{a b:Int}(h:dg a b=true):aW (.int a) (.int b)=.ok (.int (a*b)):=by
 show(if dg a b=true then au.ok (D.int (a*b)) else .stuck)=_;rw[if_pos h]
def xS(a b:Int):Qf b (a.fmod b)=Qf a b:=by
 rw[Int.fmod_def,Int.gcd_sub_mul_left_right,UH]
def Ht{a b:Int}(h:b≠0):(a.fmod b).natAbs<b.natAbs:=by
 rcases Int.lt_or_gt_of_ne h with hb|hb
 .have h1:=TF (-a) (show 0 < -b by omega)
  have h2:=SA (-a) (show 0 < -b by omega);rw[Int.neg_fmod_neg]at h1 h2;omega
 .have h1:=TF a hb
  have h2:=SA a hb;omega
theorem oZ:∀(n:Nat) (x y:D) (a b:Int) (r:Sl),0<=a->0<=b->b.natAbs<n->∃r',
  bY (aa (ae 3) (dC (.int 0)) jh) (ao (aF 4 (aa (ae 2) (ae 3) cn)) (ao (aF 2 (ae 3)) (ao (aF 3 (ae 4)) aj))) n [.sh x,.sh y,.sh (.int a),.sh (.int b),r]=.ok (.nx [.sh x,.sh y,.sh (.int (Qf a b)),.sh (.int 0),r'])
 |0,_,_,a,b,_,_,_,h=>absurd h (Nat.not_lt_zero _)
 |n+1,x,y,a,b,r,ha,hb0,h=>by
  unfold bY;have c:∀r,(aa (ae 3) (dC (.int 0)) jh) (iP [.sh x,.sh y,.sh (.int a),.sh (.int b),r])=.ok (.bl (!(b==0))):=λr=>oi;rw[c]
  by_cases hb:b=0
  .subst hb
   refine⟨r,?_⟩;have e:((Qf a 0:Nat):Int)=a:=by simp;omega
   rw[e];rfl
  .have e:(!(b==0))=true:=by simp[hb]
   have hp:0<b:=by omega
   obtain⟨r',h2⟩:=oZ n x y b (a.fmod b) (.sh (.int (a.fmod b))) hb0 (SA a hp) (by have:=Ht (a:=a) hb;omega);refine⟨r',?_⟩;rw[xS]at h2;rw[←h2,e];have st:(ao (aF 4 (aa (ae 2) (ae 3) cn)) (ao (aF 2 (ae 3)) (ao (aF 3 (ae 4)) aj))) [.sh x,.sh y,.sh (.int a),.sh (.int b),r]=.ok (.nx [.sh x,.sh y,.sh (.int b),.sh (.int (a.fmod b)),.sh (.int (a.fmod b))]):=by
    have m:(aa (ae 2) (ae 3) cn) [.sh x,.sh y,.sh (.int a),.sh (.int b),r]=.ok (.int (a.fmod b)):=by
     exact EA hb
    rw[iQ (y8 m)];rfl
   show(au.bind _ _)=_;rw[st];rfl
def lr(a b:Int):m_common_divisor [.int a,.int b]=.ok (.int (Qf a b)):=by
 have e:∀i:Int,(if i<0 then -i else i)=(i.natAbs:Int):=λi=>by split<;>omega
 obtain⟨r',h⟩:=oZ ((b.natAbs:Int).natAbs+1) (.int a) (.int b) a.natAbs b.natAbs .no (TC _) (TC _) (RN _);have hg:Qf (a.natAbs:Int) (b.natAbs:Int)=Qf a b:=by simp[Qf]
 rw[hg]at h;have r:dW [.sh (.int a),.sh (.int b),.no,.no,.no]=.ok (.rt (.int (Qf a b))):=by
  unfold dW;rw[iQ (ρ':=[.sh (.int a),.sh (.int b),.sh (.int (a.natAbs:Int)),.no,.no]) (by rw[←e a];rfl)];rw[iQ (ρ':=[.sh (.int a),.sh (.int b),.sh (.int (a.natAbs:Int)),.sh (.int (b.natAbs:Int)),.no]) (by rw[←e b];rfl)];have w:fw (mB 3) (aa (ae 3) (dC (.int 0)) jh) (ao (aF 4 (aa (ae 2) (ae 3) cn)) (ao (aF 2 (ae 3)) (ao (aF 3 (ae 4)) aj))) [.sh (.int a),.sh (.int b),.sh (.int (a.natAbs:Int)),.sh (.int (b.natAbs:Int)),.no]=.ok (.nx [.sh (.int a),.sh (.int b),.sh (.int (Qf a b)),.sh (.int 0),r']):=h;rw[iQ w];exact vy (vE rfl)
 show(dW [.sh (.int a),.sh (.int b),.no,.no,.no]).bind _=_;rw[r];rfl
def zf:(2:Nat) ^ 64<=nU:=by rw[oK];exact Qz (by decide) (by decide)
def Mw{i:Int}(h:i.natAbs<18446744073709551616):i.natAbs<nU:=Pm h zf
def i7{i j:Int}(h:i.natAbs<18446744073709551616)(h':j.natAbs<18446744073709551616):dg i j=true:=by
 unfold dg;rw[PM];exact⟨decide_eq_true (Mw h),decide_eq_true (Mw h')⟩
def fA{i j:Int}(h:i.natAbs<nU)(h':j.natAbs<nU):dg i j=true:=by
 unfold dg;rw[PM];exact⟨decide_eq_true h,decide_eq_true h'⟩
def IK{i j:Int}(h0:j≠0)(h:j.natAbs<B9):gk i j=true:=by
 unfold gk;rw[PM,T7];exact⟨decide_eq_true h0,.inl (decide_eq_true h)⟩
def ot{i j:Int}(h0:j≠0)(h:i.natAbs<pK):gk i j=true:=by
 unfold gk;rw[PM,T7];exact⟨decide_eq_true h0,.inr (decide_eq_true h)⟩
def fD{ds:ac}{k:Nat}{d:D}(h:ds[k]?=some d):aC (.lst ds) (.int (k:Int))=.ok d:=by
 unfold aC;simp only[fQ h]
def dN{a b:Int}(hb:0<b):0<=a.fmod b/\a.fmod b<b:=⟨SA a hb,TF a hb⟩
def Cc{n k:Nat}(h:k<n):(DL.intsFrom 0 n).drop k=.int (k:Int)::(DL.intsFrom 0 n).drop (k+1):=by
 have hl:(DL.intsFrom 0 n).length=n:=by unfold DL.intsFrom;simp
 rw[QQ (by rw[hl];exact h)]
 congr 1
 unfold DL.intsFrom;simp
def ER{n:Nat}:(DL.intsFrom 0 n).drop n=[]:=by
 have hl:(DL.intsFrom 0 n).length=n:=by unfold DL.intsFrom;simp
 exact List.drop_eq_nil_of_le (by omega)
def iF{tg:Ev->D->au Ev}{s:bi}{d:D}{r:ac}{ρ ρ1 ρ2:Ev}(h1:tg ρ d=.ok ρ1)(h2:s ρ1=.ok (.nx ρ2)):bS tg s (d::r) ρ=bS tg s r ρ2:=by
 rw[bS,h1,Cy,h2,Cy]
def Lm:D->Bool
 |.int _=>true
 |_=>false
def gf(d:D):m_is_whole [d]=.ok (.bl (Lm d)):=by cases d<;>first|rfl|(rename_i k _;cases k<;>rfl)
def jb{a g:Int}(hg:0<g):a.fdiv g=a / g:=S0 a (by omega)
def pT{a b:Int}(h:b≠0):0<(Qf a b:Int):=by
 have:=Int.gcd_pos_of_ne_zero_right a h;omega
def DU{a b:Int}(hb:0<b)(h1:a.natAbs<pK)(h2:b.natAbs<pK):m_ratio [.int a,.int b]=.ok (.tup [.int (a / Qf a b),.int (b / Qf a b)]):=by
 have hg:=pT (a:=a) (b:=b) (by omega);have r:pY [.sh (.int a),.sh (.int b),.no]=.ok (.rt (.tup [.int (a / Qf a b),.int (b / Qf a b)])):=by
  unfold pY;rw[iQ (ρ':=[.sh (.int a),.sh (.int b),.no]) (Ko (t:=aj) rfl)];rw[iQ (ρ':=[.sh (.int a),.sh (.int b),.no]) (Ko (t:=aj) ((ig (x:=.int b) (y:=.int 0) rfl rfl).trans (oq.trans (by rw[beq_eq_false_iff_ne.mpr (by omega)]))))];rw[iQ (ρ':=[.sh (.int a),.sh (.int b),.sh (.int (Qf a b))]) (y8 ((nF (xs:=[.int a,.int b]) rfl).trans (lr a b)))];rw[iQ (ρ':=[.sh (.int a),.sh (.int b),.sh (.int (Qf a b))]) (Ko (t:=aj) (by
   show au.ok (D.bl (decide (b<0)))=_;rw[decide_eq_false (by omega)]))]
  refine vy (vE ?_);refine(nF (xs:=[.int (a / Qf a b),.int (b / Qf a b)]) (nO ?_ (nO ?_ rfl))).trans rfl
  .rw[←jb hg]
   exact(ig (x:=.int a) (y:=.int (Qf a b)) rfl rfl).trans (zI (ot (by omega) h1))
  .rw[←jb hg]
   exact(ig (x:=.int b) (y:=.int (Qf a b)) rfl rfl).trans (zI (ot (by omega) h2))
 show(pY [.sh (.int a),.sh (.int b),.no]).bind _=_;rw[r];rfl
def Hq(p q:Int):D:=.tup [.int p,.int q]
end Com
open Com
namespace Com
open PySem L2 DL
abbrev bT:=Int×Int
def fr(x:bT):D:=Hq x.1 x.2
def jX:Nat:=1000000000000000000000000000000000000000000000000000000000000
def Lc:jX<=B9:=by rw[FE];exact Pu (show jX<=2 ^ 200 by decide) (Qz (by decide) (by decide))
def p0:jX<=pK:=by rw[jJ];exact Pu (show jX<=2 ^ 200 by decide) (Qz (by decide) (by decide))
def de:jX<=nU:=by rw[oK];exact Pu (show jX<=2 ^ 200 by decide) (Qz (by decide) (by decide))
def p7:pK<=nU:=by rw[jJ,oK];exact Qz (by decide) (by decide)
structure Low (x:bT):Prop where
 q1:1<=x.2
 g1:Qf x.1 x.2=1
structure bF (x:bT):Prop extends Low x where
 pN:x.1.natAbs<jX
 qN:x.2.natAbs<jX
def cz(a b:Int):bT:=(a / Qf a b,b / Qf a b)
def dA{a b:Int}(hb:0<b):Low (cz a b):=by
 have hg:=pT (a:=a) (b:=b) (by omega);refine⟨?_,Int.gcd_ediv_gcd_ediv_gcd (by omega)⟩;have:=Int.ediv_gcd_ne_zero_if_ne_zero_right a (show b≠0 by omega);have h2:0<=b / (Qf a b:Int):=Sn (by omega) (by omega);show 1<=b / (Qf a b:Int);omega
def iA{a b:Int}:(cz a b).1*b=a*(cz a b).2:=by
 unfold cz;obtain⟨x,hx⟩:=SK a b;obtain⟨y,hy⟩:=Sz a b
 by_cases hg:(Qf a b:Int)=0
 .simp only[hg,Int.ediv_zero,Int.zero_mul,Int.mul_zero]
 .generalize hG:(Qf a b:Int)=G at *
  have e1:a / G=x:=by rw[hx];exact QJ x hg
  have e2:b / G=y:=by rw[hy];exact QJ y hg
  show a / G*b=a*(b / G);rw[e1,e2]
  calc x*b=x*(G*y):=by rw[←hy]
   _=G*x*y:=by grind
   _=a*y:=by rw[←hx]
def iD{a b:Int}:(cz a b).1.natAbs<=a.natAbs:=QR _ _
def iC{a b:Int}:(cz a b).2.natAbs<=b.natAbs:=QR _ _
def qO{x y:bT}(hx:Low x)(hy:Low y)(h:x.1*y.2=y.1*x.2):x=y:=by
 have d1:x.2∣y.2:=by
  have:x.2∣x.1*y.2:=⟨y.1,by rw[h];exact Th _ _⟩
  rw[←T8,UH,hx.g1]at this;simpa using this
 have d2:y.2∣x.2:=by
  have:y.2∣y.1*x.2:=⟨x.1,by rw[←h];exact Th _ _⟩
  rw[←T8,UH,hy.g1]at this;simpa using this
 have e:x.2=y.2:=Int.dvd_antisymm (by have:=hx.q1;omega) (by have:=hy.q1;omega) d1 d2;have e1:x.1=y.1:=by
  rw[e]at h;exact QO (by have:=hy.q1;omega) h
 exact Prod.ext e1 e
def qp{a b:Int}(hb:0<b)(h1:a.natAbs<pK)(h2:b.natAbs<pK):m_ratio [.int a,.int b]=.ok (fr (cz a b)):=DU hb h1 h2
def Mx{a b:Int}(hb:0<b)(h1:a.natAbs<jX)(h2:b.natAbs<jX):bF (cz a b):=⟨dA hb,PK iD h1,PK iC h2⟩
def Ak{n:Nat}(x:bT):bg (n+1) (fr x)=true:=by
 cases n<;>rfl
def ML{x y:bT}:cN (fr x) (fr y)=(x.1==y.1&&x.2==y.2):=by
 unfold fr Hq;simp[cN,eqDs]
def zH{x:bT}:cN (fr x) (fr x)=true:=by rw[ML];simp
theorem A2{tg:Ev->D->au Ev}{body:bi}(P:Ev->Prop):∀{ds:ac},(∀d∈ds,∀ρ,P ρ->∃ρ1 ρ2,tg ρ d=.ok ρ1/\body ρ1=.ok (.nx ρ2)/\P ρ2)->∀ρ,P ρ->∃ρ',bS tg body ds ρ=.ok (.nx ρ')/\P ρ'
 |[],_,ρ,h=>⟨ρ,rfl,h⟩
 |d::r,hs,ρ,h=>by
  obtain⟨ρ1,ρ2,h1,h2,h3⟩:=hs d Pf ρ h;obtain⟨ρ',h4,h5⟩:=A2 P (λe he=>hs e (Pc _ he)) ρ2 h3;exact⟨ρ',by rw[iF h1 h2];exact h4,h5⟩
def OS{α:Type}{a b:α}(h:a=b):a=b:=h
def Ju(t:bi)(r:Fl):au Fl:=match r with
 |.nx ρ'=>t ρ'
 |r=>.ok r
def LW(i:Nat)(ρ:Ev)(d:D):au Fl:=.ok (.nx (ρ.set i (.sh d)))
def L3(d:D):au Fl:=.ok (.rt d)
def II(ρ:Ev)(_:D):au Fl:=.ok (.nx ρ)
def NV(s t:bi)(ρ:Ev)(x:D):au Fl:=match x with
 |.bl b=>if b=true then s ρ else t ρ
 |_=>.stuck
def Mn(i:Nat)(ρ:Ev)(d:D):au Fl:=match d with
 |.lst ds=>.ok (.nx (ρ.set i (.ow (.lst ds))))
 |_=>.stuck
def JX(s:Option Sl)(k:ac->au Fl):au Fl:=match s with
 |some (.ow (.lst ds))=>k ds
 |_=>.stuck
def MX(i:Nat)(ρ:Ev)(ds:ac)(d:D):au Fl:=if ds.length<line then .ok (.nx (ρ.set i (.ow (.lst (ds++[d]))))) else .stuck
def zd(i:Nat)(ρ:Ev)(ds:ac)(d j:D):au Fl:=if ko d=true then DL.putAt ρ i ds d j else .stuck
def oN(i:Nat)(ρ:Ev)(k:am)(ds:ac)(d:D):au Fl:=(k (iP ρ)).bind (zd i ρ ds d)
def Jb(is:ci)(ρ:Ev)(d:D):au Fl:=match eO is.length d with
 |some ds=>.ok (.nx (cR ρ is ds))
 |none=>.stuck
def Mm(i j:Nat)(ρ:Ev)(ds:ac):au Fl:=match ds with
 |[x,y]=>.ok (.nx ((ρ.set i (.sh x)).set j (.sh y)))
 |_=>.stuck
def k2(g:am)(op:D->D->au D)(ρ:Ev)(x:D):au D:=(g ρ).bind (op x)
def zK(x:D)(xs:ac):au (ac):=.ok (x::xs)
def IL(fa:Ev->au (ac))(ρ:Ev)(x:D):au (ac):=(fa ρ).bind (zK x)
def K6(g:am)(ρ:Ev)(x:D):au D:=match x with
 |.bl true=>g ρ
 |.bl false=>.ok (.bl false)
 |_=>.stuck
def NO(g:am)(ρ:Ev)(x:D):au D:=match x with
 |.bl true=>.ok (.bl true)
 |.bl false=>g ρ
 |_=>.stuck
def Mq(x:D):au D:=match x with
 |.bl b=>.ok (.bl (!b))
 |_=>.stuck
def Kn(f g:am)(ρ:Ev)(x:D):au D:=match x with
 |.bl true=>f ρ
 |.bl false=>g ρ
 |_=>.stuck
def Lx(s:Option Sl):au D:=match s with
 |some (.sh d)=>.ok d
 |_=>.stuck
def Dj(s:Sl):Sl:=match s with
 |.ow d=>.sh d
 |.ox _ ds=>.sh (.tup ds)
 |x=>x
def Dr(r:Fl):au D:=match r with
 |.nx _=>.ok .non
 |.rt d=>.ok d
 |_=>.stuck
def Oq(x:D):au (Option Int):=match x with
 |.int i=>.ok (some i)
 |_=>.stuck
def BD(x:D)(l:Option Int)(h:Option Int):au D:=qi x l h
def NF(hi:Ev->au (Option Int))(ρ:Ev)(x:D)(l:Option Int):au D:=(hi ρ).bind (BD x l)
def LU(lo hi:Ev->au (Option Int))(ρ:Ev)(x:D):au D:=(lo ρ).bind (NF hi ρ x)
def MJ(tg:Ev->D->au Ev)(s:bi)(ρ:Ev)(d:D):au Fl:=match d with
 |.lst ds=>bS tg s ds ρ
 |_=>.stuck
def HM(op':D->D->au D)(h:am)(ρ:Ev)(y z:D):au D:=match z with
 |.bl true=>(h ρ).bind (op' y)
 |.bl false=>.ok (.bl false)
 |_=>.stuck
def K2(op op':D->D->au D)(h:am)(ρ:Ev)(x y:D):au D:=(op x y).bind (HM op' h ρ y)
def Oy(op op':D->D->au D)(g h:am)(ρ:Ev)(x:D):au D:=(g ρ).bind (K2 op op' h ρ x)
section
variable {s t:bi}{f g h:am}{fa:Ev->au (ac)}{ρ r:Ev}{i j:Nat}{d x y:D}{ds xs:ac}{op op':D->D->au D}{a b:Int}
def rM{α β:Type}{a:α}{k:α->au β}:(au.ok a).bind k=k a:=rfl
def lY:ao s t ρ=(s ρ).bind (Ju t):=rfl
def mM:Ju t (.nx ρ)=t ρ:=rfl
def mL:Ju t (.rt d)=.ok (.rt d):=rfl
def mV:aj ρ=.ok (.nx ρ):=rfl
def lX:aF i f ρ=(f ρ).bind (LW i ρ):=rfl
def mK:LW i ρ d=.ok (.nx (ρ.set i (.sh d))):=rfl
def rF:aT f ρ=(f (iP ρ)).bind L3:=rfl
def mP:L3 d=.ok (.rt d):=rfl
def nr:fX f ρ=(f (iP ρ)).bind (II ρ):=rfl
def kz:II ρ d=.ok (.nx ρ):=rfl
def yc:cH f s t ρ=(f (iP ρ)).bind (NV s t ρ):=rfl
def rV:NV s t ρ (.bl true)=s ρ:=rfl
def rT:NV s t ρ (.bl false)=t ρ:=rfl
def rH:pB i f ρ=(f ρ).bind (Mn i ρ):=rfl
def mT:Mn i ρ (.lst ds)=.ok (.nx (ρ.set i (.ow (.lst ds)))):=rfl
def sv:bP i f ρ=JX ρ[i]? λds=>(f ρ).bind (MX i ρ ds):=rfl
def mS{k:ac->au Fl}:JX (some (.ow (.lst ds))) k=k ds:=rfl
def cw(h:decide (ds.length<=999)=true):MX i ρ ds d=.ok (.nx (ρ.set i (.ow (.lst (ds++[d]))))):=if_pos (PK (of_decide_eq_true h) (by decide))
def mQ:An i f g ρ=JX ρ[i]? λds=>(f (iP ρ)).bind (oN i ρ g ds):=rfl
def kr:oN i ρ g ds d=(g (iP ρ)).bind (zd i ρ ds d):=rfl
def E1(hf:ko d=true):zd i ρ ds d x=DL.putAt ρ i ds d x:=if_pos hf
def rl{is:ci}:Gg is f ρ=(f ρ).bind (Jb is ρ):=rfl
def rG:BH i j fa ρ=(fa ρ).bind (Mm i j ρ):=rfl
def mR:Mm i j ρ [x,y]=.ok (.nx ((ρ.set i (.sh x)).set j (.sh y))):=rfl
def yh{o:D->au D}:aS f o ρ=(f ρ).bind o:=rfl
def su:aa f g op ρ=(f ρ).bind (k2 g op ρ):=rfl
def sr:k2 g op ρ x=(g ρ).bind (op x):=rfl
def sq{m:ac->au D}:aq fa m ρ=(fa ρ).bind m:=rfl
def rO:ax ρ=.ok []:=rfl
def gH:af f fa ρ=(f ρ).bind (IL fa ρ):=rfl
def gY:IL fa ρ x=(fa ρ).bind (zK x):=rfl
def kA:zK x xs=.ok (x::xs):=rfl
def sA:gq f g ρ=(f ρ).bind (K6 g ρ):=rfl
def nu:K6 g ρ (.bl true)=g ρ:=rfl
def nt:K6 g ρ (.bl false)=.ok (.bl false):=rfl
def x8:jP f g ρ=(f ρ).bind (NO g ρ):=rfl
def rL:NO g ρ (.bl true)=.ok (.bl true):=rfl
def rK:NO g ρ (.bl false)=g ρ:=rfl
def rN:cU f ρ=(f ρ).bind Mq:=rfl
def mU{c:Bool}:Mq (.bl c)=.ok (.bl (!c)):=rfl
def rS:KZ h f g ρ=(h ρ).bind (Kn f g ρ):=rfl
def ng:Kn f g ρ (.bl true)=f ρ:=rfl
def m9:Kn f g ρ (.bl false)=g ρ:=rfl
def rh:ae i ρ=Lx ρ[i]?:=rfl
def mD:Lx (some (.sh d))=.ok d:=rfl
def E3:dC d ρ=.ok d:=rfl
def mJ:iP []=[]:=rfl
def rD{c:Sl}:iP (c::r)=Dj c::iP r:=rfl
def mI:Dj (.ow d)=.sh d:=rfl
def wa:Dj (.ox j ds)=.sh (.tup ds):=rfl
def mH:Dj (.sh d)=.sh d:=rfl
def mG:Dj .no=.no:=rfl
def lZ{n:Nat}:bj n s ds=(s (ds.map Sl.sh++PY (n-ds.length) .no)).bind Dr:=rfl
def mO:Dr (.rt d)=.ok d:=rfl
def mN:Dr (.nx ρ)=.ok .non:=rfl
def xZ:cj f ρ=(f ρ).bind Oq:=rfl
def rJ:Oq (.int a)=.ok (some a):=rfl
def x9:eJ ρ=.ok none:=rfl
def xX{lo hi:Ev->au (Option Int)}:gm f lo hi ρ=(f ρ).bind (LU lo hi ρ):=rfl
def rB{lo hi:Ev->au (Option Int)}:LU lo hi ρ x=(lo ρ).bind (NF hi ρ x):=rfl
def rA{hi:Ev->au (Option Int)}{l:Option Int}:NF hi ρ x l=(hi ρ).bind (BD x l):=rfl
def rz{l l':Option Int}:BD (.lst ds) l l'=.ok (.lst (lD ds l l')):=rfl
def rW{tg:Ev->D->au Ev}:iR f tg s ρ=(f ρ).bind (MJ tg s ρ):=rfl
def nq{tg:Ev->D->au Ev}:MJ tg s ρ (.lst ds)=bS tg s ds ρ:=rfl
def kB:iV op op' f g h ρ=(f ρ).bind (Oy op op' g h ρ):=rfl
def yd:Oy op op' g h ρ x=(g ρ).bind (K2 op op' h ρ x):=rfl
def r8:K2 op op' h ρ x y=(op x y).bind (HM op' h ρ y):=rfl
def rZ:HM op' h ρ y (.bl true)=(h ρ).bind (op' y):=rfl
def rY:HM op' h ρ y (.bl false)=.ok (.bl false):=rfl
def rR{o:Int->Int->D}:vZ (λ_ _=>true) o (.int a) (.int b)=.ok (o a b):=rfl
def sC:bc (.int a) (.int b)=.ok (.int (a+b)):=rfl
def fI{es:ac}(h:decide (ds.length+es.length<=1000)=true):bc (.lst ds) (.lst es)=.ok (.lst (ds++es)):=if_pos (Pu (of_decide_eq_true h) (by decide))
def rP:jV (.int a)=.ok (.int (-a)):=rfl
def yb{m:D->au D}:m1 m [x]=m x:=rfl
def ya{m:D->D->au D}:m2 m [x,y]=m x y:=rfl
def mX:fg (.lst ds)=.ok (.int ds.length):=rfl
def mW:fg (.tup ds)=.ok (.int ds.length):=rfl
def rm(h:decide (ds.length<=1000)=true):eT ds=.ok (.tup ds):=if_pos (Pu (of_decide_eq_true h) (by decide))
def rQ(h:decide (ds.length<=1000)=true):bO ds=.ok (.lst ds):=if_pos (Pu (of_decide_eq_true h) (by decide))
def ee{z:Pq}:jy "str" (.str z)=.ok (.bl true):=rfl
def di:jy "tuple" (.tup ds)=.ok (.bl true):=rfl
def dO:jy "list" (.lst ds)=.ok (.bl true):=rfl
def gi:kG (.non) .non=.ok (.bl false):=rfl
def gX:ia (.tup ds) .non=.ok (.bl false):=rfl
def gh:kG (.tup ds) .non=.ok (.bl true):=rfl
def eV(h:dg a b=true):aW (.int a) (.int b)=.ok (.int (a*b)):=if_pos h
def oo(h:(b==0)=false):cn (.int a) (.int b)=.ok (.int (a.fmod b)):=EA (λz=>by rw[z]at h;cases h)
def rX(h:gk a b=true):jz (.int a) (.int b)=.ok (.int (a.fdiv b)):=if_pos h
def mE{is:ci}(h:(ds.length==is.length)=true):Jb is ρ (.tup ds)=.ok (.nx (cR ρ is ds)):=by
 unfold Jb eO;simp only[if_pos (eq_of_beq h)]
def xY{is:ci}:cR ρ (i::is) (d::ds)=cR (ρ.set i (.sh d)) is ds:=rfl
def rE:cR ρ [] ds=ρ:=rfl
def E2{n:Nat}{j:Int}(h:xM ds.length j=some n):DL.putAt ρ i ds d (.int j)=.ok (.nx (ρ.set i (.ow (.lst (ds.set n d))))):=by
 unfold DL.putAt;simp only[h]
def lp{x0:D}:aC (.lst (x0::xs)) (.int 0)=.ok x0:=by
 unfold aC;simp only[show atI (x0::xs) 0=some x0 from fQ (j:=0) rfl]
def m7{x0:D}:aC (.tup (x0::xs)) (.int 0)=.ok x0:=by
 unfold aC;simp only[show atI (x0::xs) 0=some x0 from fQ (j:=0) rfl]
def ll{x0 x1:D}:aC (.lst (x0::x1::xs)) (.int 1)=.ok x1:=by
 unfold aC;simp only[show atI (x0::x1::xs) 1=some x1 from fQ (j:=1) rfl]
def m6{x0 x1:D}:aC (.tup (x0::x1::xs)) (.int 1)=.ok x1:=by
 unfold aC;simp only[show atI (x0::x1::xs) 1=some x1 from fQ (j:=1) rfl]
def m8{x0 x1 x2:D}:aC (.lst (x0::x1::x2::xs)) (.int 2)=.ok x2:=by
 unfold aC;simp only[show atI (x0::x1::x2::xs) 2=some x2 from fQ (j:=2) rfl]
def m5{x0 x1 x2:D}:aC (.tup (x0::x1::x2::xs)) (.int 2)=.ok x2:=by
 unfold aC;simp only[show atI (x0::x1::x2::xs) 2=some x2 from fQ (j:=2) rfl]
def m4{x0 x1 x2 x3:D}:aC (.tup (x0::x1::x2::x3::xs)) (.int 3)=.ok x3:=by
 unfold aC;simp only[show atI (x0::x1::x2::x3::xs) 3=some x3 from fQ (j:=3) rfl]
def mZ{x0 x1 x2 x3 x4:D}:aC (.tup (x0::x1::x2::x3::x4::xs)) (.int 4)=.ok x4:=by
 unfold aC;simp only[show atI (x0::x1::x2::x3::x4::xs) 4=some x4 from fQ (j:=4) rfl]
def yg:((2:Nat):Int)=2:=rfl
def yf:((4:Nat):Int)=4:=rfl
def ye:((5:Nat):Int)=5:=rfl
end
def ID(fa:Ev->au (ac))(ρ:Ev)(x:D):au D:=match x with
 |.str z=>(fa ρ).bind (qW z)
 |_=>.stuck
def mY{f:am}{fa:Ev->au (ac)}{ρ:Ev}:yr f fa ρ=(f ρ).bind (ID fa ρ):=rfl
def ku{fa:Ev->au (ac)}{ρ:Ev}{z:Pq}:ID fa ρ (.str z)=(fa ρ).bind (qW z):=rfl
end Com
local macro_rules|`(tactic|open_line with[$xs,*])=>do
  let ns:Array Lean.Term:=("rM lY mM mL mV lX mK rF mP nr kz yc rV rT rH mT sv mS mQ kr rl rG mR yh su sr sq rO gH gY kA sA nu nt x8 rL rK rN mU rS ng m9 rh mD E3 mJ rD mI mH mG lZ mO mN xZ rJ x9 xX rB rA rz rW nq kB yd r8 rZ rY rR sC rP yb ya mX mW oq oi Pl Rq PL RQ QD Se Q6 Rg Q0 Qo Sq Sr SU Nat.reduceSub Nat.reduceAdd Sx QL SM SD rm rQ fI cw oo mE xY rE lp ll m8 m7 m6 m5 m4 mZ decide_true decide_false Nat.reduceLeDiff Nat.reduceBEq Int.reduceBEq beq_self_eq_true DL.dOne DL.mYes ee di dO gi gX gh yg yf ye Int.reduceLT Int.reduceLE Int.reduceSub Int.reduceAdd Int.reduceMul Int.reduceNeg mY ku Int.reduceToNat S8".splitOn " ").toArray.map fun s=>Lean.mkIdent s.toName
  let ys:=ns++xs.getElems
  `(tactic|simp only[$[$ys:term],*])
local macro_rules|`(tactic|open_line with[no_df,$xs,*])=>do
  let ns:Array Lean.Term:=("rM lY mM mL mV lX mK rF mP nr kz yc rV rT rH mT sv mS mQ kr rl rG mR yh su sr sq rO gH gY kA sA nu nt x8 rL rK rN mU rS ng m9 rh mD E3 mJ rD mI mH mG lZ mO mN xZ rJ x9 xX rB rA rz rW nq kB yd r8 rZ rY rR sC rP yb ya mX mW oq oi Pl Rq PL RQ QD Se Q6 Rg Q0 Qo Sq Sr SU Nat.reduceSub Nat.reduceAdd Sx QL SM SD rm rQ fI cw oo mE xY rE lp ll m8 m7 m6 m5 m4 mZ decide_true decide_false Nat.reduceLeDiff Nat.reduceBEq Int.reduceBEq beq_self_eq_true DL.dOne DL.mYes ee di dO gi gX gh yg yf ye Int.reduceLT Int.reduceLE Int.reduceSub Int.reduceAdd Int.reduceMul Int.reduceNeg mY ku Int.reduceToNat S8".splitOn " ").toArray.map fun s=>Lean.mkIdent s.toName
  let ys:=ns++xs.getElems
  `(tactic|simp -implicitDefEqProofs only[$[$ys:term],*])
namespace Com
open PySem L2 DL
noncomputable def jf:bi :=
 (ao (cH (jP (cU (aS (ae 0) (jy "str"))) (cU (iV HJ HJ (dC (.int 1)) (aq (af (ae 0) ax) (m1 fg)) (dC (.int 8)))))
 (ao (aT (dC (.bl false)))
 aj)
 aj)
 (ao (aT (aq (af (bK 1 [] (F9 (ae 0)) (br 0) mYes (aa (ae 0) (dC (.str "abcdefghijklmnopqrstuvwxyz")) pG)) ax) (m1 sI)))
 aj))
def m_is_name:ac->au D:=bj 1 jf
noncomputable def dQ:bi :=
 (ao (cH (jP (cU (aS (ae 0) (jy "tuple"))) (aa (aq (af (ae 0) ax) (m1 fg)) (dC (.int 2)) jh))
 (ao (aT (dC (.bl false)))
 aj)
 aj)
 (ao (cH (jP (cU (aq (af (aa (ae 0) (dC (.int 0)) aC) ax) m_is_whole)) (cU (aq (af (aa (ae 0) (dC (.int 1)) aC) ax) m_is_whole)))
 (ao (aT (dC (.bl false)))
 aj)
 aj)
 (ao (aT (gq (aa (aa (ae 0) (dC (.int 1)) aC) (dC (.int 1)) MT) (aa (aq (af (aa (ae 0) (dC (.int 0)) aC) (af (aa (ae 0) (dC (.int 1)) aC) ax)) m_common_divisor) (dC (.int 1)) ij)))
 aj)))
def m_is_ratio:ac->au D:=bj 1 dQ
def O6:Pq:="abcdefghijklmnopqrstuvwxyz"
def qZ(c:Nat):Bool:=Nb ⟨#[c]⟩ O6
def nameB(z:Pq):Bool:=decide (1<=z.length)&&(decide (z.length<=8)&&z.cps.toList.all qZ)
def Mu:D->Bool
 |.str z=>nameB z
 |_=>false
def Ky:D->Bool
 |.str z=>decide (z.length<=line)
 |_=>true
theorem uZ{b:Ev}{tg:Ev->D->au Ev}{tt fe:am}{F:D->D}:∀{ds:ac},(∀d∈ds,∃ρ1,tg b d=.ok ρ1/\tt ρ1=.ok (.bl true)/\fe ρ1=.ok (F d))->bN b tg tt fe ds=.ok (ds.map F)
 |[],_=>rfl
 |d::r,h=>by
  obtain⟨ρ1,h1,h2,h3⟩:=h d Pf;rw[jd h1 h2 h3,uZ (λe he=>h e (Pc _ he))];rfl
theorem o8{α:Type}(F:α->Bool):∀(cs:List α),fM (cs.map λc=>D.bl (F c))=some (cs.map F)
 |[]=>rfl
 |c::r=>by
  show(fM (r.map λc=>D.bl (F c))).map (F c::·)=_;rw[o8 F r];rfl
def zm{z:Pq}(hz:z.length<=line):bK 1 [] (F9 (ae 0)) (br 0) mYes (aa (ae 0) (dC (.str "abcdefghijklmnopqrstuvwxyz")) pG) [.sh (.str z)]=.ok (.lst (z.cps.toList.map λc=>.bl (qZ c))):=by
 have hl:(j8 z).length<=line:=by rw[lQ];exact hz
 unfold bK;show(if(j8 z).length<=line then _ else _)=_;rw[if_pos hl];have:bN (cS 1 [] [.sh (.str z)]) (br 0) mYes (aa (ae 0) (dC (.str "abcdefghijklmnopqrstuvwxyz")) pG) (j8 z)=.ok (z.cps.toList.map λc=>D.bl (qZ c)):=by
  unfold j8
  induction z.cps.toList with
  |nil=>rfl
  |cons c r ih=>
   rw[Pl,jd (x:=.bl (qZ c)) rfl rfl rfl,ih];rfl
 rw[this]
def zy{d:D}(h:Ky d=true):m_is_name [d]=.ok (.bl (Mu d)):=by
 cases d with
 |str z=>
  have hz:z.length<=line:=of_decide_eq_true h;have hlen:fg (.str z)=.ok (.int z.length):=if_pos hz;show bj 1 jf _=.ok (.bl (nameB z));unfold nameB
  by_cases h1:1<=z.length
  .by_cases h8:z.length<=8
   .have e1:decide ((1:Int)<=(z.length:Int))=true:=decide_eq_true (by omega)
    have e2:decide ((z.length:Int)<=8)=true:=decide_eq_true (by omega);open_line with[jf,hlen,e1,e2,zm hz,sI,o8,decide_eq_true h1,decide_eq_true h8,RV]
    simp[UE,Function.comp_def]
   .have e1:decide ((1:Int)<=(z.length:Int))=true:=decide_eq_true (by omega)
    have e2:decide ((z.length:Int)<=8)=false:=decide_eq_false (by omega);open_line with[jf,hlen,e1,e2,decide_eq_true h1,decide_eq_false h8,RA,Ul]
  .have e1:decide ((1:Int)<=(z.length:Int))=false:=decide_eq_false (by omega)
   open_line with[jf,hlen,e1,decide_eq_false h1,RA]
 |ob k _=>cases k<;>rfl
 |_=>rfl
def qr:D->Bool
 |.tup [.int p,.int q]=>decide (1<=q)&&(Qf p q==1)
 |_=>false
def KD{g:Nat}:((g:Int)==1)=(g==1):=by
 cases h:(g==1) with
 |true=>rw[eq_of_beq h];rfl
 |false=>
  have:g≠1:=λz=>by rw[z]at h;cases h
  exact beq_eq_false_iff_ne.mpr (by omega)
def Jf{xs:ac}:(∃x y,xs=[x,y])∨xs.length≠2:=by
 match xs with
 |[]=>exact .inr (by decide)
 |[x]=>exact .inr (by simp)
 |[x,y]=>exact .inl ⟨x,y,rfl⟩
 |x::y::z::r=>exact .inr (by simp)
theorem DR:∀{xs:ac},xs.length≠2->qr (.tup xs)=false
 |[],_=>rfl
 |[x],_=>by cases x<;>rfl
 |[x,y],h=>absurd rfl h
 |x::y::z::r,_=>by cases x<;>cases y<;>rfl
def za{x y:D}:qr (.tup [x,y])=(Lm x&&(Lm y&&qr (.tup [x,y]))):=by
 cases x<;>cases y<;>rfl
def vY(d:D):m_is_ratio [d]=.ok (.bl (qr d)):=by
 cases d with
 |tup xs=>
  rcases Jf (xs:=xs) with⟨x,y,rfl⟩|h
  .rw[za]
   show bj 1 dQ _=_;cases hx:Lm x with
   |false=>open_line with[dQ,gf,hx,RA]
   |true=>
    cases hy:Lm y with
    |false=>open_line with[dQ,gf,hx,hy,RA,RV]
    |true=>
     cases x<;>first|(cases hx;done)|skip
     cases y<;>first|(cases hy;done)|skip
     rename_i p q;show _=au.ok (D.bl (decide (1<=q)&&(Qf p q==1)))
     by_cases hq:1<=q
     .open_line with[dQ,gf,hx,hy,lr,RV,decide_eq_true hq,KD]
     .open_line with[dQ,gf,hx,hy,lr,RV,decide_eq_false hq,RA]
  .have e2:((xs.length:Int)==2)=false:=beq_eq_false_iff_ne.mpr (by omega)
   rw[DR h];show bj 1 dQ _=_;open_line with[dQ,e2]
 |ob k _=>cases k<;>rfl
 |_=>rfl
def jB{α:Type}{F:α->D}{xs:List α}{lo hi:Option Int}:lD (xs.map F) lo hi=((xs.drop (HT.sIx xs.length 0 lo)).take (HT.sIx xs.length xs.length hi-HT.sIx xs.length 0 lo)).map F:=by
 unfold lD;rw[Pg,←List.map_drop,←List.map_take]
end Com
namespace DL
open PySem PySem.Spec PyProof.Rows L2
def n9(x:Pq)(fa:Ev->au (ac)):bi:=λρ=>(fa (iP ρ)).bind λds=>if ds.length<=line then .exn ⟨x,[]⟩ else .stuck
section
variable {X:Cx}{E:XK}{e:Qa}{es:List Qa}{fa:Ev->au (ac)}{pos:Pos}
def GR(ni:Nat)(r:Fl):au Fl:=match r with
 |.nx ρ=>.ok (.nx (ρ.set ni .no))
 |.rt d=>.ok (.rt d)
 |.bk ρ=>.ok (.bk (ρ.set ni .no))
 |.ct ρ=>.ok (.ct (ρ.set ni .no))
def MK(x:Lf):D:=match x.flds with
 |[]=>.exc x.cls
 |f::fs=>if((f::fs).map (·.1)).Nodup then .ob (.exf x.cls ((f::fs).map (·.1))) ((f::fs).map (·.2)) else .exc x.cls
def NH(g:bi)(hit:Pq->Bool)(ni:Nat)(sh:bi):bi:=λρ=>match g ρ with
 |.exn x=>if hit x.cls=true then(sh (ρ.set ni (.sh (MK x)))).bind (GR ni) else .stuck
 |r=>r
end
structure IQ (k:Nat) (A:Qs):Prop where
 dp:A.depth+3*k+5<recursionLimit
 un:A.units+16*k+200<RY
def cV.h{k:Nat}{A:Qs}(r:cV k A):IQ k A:=⟨r.dp,r.un⟩
structure OG (P:Qe) (w:Qt) (K:Ph) (mg:Pq->Option Pb) (base:PR) (k:Nat) (f:Pk) (fd:Qy) (ps:ce) (sp:Sp):Prop where
 len:∀vs H Q E,sp vs H Q E->vs.length=ps.length
 run:∀(A:Qs) (outer:List QN) (s:Pj) (H:Hp) (args:Args) (us:List Pb) (vs:ad) (Q:VK) (E:XK),IQ k A->pJ P w K mg base A outer s H->BindsTo s fd args (ps.zip us)->aY vs us->sp vs H Q E ->
  RJ (PX P w) A (.call (.ref f) args) (CR CX0 outer P w H s Q E) s
def OG.ok{P:Qe}{w:Qt}{K:Ph}{mg:Pq->Option Pb}{base:PR}{k:Nat}{f:Pk}{fd:Qy}{ps:ce}{sp:Sp}(F:OG P w K mg base k f fd ps sp):iu P w K mg base CX0 k f fd ps sp :=
 ⟨F.len,λA outer s H args us vs Q E hr=>F.run A outer s H args us vs Q E (cV.h hr)⟩
def MS(tab:Pq->Option Bool)(x:D):au D:=match x with
 |.exc c=>(match tab c with
  |some b=>.ok (.bl b)
  |none=>.stuck)
 |.ob (.exf c _) _=>(match tab c with
  |some b=>.ok (.bl b)
  |none=>.stuck)
 |_=>.stuck
end DL
namespace DL
open PySem PySem.Spec PyProof.Rows L2 PySem.W
def Kc{K:Frag}{C:Pk}{T:String}{b:Bool}(hm:kitMeta T=true)(h:subIn K (.ref C) (.type T)=some b):kitOne K (.ref C) (.type T)=some b:=by
 unfold kitOne;rw[if_neg (by intro z;cases beq_iff_eq.mp z)];show(if kitMeta T=true then subIn K (.ref C) (.type T) else none)=_;rw[if_pos hm,h]
def xK:∀T∈ie,kitMeta T=true:=by decide +kernel
end DL
namespace Com
open PySem L2 DL
section
variable {α β:Type}
def KA{x:Lf}{f:α->au β}:(au.exn x:au α).bind f=.exn x:=rfl
end
def Lz(hit:Pq->Bool)(ni:Nat)(sh:bi)(ρ:Ev)(r:au Fl):au Fl:=match r with
 |.exn x=>if hit x.cls=true then(sh (ρ.set ni (.sh (MK x)))).bind (GR ni) else .stuck
 |r=>r
def N4{g:bi}{hit:Pq->Bool}{ni:Nat}{sh:bi}{ρ:Ev}:NH g hit ni sh ρ=Lz hit ni sh ρ (g ρ):=rfl
def Nc{hit:Pq->Bool}{ni:Nat}{sh:bi}{ρ:Ev}{c:Pq}(h:hit c=true):Lz hit ni sh ρ (.exn ⟨c,[]⟩)=(sh (ρ.set ni (.sh (.exc c)))).bind (GR ni):=if_pos h
def N5{ni:Nat}{ρ:Ev}:GR ni (.nx ρ)=.ok (.nx (ρ.set ni .no)):=rfl
def N6{tab:Pq->Option Bool}{c:Pq}{b:Bool}(h:tab c=some b):MS tab (.exc c)=.ok (.bl b):=by unfold MS;simp only[h]
end Com
namespace DL
open PySem PySem.Spec PyProof.Rows L2
section
variable {X:Cx}{π:List (Pk×Obj)}{σ:L2.St}{H:Hp}{s:Pj}{h':PR}
def uw{t':Nat}{fp:List Pk}{T:Pk}{xs:ad}(I:Inv X π σ H s)(k:∀b o,b∉fp->s.heap.get? b=some o->h'.get? b=some o)(hf:∀b∈fp,oJ X π H b)(hT:s.heap.objs.size<=T)
  (new:cT X.prog X.w (upd H T (.tup xs)) h' T (.tup xs)):Inv X π σ (upd H T (.tup xs)) { s with heap:=h',toks:=t' }:=by
 have hn:H T=none:=I.hok.fresh hT;have nit:∀b u,H b=some u->b∉fp:=λb u e z=>by rw[(hf b z).1]at e;cases e
 refine I.step (g':=s.gens) (d':=s.drawn) (ch:=fp) (λb hb=>?_) (λb o _ _ hc e _=>k b o hc e) (λb o _ _ hc e _=>⟨o.slots,k b o hc e⟩) (λb o _ e n=>?_)
  (λb o hc e=>⟨o,k b o hc e⟩) (λb xs e=>by rw[aG (ba e hn)];exact e) (λb o u e=>by rw[aG (ba e hn)];exact e) (λb ps e=>⟨#[],by rw[aG (ba e hn),e];simp⟩) (λm hm=>?_) (λb u e=>?_) I.bare
 .obtain⟨_,f1,_,f3,f4,f5⟩:=hf b hb
  exact⟨f3,f1,f4,f5⟩
 .rw[aG (Qh (Pm (PQ e) hT))];exact n
 .obtain⟨o,es,ep,ho,r⟩:=hm
  exact⟨o,es,ep,k _ o (λz=>(hf _ z).2.1 rfl) ho,r⟩
 .by_cases hb:b=T
  .subst hb;rw[aP]at e;cases e;exact new
  .rw[aG hb]at e
   refine(I.hok b u e).stay (λc v hc q=>k c v ?_ q) (λc q=>by rw[aG (ba q hn)];exact q) (λc xs q=>by rw[aG (ba q hn)];exact q) λc xs q=>by rw[aG (ba q hn)];exact q
   rcases hc with z|z
   .rw[z];exact nit b u e
   .exact nit c _ z
def Aa{t':Nat}{fp:List Pk}(I:Inv X π σ H s)(k:∀b o,b∉fp->s.heap.get? b=some o->h'.get? b=some o)(hf:∀b∈fp,oJ X π H b):Inv X π σ H { s with heap:=h',toks:=t' }:=by
 have nit:∀b u,H b=some u->b∉fp:=λb u e z=>by rw[(hf b z).1]at e;cases e
 refine I.step (g':=s.gens) (d':=s.drawn) (ch:=fp) (λb hb=>?_) (λb o _ _ hc e _=>k b o hc e) (λb o _ _ hc e _=>⟨o.slots,k b o hc e⟩) (λb o _ e n=>n)
  (λb o hc e=>⟨o,k b o hc e⟩) (λb xs e=>e) (λb o u e=>e) (λb ps e=>⟨#[],by rw[e];simp⟩) (λm hm=>?_) (λb u e=>?_) I.bare
 .obtain⟨_,f1,_,f3,f4,f5⟩:=hf b hb
  exact⟨f3,f1,f4,f5⟩
 .obtain⟨o,es,ep,ho,r⟩:=hm
  exact⟨o,es,ep,k _ o (λz=>(hf _ z).2.1 rfl) ho,r⟩
 .refine(I.hok b u e).stay (λc v hc q=>k c v ?_ q) (λ_ q=>q) (λ_ _ q=>q) λ_ _ q=>q
  rcases hc with z|z
  .rw[z];exact nit b u e
  .exact nit c _ z
end
def OF(K:Ph)(a:Pk):It :=
 ⟨λi H=>∃xs x,fk K H a xs/\xs[i]?=some x,λi H x H'=>∃p y,H p=none/\x=.ref p/\(∀xs,fk K H a xs->xs[i]?=some y)/\H'=upd H p (.tup [.int i,y]),λi H=>∃xs,fk K H a xs/\xs.length<=i⟩
def Bu{P:Qe}{w:Qt}{K:Ph}{elts:List Qa}{k:Nat}{pos:Pos}(a it e:Pk)(hne:e≠it)(hae:a≠e)(hai:a≠it) :
  zY P w K (.Tuple elts k pos) (OF K a) [e,it] e (λi h=>(∃old,IsEnum h e it i old)/\h.IsListIter it a i) where
 mem:=by simp
 obj:=λi h st b hb=>by
  obtain⟨⟨old,he⟩,o,h1,h2,h3⟩:=st;rcases Pr.mp hb with rfl|hb
  .exact⟨_,he,λv z=>by cases z⟩
  .rcases Pr.mp hb with rfl|hb
   .exact⟨o,h1,λv z=>by rw[h3]at z;cases z⟩
   .cases hb
 keep:=λi h h' st k=>by
  obtain⟨⟨old,he⟩,hi⟩:=st;exact⟨⟨old,k e (by simp) _ he⟩,hi.at λo y=>k it (by simp) o y⟩
 item:=by
  intro X hP hw hK hc i π s σ H E I hf st hg;subst hP hw hK;obtain⟨xs,x,hq,hx⟩:=hg;obtain⟨its,rv,p,hz⟩:=I.list hq;obtain⟨u,hu,ru⟩:=rv.get hx;have W:=WalksT.enumerate (prog:=X.prog) (w:=X.w) (I.ok.hd hc) e it a hne hae hai its.toArray;have hil:i<its.toArray.size:=by simpa using (Po.mp hu).1
  refine W.item i s _ _ hil ⟨st.1,st.2,p.isList⟩ λT vals h' tk hPt hT hTup hMid hk=>?_;refine⟨_,rfl,W.go elts k pos i T _ _ _ hMid λh'' st'' hk''=>?_⟩;obtain⟨t,y,hy,rfl⟩:=hPt;have hyu:y=u:=by
   have:its[i]?=some y:=by simpa using hy
   rw[hu]at this;cases this;rfl
  subst hyu;obtain⟨o,ho,hr⟩:=hTup;have ho':=hk'' T o (W.apart i T _ hMid) ho;refine⟨.ref T,upd H T (.tup [.int i,x]),uw (s:=s) (h':=h'') (t':=tk) I (λb o hb e=>hk'' b o hb (hk b o hb e)) hf hT ⟨by show 2<=sizeLine;decide,[.int i t,y],.cons ⟨t,rfl⟩ (.cons ru .nil),o,ho',hr⟩,rfl,⟨T,x,I.hok.fresh hT,rfl,λys hy=>by rw[I.list_inj hy hq];exact hx,rfl⟩,⟨st''.1,st''.2.1⟩,λb hb=>?_⟩;have hb0:=(hf b hb).1;obtain⟨ob,hob,_⟩:∃o,s.heap.get? b=some o/\∀v,o.data≠.cell v:=by
   obtain⟨⟨old,he⟩,o,h1,h2,h3⟩:=st;rcases Pr.mp hb with rfl|hb
   .exact⟨_,he,λv z=>by cases z⟩
   .rcases Pr.mp hb with rfl|hb
    .exact⟨o,h1,λv z=>by rw[h3]at z;cases z⟩
    .cases hb
  rw[aG (Qh (Pm (PQ hob) hT))];exact hb0
 done:=by
  intro X hP hw hK hc i π s σ H E I hf st hg;subst hP hw hK;obtain⟨xs,hq,hx⟩:=hg;obtain⟨its,rv,p,hz⟩:=I.list hq;have hl:=rv.length;obtain⟨⟨old,he⟩,hi⟩:=st;exact wpAny_pyNext_enum_end (I.ok.hd hc) he hi p.isList (by simp;omega) λh' hx=>⟨rfl,Aa (t':=s.toks) I (λb o hb e=>hx b o (λz=>hb (by simp[z])) e) hf⟩
 self:=λ_ _ _ _ _ st h=>by
  obtain⟨⟨old,he⟩,_⟩:=st;exact wpAny_pyIter_enum he h
section
variable {X:Cx}{E:XK}{elts:List Qa}{k:Nat}{tp:Pos}{e a b:Qa}{f g:am}
def ME(K:Ph)(ta:TA):TI:=λσ H R=>ta σ H λvs H1=>∃a,vs=[.ref a]/\(∃xs,fk K H1 a xs)/\R (OF K a) H1
def GF{ta:TA}{p pos:Pos}(hg:Gl X "enumerate")(hm:X.mg "enumerate"=none)(ha:PA X [a] ta)(hs:PD [a] X.env=[(false,eval a X.env)]:=by rfl):PI X (.Tuple elts k tp) (.Call (.Name "enumerate" p) [a] [] pos) (ME X.K ta):=by
 intro π s σ H R I h;refine Call_ (oj I hg hm PyProof.Rows.Boot.«enumerate» (RZ (cJ (ha pos π s σ H _ I h) λus s1 z9=>?_) hs rfl));obtain⟨vs,H1,I1,r1,q1⟩:=z9;obtain⟨l,e,⟨xs,hq⟩,q⟩:=q1;subst e;cases r1 with
 |cons r rr=>
  cases rr;cases r;obtain⟨its,rv,p,hz⟩:=I1.list hq;have hlt:l<s1.heap.objs.size:=by obtain⟨o,n,e,_⟩:=p;exact PQ e
  refine call_enumerate_list p.isList λh' he hi hsz hk=>?_;refine wpAny_pyIter_enum he ?_;refine⟨s1.heap.objs.size+1,[s1.heap.objs.size+1,s1.heap.objs.size],_,_,H1,rfl,I1.kept (t':=s1.toks) hk,Bu l s1.heap.objs.size (s1.heap.objs.size+1) (Nat.succ_ne_self _) (Qh (Nat.lt_succ_of_lt hlt)) (Qh hlt),⟨⟨_,he⟩,hi⟩,λb hb=>?_,q⟩;have hb':s1.heap.objs.size<=b:=by
   rcases Pr.mp hb with rfl|hb
   .omega
   .rcases Pr.mp hb with rfl|hb
    .exact P1 _
    .cases hb
  exact I1.fpOk hb' (I1.hok.fresh hb')
def numbered(n:Nat):ac->ac
 |[]=>[]
 |d::ds=>.tup [.int n,d]::numbered (n+1) ds
theorem cZ:∀(ds:ac) (n:Nat),(numbered n ds).length=ds.length
 |[],_=>rfl
 |d::ds,n=>by simp[numbered,cZ ds]
theorem c4:∀(ds:ac) (n i:Nat),(numbered n ds)[i]?=(ds[i]?).map λd=>D.tup [.int (n+i:Nat),d]
 |[],_,_=>by simp[numbered]
 |d::ds,n,0=>by simp[numbered]
 |d::ds,n,i+1=>by simp only[numbered,Qo];rw[c4 ds (n+1) i,show n+1+i=n+(i+1) by omega]
def lP(f:am):Ev->au (ac):=λρ=>(f ρ).bind λd=>match d with
 |.lst ds=>.ok (numbered 0 ds)
 |_=>.stuck
def Ab{K:Ph}{H Ha:Hp}{p:Pk}{vs:ad}{ds:ac}(hs:aD Ha H)(hp:H p=none)(r:Reps K Ha ds vs):∃H₀2,bf H Ha (upd H p (.tup vs)) H₀2/\Rep K H₀2 (.tup ds) (.ref p) :=
 ⟨upd Ha p (.tup vs),bz hs hp,aL.mpr ⟨p,vs,rfl,nV.of aP,r.mono (bz (o:=.tup vs) hs hp).z⟩⟩
def gI{p pos:Pos}(hg:Gl X "enumerate")(hm:X.mg "enumerate"=none)(h:DE X E a f)(hn:IB a=true:=by exact rfl):DI X E (.Tuple elts k tp) (.Call (.Name "enumerate" p) [a] [] pos) (lP f):=by
 refine⟨ml (GF hg hm (fH h.o kc (eN hn)) (eN hn)) λσ H R z9=>?_⟩;obtain⟨Ha,ρ,hs,hr,q⟩:=z9;refine⟨Ha,ρ,hs,hr,?_⟩;unfold lP at q;cases e1:f ρ with
 |stuck|exn x=>rw[e1]at q;exact q
 |ok d=>
  rw[e1]at q;intro v H1 H01 g1 r1;cases d with
  |lst ds=>
   obtain⟨l,vs,rfl,hv,hrv⟩:=aE.mp r1;refine⟨l,rfl,⟨vs,aD.sqL g1.sub hv⟩,q _ H1 H01 g1 ⟨λi H' Ha' s1 s2 hi=>?_,λi H' Ha' x H2 d s1 s2 hd hy=>?_,λi H' Ha' s1 s2 hi=>?_⟩⟩
   .rw[cZ]at hi
    exact⟨vs,vs[i]'(by rw[←hrv.length];exact hi),aD.sqL (s1.trans s2) hv,by simp⟩
   .obtain⟨p,y,hp,rfl,hy,rfl⟩:=hy
    rw[c4]at hd;cases ei:ds[i]? with
    |none=>rw[ei]at hd;cases hd
    |some d'=>
     rw[ei]at hd;cases hd;obtain⟨u,k1,k2⟩:=hrv.get ei;have:=hy vs (aD.sqL (s1.trans s2) hv);rw[k1]at this;cases this;exact Ab s2 hp (Reps.cons (ay.mpr (by simp)) (Reps.cons (k2.mono s1) Reps.nil))
   .rw[cZ]at hi
    exact⟨vs,aD.sqL (s1.trans s2) hv,by rw[←hrv.length];exact hi⟩
  |_=>exact q.elim
end
noncomputable def OE(K:Ph) (a b:Pk):It :=
 ⟨λi H=>∃xs ys x y,fk K H a xs/\fk K H b ys/\xs[i]?=some x/\ys[i]?=some y,λi H x H'=>∃p y z,H p=none/\x=.ref p/\(∀xs,fk K H a xs->xs[i]?=some y)/\(∀xs,fk K H b xs->xs[i]?=some z)/\H'=upd H p (.tup [y,z]),
  λi H=>∃xs ys,fk K H a xs/\fk K H b ys/\min xs.length ys.length<=i⟩
def C1{P:Qe}{w:Qt}{K:Ph}{elts:List Qa}{k:Nat}{pos:Pos}(z TI TO i1 i2 a b:Pk)(D:ZipApart z TI TO i1 i2 a b) :
  zY P w K (.Tuple elts k pos) (OE K a b) [z,TI,TO,i1,i2] z (λi h=>IsZip h z TI TO .none/\IsPair h TI (.ref i1) (.ref i2)/\(∃a b,IsPair h TO a b)/\h.IsListIter i1 a i/\h.IsListIter i2 b i) where
 mem:=by simp
 obj:=λi h st b hb=>by
  obtain⟨hz,hTI,⟨a',b',hTO⟩,⟨o1,e1,c1,d1⟩,⟨o2,e2,c2,d2⟩⟩:=st;simp only[Pr,SG,or_false]at hb;rcases hb with rfl|rfl|rfl|rfl|rfl
  .exact⟨_,hz,λv z=>by cases z⟩
  .exact⟨_,hTI,λv z=>by cases z⟩
  .exact⟨_,hTO,λv z=>by cases z⟩
  .exact⟨_,e1,λv z=>by rw[d1]at z;cases z⟩
  .exact⟨_,e2,λv z=>by rw[d2]at z;cases z⟩
 keep:=λi h h' st k=>by
  obtain⟨hz,hTI,⟨a',b',hTO⟩,h1,h2⟩:=st;exact⟨k z (by simp) _ hz,k TI (by simp) _ hTI,⟨a',b',k TO (by simp) _ hTO⟩,h1.at λo y=>k i1 (by simp) o y,h2.at λo y=>k i2 (by simp) o y⟩
 item:=by
  intro X hP hw hK hc i π s σ H E I hf st hg;subst hP hw hK;obtain⟨xs,ys,x,y,hqx,hqy,hx,hy⟩:=hg;obtain⟨its,rv,p,hz⟩:=I.list hqx;obtain⟨jts,rw_,p',hz'⟩:=I.list hqy;obtain⟨u,hu,ru⟩:=rv.get hx;obtain⟨u',hu',ru'⟩:=rw_.get hy;have W:=WalksT.zip2 (prog:=X.prog) (w:=X.w) (I.ok.hd hc) z TI TO i1 i2 a b D its.toArray jts.toArray;have hil:i<min its.toArray.size jts.toArray.size:=by
   have h1:=(Po.mp hu).1;have h2:=(Po.mp hu').1;simp only[PJ];omega
  have sub:∀b,b∉[z,TI,TO,i1,i2]->b∉[z,TO,i1,i2]:=λb hb hc=>hb (by simp only[Pr,SG,or_false]at hc ⊢;rcases hc with h|h|h|h<;>simp[h]);refine W.item i s _ _ hil ⟨st.1,st.2.1,st.2.2.1,st.2.2.2.1,st.2.2.2.2,p.isList,p'.isList⟩ λT vals h' tk hPt hT hTup hMid hk=>?_;refine⟨_,rfl,W.go elts k pos i T _ _ _ hMid λh'' st'' hk''=>?_⟩;obtain⟨v,v',hv,hv',rfl⟩:=hPt;have hyu:v=u:=by
   have:its[i]?=some v:=by simpa using hv
   rw[hu]at this;cases this;rfl
  have hyu':v'=u':=by
   have:jts[i]?=some v':=by simpa using hv'
   rw[hu']at this;cases this;rfl
  subst hyu hyu';obtain⟨o,ho,hr⟩:=hTup;have ho':=hk'' T o (W.apart i T _ hMid) ho;refine⟨.ref T,upd H T (.tup [x,y]),uw (s:=s) (h':=h'') (t':=tk) I (λb o hb e=>hk'' b o (sub b hb) (hk b o (sub b hb) e)) hf hT ⟨by show 2<=sizeLine;decide,[v,v'],.cons ru (.cons ru' .nil),o,ho',hr⟩,rfl,⟨T,x,y,I.hok.fresh hT,rfl,λys hy'=>by rw[I.list_inj hy' hqx];exact hx,λys hy'=>by rw[I.list_inj hy' hqy];exact hy,rfl⟩,
   ⟨st''.1,st''.2.1,st''.2.2.1,st''.2.2.2.1,st''.2.2.2.2.1⟩,λb hb=>?_⟩
  have hb0:=(hf b hb).1;obtain⟨ob,hob⟩:∃o,s.heap.get? b=some o:=by
   obtain⟨hz,hTI,⟨a',b',hTO⟩,⟨o1,e1,c1,d1⟩,⟨o2,e2,c2,d2⟩⟩:=st;simp only[Pr,SG,or_false]at hb;rcases hb with rfl|rfl|rfl|rfl|rfl
   .exact⟨_,hz⟩
   .exact⟨_,hTI⟩
   .exact⟨_,hTO⟩
   .exact⟨_,e1⟩
   .exact⟨_,e2⟩
  rw[aG (Qh (Pm (PQ hob) hT))];exact hb0
 done:=by
  intro X hP hw hK hc i π s σ H E I hf st hg;subst hP hw hK;obtain⟨xs,ys,hqx,hqy,hx⟩:=hg;obtain⟨its,rv,p,hz⟩:=I.list hqx;obtain⟨jts,rw_,p',hz'⟩:=I.list hqy;have hl:=rv.length;have hl':=rw_.length;obtain⟨hz,hTI,⟨a',b',hTO⟩,h1,h2⟩:=st;refine wpAny_pyNext_zip_end (I.ok.hd hc) D hz hTI hTO h1 h2 p.isList p'.isList ?_ λh' hk=>⟨rfl,Aa (t':=s.toks) I (λc o hb e=>hk c o (λx=>hb (by simp[x])) (λx=>hb (by simp[x])) (λx=>hb (by simp[x])) (λx=>hb (by simp[x])) e) hf⟩
  by_cases hle:xs.length<=ys.length
  .left;simp;omega
  .right;simp;omega
 self:=λ_ _ _ _ _ st h=>by
  obtain⟨hz,_⟩:=st;exact wpAny_pyIter_zip hz h
section
variable {X:Cx}{E:XK}{elts:List Qa}{k:Nat}{tp:Pos}{e a b:Qa}{f g:am}
def NW(K:Ph)(ta:TA):TI:=λσ H R=>ta σ H λvs H1=>∃a b,vs=[.ref a,.ref b]/\(∃xs,fk K H1 a xs)/\(∃xs,fk K H1 b xs)/\R (OE K a b) H1
def JJ{ta:TA}{p pos:Pos}(hg:Gl X "zip")(hm:X.mg "zip"=none)(ha:PA X [a,b] ta)(hs:PD [a,b] X.env=[(false,eval a X.env),(false,eval b X.env)]:=by rfl)(hs2:PD [b] X.env=[(false,eval b X.env)]:=by rfl) :
  PI X (.Tuple elts k tp) (.Call (.Name "zip" p) [a,b] [] pos) (NW X.K ta):=by
 intro π s σ H R I h;refine Call_ (oj I hg hm PyProof.Rows.Boot.«zip» (RZ (cJ (ha pos π s σ H _ I h) λus s1 ⟨vs,H1,I1,r1,q1⟩=>?_) (by rw[hs,hs2]) (by rw[hs2];rfl)));obtain⟨l,l',e,⟨xs,hq⟩,⟨ys,hq'⟩,q⟩:=q1;subst e;cases r1 with
 |cons r rr=>
  cases rr with
  |cons r' rr=>
   cases rr;cases r;cases r';obtain⟨its,rv,p,hz⟩:=I1.list hq;obtain⟨jts,rv',p',hz'⟩:=I1.list hq';have hlt:l<s1.heap.objs.size:=by obtain⟨o,n,e,_⟩:=p;exact PQ e
   have hlt':l' < s1.heap.objs.size:=by obtain⟨o,n,e,_⟩:=p';exact PQ e
   refine call_zip_2 p.isList p'.isList λh' hz hTI hTO hi1 hi2 hsz hk=>?_;refine wpAny_pyIter_zip hz ?_;refine⟨s1.heap.objs.size+4,[s1.heap.objs.size+4,s1.heap.objs.size+2,s1.heap.objs.size+3,s1.heap.objs.size,s1.heap.objs.size+1],_,_,H1,rfl,I1.kept (t':=s1.toks) hk,C1 _ _ _ _ _ l l' (zipApart_new hlt hlt'),⟨hz,hTI,⟨_,_,hTO⟩,hi1,hi2⟩,λb hb=>?_,q⟩;have hb':s1.heap.objs.size<=b:=by
    simp only[Pr,SG,or_false]at hb;rcases hb with rfl|rfl|rfl|rfl|rfl<;>omega
   exact I1.fpOk hb' (I1.hok.fresh hb')
def cK:ac->ac->ac
 |d::ds,e::es=>.tup [d,e]::cK ds es
 |_,_=>[]
theorem jl:∀(ds es:ac),(cK ds es).length=min ds.length es.length
 |[],_=>by simp[cK]
 |_::_,[]=>by simp[cK]
 |d::ds,e::es=>by simp[cK,jl ds es]
theorem lT:∀(ds es:ac) (i:Nat) (d:D),(cK ds es)[i]?=some d->∃x y,ds[i]?=some x/\es[i]?=some y/\d=.tup [x,y]
 |[],_,_,_,h=>by simp[cK]at h
 |_::_,[],_,_,h=>by simp[cK]at h
 |d::ds,e::es,0,_,h=>by simp[cK]at h;exact⟨d,e,rfl,rfl,h.symm⟩
 |d::ds,e::es,i+1,_,h=>by
  simp only[cK,Qo]at h;obtain⟨x,y,h1,h2,h3⟩:=lT ds es i _ h;exact⟨x,y,by simpa using h1,by simpa using h2,h3⟩
def Df(f g:am):Ev->au (ac):=λρ=>(f ρ).bind λd=>(g ρ).bind λe=>match d,e with
 |.lst ds,.lst es=>.ok (cK ds es)
 |_,_=>.stuck
def KO{p pos:Pos}(hg:Gl X "zip")(hm:X.mg "zip"=none)(h:DE X E a f)(h':DE X E b g)(hn:IB a=true:=by exact rfl)(hn':IB b=true:=by exact rfl):DI X E (.Tuple elts k tp) (.Call (.Name "zip" p) [a,b] [] pos) (Df f g):=by
 refine⟨ml (JJ hg hm (fH h.o (fH h'.o kc (eN hn')) (bB hn)) (by rw[bB hn,eN hn']) (eN hn')) λσ H R z9=>?_⟩;obtain⟨Ha,ρ,hs,hr,q⟩:=z9;refine⟨Ha,ρ,hs,hr,?_⟩;unfold Df at q;cases e1:f ρ with
 |stuck|exn x=>rw[e1]at q;exact q
 |ok d=>
  rw[e1]at q;intro v H1 H01 g1 r1;refine⟨H01,ρ,g1.sub,hr.mono g1.z,?_⟩;replace q:match ((g ρ).bind λe=>match d,e with
   |.lst ds,.lst es=>au.ok (cK ds es)
   |_,_=>.stuck) with
    |.ok ds=>∀J H' Ha',bf H Ha H' Ha'->M7 X.K ds J Ha'->R J H'
    |.exn x=>∀C ox H' Ha',bf H Ha H' Ha'->wK X.K Ha' x C ox->E C ox H'
    |.stuck=>False:=q
  cases e2:g ρ with
  |stuck=>rw[e2]at q;exact q|exn x=>rw[e2]at q;exact λC ox H' Ha' g2=>q C ox H' Ha' (g1.trans g2)
  |ok d2=>
   rw[e2]at q;intro v2 H2 H02 g2 r2;cases d with
   |lst ds=>
    cases d2 with
    |lst es=>
     obtain⟨l,vs,rfl,hv,hrv⟩:=aE.mp (r1.mono g2.z);obtain⟨l',vs',rfl,hv',hrv'⟩:=aE.mp r2;refine⟨l,l',rfl,⟨vs,aD.sqL g2.sub hv⟩,⟨vs',aD.sqL g2.sub hv'⟩,q _ H2 H02 (g1.trans g2) ⟨λi H' Ha' s1 s2 hi=>?_,λi H' Ha' x H2 d s1 s2 hd hy=>?_,λi H' Ha' s1 s2 hi=>?_⟩⟩
     .rw[jl]at hi
      have h1:=hrv.length;have h2:=hrv'.length;exact⟨vs,vs',vs[i]'(by omega),vs'[i]'(by omega),aD.sqL (s1.trans s2) hv,aD.sqL (s1.trans s2) hv',by simp,by simp⟩
     .obtain⟨p,y,z,hp,rfl,hy,hz,rfl⟩:=hy
      obtain⟨d1,d2,k1,k2,rfl⟩:=lT _ _ _ _ hd;obtain⟨u,m1,m2⟩:=hrv.get k1;obtain⟨u',m1',m2'⟩:=hrv'.get k2;have:=hy vs (aD.sqL (s1.trans s2) hv);rw[m1]at this;cases this;have:=hz vs' (aD.sqL (s1.trans s2) hv');rw[m1']at this;cases this;exact Ab s2 hp (Reps.cons (m2.mono s1) (Reps.cons (m2'.mono s1) Reps.nil))
     .rw[jl]at hi
      have h1:=hrv.length;have h2:=hrv'.length;exact⟨vs,vs',aD.sqL (s1.trans s2) hv,aD.sqL (s1.trans s2) hv',by omega⟩
    |_=>exact q.elim
   |_=>exact q.elim
end
def xW(f:Pq):ce->ac->Option D
 |k::ks,d::ds=>if f=k then some d else xW f ks ds
 |_,_=>none
theorem A3{K:Ph}{H:Hp}{f:Pq}:∀{ks:ce}{ds:ac}{vs:ad}{d:D},ks.length=vs.length->Reps K H ds vs->xW f ks ds=some d->∃v,(ks.zip vs).lookup f=some v/\Rep K H d v/\f∈ks
 |[],ds,vs,d,_,_,h=>by unfold xW at h;cases h
 |k::ks,[],vs,d,_,_,h=>by unfold xW at h;cases h
 |k::ks,x::ds,vs,d,hl,r,h=>by
  obtain⟨v,r',rfl,r1,r2⟩:=az.mp r;unfold xW at h
  by_cases c:f=k
  .rw[if_pos c]at h
   cases h;exact⟨v,by rw[QX,QI,beq_iff_eq.mpr c],r1,by rw[c];exact Pf⟩
  .rw[if_neg c]at h
   obtain⟨u,h1,h2,h3⟩:=A3 (by simpa using hl) r2 h;exact⟨u,by rw[QX,QI,beq_eq_false_iff_ne.mpr c];exact h1,h2,Pc _ h3⟩
def fj(f:Pq)(x:D):au D:=match x with
 |.ob (.ins c ks) ds=>match xW f ks ds with
  |some d=>.ok d
  |none=>.stuck
 |_=>.stuck
section
variable {X:Cx}{E:XK}{e a b o:Qa}{es:List Qa}{fe fo:am}{fa:Ev->au (ac)}{pos:Pos}
def iU{f:Pq}(he:DE X E e fe)(hb:Sg e f X.env (eval e X.env)=eval e X.env:=by rfl):DE X E (.Attribute e f pos) (aS fe (fj f)):=by
 refine⟨bp (JV he.o hb) λσ H Q z9=>?_⟩;obtain⟨Ha,ρ,hs,hr,q⟩:=z9;refine⟨Ha,ρ,hs,hr,?_⟩;unfold aS at q;cases e1:fe ρ with
 |stuck|exn x=>rw[e1]at q;exact q
 |ok d=>
  rw[e1]at q;intro v H1 H01 g1 r1;replace q:post X.K E H Ha (fj f d) Q:=q;unfold fj at q;cases d with
  |ob k ds=>
   cases k with
   |ins c ks=>
    replace q:post X.K E H Ha (match xW f ks ds with|some d=>au.ok d|none=>.stuck) Q:=q;cases e2:xW f ks ds with
    |none=>rw[e2]at q;exact q.elim
    |some d=>
     rw[e2]at q;obtain⟨p,vs,rfl,⟨C,dx,h0,h1,h2,h3⟩,h4⟩:=bq.mp r1;obtain⟨u,k1,k2,k3⟩:=A3 h3 h4 e2;exact⟨p,C,dx,_,u,rfl,g1.sub _ _ h2,h1.cls,h1.no f k3,k1,q u H1 H01 g1 k2⟩
   |_=>exact q.elim
  |_=>exact q.elim
def putAll:ce->ad->List (Pq×V)->List (Pq×V)
 |f::fs,v::vs,l=>putAll fs vs (ik f v l)
 |_,_,l=>l
theorem xh{f:Pq}{v:V}:∀{l:List (Pq×V)},f∉l.map (·.1)->ik f v l=l++[(f,v)]
 |[],_=>rfl
 |(k,x)::l,h=>by
  simp only[Pl,Pr,not_or]at h;unfold ik;rw[if_neg (λz=>h.1 z.symm),xh h.2];rfl
theorem qt:∀{fs:ce}{vs:ad}{l:List (Pq×V)},fs.Nodup->(∀f∈fs,f∉l.map (·.1))->fs.length=vs.length->putAll fs vs l=l++fs.zip vs
 |[],[],l,_,_,_=>by simp[putAll]
 |[],v::vs,l,_,_,h=>by simp at h
 |f::fs,[],l,_,_,h=>by simp at h
 |f::fs,v::vs,l,nd,hn,h=>by
  rw[PZ]at nd;unfold putAll;rw[xh (hn f Pf),qt nd.2 (λg hg=>?_) (by simpa using h),QX,RF]
  .rfl
  .simp only[Qb,Pl,Rq,Pz,PF,not_or]
   exact⟨hn g (Pc _ hg),λz=>nd.1 (z▸hg)⟩
noncomputable def LJ(K:Ph) (fs:ce) (is:ci):TS:=λD σ H=>∃a C dx l vs,σ[0]?=some (some (V.ref a))/\H a=some (.ins C dx l)/\FK K C/\(∀f∈fs,fG K C f)/\l.length+fs.length<1000/\fs.length=vs.length /\
 is.map (λi=>σ[i]?)=vs.map (λv=>some (some v))/\D.nx σ (upd H a (.ins C dx (putAll fs vs l)))
structure Bn (X:Cx) (sts:List Rv) (fs:ce) (is:ci):Prop where
 o:yI X sts (LJ X.K fs is)
def CZ{H:Hp}{a:Pk}{o:HO}(h:H a=some o):upd H a o=H:=by
 funext b
 by_cases hb:b=a
 .subst hb;rw[aP,h]
 .rw[aG hb]
def uv{H:Hp}{a:Pk}{o u:HO}:upd (upd H a o) a u=upd H a u:=by
 funext b
 by_cases hb:b=a
 .subst hb;rw[aP,aP]
 .rw[aG hb,aG hb,aG hb]
def KQ:Bn X [] [] []:=⟨mj AB λD σ H ⟨a,C,dx,l,vs,h1,h2,h3,h4,h5,h6,h7,q⟩=>by
 cases vs with
 |nil=>
  unfold putAll at q;rw[CZ h2]at q;exact q
 |cons v vs=>simp at h6⟩
theorem xi{f:Pq}{v:V}:∀{l:List (Pq×V)},(ik f v l).length<=l.length+1
 |[]=>by simp[ik]
 |(k,x)::l=>by
  unfold ik;split
  .simp
  .have:=xi (f:=f) (v:=v) (l:=l)
   simp;omega
def lq{sts:List Rv}{fs:ce}{is:ci}{f:Pq}{i:Nat}{x y:Pq}{p1 p2 p3:Pos}(hN:X.N[i]?=some y)(hN0:X.N[0]?=some x)(hv:CC X.env.scope y)(hv0:CC X.env.scope x)(h:Bn X sts fs is)
  (hd:(y==("__debug__" : Pq))=false:=by decide)(hcd:(y==("__classdict__" : Pq))=false:=by decide)(hd0:(x==("__debug__" : Pq))=false:=by decide)(hcd0:(x==("__classdict__" : Pq))=false:=by decide)
  (hs:Rt (.Name y p3) (some (.Attribute (.Name x p1) f p2)) pos.line X.env=pure false:=by rfl) :
  Bn X (.Assign [.Attribute (.Name x p1) f p2] (.Name y p3) pos::sts) (f::fs) (i::is):=by
 refine⟨mj (xj (JI (ka hN0 hv0 hd0 hcd0) (ka hN hv hd hcd) hs) h.o) λD σ H z9=>?_⟩;obtain⟨a,C,dx,l,vs,h1,h2,h3,h4,h5,h6,h7,q⟩:=z9;cases vs with
 |nil=>simp at h6
 |cons v vs=>
  simp only[Pl,List.cons.injEq]at h7;simp only[PL]at h5 h6;refine⟨v,h7.1,.ref a,h1,a,C,dx,l,rfl,h2,h3,h4 f Pf,by omega,?_⟩;refine⟨a,C,dx,_,vs,h1,aP,h3,λg hg=>h4 g (Pc _ hg),?_,by omega,h7.2,?_⟩
  .have:=xi (f:=f) (v:=v) (l:=l)
   omega
  .rw[uv];exact q
def vv(K:Ph)(ks:ce):Sp:=λvs H Q _=>∃x dx C args,vs=.ref x::args/\args.length=ks.length/\H x=some (.ins C dx [])/\FK K C/\(∀f∈ks,fG K C f)/\Q .non (upd H x (.ins C dx (ks.zip args)))
def Hr{P:Qe}{w:Qt}{K:Ph}{mg:Pq->Option Pb}{base:PR}{x qual:Pq}{st:Rv}{f:Pk}{fd:Qy}{ps:ce}{ks:ce}(F:CK K x qual st f fd)(S:fS ps ps (defScope st))(hk:ks.Nodup)(hps:ps.length=ks.length+1)(hf:ks.length<500)
  (hbody:∀(cdv:Pb) (A:Qs) (outer:List QN) (s0:Pj) (H:Hp) (E:XK),Bn (pH CX0 P w K mg base ps qual (defScope st) f cdv A outer s0 H E).nox (defBody st) ks ((Qu ks.length).map (· + 1))):iu P w K mg base CX0 1 f fd ps (vv K ks):=by
 refine F.ok S (λvs H Q E h=>?_) λcdv A outer s0 H vs Q E hr h=>?_
 .obtain⟨x,dx,C,args,rfl,hl,_⟩:=h
  simp[hl,hps]
 .obtain⟨x,dx,C,args,rfl,hl,hH,hC,hn,q⟩:=h
  refine⟨_,(hbody cdv A outer s0 H E).o,x,C,dx,[],args,?_,hH,hC,hn,by simp;omega,hl.symm,?_,?_⟩
  .unfold L2.start;simp
  .unfold L2.start
   apply Sy;intro i;simp only[Pp,Qd]
   by_cases hi:i<ks.length
   .have hia:i<args.length:=by omega
    simp[hi,hia,P0,Qo]
   .have hia:¬i<args.length:=by omega
    simp[hi,hia]
  .rw[qt hk (by simp) hl.symm]
   exact q
def zt(c:Pq)(ks:ce)(ds:ac):au D:=if ds.length=ks.length then .ok (.ob (.ins c ks) ds) else .stuck
def Fd{k:Nat}{C fn:Pk}{fd:Qy}{ps ks:ce}{x:Pq}{p:Pos}(M:Mk X.K C fn)(F:iu X.prog X.w X.K X.mg X.base CX0 k fn fd ps (vv X.K ks))(hr:cV (k+1) X.A)(hg:Gl X x)(hm:X.mg x=some (.ref C))(hns:QT X.K PH x=some (some (.ref C)))(hb:jT X.K fd ps [])(hC:La X.K ks C)(hx:gs CX0 X E)(ha:DA X E (e::es) fa)
  (hdb:(x==("__debug__" : Pq))=false:=by decide)(he:PD (e::es) X.env=(false,eval e X.env)::PD es X.env:=by exact bB rfl)(hpl:(Rj pos (PD es X.env)).any (·.1)=false:=by exact dk rfl) :
  DE X E (.Call (.Name x p) (e::es) [] pos) (aq fa (zt x ks)):=by
 refine⟨bp (GI M F hr hg hm hb .nil hx ha.o hdb he hpl) (lu (r:=λvs H1 Q=>∀x dx,H1 x=none->H1 dx=none->dx≠x->vv X.K ks (.ref x::(vs++[])) (upd (upd H1 dx (.own x)) x (.ins C dx [])) (λv H2=>v=.non/\Q (.ref x) H2) E) λds vs H Ha Q hs hr q=>?_)⟩;intro y dx hy hdx hne;unfold zt at q
 by_cases hl:ds.length=ks.length
 .rw[if_pos hl]at q
  have hlv:vs.length=ks.length:=by rw[←hr.length];exact hl
  refine⟨y,dx,C,vs,by simp,hlv,aP,hC.cls,hC.no,rfl,?_⟩;rw[uv];have hy':(upd H dx (.own y)) y=none:=by rw[aG hne.symm];exact hy
  have g1:=bz (o:=.own y) hs hdx;have g2:=bz (o:=.ins C dx (ks.zip vs)) g1.sub hy';refine q _ _ _ (g1.trans g2) (bq.mpr ⟨y,vs,rfl,⟨C,dx,hns,hC,aP,hlv.symm⟩,hr.mono (g1.trans g2).z⟩)
 .rw[if_neg hl]at q;exact q.elim
def fE:ac->Option (List Int)
 |[]=>some []
 |.int x::r=>(fE r).map (x::·)
 |_=>none
theorem xP{K:Ph}{H:Hp}:∀{ds:ac}{ys:List Int}{vs:ad}{us:List Pb},fE ds=some ys->Reps K H ds vs->aY vs us->IntsAre us ys
 |[],ys,vs,us,h,r,q=>by
  cases h;rw[Reps.nil_iff.mp r]at q;cases q;exact .nil
 |d::ds,ys,vs,us,h,r,q=>by
  obtain⟨v,r',rfl,h1,h2⟩:=az.mp r;cases q with
  |cons q1 q2=>
   cases d with
   |int x=>
    unfold fE at h;cases e:fE ds with
    |none=>rw[e]at h;cases h
    |some zs=>
     rw[e]at h;cases h;rw[ay.mp h1]at q1;obtain⟨t,rfl⟩:=q1;exact .cons _ _ (xP e h2 q2)
   |_=>cases h
def MB(a:Int):List Int->List Int
 |[]=>[a]
 |b::l=>if a<=b then a::b::l else b::MB a l
def LR:List Int->List Int
 |[]=>[]
 |a::l=>MB a (LR l)
end
structure MZ (K:Ph) (x:Pq) (ks:ce) (C:Pk):Prop where
 ns:QT K PH x=some (some (.ref C))
 recC:La K ks C
def G2{K:Ph}{C:Pk}:∀f∈([]:ce),fG K C f:=λ_ h=>nomatch h
def i5{K:Ph}{C:Pk}{f:Pq}{ks:ce}(h:Q3 K (.ref C) f=some none)(r:∀f∈ks,fG K C f):∀g∈f::ks,fG K C g:=λg hg=>by
 rcases Pr.mp hg with rfl|hg
 .exact h
 .exact r g hg
def Gm{K:Ph}{x:Pq}{ks:ce}{C:Pk}(ns:QT K PH x=some (some (.ref C)))(pg:Tv K C Str.empty=true)(hd:Ti K C=true)(po:TZ K C=true)(sa:Q3 K (.ref C) "__setattr__"=some (some (.builtin "object.__setattr__")))
  (gc:Q3 K (.ref C) "__class__"=some (some (.builtin "object.__class__")))(gn:TY K (.builtin "object.__class__") "__get__"=some (some (.builtin "getset_descriptor.__get__")))(tk:Uu K (.builtin "object.__class__")=some true)(mo:W.mroIn K C (.type "object")=some true)
  (t1:Sj K (.ref C) (.type "NoneType")=some false)(t2:Sj K (.ref C) (.type "bool")=some false)(t3:Sj K (.ref C) (.type "int")=some false)(t4:Sj K (.ref C) (.type "str")=some false)(t5:Sj K (.ref C) (.type "tuple")=some false)
  (t6:Sj K (.ref C) (.type "list")=some false)(t7:Sj K (.ref C) (.type "dict")=some false)(no:∀f∈ks,fG K C f):MZ K x ks C :=
 ⟨ns,⟨⟨pg,hd,po,sa⟩,no,gc,gn,tk,mo,λT hT=>by
  refine Kc (xK T hT) ?_;simp only[ie,Pr,SG,or_false]at hT;rcases hT with rfl|rfl|rfl|rfl|rfl|rfl|rfl
  .exact t1
  .exact t2
  .exact t3
  .exact t4
  .exact t5
  .exact t6
  .exact t7⟩⟩
end DL
namespace Com
open PySem L2 DL
def IF(tg:Ev->D->au Ev)(s:bi)(ρ:Ev)(ds:ac):au Fl:=bS tg s ds ρ
def Iu(d:D):au (ac):=match d with
 |.lst ds=>.ok (numbered 0 ds)
 |_=>.stuck
def uB(d:D):au (ac):=match d with
 |.lst ds=>.ok ds
 |_=>.stuck
def cC(n:Nat)(fr:ci)(tg:Ev->D->au Ev)(tt fe:am)(ρ:Ev)(ds:ac):au D:=if ds.length<=line then match bN (cS n fr ρ) tg tt fe ds with
  |.ok es=>.ok (.lst es)
  |_=>.stuck
 else .stuck
def EX(tg:Ev->D->au Ev)(s:bi)(ρ:Ev)(d:D):au Fl:=match d with
 |.int j=>if -4611686018427387904<=j/\j<4611686018427387904 then bS tg s (intsFrom 0 j.toNat) ρ else .stuck
 |_=>.stuck
section
variable {s t:bi}{f g h:am}{src:Ev->au (ac)}{fa:Ev->au (ac)}{ρ r:Ev}{i j n:Nat}{d x y:D}{ds es xs:ac}{a b:Int}{tg:Ev->D->au Ev}{tt fe:am}{fr:ci}
def nk:gz src tg s ρ=(src ρ).bind (IF tg s ρ):=rfl
def nj:IF tg s ρ ds=bS tg s ds ρ:=rfl
def mF:lP f ρ=(f ρ).bind Iu:=rfl
def kq:Iu (.lst ds)=.ok (numbered 0 ds):=rfl
def v9:ff f ρ=(f ρ).bind uB:=rfl
def rq:uB (.lst ds)=.ok ds:=rfl
def pU:bK n fr src tg tt fe ρ=(src ρ).bind (cC n fr tg tt fe ρ):=rfl
def wb{c:Pq}{ks:ce}(h:(ds.length==ks.length)=true):zt c ks ds=.ok (.ob (.ins c ks) ds):=if_pos (eq_of_beq h)
def jN{is:ci}(h:(ds.length==is.length)=true):cB is ρ (.tup ds)=.ok (cR ρ is ds):=by
 show(match (if ds.length=is.length then some ds else none) with|some ds=>au.ok (cR ρ is ds)|none=>.stuck)=_;rw[if_pos (eq_of_beq h)]
def nh:xb f tg s ρ=(f (iP ρ)).bind (EX tg s ρ):=rfl
def xU{k:Nat}(h:k<=1000000):EX tg s ρ (.int (k:Int))=bS tg s (intsFrom 0 k) ρ:=by
 unfold EX;dsimp only;rw[if_pos ⟨by omega,by omega⟩,QM]
def gW:jU (.int 10) (.int 18)=.ok (.int 1000000000000000000):=rfl
def nC{F:D->D}(hl:ds.length<=1000000)(h:∀d∈ds,∃ρ1,tg (cS n fr ρ) d=.ok ρ1/\tt ρ1=.ok (.bl true)/\fe ρ1=.ok (F d)):cC n fr tg tt fe ρ ds=.ok (.lst (ds.map F)):=by
 unfold cC;rw[if_pos (show ds.length<=line from hl),uZ h]
theorem o5{B:Ev}{F:D->D}{p:D->Bool}:∀{ds:ac},(∀d∈ds,∃ρ1,tg B d=.ok ρ1/\tt ρ1=.ok (.bl (p d))/\(p d=true->fe ρ1=.ok (F d)))->bN B tg tt fe ds=.ok ((ds.filter p).map F)
 |[],_=>rfl
 |d::ds,h=>by
  obtain⟨ρ1,h1,h2,h3⟩:=h d Pf;have ih:=o5 (ds:=ds) λd hd=>h d (Pc _ hd);unfold bN;rw[h1,Cy,h2,Cy];cases hp:p d with
  |true=>
   show(fe ρ1).bind _=_;rw[h3 hp,Cy,ih,Cy,Rm hp];rfl
  |false=>
   show bN B tg tt fe ds=_;rw[ih,Qp (by rw[hp];decide)]
def iG{F:D->D}{p:D->Bool}(hl:ds.length<=1000000)(h:∀d∈ds,∃ρ1,tg (cS n fr ρ) d=.ok ρ1/\tt ρ1=.ok (.bl (p d))/\(p d=true->fe ρ1=.ok (F d))):cC n fr tg tt fe ρ ds=.ok (.lst ((ds.filter p).map F)):=by
 unfold cC;rw[if_pos (show ds.length<=line from hl),o5 h]
end
def bnd(k:Nat):Nat:=2 ^ (201*k)
def pW{k:Nat}(h:k<=62):bnd k<pK:=by
 rw[jJ];unfold bnd;exact R5 (by decide) (by omega)
def wD:jX<=2 ^ 200:=by decide
def yB(k:Nat):bnd (k+1)=bnd k*2 ^ 200+2 ^ 200*bnd k:=by
 unfold bnd;rw[show 201*(k+1)=201*k+201 by omega,S4];generalize 2 ^ (201*k)=z;omega
def un(s x:bT):bT:=(s.1*x.2+x.1*s.2,s.2*x.2)
structure Bo (k:Nat) (s:bT):Prop where
 pos:0<s.2
 b1:s.1.natAbs<=bnd k
 b2:s.2.natAbs<=bnd k
def Bo.step{k:Nat}{s x:bT}(h:Bo k s)(hx:bF x):Bo (k+1) (un s x):=by
 have h1:x.1.natAbs<=2 ^ 200:=Pu (R7 hx.pN) wD;have h2:x.2.natAbs<=2 ^ 200:=Pu (R7 hx.qN) wD;have m1:=Sw h.b1 h2;have m2:=Sw h1 h.b2;have m3:=Sw h.b2 h2;refine⟨Su h.pos (by have:=hx.q1;omega),?_,?_⟩
 .show(s.1*x.2+x.1*s.2).natAbs<=_
  rw[yB];refine Pu (Int.natAbs_add_le _ _) ?_;rw[Rz,Rz];exact Nat.add_le_add m1 m2
 .show(s.2*x.2).natAbs<=_
  rw[yB,Rz];exact Pu m3 (Nat.le_add_right _ _)
def Bo.start:Bo 0 (0,1):=⟨by decide,by decide,by decide⟩
def xE{s x:bT}(hs:0<s.2)(hx:1<=x.2):cz ((cz s.1 s.2).1*x.2+x.1*(cz s.1 s.2).2) ((cz s.1 s.2).2*x.2)=cz (un s x).1 (un s x).2:=by
 have ht:=dA (a:=s.1) hs;have hr:=iA (a:=s.1) (b:=s.2);generalize cz s.1 s.2=t at *;have hq:0<t.2*x.2:=Su (by have:=ht.q1;omega) (by omega);have hq2:0<(un s x).2:=Su hs (by omega);have l1:=dA (a:=t.1*x.2+x.1*t.2) hq;have r1:=iA (a:=t.1*x.2+x.1*t.2) (b:=t.2*x.2);have l2:=dA (a:=(un s x).1) hq2;have r2:=iA (a:=(un s x).1) (b:=(un s x).2);generalize cz (t.1*x.2+x.1*t.2) (t.2*x.2)=u at *;generalize cz (un s x).1 (un s x).2=v at *;refine qO l1 l2 ?_;have r2':v.1*(s.2*x.2)=(s.1*x.2+x.1*s.2)*v.2:=r2;have hk:0<t.2*x.2*(s.2*x.2):=Su hq hq2;have:u.1*v.2*(t.2*x.2*(s.2*x.2))=v.1*u.2*(t.2*x.2*(s.2*x.2)):=by
  have e1:u.1*v.2*(t.2*x.2*(s.2*x.2))=(u.1*(t.2*x.2))*v.2*(s.2*x.2):=by grind
  have e2:v.1*u.2*(t.2*x.2*(s.2*x.2))=(v.1*(s.2*x.2))*u.2*(t.2*x.2):=by grind
  rw[e1,e2,r1,r2']
  grind
 exact QO (by omega) this
def GB{k:Nat}{s x:bT}(h:Bo k s)(hk:k<=61)(hx:bF x):m_plus [fr (cz s.1 s.2),fr x]=.ok (fr (cz (un s x).1 (un s x).2)):=by
 have ht:=dA (a:=s.1) h.pos;have a1:(cz s.1 s.2).1.natAbs<=bnd k:=Pu iD h.b1;have a2:(cz s.1 s.2).2.natAbs<=bnd k:=Pu iC h.b2;have hst:=xE h.pos hx.q1;have hA:Bo k (cz s.1 s.2):=⟨by have:=ht.q1;omega,a1,a2⟩
 have hB:=hA.step hx;rw[←hst];generalize cz s.1 s.2=t at *;have b60:bnd k<nU:=Pm (pW (by omega)) p7;have bb:bnd (k+1)<pK:=pW (by omega);have x1:x.1.natAbs<nU:=Pm hx.pN de;have x2:x.2.natAbs<nU:=Pm hx.qN de;refine Dp (n:=2) (ds:=[fr t,fr x]) ?_;show zS [.sh (fr t),.sh (fr x)]=_;unfold zS;refine vy (vE ?_);refine(nF (xs:=[.int (t.1*x.2+x.1*t.2),.int (t.2*x.2)]) (nO ?_ (nO ?_ rfl))).trans ?_
 .refine(ig (x:=.int (t.1*x.2)) (y:=.int (x.1*t.2)) ?_ ?_).trans rfl
  .exact(ig (x:=.int t.1) (y:=.int x.2) rfl rfl).trans (zo (fA (PK a1 b60) x2))
  .exact(ig (x:=.int x.1) (y:=.int t.2) rfl rfl).trans (zo (fA x1 (PK a2 b60)))
 .exact(ig (x:=.int t.2) (y:=.int x.2) rfl rfl).trans (zo (fA (PK a2 b60) x2))
 .exact qp hB.pos (PK hB.b1 bb) (PK hB.b2 bb)
theorem qe{L:Sl}:∀(xs:List bT) (k:Nat) (s:bT) (z:Sl),Bo k s->k+xs.length<=61->(∀x∈xs,bF x)->∃z',bS (br 2) (ao (aF 1 (aq (af (ae 1) (af (ae 2) ax)) m_plus)) aj) (xs.map fr) [L,.sh (fr (cz s.1 s.2)),z] =
  .ok (.nx [L,.sh (fr (cz (xs.foldl un s).1 (xs.foldl un s).2)),z'])/\Bo (k+xs.length) (xs.foldl un s)
 |[],k,s,z,h,_,_=>⟨z,rfl,h⟩
 |x::xs,k,s,z,h,hk,hx=>by
  have hx0:=hx x Pf;simp only[PL]at hk;obtain⟨z',e,a⟩:=qe xs (k+1) (un s x) (.sh (fr x)) (h.step hx0) (by omega) λy hy=>hx y (Pc _ hy);refine⟨z',?_,by rw[PL,show k+(xs.length+1)=k+1+xs.length by omega];exact a⟩;rw[Pl,iF (ρ1:=[L,.sh (fr (cz s.1 s.2)),.sh (fr x)]) (ρ2:=[L,.sh (fr (cz (un s x).1 (un s x).2)),.sh (fr x)]) rfl]
  .exact e
  .exact Dl (y8 ((nF (xs:=[fr (cz s.1 s.2),fr x]) rfl).trans (GB h (by omega) hx0)))
def Kv{f:am}{tg:Ev->D->au Ev}{s:bi}{ρ:Ev}{ds:ac}(h:f ρ=.ok (.lst ds)):iR f tg s ρ=bS tg s ds ρ:=by unfold iR;rw[h];rfl
def lO(xs:List bT):bT:=xs.foldl un (0,1)
def Bz{xs:List bT}(hl:xs.length<=61)(hx:∀x∈xs,bF x):m_sum_of [.lst (xs.map fr)]=.ok (fr (cz (lO xs).1 (lO xs).2)):=by
 obtain⟨z',e,a⟩:=qe (L:=.sh (.lst (xs.map fr))) xs 0 (0,1) .no Bo.start (by omega) hx;refine Dp (n:=3) (ds:=[.lst (xs.map fr)]) ?_;show sZ [.sh (.lst (xs.map fr)),.no,.no]=_;unfold sZ;rw[iQ (ρ':=[.sh (.lst (xs.map fr)),.sh (fr (cz 0 1)),.no]) rfl];refine(iQ ((Kv (ds:=xs.map fr) rfl).trans e)).trans ?_;exact vy (vE rfl)
def kT{xs:List bT}(hl:xs.length<=61)(hx:∀x∈xs,bF x):Bo xs.length (lO xs):=by
 obtain⟨z',e,a⟩:=qe (L:=.no) xs 0 (0,1) .no Bo.start (by omega) hx;rw[QL]at a;exact a
end Com
local macro_rules|`(tactic|open_line with[$xs,*])=>do
  let ns:Array Lean.Term:=("rM lY mM mL mV lX mK rF mP nr kz yc rV rT rH mT sv mS mQ kr rl rG mR yh su sr sq rO gH gY kA sA nu nt x8 rL rK rN mU rS ng m9 rh mD E3 mJ rD mI mH mG wa lZ mO mN xZ rJ x9 xX rB rA rz rW nq kB yd r8 rZ rY rR sC rP yb ya mX mW oq oi Pl Rq PL RQ QD Se Q6 Rg Q0 Qo Sq Sr SU Nat.reduceSub Nat.reduceAdd Sx QL SM SD rm rQ fI cw oo mE xY rE lp ll m8 m7 m6 m5 m4 mZ decide_true decide_false Nat.reduceLeDiff Nat.reduceBEq Int.reduceBEq beq_self_eq_true DL.dOne DL.mYes ee di dO gi gX gh yg yf ye Int.reduceLT Int.reduceLE Int.reduceSub Int.reduceAdd Int.reduceMul Int.reduceNeg mY ku Int.reduceToNat S8 nk nj mF kq v9 rq pU wb jN nh gW".splitOn " ").toArray.map fun s=>Lean.mkIdent s.toName
  let ys:=ns++xs.getElems
  `(tactic|simp only[$[$ys:term],*])
local macro_rules|`(tactic|open_line with[no_df,$xs,*])=>do
  let ns:Array Lean.Term:=("rM lY mM mL mV lX mK rF mP nr kz yc rV rT rH mT sv mS mQ kr rl rG mR yh su sr sq rO gH gY kA sA nu nt x8 rL rK rN mU rS ng m9 rh mD E3 mJ rD mI mH mG wa lZ mO mN xZ rJ x9 xX rB rA rz rW nq kB yd r8 rZ rY rR sC rP yb ya mX mW oq oi Pl Rq PL RQ QD Se Q6 Rg Q0 Qo Sq Sr SU Nat.reduceSub Nat.reduceAdd Sx QL SM SD rm rQ fI cw oo mE xY rE lp ll m8 m7 m6 m5 m4 mZ decide_true decide_false Nat.reduceLeDiff Nat.reduceBEq Int.reduceBEq beq_self_eq_true DL.dOne DL.mYes ee di dO gi gX gh yg yf ye Int.reduceLT Int.reduceLE Int.reduceSub Int.reduceAdd Int.reduceMul Int.reduceNeg mY ku Int.reduceToNat S8 nk nj mF kq v9 rq pU wb jN nh gW".splitOn " ").toArray.map fun s=>Lean.mkIdent s.toName
  let ys:=ns++xs.getElems
  `(tactic|simp -implicitDefEqProofs only[$[$ys:term],*])
namespace Com
open PySem L2 DL
noncomputable def dj:bi :=
 (ao (Gg [2,3,4] (ae 0))
 (ao (cH (aa (ae 2) (dC (.int 3)) KY)
 (ao (aT (aq (af (aa (ae 1) (aa (ae 3) (dC (.int 10)) cn) bc) (af (dC (.int 1)) ax)) eT))
 aj)
 aj)
 (ao (cH (aa (ae 2) (dC (.int 7)) KY)
 (ao (aT (aq (af (aa (ae 1) (aa (ae 3) (dC (.int 24)) cn) bc) (af (aa (dC (.int 1)) (aa (ae 4) (dC (.int 6)) cn) bc) ax)) lK))
 aj)
 aj)
 (ao (aT (aq (af (aa (ae 1) (ae 3) bc) (af (aa (dC (.int 1)) (ae 4) bc) ax)) lK))
 aj))))
def aA:ac->au D:=bj 5 dj
def lV{a b:Int}(ha:0<=a)(hb:0<b):0<=(cz a b).1:=Sn ha (by omega)
def G7{a:Int}(h0:0<=a)(h1:a<(jX:Int)):a.natAbs<pK:=Pm (show a.natAbs<jX by omega) p0
def A0{i:Nat}{body:bi}(P:Nat->Ev->Prop){n:Nat}(h:∀k,k<n->∀ρ,P k ρ->∃ρ2,body (ρ.set i (.sh (.int (k:Int))))=.ok (.nx ρ2)/\P (k+1) ρ2){ρ:Ev}(h0:P 0 ρ):∃ρ',bS (br i) body (intsFrom 0 n) ρ=.ok (.nx ρ')/\P n ρ':=by
 have key:∀(m k:Nat) (ρ:Ev),k+m=n->P k ρ->∃ρ',bS (br i) body ((intsFrom 0 n).drop k) ρ=.ok (.nx ρ')/\P n ρ':=by
  intro m
  induction m with
  |zero=>
   intro k ρ hk hp;have:k=n:=by omega
   subst this;rw[ER];exact⟨ρ,rfl,hp⟩
  |succ m ih=>
   intro k ρ hk hp;obtain⟨ρ2,h1,h2⟩:=h k (by omega) ρ hp;rw[Cc (by omega),iF (tg:=br i) rfl h1];exact ih (k+1) ρ2 (by omega) h2
 exact key n 0 ρ (by omega) h0
def lj{tg:Ev->D->au Ev}{body:bi}{ds:ac}(P:Nat->Ev->Prop)(h:∀k d,ds[k]?=some d->∀ρ,P k ρ->∃ρ1 ρ2,tg ρ d=.ok ρ1/\body ρ1=.ok (.nx ρ2)/\P (k+1) ρ2){ρ:Ev}(h0:P 0 ρ):∃ρ',bS tg body ds ρ=.ok (.nx ρ')/\P ds.length ρ':=by
 have key:∀(m k:Nat) (ρ:Ev),k+m=ds.length->P k ρ->∃ρ',bS tg body (ds.drop k) ρ=.ok (.nx ρ')/\P ds.length ρ':=by
  intro m
  induction m with
  |zero=>
   intro k ρ hk hp;have:k=ds.length:=by omega
   subst this;rw[List.drop_length];exact⟨ρ,rfl,hp⟩
  |succ m ih=>
   intro k ρ hk hp;have hlt:k<ds.length:=by omega
   obtain⟨ρ1,ρ2,h1,h2,h3⟩:=h k ds[k] (Pd hlt) ρ hp;rw[QQ hlt,iF h1 h2];exact ih (k+1) ρ2 (by omega) h3
 exact key ds.length 0 ρ (by omega) h0
structure Drawn (sz vs:List Int):Prop where
 len:vs.length=sz.length
 bnd:∀(i:Nat) (v s:Int),vs[i]?=some v->sz[i]?=some s->0<=v/\v<s
def Drawn.at{sz vs:List Int}(W:Drawn sz vs)(i:Nat){s:Int}(h:sz[i]?=some s):∃v,vs[i]?=some v/\(0<=v/\v<s)/\aC (.lst (vs.map D.int)) (.int (i:Int))=.ok (.int v):=by
 have hi:i<vs.length:=by rw[W.len];exact(Po.mp h).1
 refine⟨vs[i],Pd hi,W.bnd i _ _ (Pd hi) h,fD ?_⟩;rw[Pp,Pd hi];rfl
def Drawn.ix{sz vs:List Int}(W:Drawn sz vs)(k:Int)(i:Nat){s:Int}(hk:k=(i:Int))(h:sz[i]?=some s):∃v,vs[i]?=some v/\(0<=v/\v<s)/\aC (.lst (vs.map D.int)) (.int k)=.ok (.int v):=by
 subst hk;exact W.at i h
def HZ:("abcdefghijklmnopqrstuvwxyz" : Pq).cps.toList=(Qu 26).map (97 + ·):=by decide +kernel
def zW:∀n,n<26->qZ (97+n)=true:=by decide +kernel
def zV{v:Int}(h0:0<=v)(h1:v<26):aC (.str "abcdefghijklmnopqrstuvwxyz") (.int v)=.ok (.str ⟨#[97+v.toNat]⟩):=by
 obtain⟨n,rfl⟩:=Qw h0;have hn:n<26:=by omega
 have e:atI ("abcdefghijklmnopqrstuvwxyz" : Pq).cps.toList ((n:Nat):Int)=some (97+n):=fQ (by rw[HZ];simp[hn]);show(if("abcdefghijklmnopqrstuvwxyz" : Pq).length<=line then(match atI ("abcdefghijklmnopqrstuvwxyz" : Pq).cps.toList ((n:Nat):Int) with|some c=>au.ok (D.str ⟨#[c]⟩)|none=>.stuck) else .stuck)=_;rw[if_pos (by decide),e];rfl
theorem AU:∀cs:ci,Str.join "" (cs.map λc=>(⟨#[c]⟩:Pq))=⟨cs.toArray⟩
 |[]=>rfl
 |[c]=>rfl
 |c::d::cs=>by
  show(⟨#[c]⟩:Pq)++""++Str.join "" ((d::cs).map λc=>(⟨#[c]⟩:Pq))=_;rw[AU (d::cs)];apply Str.ext';show(#[c]++("" : Pq).cps)++(d::cs).toArray=_;have:("" : Pq).cps=#[]:=rfl;rw[this];simp
theorem Af:∀cs:ci,iO (cs.map λc=>D.str ⟨#[c]⟩)=some (cs.map λc=>(⟨#[c]⟩:Pq))
 |[]=>rfl
 |c::cs=>by
  show(iO (cs.map λc=>D.str ⟨#[c]⟩)).map _=_;rw[Af cs];rfl
def zx{cs:ci}(h:cs.length<=1000):qW "" [.lst (cs.map λc=>D.str ⟨#[c]⟩)]=.ok (.str ⟨cs.toArray⟩):=by
 have Ky:iE "" (cs.map λc=>(⟨#[c]⟩:Pq))=true:=by
  unfold iE;have e:((cs.map λc=>(⟨#[c]⟩:Pq)).map (·.length)).sum=cs.length:=by
   clear h
   induction cs with
   |nil=>rfl
   |cons c cs ih=>
    simp only[Pl,Rh,PL,ih];show 1+cs.length=_;omega
  rw[e,PM];exact⟨by decide,decide_eq_true (by rw[Pg];omega)⟩
 show(match iO (cs.map λc=>D.str ⟨#[c]⟩) with|some ys=>if iE "" ys=true then au.ok (D.str (Ud "" ys)) else .stuck|none=>.stuck)=_;rw[Af];show(if iE "" _=true then au.ok (D.str (Ud "" _)) else .stuck)=_;rw[if_pos Ky];show au.ok (D.str (Builtin.Str.glued "" _))=_;rw[StrLaws.glued_eq_join,AU]
def qg{cs:ci}{b:Nat}(hb:b<=cs.length):Ss ⟨cs.toArray⟩ none (some (b:Int))=⟨(cs.take b).toArray⟩:=by
 have:=StrLaws.sliceText_to (x:=⟨cs.toArray⟩) (j:=(b:Int)) ⟨by omega,by simpa using hb⟩;refine Eq.trans this ?_;simp
structure nR (zs:ce):Prop where
 nd:zs.Nodup
 nm:∀z∈zs,nameB z=true
def yE{x y:Pq}(h:x.length+y.length<=1000):bc (.str x) (.str y)=.ok (.str (x++y)):=if_pos (Pu h (by decide))
def uX(a b:ci):(⟨a.toArray⟩:Pq)++⟨b.toArray⟩=⟨(a++b).toArray⟩:=by
 apply Str.ext';show a.toArray++b.toArray=_;simp
def K1(a:ci):(⟨a.toArray⟩:Pq).length=a.length:=by show a.toArray.size=_;simp
def Ai{z:Pq}{l h:Option Int}(hz:z.length<=1000):BD (.str z) l h=.ok (.str (Ss z l h)):=by
 show(if z.length<=line then _ else _)=_;rw[if_pos (Pu hz (by decide))]
structure cO where
 a:Pq
 b:Pq
 w:Pq
 l:bT
 o:Option bT
def cq:Option bT->D
 |none=>.non
 |some x=>fr x
def aZ(t:cO):D:=.tup [.str t.a,.str t.b,.str t.w,fr t.l,cq t.o]
structure ph (zs:ce) (t:cO):Prop where
 a:t.a∈zs
 b:t.b∈zs
 ne:t.a≠t.b
 w:t.w="one"∨t.w="both"
 l:bF t.l
 l0:0<=t.l.1
 o:∀x,t.o=some x->bF x/\0<x.1
def C5{α:Type}{vs:List α}{i:Nat}{a b c:α}(h0:vs[i]?=some a)(h1:vs[i+1]?=some b)(h2:vs[i+2]?=some c):(vs.drop i).take 3=[a,b,c]:=by
 apply Sy;intro j;rcases j with _|_|_|j
 .rw[Ri (by decide),RP];simpa using h0
 .rw[Ri (by decide),RP];simpa using h1
 .rw[Ri (by decide),RP];simpa using h2
 .rw[Q7 (by simp;omega)];simp
def yw{vs:List Int}{a b:Nat}{x y:Int}(hx:x=(a:Int))(hy:y=(b:Int))(h:b<=vs.length)(hab:a<=b):lD (vs.map D.int) (some x) (some y)=((vs.drop a).take (b-a)).map D.int:=by
 subst hx hy;rw[jB,HT.sIx_nat,HT.sIx_nat,T5 h,T5 (Pu hab h)]
def MV{vs:List Int}{i:Nat}{x y:Int}{a b c:Int}(hx:x=(i:Int))(hy:y=((i+3:Nat):Int))(h0:vs[i]?=some a)(h1:vs[i+1]?=some b)(h2:vs[i+2]?=some c):lD (vs.map D.int) (some x) (some y)=[.int a,.int b,.int c]:=by
 have hl:i+3<=vs.length:=by have:=(Po.mp h2).1;omega
 rw[yw hx hy hl (by omega),show i+3-i=3 by omega,C5 h0 h1 h2];rfl
def Dd{zs:ce}{k:Int}(h0:0<=k)(h1:k<zs.length):∃z,zs[k.toNat]?=some z/\aC (.lst (zs.map D.str)) (.int k)=.ok (.str z):=by
 obtain⟨n,rfl⟩:=Qw h0;have hn:n<zs.length:=by omega
 refine⟨zs[n],by simp[hn],fD ?_⟩;rw[Pp,Pd hn];rfl
def FV{k:Int}(h0:0<=k)(h1:k<2):∃z:Pq,(z="one"∨z="both")/\aC (.lst [.str "one",.str "both"]) (.int k)=.ok (.str z):=by
 have:k=0∨k=1:=by omega
 rcases this with rfl|rfl
 .exact⟨_,.inl rfl,lp⟩
 .exact⟨_,.inr rfl,ll⟩
def vd{n d e:Int}(h2:2<=n)(d0:0<=d)(d1:d<n)(e0:0<=e)(e1:e<n-1):(0<=(d+1+e).fmod n/\(d+1+e).fmod n<n)/\(d+1+e).fmod n≠d:=by
 refine⟨dN (by omega),?_⟩;rw[SY _ (by omega)]
 by_cases h:d+1+e<n
 .rw[Int.emod_eq_of_lt (by omega) h];omega
 .have:(d+1+e) % n=d+1+e-n:=by
   rw[←Int.sub_emod_right (d+1+e) n,Int.emod_eq_of_lt (by omega) (by omega)]
  rw[this];omega
def xy{α:Type}{zs:List α}(nd:zs.Nodup){i j:Nat}{x y:α}(hi:zs[i]?=some x)(hj:zs[j]?=some y)(hij:i≠j):x≠y:=by
 intro e;subst e;obtain⟨h1,e1⟩:=Po.mp hi;obtain⟨h2,e2⟩:=Po.mp hj;exact hij ((Tb nd).mp (e1.trans e2.symm))
def pb:bi :=
 (ao (aT (gq (aq (af (ae 0) ax) m_is_ratio) (aa (aa (ae 0) (dC (.int 0)) aC) (dC (.int 0)) MT)))
 aj)
def m_is_length:ac->au D:=bj 1 pb
def tf:bi :=
 (ao (aT (jP (aa (ae 0) (dC (.non)) ia) (gq (aq (af (ae 0) ax) m_is_ratio) (aa (aa (ae 0) (dC (.int 0)) aC) (dC (.int 0)) yO))))
 aj)
def m_is_worth:ac->au D:=bj 1 tf
noncomputable def yD:bi :=
 (ao (cH (jP (cU (aS (ae 0) (jy "tuple"))) (aa (aq (af (ae 0) ax) (m1 fg)) (dC (.int 5)) jh))
 (ao (aT (dC (.bl false)))
 aj)
 aj)
 (ao (cH (jP (cU (aq (af (aa (ae 0) (dC (.int 0)) aC) ax) m_is_name)) (jP (cU (aq (af (aa (ae 0) (dC (.int 1)) aC) ax) m_is_name)) (aa (aa (ae 0) (dC (.int 0)) aC) (aa (ae 0) (dC (.int 1)) aC) ij)))
 (ao (aT (dC (.bl false)))
 aj)
 aj)
 (ao (cH (jP (cU (aS (aa (ae 0) (dC (.int 2)) aC) (jy "str"))) (aa (aa (ae 0) (dC (.int 2)) aC) (dC (.tup [(.str "one"),(.str "both")])) bA))
 (ao (aT (dC (.bl false)))
 aj)
 aj)
 (ao (aT (gq (aq (af (aa (ae 0) (dC (.int 3)) aC) ax) m_is_length) (aq (af (aa (ae 0) (dC (.int 4)) aC) ax) m_is_worth)))
 aj))))
def m_is_tie:ac->au D:=bj 1 yD
noncomputable def je:bi :=
 (ao (cH (jP (cU (aS (ae 0) (jy "list"))) (cU (iV HJ HJ (dC (.int 2)) (aq (af (ae 0) ax) (m1 fg)) (dC (.int 7)))))
 (ao cG
 aj)
 aj)
 (ao (gz (lP (ae 0)) (cB [1,2])
 (ao (cH (jP (cU (aq (af (ae 2) ax) m_is_name)) (aa (ae 2) (gm (ae 0) eJ (cj (ae 1))) pG))
 (ao cG
 aj)
 aj)
 aj))
 aj))
def m_look_at_places:ac->au D:=bj 3 je
noncomputable def kO:bi :=
 (ao (cH (jP (cU (aS (ae 0) (jy "list"))) (aa (aq (af (ae 0) ax) (m1 fg)) (dC (.int 14)) yO))
 (ao cG
 aj)
 aj)
 (ao (gz (lP (ae 0)) (cB [2,3])
 (ao (cH (jP (cU (aq (af (ae 3) ax) m_is_tie)) (jP (aa (aa (ae 3) (dC (.int 0)) aC) (ae 1) bA) (aa (aa (ae 3) (dC (.int 1)) aC) (ae 1) bA)))
 (ao cG
 aj)
 aj)
 aj))
 aj))
def m_look_at_ties:ac->au D:=bj 4 kO
def tj:bi :=
 (ao (aT (gq (aq (af (ae 0) ax) m_is_name) (aa (ae 0) (ae 1) pG)))
 aj)
def m_is_place:ac->au D:=bj 2 tj
noncomputable def fP:bi :=
 (ao (cH (jP (cU (aS (ae 0) (jy "tuple"))) (aa (aq (af (ae 0) ax) (m1 fg)) (dC (.int 4)) jh))
 (ao cG
 aj)
 aj)
 (ao (fX (aq (af (aa (ae 0) (dC (.int 0)) aC) ax) m_look_at_places))
 (ao (fX (aq (af (aa (ae 0) (dC (.int 1)) aC) (af (aa (ae 0) (dC (.int 0)) aC) ax)) m_look_at_ties))
 (ao (cH (cU (aq (af (aa (ae 0) (dC (.int 2)) aC) (af (aa (ae 0) (dC (.int 0)) aC) ax)) m_is_place))
 (ao cG
 aj)
 aj)
 (ao (cH (jP (cU (aq (af (aa (ae 0) (dC (.int 3)) aC) (af (aa (ae 0) (dC (.int 0)) aC) ax)) m_is_place)) (aa (aa (ae 0) (dC (.int 3)) aC) (aa (ae 0) (dC (.int 2)) aC) ij))
 (ao cG
 aj)
 aj)
 aj)))))
def m_look_at_web:ac->au D:=bj 1 fP
def jS:bi :=
 (ao (aT (gq (aq (af (ae 1) ax) m_is_whole) (iV HJ KY (dC (.int 0)) (ae 1) (aq (af (aa (ae 0) (dC (.int 1)) aC) ax) (m1 fg)))))
 aj)
def m_is_tie_number:ac->au D:=bj 2 jS
noncomputable def cA:bi :=
 (ao (fX (aq (af (ae 0) ax) m_look_at_web))
 (ao (cH (cU (aS (ae 1) (jy "list")))
 (ao cG
 aj)
 aj)
 (ao (aF 2 (aS (dC (.int 1)) jV))
 (ao (iR (ae 1) (br 3)
 (ao (cH (jP (cU (aq (af (ae 0) (af (ae 3) ax)) m_is_tie_number)) (aa (ae 3) (ae 2) HJ))
 (ao cG
 aj)
 aj)
 (ao (cH (aa (aa (aa (aa (ae 0) (dC (.int 1)) aC) (ae 3) aC) (dC (.int 4)) aC) (dC (.non)) ia)
 (ao cG
 aj)
 aj)
 (ao (aF 2 (ae 3))
 aj))))
 aj))))
def m_look_at_taking:ac->au D:=bj 4 cA
structure gB where
 ps:ce
 ts:List cO
 fi:Pq
 la:Pq
def aO(w:gB):D:=.tup [.lst (w.ps.map D.str),.lst (w.ts.map aZ),.str w.fi,.str w.la]
structure cD (w:gB):Prop where
 n2:2<=w.ps.length
 n7:w.ps.length<=7
 nm:nR w.ps
 t14:w.ts.length<=14
 ts:∀t∈w.ts,ph w.ps t
 fi:w.fi∈w.ps
 la:w.la∈w.ps
 ne:w.fi≠w.la
def k8{z:Pq}(h:nameB z=true):m_is_name [.str z]=.ok (.bl true):=by
 have hl:z.length<=8:=by
  unfold nameB at h;simp only[PM,decide_eq_true_eq]at h;exact h.2.1
 rw[zy (show Ky (.str z)=true from decide_eq_true (Pu hl (by decide)))];show au.ok (D.bl (nameB z))=_;rw[h]
def qo{x:bT}(h:Low x):m_is_ratio [fr x]=.ok (.bl true):=by
 rw[vY];show au.ok (D.bl (qr (.tup [.int x.1,.int x.2])))=_;have h1:=h.q1;have h2:=h.g1;show au.ok (D.bl (decide (1<=x.2)&&(Qf x.1 x.2==1)))=_;rw[decide_eq_true h1,h2];rfl
def oU{x:bT}(h:Low x)(h0:0<=x.1):m_is_length [fr x]=.ok (.bl true):=by
 have e:fr x=.tup [.int x.1,.int x.2]:=rfl;have h1:=qo h;rw[e]at h1 ⊢;open_line with[m_is_length,pb,h1,decide_eq_true h0,decide_eq_true (show x.1≥0 from h0)]
def yP{o:Option bT}(h:∀x,o=some x->Low x/\0<x.1):m_is_worth [cq o]=.ok (.bl true):=by
 cases o with
 |none=>rfl
 |some x=>
  obtain⟨hx,h0⟩:=h x rfl;have e:cq (some x)=.tup [.int x.1,.int x.2]:=rfl;have h1:=qo hx;rw[show fr x=.tup [.int x.1,.int x.2] from rfl]at h1;rw[e];open_line with[m_is_worth,tf,h1,decide_eq_true h0]
def ny{x y:Pq}:ij (.str x) (.str y)=.ok (.bl (x==y)):=by unfold ij;rw[if_pos ⟨rfl,rfl⟩,cN]
def C4{zs:ce}{t:cO}(nm:nR zs)(h:ph zs t):m_is_tie [aZ t]=.ok (.bl true):=by
 obtain⟨a,b,w,l,o⟩:=t;obtain⟨ha,hb,hne,hw,hl,hl0,ho⟩:=h;have h1:=k8 (nm.nm a ha);have h2:=k8 (nm.nm b hb);have h3:=oU hl.toLow hl0;have h4:=yP (o:=o) λx hx=>⟨(ho x hx).1.toLow,(ho x hx).2⟩
 have h5:(a==b)=false:=beq_eq_false_iff_ne.mpr hne;have h6:bA (.str w) (.tup [.str "one",.str "both"])=.ok (.bl false):=by
  rcases hw with rfl|rfl<;>rfl
 have e:aZ ⟨a,b,w,l,o⟩=.tup [.str a,.str b,.str w,fr l,cq o]:=rfl;rw[e];open_line with[m_is_tie,yD,h1,h2,ny,h5,h6,h3,h4]
def Bi{zs:ce}{z:Pq}:(zs.map D.str).any (λd=>cN d (.str z))=decide (z∈zs):=by
 induction zs with
 |nil=>rfl
 |cons y zs ih=>
  rw[Pl,RI,ih];show((y==z)||decide (z∈zs))=_
  by_cases h:y=z
  .subst h;simp
  .have:(y==z)=false:=beq_eq_false_iff_ne.mpr h
   rw[this,Tu];have:z∈y::zs↔z∈zs:=by simp[QB h]
   exact decide_eq_decide.mpr this.symm
def kX{n:Nat}{zs:ce}:(zs.map D.str).all (bg n)=true:=Qi.mpr λd hd=>by
 obtain⟨z,_,rfl⟩:=Pw.mp hd;cases n<;>rfl
def eU{zs:ce}{z:Pq}:pG (.str z) (.lst (zs.map D.str))=.ok (.bl (decide (z∈zs))):=by
 have e:Cd (.str z) (.lst (zs.map D.str))=some (decide (z∈zs)):=(if_pos ⟨rfl,kX⟩).trans (congrArg some Bi);unfold pG;rw[e]
def jq{zs:ce}{z:Pq}:bA (.str z) (.lst (zs.map D.str))=.ok (.bl (!(decide (z∈zs)))):=by
 have e:Cd (.str z) (.lst (zs.map D.str))=some (decide (z∈zs)):=(if_pos ⟨rfl,kX⟩).trans (congrArg some Bi);unfold bA;rw[e]
def lS{zs:ce}{z:Pq}(h:nameB z=true)(hz:z∈zs):m_is_place [.str z,.lst (zs.map D.str)]=.ok (.bl true):=by
 open_line with[m_is_place,tj,k8 h,eU,decide_eq_true hz]
def gC{α:Type}{F:α->D}{xs:List α}{k:Nat}{d:D}(h:(numbered 0 (xs.map F))[k]?=some d):∃x,xs[k]?=some x/\d=.tup [.int (k:Int),F x]:=by
 rw[c4,Pp]at h;cases e:xs[k]? with
 |none=>rw[e]at h;cases h
 |some x=>
  rw[e]at h;cases h;exact⟨x,rfl,by simp⟩
def K0{α:Type}{F:α->D}{xs:List α}{k:Nat}(h:k<=xs.length):lD (xs.map F) none (some (k:Int))=(xs.take k).map F:=by
 rw[jB,HT.sIx_none,HT.sIx_nat,T5 h,List.drop_zero,SU]
def BK{zs:ce}(h2:2<=zs.length)(h7:zs.length<=7)(nm:nR zs):m_look_at_places [.lst (zs.map D.str)]=.ok .non:=by
 obtain⟨ρ',hl,_⟩:=lj (ds:=numbered 0 (zs.map D.str)) (tg:=cB [1,2]) (ρ:=[.sh (.lst (zs.map D.str)),.no,.no])
  (body:=(ao (cH (jP (cU (aq (af (ae 2) ax) m_is_name)) (aa (ae 2) (gm (ae 0) eJ (cj (ae 1))) pG)) (ao cG aj) aj) aj))
  (λk ρ=>∃a b,ρ=[.sh (.lst (zs.map D.str)),a,b]) (by
   rintro k d hd ρ ⟨a,b,rfl⟩;obtain⟨z,hz,rfl⟩:=gC hd;refine⟨_,[.sh (.lst (zs.map D.str)),.sh (.int (k:Int)),.sh (.str z)],jN rfl,?_,_,_,rfl⟩;have hk:k<zs.length:=(Po.mp hz).1;have hnot:decide (z∈zs.take k)=false:=decide_eq_false λhm=>by
    obtain⟨j,hj⟩:=UL.mp hm;have hjk:j<k:=by have:=(Po.mp hj).1;simp at this;omega
    rw[Ri hjk]at hj;exact xy nm.nd hj hz (by omega) rfl
   open_line with[k8 (nm.nm z (PN hz)),K0 (R7 hk),eU,hnot]) ⟨.no,.no,rfl⟩
 have e1:decide ((2:Int)<=(zs.length:Int))=true:=decide_eq_true (by omega);have e2:decide ((zs.length:Int)<=7)=true:=decide_eq_true (by omega);open_line with[m_look_at_places,je,Pg,e1,e2,hl]
def F1{zs:ce}{ts:List cO}(h14:ts.length<=14)(nm:nR zs)(ht:∀t∈ts,ph zs t):m_look_at_ties [.lst (ts.map aZ),.lst (zs.map D.str)]=.ok .non:=by
 obtain⟨ρ',hl,_⟩:=lj (ds:=numbered 0 (ts.map aZ)) (tg:=cB [2,3]) (ρ:=[.sh (.lst (ts.map aZ)),.sh (.lst (zs.map D.str)),.no,.no])
  (body:=(ao (cH (jP (cU (aq (af (ae 3) ax) m_is_tie)) (jP (aa (aa (ae 3) (dC (.int 0)) aC) (ae 1) bA) (aa (aa (ae 3) (dC (.int 1)) aC) (ae 1) bA))) (ao cG aj) aj) aj))
  (λk ρ=>∃a b,ρ=[.sh (.lst (ts.map aZ)),.sh (.lst (zs.map D.str)),a,b]) (by
   rintro k d hd ρ ⟨a,b,rfl⟩;obtain⟨t,ht',rfl⟩:=gC hd;refine⟨_,[.sh (.lst (ts.map aZ)),.sh (.lst (zs.map D.str)),.sh (.int (k:Int)),.sh (aZ t)],jN rfl,?_,_,_,rfl⟩;have hT:=ht t (PN ht');have h1:=C4 nm hT;rw[show aZ t=.tup [.str t.a,.str t.b,.str t.w,fr t.l,cq t.o] from rfl]at h1 ⊢;open_line with[h1,jq,decide_eq_true hT.a,decide_eq_true hT.b]) ⟨.no,.no,rfl⟩
 have e1:decide ((14:Int)<(ts.length:Int))=false:=decide_eq_false (by omega);open_line with[m_look_at_ties,kO,Pg,e1,decide_eq_false (show ¬(ts.length:Int) > 14 by omega),hl]
def yR{w:gB}(h:cD w):m_look_at_web [aO w]=.ok .non:=by
 obtain⟨ps,ts,fi,la⟩:=w;have h1:=BK h.n2 h.n7 h.nm;have h2:=F1 h.t14 h.nm h.ts;have h3:=lS (h.nm.nm fi h.fi) h.fi;have h4:=lS (h.nm.nm la h.la) h.la;have h5:(la==fi)=false:=beq_eq_false_iff_ne.mpr (QB h.ne);rw[show aO ⟨ps,ts,fi,la⟩=.tup [.lst (ps.map D.str),.lst (ts.map aZ),.str fi,.str la] from rfl];open_line with[m_look_at_web,fP,h1,h2,h3,h4,ny,h5]
noncomputable def jQ:bi :=
 (ao (aF 1 (dC (.int 1)))
 (ao (iR (ae 0) (br 2)
 (ao (aF 1 (aa (aa (ae 1) (aq (af (ae 1) (af (aa (ae 2) (dC (.int 1)) aC) ax)) m_common_divisor) jz) (aa (ae 2) (dC (.int 1)) aC) aW))
 aj))
 (ao (aT (ae 1))
 aj)))
def m_shared_bottom:ac->au D:=bj 3 jQ
def tm:bi :=
 (ao (aT (aa (aa (ae 0) (dC (.int 0)) aC) (aa (ae 1) (aa (ae 0) (dC (.int 1)) aC) jz) aW))
 aj)
def m_as_whole:ac->au D:=bj 2 tm
noncomputable def kN:bi :=
 (ao (aF 1 (aq (af (bK 1 [] (ff (ae 0)) (br 0) (aa (ae 0) (dC (.non)) kG) (ae 0)) ax) m_shared_bottom))
 (ao (aT (aq (af (bK 1 [1] (ff (ae 0)) (br 0) mYes (KZ (aa (ae 0) (dC (.non)) ia) (dC (.non)) (aq (af (ae 0) (af (ae 1) ax)) m_as_whole))) (af (ae 1) ax)) eT))
 aj))
def m_on_one_scale:ac->au D:=bj 2 kN
def aN(ks:ci):D:=.lst (ks.map λ(k:Nat)=>D.int (k:Int))
structure iL (w:gB) (ks:ci):Prop where
 up:ks.Pairwise (· < ·)
 wo:∀k∈ks,∃t x,w.ts[k]?=some t/\t.o=some x
def iL.lt{w:gB}{ks:ci}(T:iL w ks):∀k∈ks,k<w.ts.length:=λk hk=>by
 obtain⟨t,x,h1,h2⟩:=T.wo k hk;exact(Po.mp h1).1
def Jh{w:gB}{k:Nat}{t:cO}(h:w.ts[k]?=some t):aC (.lst (w.ts.map aZ)) (.int (k:Int))=.ok (aZ t):=fD (by rw[Pp,h];rfl)
def xw{w:gB}{k:Nat}(h:k<w.ts.length):m_is_tie_number [aO w,.int (k:Int)]=.ok (.bl true):=by
 rw[show aO w=.tup [.lst (w.ps.map D.str),.lst (w.ts.map aZ),.str w.fi,.str w.la] from rfl];open_line with[m_is_tie_number,jS,gf,Lm,Pg,decide_eq_true (show(0:Int)<=(k:Int) by omega),decide_eq_true (show(k:Int)<(w.ts.length:Int) by omega)]
def ux{w:gB}{ks:ci}(W:cD w)(T:iL w ks):m_look_at_taking [aO w,aN ks]=.ok .non:=by
 obtain⟨ρ',hl,_⟩:=lj (ds:=ks.map λ(k:Nat)=>D.int (k:Int)) (tg:=br 3) (ρ:=[.sh (aO w),.sh (aN ks),.sh (.int (-1)),.no])
  (body:=(ao (cH (jP (cU (aq (af (ae 0) (af (ae 3) ax)) m_is_tie_number)) (aa (ae 3) (ae 2) HJ))
   (ao cG aj) aj)
   (ao (cH (aa (aa (aa (aa (ae 0) (dC (.int 1)) aC) (ae 3) aC) (dC (.int 4)) aC) (dC (.non)) ia)
   (ao cG aj) aj)
   (ao (aF 2 (ae 3)) aj))))
  (λj ρ=>∃(ah:Int) (x:Sl),ρ=[.sh (aO w),.sh (aN ks),.sh (.int ah),x]/\∀v∈ks.drop j,ah<(v:Int)) (by
   rintro j d hd ρ ⟨ah,x,rfl,hah⟩;rw[Pp]at hd;cases e:ks[j]? with
   |none=>rw[e]at hd;cases hd
   |some k=>
    rw[e]at hd;cases hd;have hj:j<ks.length:=(Po.mp e).1;have hkm:=PN e;obtain⟨t,y,h1,h2⟩:=T.wo k hkm;have hdr:ks.drop j=k::ks.drop (j+1):=by
     rw[QQ hj]
     congr 1
     rw[Pd hj]at e;exact QF e
    have hk:ah<(k:Int):=hah k (by rw[hdr];exact Pf);refine⟨_,[.sh (aO w),.sh (aN ks),.sh (.int (k:Int)),.sh (.int (k:Int))],rfl,?_,_,_,rfl,λv hv=>?_⟩
    .have hn:=xw (T.lt k hkm)
     have hix:=Jh h1;rw[show aO w=.tup [.lst (w.ps.map D.str),.lst (w.ts.map aZ),.str w.fi,.str w.la] from rfl]at hn ⊢;rw[show aZ t=.tup [.str t.a,.str t.b,.str t.w,fr t.l,cq t.o] from rfl,h2]at hix;open_line with[hn,decide_eq_false (show ¬(k:Int)<=ah by omega),hix,cq,fr,Hq]
    .have hp:(k::ks.drop (j+1)).Pairwise (· < ·):=by rw[←hdr];exact T.up.sublist (List.drop_sublist _ _)
     have:=(List.pairwise_cons.mp hp).1 v hv;omega) ⟨-1,.no,rfl,λv _=>by omega⟩
 have hw:=yR W;unfold aN at hl ⊢;open_line with[m_look_at_taking,cA,hw,hl]
def C3{xs:List bT}{x:bT}:lO (xs++[x])=un (lO xs) x:=by unfold lO;rw[List.foldl_append];rfl
def fu(b:Int)(x:bT):Int:=b / (Qf b x.2:Int)*x.2
def dw(xs:List bT):Int:=xs.foldl fu 1
structure vm (k:Nat) (b:Int):Prop where
 pos:0<b
 bd:b.natAbs<=2 ^ (200*k)
def vF{k:Nat}(h:k<=60):2 ^ (200*k)<pK:=by rw[jJ];exact R5 (by decide) (by omega)
def xT{a b:Int}(h:b≠0):0<(Qf a b:Int):=pT h
def vm.step{k:Nat}{b:Int}{x:bT}(h:vm k b)(hx:bF x):vm (k+1) (fu b x)/\b∣fu b x/\x.2∣fu b x:=by
 have q1:=hx.q1;have hg:0<(Qf b x.2:Int):=xT (by omega);have hd:(Qf b x.2:Int)∣b:=SK ..;have hd2:(Qf b x.2:Int)∣x.2:=Sz ..;have hq:0<b / (Qf b x.2:Int):=Uh h.pos (by omega) hd;refine⟨⟨Su hq (by omega),?_⟩,?_,⟨b / (Qf b x.2:Int),by unfold fu;rw[Th]⟩⟩
 .unfold fu
  rw[Rz,show 200*(k+1)=200*k+200 by omega,S4];refine Sw (Pu (QR _ _) h.bd) (Pu (R7 hx.qN) wD)
 .obtain⟨c,hc⟩:=hd
  obtain⟨d,hd'⟩:=hd2;refine⟨d,?_⟩;unfold fu;generalize (Qf b x.2:Int)=g at *;have e1:b / g=c:=by rw[hc];exact QJ c (by omega)
  rw[e1,hd',hc,←Int.mul_assoc,Th c g]
def zP{xs:List bT}(hx:∀x∈xs,bF x):∀(b:Int) (k:Nat),vm k b->vm (k+xs.length) (xs.foldl fu b)/\b∣xs.foldl fu b/\∀x∈xs,x.2∣xs.foldl fu b:=by
 induction xs with
 |nil=>intro b k h;exact⟨h,Int.dvd_refl b,λx hx=>nomatch hx⟩
 |cons x xs ih=>
  intro b k h;obtain⟨h1,h2,h3⟩:=h.step (hx x Pf);obtain⟨k1,k2,k3⟩:=ih (λy hy=>hx y (Pc _ hy)) _ _ h1;refine⟨?_,Ts h2 k2,λy hy=>?_⟩
  .rw[PL,show k+(xs.length+1)=k+1+xs.length by omega];exact k1
  .rcases Pr.mp hy with rfl|hy
   .exact Ts h3 k2
   .exact k3 y hy
def Fp{L:Sl}:∀(xs:List bT) (k:Nat) (b:Int) (z:Sl),vm k b->k+xs.length<=60->(∀x∈xs,bF x)->∃z',bS (br 2) (ao (aF 1 (aa (aa (ae 1) (aq (af (ae 1) (af (aa (ae 2) (dC (.int 1)) aC) ax)) m_common_divisor) jz) (aa (ae 2) (dC (.int 1)) aC) aW)) aj) (xs.map fr) [L,.sh (.int b),z] =
  .ok (.nx [L,.sh (.int (xs.foldl fu b)),z']):=by
 intro xs
 induction xs with
 |nil=>intro k b z _ _ _;exact⟨z,rfl⟩
 |cons x xs ih=>
  intro k b z h hk hx;have hxx:=hx x Pf;have q1:=hxx.q1;obtain⟨h1,h2,h3⟩:=h.step hxx;simp only[PL]at hk;obtain⟨z',hz'⟩:=ih (k+1) _ (.sh (fr x)) h1 (by omega) (λy hy=>hx y (Pc _ hy));refine⟨z',?_⟩;have hg:0<(Qf b x.2:Int):=xT (by omega);have hdiv:gk b (Qf b x.2:Int)=true:=ot (by omega) (PK h.bd (vF (by omega)));have hb13:(b / (Qf b x.2:Int)).natAbs<pK:=PK (Pu (QR _ _) h.bd) (vF (by omega));have hmul:dg (b / (Qf b x.2:Int)) x.2=true:=fA (Pm hb13 p7) (Pm hxx.qN de);rw[Pl,iF (ρ1:=[L,.sh (.int b),.sh (fr x)]) (ρ2:=[L,.sh (.int (fu b x)),.sh (fr x)]) rfl ?_]
  .exact hz'
  .rw[show fr x=.tup [.int x.1,.int x.2] from rfl]
   open_line with[lr,rX hdiv,jb hg,eV hmul]
   rfl
def Cw{xs:List bT}(hl:xs.length<=60)(hx:∀x∈xs,bF x):m_shared_bottom [.lst (xs.map fr)]=.ok (.int (dw xs)):=by
 obtain⟨z',hz⟩:=Fp (L:=.sh (.lst (xs.map fr))) xs 0 1 .no ⟨by decide,by decide⟩ (by omega) hx;open_line with[m_shared_bottom,jQ,hz]
 rfl
def wI(b:Int):Option bT->D
 |none=>.non
 |some x=>.int (x.1*(b / x.2))
def fV(os:List (Option bT)):List bT:=os.filterMap id
def BZ{os:List (Option bT)}{x:bT}:x∈fV os↔some x∈os:=by unfold fV;simp
def CU{x:bT}{b:Int}(hx:bF x)(hb:b.natAbs<pK):m_as_whole [fr x,.int b]=.ok (.int (x.1*(b / x.2))):=by
 have q1:=hx.q1;have hdiv:gk b x.2=true:=IK (by omega) (Pm hx.qN Lc);have hmul:dg x.1 (b / x.2)=true:=fA (Pm hx.pN de) (Pm (PK (QR _ _) hb) p7);rw[show fr x=.tup [.int x.1,.int x.2] from rfl];open_line with[m_as_whole,tm,rX hdiv,jb (show 0<x.2 by omega),eV hmul]
theorem jk:∀os:List (Option bT),(os.map cq).filter (λd=>!(uQ d))=(fV os).map fr
 |[]=>rfl
 |none::os=>by
  rw[Pl,Qp (by decide),jk os];rfl
 |some x::os=>by
  have:uQ (cq (some x))=false:=rfl;rw[Pl,Rm (by rw[this];rfl),jk os];rfl
def xa{os:List (Option bT)}(hl:os.length<=60)(hx:∀x,some x∈os->bF x):m_on_one_scale [.lst (os.map cq)]=.ok (.tup [.lst (os.map (wI (dw (fV os)))),.int (dw (fV os))]):=by
 have hxs:∀x∈fV os,bF x:=λx h=>hx x (BZ.mp h);have hls:(fV os).length<=60:=Pu (List.length_filterMap_le _ _) hl;have h1:=Cw hls hxs;obtain⟨B,_,_⟩:=zP hxs 1 0 ⟨by decide,by decide⟩;have hb:(dw (fV os)).natAbs<pK:=PK B.bd (vF (by omega));have c1:cC 1 [] (br 0) (aa (ae 0) (dC (.non)) kG) (ae 0) [.sh (.lst (os.map cq)),.no] (os.map cq)=.ok (.lst ((fV os).map fr)):=by
  rw[iG (F:=id) (p:=λd=>!(uQ d)) (by rw[Pg];omega)]
  .rw[List.map_id,jk]
  .intro d hd
   exact⟨[.sh d],rfl,rfl,λ_=>rfl⟩
 have c2:cC 1 [1] (br 0) mYes (KZ (aa (ae 0) (dC (.non)) ia) (dC (.non)) (aq (af (ae 0) (af (ae 1) ax)) m_as_whole)) [.sh (.lst (os.map cq)),.sh (.int (dw (fV os)))] (os.map cq)=.ok (.lst (os.map (wI (dw (fV os))))):=by
  rw[nC (F:=λd=>match d with|.tup [.int p,.int q]=>.int (p*(dw (fV os) / q))|_=>.non) (by rw[Pg];omega)]
  .congr 2
   rw[Qd];apply Sf;intro o _;cases o<;>rfl
  .intro d hd
   obtain⟨o,ho,rfl⟩:=Pw.mp hd;refine⟨[.sh (cq o),.sh (.int (dw (fV os)))],rfl,rfl,?_⟩;cases o with
   |none=>rfl
   |some x=>
    have hw:=CU (hx x ho) hb;rw[show fr x=.tup [.int x.1,.int x.2] from rfl]at hw;rw[show cq (some x)=.tup [.int x.1,.int x.2] from rfl];open_line with[hw]
 open_line with[m_on_one_scale,kN,c1,h1,c2]
theorem qX:∀ns:List Int,fE (ns.map D.int)=some ns
 |[]=>rfl
 |n::ns=>by show(fE (ns.map D.int)).map _=_;rw[qX ns];rfl
def tN:List Int->Int
 |[]=>0
 |a::l=>a+tN l
theorem um:∀a b:List Int,tN (a++b)=tN a+tN b
 |[],b=>by show tN b=0+tN b;omega
 |x::a,b=>by show x+tN (a++b)=x+tN a+tN b;rw[um a b];omega
def Ll(w:gB)(k:Nat):Bool:=((w.ts[k]?).bind cO.o).isSome
def Hj{w:gB}{k:Nat}:Ll w k=true↔∃t x,w.ts[k]?=some t/\t.o=some x:=by
 unfold Ll;cases h:w.ts[k]? with
 |none=>simp
 |some t=>
  show(t.o).isSome=true↔_;rw[Sh];constructor
  .rintro⟨x,hx⟩;exact⟨t,x,rfl,hx⟩
  .rintro⟨t',x,h',hx⟩;cases h';exact⟨x,hx⟩
theorem nX{b:Int}:∀(xs:List bT) (s:bT) (z:Int),(∀x∈xs,x.2∣b)->s.1*b=z*s.2->(xs.foldl un s).1*b=(z+tN (xs.map λx=>x.1*(b / x.2)))*(xs.foldl un s).2
 |[],s,z,_,h=>by show s.1*b=(z+0)*s.2;rw[UI];exact h
 |x::xs,s,z,hd,h=>by
  have hx:b / x.2*x.2=b:=SQ (hd x Pf);have e:(un s x).1*b=(z+x.1*(b / x.2))*(un s x).2:=by
   show(s.1*x.2+x.1*s.2)*b=(z+x.1*(b / x.2))*(s.2*x.2);generalize b / x.2=q at *;have e1:(s.1*x.2+x.1*s.2)*b=(s.1*b)*x.2+x.1*s.2*b:=by grind
   rw[e1,h];rw[←hx]
   grind
  have:=nX xs (un s x) _ (λy hy=>hd y (Pc _ hy)) e;show(xs.foldl un (un s x)).1*b=(z+(x.1*(b / x.2)+tN (xs.map λx=>x.1*(b / x.2))))*_;rw[this,Int.add_assoc];rfl
def Iv(i:Nat)(ρ:Ev)(d:D):au Fl:=if ko d=true then .ok (.nx (ρ.set i (.sh d))) else .stuck
def Hv{i:Nat}{f:am}{ρ:Ev}:Am i f ρ=(f (iP ρ)).bind (Iv i ρ):=rfl
def Mt{x:bT}:jh (fr x) (fr x)=.ok (.bl false):=by
 unfold jh;rw[if_pos ⟨Ak x,Ak x⟩,zH];rfl
def jY{c:am}{s:bi}{n:Nat}{ρ ρ2:Ev}(h1:c (iP ρ)=.ok (.bl true))(h2:s ρ=.ok (.nx ρ2)):bY c s (n+1) ρ=bY c s n ρ2:=by
 conv=>lhs;unfold bY
 rw[h1,h2];rfl
def gO{c:am}{s:bi}{n:Nat}{ρ:Ev}(h1:c (iP ρ)=.ok (.bl false)):bY c s (n+1) ρ=.ok (.nx ρ):=by
 conv=>lhs;unfold bY
 rw[h1];rfl
end Com
namespace DL
open PySem PySem.Spec PyProof.Rows L2
section
variable {X:Cx}{E:XK}{He η:Hp}{e a b:Qa}{es:List Qa}{f g:am}{fa:Ev->au (ac)}{pos:Pos}
def KW(x y:D):au D:=match x,y with
 |.int i,.int j=>.ok (.int (if j<i then j else i))
 |_,_=>.stuck
def K3:pj X E (λxs H Q=>∃i j,xs=[.int i,.int j]/\Q (.int (if j<i then j else i)) H) (m2 KW):=MW λx y v u H Ha Q hs r r' q=>by
 cases x with
 |int i=>
  cases y with|int j=>exact⟨i,j,by rw[ay.mp r,ay.mp r'],bL hs q (ri _)⟩| _=>exact q.elim
 |_=>exact q.elim
def yq:D->D->au D:=vZ (λ_ j=>decide (0<=j)) λi j=>.int (i / 2 ^ j.toNat)
def Fb(ha:DE X E a f)(hb:DE X E b g):DE X E (.BinOp a .RShift b pos) (aa f g yq):=oW JZ (vR (λ_ _ h=>of_decide_eq_true h) λ_ _ _ _=>ri _) ha hb
def oz(x y:D):au D:=match x,y with
 |.lst ds,.lst es=>if ds.length+es.length<=line then .ok (.lst (ds++es)) else .stuck
 |_,_=>.stuck
def zJ(ha:DE X E a f)(hb:DE X E b g):DF X E (.BinOp a .Add b pos) (aa f g oz):=by
 refine⟨?_⟩;refine bp (Ec AJ ha.o hb.o) λσ H Q z9=>?_;obtain⟨Ha,ρ,hs,hr,q⟩:=z9;refine⟨Ha,ρ,hs,hr,?_⟩
 unfold aa at q;cases e1:f ρ with
 |stuck|exn x=>rw[e1]at q;exact q
 |ok x=>
  rw[e1]at q;intro v H1 H01 g1 r1;refine⟨H01,ρ,g1.sub,hr.mono g1.z,?_⟩;cases e2:g ρ with
  |stuck=>simp only[au.bind,e2]at q|exn y=>simp only[au.bind,e2]at q;exact λC ox H' Ha' g' ex=>q C ox H' Ha' (g1.trans g') ex
  |ok y=>
   simp only[au.bind,e2]at q;intro u H2 H02 g2 r2;cases x with
   |lst ds=>
    cases y with
    |lst es=>
     by_cases h:ds.length+es.length<=line
     .simp only[oz,if_pos h]at q
      obtain⟨l,vs,rfl,h1,h2⟩:=aE.mp (r1.mono g2.z);obtain⟨m,us,rfl,k1,k2⟩:=aE.mp r2;refine⟨l,m,vs,us,rfl,rfl,aD.sqL g2.sub h1,aD.sqL g2.sub k1,by rw[←h2.length,←k2.length];exact eC h,λp hp=>?_⟩;have sm:aD H2 (upd H2 p (.lst (vs++us))):=λb o eb=>by rw[aG (by intro z;subst z;rw[hp]at eb;cases eb)];exact eb
      refine q p (vs++us) _ H02 ⟨(g1.s.trans g2.s).trans sm,g1.z.trans g2.z,g2.sub.trans sm,(g1.trans g2).nw⟩ ((g1.s.trans g2.s).free hp) ?_ aP (h2.app k2);cases qq:H02 p with|none=>rfl|some o=>have:=g2.sub _ _ qq;rw[hp]at this;cases this
     .simp only[oz,if_neg h]at q
    |_=>simp only[oz]at q
   |_=>simp only[oz]at q
end
end DL
namespace Cod
open PySem L2 DL Com
noncomputable def gM:bi :=
 (ao (pB 2 (aq ax bO))
 (ao (aF 3 (aq (af (ae 0) ax) (m1 wm)))
 (ao (aF 4 (aa (aa (aa (ae 0) (dC (.int 2147483647)) cn) (dC (.int 48271)) aW) (dC (.int 2147483647)) cn))
 (ao (xb (aq (af (ae 1) ax) (m1 fg)) (br 5)
 (ao (cH (aa (aq (af (ae 0) ax) (m1 wm)) (aa (dC (.int 10)) (dC (.int 18)) jU) MT)
 (ao (bP 2 (aa (ae 3) (aa (ae 1) (ae 5) aC) cn))
 (ao (aF 3 (aa (ae 3) (aa (ae 1) (ae 5) aC) jz))
 aj))
 (ao (aF 4 (aa (aa (aa (aa (aa (ae 4) (ae 4) aW) (aa (dC (.int 69621)) (ae 4) aW) bc) (aa (dC (.int 7919)) (ae 5) aW) bc) (dC (.int 1000003)) bc) (dC (.int 2147483647)) cn))
 (ao (bP 2 (aa (aa (aa (ae 4) (dC (.int 39373)) aW) (dC (.int 2147483629)) cn) (aa (ae 1) (ae 5) aC) cn))
 aj)))
 aj))
 (ao (aT (ae 2))
 aj)))))
def aB:ac->au D:=bj 6 gM
def Ig:jX<B9:=by rw[FE];exact Pm (show jX<2 ^ 200 by decide) (Qz (by decide) (by decide))
def wz{c:Int}:wm (.int c)=.ok (.int (c.natAbs:Int)):=by
 show au.ok (D.int (if c<0 then -c else c))=_
 congr 2
 split<;>omega
def draws_ok(c:Int)(sz:List Int)(hp:∀s∈sz,0<s/\s<=(jX:Int))(hn:sz.length<=900):∃vs,aB [.int c,.lst (sz.map D.int)]=.ok (.lst (vs.map D.int))/\Drawn sz vs:=by
 have hmix0:=dN (a:=c.fmod 2147483647*48271) (b:=2147483647) (by decide);have hcm:=dN (a:=c) (b:=2147483647) (by decide);obtain⟨ρ',hl,vs,hv,hb,lf,mx,x5,rfl,_⟩:=A0 (i:=5) (n:=sz.length)
  (ρ:=[.sh (.int c),.sh (.lst (sz.map D.int)),.ow (.lst []),.sh (.int (c.natAbs:Int)),.sh (.int ((c.fmod 2147483647*48271).fmod 2147483647)),.no])
  (body:=(ao (cH (aa (aq (af (ae 0) ax) (m1 wm)) (aa (dC (.int 10)) (dC (.int 18)) jU) MT)
 (ao (bP 2 (aa (ae 3) (aa (ae 1) (ae 5) aC) cn))
 (ao (aF 3 (aa (ae 3) (aa (ae 1) (ae 5) aC) jz))
 aj))
 (ao (aF 4 (aa (aa (aa (aa (aa (ae 4) (ae 4) aW) (aa (dC (.int 69621)) (ae 4) aW) bc) (aa (dC (.int 7919)) (ae 5) aW) bc) (dC (.int 1000003)) bc) (dC (.int 2147483647)) cn))
 (ao (bP 2 (aa (aa (aa (ae 4) (dC (.int 39373)) aW) (dC (.int 2147483629)) cn) (aa (ae 1) (ae 5) aC) cn))
 aj)))
 aj))
  (λk ρ=>∃vs:List Int,vs.length=k/\(∀(i:Nat) (v s:Int),vs[i]?=some v->sz[i]?=some s->0<=v/\v<s)/\∃(lf mx:Int) (x5:Sl),ρ=[.sh (.int c),.sh (.lst (sz.map D.int)),.ow (.lst (vs.map D.int)),.sh (.int lf),.sh (.int mx),x5]/\0<=mx/\mx<2147483647) (by
   rintro k hk ρ ⟨vs,rfl,hb,lf,mx,x5,rfl,m0,m1_⟩;have hs:=hp sz[vs.length] (Rb hk);have hix:aC (.lst (sz.map D.int)) (.int (vs.length:Int))=.ok (.int sz[vs.length]):=fD (by rw[Pp,Pd hk];rfl);have hsz0:(sz[vs.length]==0)=false:=beq_eq_false_iff_ne.mpr (by omega);have hap:decide ((vs.map D.int).length<=999)=true:=decide_eq_true (by rw[Pg];omega);have hbn:∀v:Int,0<=v->v<sz[vs.length]->∀(i:Nat) (u s:Int),(vs++[v])[i]?=some u->sz[i]?=some s->0<=u/\u<s:=λv v0 v1 i u s e1 e2=>by
    by_cases hi:i<vs.length
    .rw[P0 hi]at e1;exact hb i u s e1 e2
    .have:i=vs.length:=by
      have:=(Po.mp e1).1;simp at this;omega
     subst this;rw[Qc (P1 _),Nat.sub_self]at e1;cases e1;rw[Pd hk]at e2;cases e2;exact⟨v0,v1⟩
   by_cases hc:(1000000000000000000:Int)<=(c.natAbs:Int)
   .have f:=dN (a:=lf) (b:=sz[vs.length]) hs.1
    have hdiv:gk lf sz[vs.length]=true:=IK (by omega) (PK (show sz[vs.length].natAbs<=jX by omega) Ig);refine⟨[.sh (.int c),.sh (.lst (sz.map D.int)),.ow (.lst ((vs++[lf.fmod sz[vs.length]]).map D.int)),.sh (.int (lf.fdiv sz[vs.length])),.sh (.int mx),.sh (.int (vs.length:Int))],?_,vs++[lf.fmod sz[vs.length]],by simp,hbn _ f.1 f.2,_,_,_,rfl,m0,m1_⟩;open_line with[no_df,wz,gW,decide_eq_true hc,decide_eq_true (show(c.natAbs:Int)≥1000000000000000000 from hc),hix,hsz0,cw hap,rX hdiv,Qb]
   .have f1:=dN (a:=mx*mx+69621*mx+7919*(vs.length:Int)+1000003) (b:=2147483647) (by decide)
    generalize hmx:(mx*mx+69621*mx+7919*(vs.length:Int)+1000003).fmod 2147483647=my at f1;have f:=dN (a:=(my*39373).fmod 2147483629) (b:=sz[vs.length]) hs.1;have o1:dg mx mx=true:=i7 (by omega) (by omega);have o2:dg 69621 mx=true:=i7 (by decide) (by omega);have o3:dg 7919 (vs.length:Int)=true:=i7 (by decide) (by omega);have o4:dg my 39373=true:=i7 (by omega) (by decide);refine⟨[.sh (.int c),.sh (.lst (sz.map D.int)),.ow (.lst ((vs++[((my*39373).fmod 2147483629).fmod sz[vs.length]]).map D.int)),.sh (.int lf),.sh (.int my),.sh (.int (vs.length:Int))],?_,vs++[((my*39373).fmod 2147483629).fmod sz[vs.length]],by simp,hbn _ f.1 f.2,_,_,_,rfl,f1.1,f1.2⟩;open_line with[no_df,wz,gW,decide_eq_false hc,decide_eq_false (show ¬(c.natAbs:Int)≥1000000000000000000 from hc),eV o1,eV o2,eV o3,hmx,eV o4,hix,hsz0,cw hap,Qb]) ⟨[],rfl,λi v s e=>(by simp at e),_,_,_,rfl,hmix0.1,hmix0.2⟩
 refine⟨vs,?_,hv,hb⟩;have o0:dg (c.fmod 2147483647) 48271=true:=i7 (by omega) (by decide);open_line with[no_df,aB,gM,wz,eV o0,Pg,nh,xU (show sz.length<=1000000 by omega),hl]
noncomputable def tu:bi :=
 (ao (aF 2 (aq (af (ae 0) ax) (m1 wm)))
 (ao (aF 3 (ae 1))
 (ao (fw (mB 3) (aa (ae 3) (dC (.int 0)) jh)
 (ao (BH 2 3 (af (ae 3) (af (aa (ae 2) (ae 3) cn) ax)))
 aj))
 (ao (aT (aq (af (aa (ae 0) (ae 2) jz) (af (aa (ae 1) (ae 2) jz) ax)) eT))
 aj))))
def bx:ac->au D:=bj 4 tu
theorem xF{A B:Sl}:∀(n:Nat) (a b:Int),0<=a->0<=b->b.natAbs<n->bY (aa (ae 3) (dC (.int 0)) jh) (ao (BH 2 3 (af (ae 3) (af (aa (ae 2) (ae 3) cn) ax))) aj) n [A,B,.sh (.int a),.sh (.int b)]=.ok (.nx [A,B,.sh (.int (Qf a b:Int)),.sh (.int 0)])
 |0,a,b,_,_,h=>absurd h (Nat.not_lt_zero _)
 |n+1,a,b,ha,hb,h=>by
  by_cases h0:b=0
  .subst h0
   have hc:(aa (ae 3) (dC (.int 0)) jh) (iP [A,B,.sh (.int a),.sh (.int 0)])=.ok (.bl false):=by
    cases A<;>cases B<;>rfl
   rw[gO hc];have:((Qf a 0:Nat):Int)=a:=by rw[Int.gcd_zero_right];omega
   rw[this]
  .have hc:(aa (ae 3) (dC (.int 0)) jh) (iP [A,B,.sh (.int a),.sh (.int b)])=.ok (.bl true):=by
    have:(b==0)=false:=beq_eq_false_iff_ne.mpr h0;cases A<;>cases B<;>open_line with[this]
   have f:=dN (a:=a) (b:=b) (by omega);have hb0:(b==0)=false:=beq_eq_false_iff_ne.mpr h0;rw[jY (ρ2:=[A,B,.sh (.int b),.sh (.int (a.fmod b))]) hc ?_,xF n b (a.fmod b) (by omega) f.1 (by omega)]
   .rw[xS]
   .cases A<;>cases B<;>open_line with[hb0]
def low_ok{a b:Int}(hb:0<b)(h1:a.natAbs<pK)(h2:b.natAbs<pK):bx [.int a,.int b]=.ok (fr (cz a b)):=by
 have hg:0<(Qf a b:Int):=pT (by omega);have hgn:(Qf (a.natAbs:Int) b:Int)=(Qf a b:Int):=by
  congr 1
 have hl:=xF (A:=.sh (.int a)) (B:=.sh (.int b)) (b.natAbs+1) (a.natAbs:Int) b (by omega) (by omega) (RN _);rw[hgn]at hl;have hwh:∀(c:am) (s:bi),fw (mB 3) c s [.sh (.int a),.sh (.int b),.sh (.int (a.natAbs:Int)),.sh (.int b)]=bY c s (b.natAbs+1) [.sh (.int a),.sh (.int b),.sh (.int (a.natAbs:Int)),.sh (.int b)]:=λ_ _=>rfl;have d1:(Qf a b:Int)∣a:=SK ..;have d2:(Qf a b:Int)∣b:=Sz ..;have q1:gk a (Qf a b:Int)=true:=ot (by omega) h1;have q2:gk b (Qf a b:Int)=true:=ot (by omega) h2;have e1:a.fdiv (Qf a b:Int)=a / (Qf a b:Int):=jb hg;have e2:b.fdiv (Qf a b:Int)=b / (Qf a b:Int):=jb hg;open_line with[bx,tu,wz,hwh,hl,rX q1,rX q2,e1,e2]
 rfl
noncomputable def dj:bi :=
 (ao (aF 1 (aa (aq (af (dC (.int 0)) (af (aa (aa (ae 0) (dC (.int 1)) aC) (dC (.int 7)) cn) (af (aa (aa (ae 0) (dC (.int 1)) aC) (dC (.int 60)) cn) (af (aa (ae 0) (dC (.int 1)) aC) (af (aa (aa (ae 0) (dC (.int 1)) aC) (dC (.int 1000)) cn) ax))))) bO) (aa (ae 0) (dC (.int 0)) aC) aC))
 (ao (aF 2 (aa (aq (af (dC (.int 1)) (af (dC (.int 1)) (af (aa (dC (.int 1)) (aa (ae 0) (dC (.int 2)) aC) bc) (af (dC (.int 1)) (af (aa (dC (.int 1)) (aa (aa (ae 0) (dC (.int 2)) aC) (dC (.int 4)) cn) bc) ax))))) bO) (aa (ae 0) (dC (.int 0)) aC) aC))
 (ao (aT (aq (af (ae 1) (af (ae 2) ax)) bx))
 aj)))
def aA:ac->au D:=bj 3 dj
def fraction_ok{w a b:Int}(hw:0<=w/\w<5)(ha:0<=a/\a<1000000000000000000)(hb:0<=b/\b<30):∃x:bT,aA [.lst [.int w,.int a,.int b]]=.ok (fr x)/\bF x/\0<=x.1:=by
 have hN:(1000000000000000000000:Int)<(jX:Int):=by decide
 have f7:=dN (a:=a) (b:=7) (by decide);have f60:=dN (a:=a) (b:=60) (by decide);have f1000:=dN (a:=a) (b:=1000) (by decide);have f4:=dN (a:=b) (b:=4) (by decide);obtain⟨p,q,hp,hq,i1,i2⟩:∃p q:Int,(0<=p/\p<1000000000000000000)/\(1<=q/\q<1000)/\aC (.lst [.int 0,.int (a.fmod 7),.int (a.fmod 60),.int a,.int (a.fmod 1000)]) (.int w)=.ok (.int p)/\aC (.lst [.int 1,.int 1,.int (1+b),.int 1,.int (1+b.fmod 4)]) (.int w)=.ok (.int q):=by
  have:w=0∨w=1∨w=2∨w=3∨w=4:=by omega
  rcases this with rfl|rfl|rfl|rfl|rfl
  .exact⟨0,1,by decide,by decide,rfl,rfl⟩
  .exact⟨a.fmod 7,1,by omega,by decide,rfl,rfl⟩
  .exact⟨a.fmod 60,1+b,by omega,by omega,rfl,rfl⟩
  .exact⟨a,1,by omega,by decide,rfl,rfl⟩
  .exact⟨a.fmod 1000,1+b.fmod 4,by omega,by omega,rfl,rfl⟩
 have hlo:=low_ok (a:=p) (b:=q) (by omega) (G7 (by omega) (by omega)) (G7 (by omega) (by omega));refine⟨cz p q,?_,Mx (by omega) (by omega) (by omega),lV (by omega) (by omega)⟩;open_line with[aA,dj,i1,i2,hlo]
noncomputable def nK:bi :=
 (ao (aF 2 (dC (.str "abcdefghijklmnopqrstuvwxyz")))
 (ao (pB 3 (aq ax bO))
 (ao (xb (ae 1) (br 4)
 (ao (aF 5 (gm (ae 0) (cj (aa (dC (.int 10)) (ae 4) aW)) (cj (aa (aa (dC (.int 10)) (ae 4) aW) (dC (.int 10)) bc))))
 (ao (aF 6 (yr (dC (.str "")) (af (bK 1 [2,5] (wY (aa (dC (.int 1)) (aa (ae 5) (dC (.int 0)) aC) bc)) (br 0) mYes (aa (ae 1) (aa (ae 2) (aa (dC (.int 2)) (ae 0) bc) aC) aC)) ax)))
 (ao (cH (gq (aa (ae 4) (dC (.int 0)) yO) (aa (aa (ae 5) (dC (.int 1)) aC) (dC (.int 0)) ij))
 (ao (Am 6 (aa (gm (aa (ae 3) (aa (ae 4) (dC (.int 1)) gJ) aC) eJ (cj (aa (ae 5) (dC (.int 0)) aC))) (aa (ae 2) (aa (ae 5) (dC (.int 2)) aC) aC) bc))
 aj)
 aj)
 (ao (aF 7 (aa (ae 5) (dC (.int 9)) aC))
 (ao (fw (λ_=>30) (aa (ae 6) (ae 3) pG)
 (ao (aF 7 (aa (ae 7) (dC (.int 1)) bc))
 (ao (aF 6 (aa (gm (ae 6) eJ (cj (aS (dC (.int 1)) jV))) (aa (ae 2) (aa (ae 7) (dC (.int 26)) cn) aC) bc))
 aj)))
 (ao (bP 3 (ae 6))
 aj)))))))
 (ao (aT (ae 3))
 aj))))
def c8:ac->au D:=bj 8 nK
def S(cs:ci):Pq:=⟨cs.toArray⟩
def IP{a b:ci}(h:S a=S b):a=b:=by
 have:=congrArg (λs:Pq=>s.cps.toList) h;simpa[S] using this
def nQ(a:ci):(S a).length=a.length:=K1 a
structure tL (cs:ci):Prop where
 l1:1<=cs.length
 l8:cs.length<=8
 ab:∀x∈cs,qZ x=true
def tL.nameB{cs:ci}(h:tL cs):Com.nameB (S cs)=true:=by
 unfold Com.nameB;rw[nQ];simp only[PM,decide_eq_true_eq];exact⟨h.l1,h.l8,Qi.mpr λx hx=>h.ab x (by simpa[S] using hx)⟩
def gV(css:List (ci)):ac:=css.map λcs=>D.str (S cs)
def qY{css:List (ci)}{cs:ci}:pG (.str (S cs)) (.lst (gV css))=.ok (.bl (decide (cs∈css))):=by
 have e:gV css=(css.map S).map D.str:=by unfold gV;rw[Qd];rfl
 rw[e,eU]
 congr 2
 apply decide_eq_decide.mpr;constructor
 .intro h
  obtain⟨b,hb,hs⟩:=Pw.mp h;rw[←IP hs];exact hb
 .exact λh=>Pw.mpr ⟨cs,h,rfl⟩
def HK{cs:ci}(h:1<=cs.length)(h8:cs.length<=1000):BD (.str (S cs)) none (some (-1))=.ok (.str (S cs.dropLast)):=by
 rw[Ai (by rw[nQ];exact h8)]
 congr 2
 have e1:Ss (S cs) none (some (-1))=Ss (S cs) none (some (-1+((S cs).length:Int))):=StrLaws.sliceText_neg_hi (S cs) none (by decide) (by rw[nQ];omega);rw[e1,nQ,show(-1+(cs.length:Int))=((cs.length-1:Nat):Int) by omega,show S cs=⟨cs.toArray⟩ from rfl,qg (by omega)];rw[List.dropLast_eq_take];rfl
def ib(pre:ci)(at_:Int)(i:Nat):ci:=pre++[97+((at_+(i:Int)).fmod 26).toNat]
def HP{pre:ci}{at_:Int}{i:Nat}(hl:pre.length<=7)(hp:∀x∈pre,qZ x=true):tL (ib pre at_ i):=by
 have f:=dN (a:=at_+(i:Int)) (b:=26) (by decide);refine⟨by unfold ib;simp,by unfold ib;simp;omega,λx hx=>?_⟩;unfold ib at hx;rw[Pz]at hx;rcases hx with hx|hx
 .exact hp x hx
 .have:x=97+((at_+(i:Int)).fmod 26).toNat:=by simpa using hx
  rw[this];exact zW _ (by omega)
theorem nodup_le{α:Type}[DecidableEq α]:∀{l m:List α},l.Nodup->(∀x∈l,x∈m)->l.length<=m.length
 |[],_,_,_=>R4 _
 |a::l,m,nd,h=>by
  rw[PZ]at nd;have ha:=h a Pf;have:=nodup_le (l:=l) (m:=m.erase a) nd.2 λx hx=>by
   have hne:x≠a:=λz=>nd.1 (z▸hx);exact(List.mem_erase_of_ne hne).mpr (h x (Pc _ hx))
  rw[List.length_erase_of_mem ha]at this;have:=List.length_pos_of_mem ha;simp only[PL];omega
def Ct{pre:ci}{at_:Int}{css:List (ci)}(h6:css.length<=6):∃j,j<=6/\ib pre at_ (1+j)∉css:=by
 refine Uo λhno=>?_;have hall:∀j,j<=6->ib pre at_ (1+j)∈css:=λj hj=>Uo λhn=>hno ⟨j,hj,hn⟩;have nd:((Qu 7).map λj=>ib pre at_ (1+j)).Nodup:=by
  rw[Rx,TQ];refine Ut ?_ UD;intro k j hk hj hlt heq;rw[Rk]at hk hj;have h1:=List.append_inj_right heq rfl;have h2:97+((at_+((1+k:Nat):Int)).fmod 26).toNat=97+((at_+((1+j:Nat):Int)).fmod 26).toNat:=by simpa using h1
  rw[SY _ (by decide),SY _ (by decide)]at h2;omega
 have:=nodup_le nd (m:=css) λx hx=>by
  obtain⟨j,hj,rfl⟩:=Pw.mp hx;rw[Rk]at hj;exact hall j (by omega)
 simp at this;omega
def AQ{a b c e:D}{css:List (ci)}{cs:ci}{at_:Int}(h1:1<=cs.length)(h8:cs.length<=8):(ao (aF 7 (aa (ae 7) (dC (.int 1)) bc))
 (ao (aF 6 (aa (gm (ae 6) eJ (cj (aS (dC (.int 1)) jV))) (aa (ae 2) (aa (ae 7) (dC (.int 26)) cn) aC) bc))
 aj)) [.sh a,.sh b,.sh (.str "abcdefghijklmnopqrstuvwxyz"),.ow (.lst (gV css)),.sh c,.sh e,.sh (.str (S cs)),.sh (.int at_)]=.ok (.nx [.sh a,.sh b,.sh (.str "abcdefghijklmnopqrstuvwxyz"),.ow (.lst (gV css)),.sh c,.sh e,.sh (.str (S (cs.dropLast++[97+((at_+1).fmod 26).toNat]))),.sh (.int (at_+1))]):=by
 have f:=dN (a:=at_+1) (b:=26) (by decide);have hs:=HK h1 (by omega);have hi:=zV f.1 f.2;have hadd:bc (.str (S cs.dropLast)) (.str ⟨#[97+((at_+1).fmod 26).toNat]⟩)=.ok (.str (S (cs.dropLast++[97+((at_+1).fmod 26).toNat]))):=by
  have hln:(S cs.dropLast).length+(⟨#[97+((at_+1).fmod 26).toNat]⟩:Pq).length<=1000:=by
   rw[nQ,UU];show cs.length-1+1<=1000;omega
  rw[yE hln];exact congrArg (λz=>au.ok (D.str z)) (uX cs.dropLast [97+((at_+1).fmod 26).toNat])
 open_line with[hs,hi,hadd]
def Ew{a b c e:D}{css:List (ci)}{pre:ci}{at_:Int}(hl:pre.length<=7):∀(d i fuel:Nat),ib pre at_ (i+d)∉css->d<fuel->∃i',bY (aa (ae 6) (ae 3) pG)
 (ao (aF 7 (aa (ae 7) (dC (.int 1)) bc))
 (ao (aF 6 (aa (gm (ae 6) eJ (cj (aS (dC (.int 1)) jV))) (aa (ae 2) (aa (ae 7) (dC (.int 26)) cn) aC) bc))
 aj)) fuel [.sh a,.sh b,.sh (.str "abcdefghijklmnopqrstuvwxyz"),.ow (.lst (gV css)),.sh c,.sh e,.sh (.str (S (ib pre at_ i))),.sh (.int (at_+(i:Int)))]=.ok (.nx [.sh a,.sh b,.sh (.str "abcdefghijklmnopqrstuvwxyz"),.ow (.lst (gV css)),.sh c,.sh e,.sh (.str (S (ib pre at_ i'))),.sh (.int (at_+(i':Int)))])/\ib pre at_ i'∉css:=by
 intro d
 induction d with
 |zero=>
  intro i fuel hn hf;obtain⟨f,rfl⟩:∃f,fuel=f+1:=⟨fuel-1,by omega⟩
  have hn:ib pre at_ i∉css:=hn;refine⟨i,?_,hn⟩;rw[gO];have:=qY (css:=css) (cs:=ib pre at_ i);rw[decide_eq_false hn]at this;open_line with[this]
 |succ d ih=>
  intro i fuel hn hf;obtain⟨f,rfl⟩:∃f,fuel=f+1:=⟨fuel-1,by omega⟩
  by_cases hm:ib pre at_ i∈css
  .obtain⟨i',h1,h2⟩:=ih (i+1) f (by rw[show i+1+d=i+(d+1) by omega];exact hn) (by omega)
   refine⟨i',?_,h2⟩;have hst:=AQ (a:=a) (b:=b) (c:=c) (e:=e) (css:=css) (cs:=ib pre at_ i) (at_:=at_+(i:Int)) (by unfold ib;simp) (by unfold ib;simp;omega);have e1:(ib pre at_ i).dropLast++[97+((at_+(i:Int)+1).fmod 26).toNat]=ib pre at_ (i+1):=by
    unfold ib;rw[List.dropLast_concat,show at_+(i:Int)+1=at_+((i+1:Nat):Int) by omega]
   rw[e1,show at_+(i:Int)+1=at_+((i+1:Nat):Int) by omega]at hst;rw[jY ?_ hst]
   .exact h1
   .have:=qY (css:=css) (cs:=ib pre at_ i)
    rw[decide_eq_true hm]at this;open_line with[this]
  .refine⟨i,?_,hm⟩
   rw[gO];have:=qY (css:=css) (cs:=ib pre at_ i);rw[decide_eq_false hm]at this;open_line with[this]
def AO{a b c e:D}{css:List (ci)}{cs:ci}{at_:Int}(h6:css.length<=6)(h:tL cs):∃cs' at',bY (aa (ae 6) (ae 3) pG)
 (ao (aF 7 (aa (ae 7) (dC (.int 1)) bc))
 (ao (aF 6 (aa (gm (ae 6) eJ (cj (aS (dC (.int 1)) jV))) (aa (ae 2) (aa (ae 7) (dC (.int 26)) cn) aC) bc))
 aj)) 30 [.sh a,.sh b,.sh (.str "abcdefghijklmnopqrstuvwxyz"),.ow (.lst (gV css)),.sh c,.sh e,.sh (.str (S cs)),.sh (.int at_)]=.ok (.nx [.sh a,.sh b,.sh (.str "abcdefghijklmnopqrstuvwxyz"),.ow (.lst (gV css)),.sh c,.sh e,.sh (.str (S cs')),.sh (.int at')])/\tL cs'/\cs'∉css:=by
 by_cases hm:cs∈css
 .have hpl:cs.dropLast.length<=7:=by rw[UU];have:=h.l8;omega
  obtain⟨j,hj,hn⟩:=Ct (pre:=cs.dropLast) (at_:=at_) (css:=css) h6;obtain⟨i',h1,h2⟩:=Ew (a:=a) (b:=b) (c:=c) (e:=e) hpl j 1 29 hn (by omega);refine⟨ib cs.dropLast at_ i',at_+(i':Int),?_,HP hpl λx hx=>h.ab x (List.dropLast_subset _ hx),h2⟩;have hst:=AQ (a:=a) (b:=b) (c:=c) (e:=e) (css:=css) (cs:=cs) (at_:=at_) h.l1 h.l8;rw[jY ?_ hst]
  .exact h1
  .have:=qY (css:=css) (cs:=cs)
   rw[decide_eq_true hm]at this;open_line with[this]
 .refine⟨cs,at_,?_,h,hm⟩
  rw[gO];have:=qY (css:=css) (cs:=cs);rw[decide_eq_false hm]at this;open_line with[this]
def Ln:List Int:=[8,3,26,26,26,26,26,26,26,26,8,3,26,26,26,26,26,26,26,26,8,3,26,26,26,26,26,26,26,26,8,3,26,26,26,26,26,26,26,26,8,3,26,26,26,26,26,26,26,26,8,3,26,26,26,26,26,26,26,26,8,3,26,26,26,26,26,26,26,26]
def KJ:∀k,k<7->∀j,j<10->Ln[10*k+j]?=some (if j=0 then 8 else if j=1 then 3 else 26):=by decide
structure Ia (es:List Int):Prop where
 len:es.length=10
 e0:∃v,es[0]?=some v/\0<=v/\v<8
 e1:∃v,es[1]?=some v/\0<=v/\v<3
 el:∀j,2<=j->j<10->∃v,es[j]?=some v/\0<=v/\v<26
def Ji{ds:List Int}(W:Drawn Ln ds){k:Nat}(hk:k<7):Ia ((ds.drop (10*k)).take 10):=by
 have hl:ds.length=70:=W.len;have at_:∀j,j<10->∃v,((ds.drop (10*k)).take 10)[j]?=some v/\0<=v/\v<(if j=0 then 8 else if j=1 then 3 else 26:Int):=λj hj=>by
  rw[Ri hj,RP];obtain⟨v,h1,h2,_⟩:=W.at (10*k+j) (KJ k hk j hj);exact⟨v,h1,h2.1,h2.2⟩
 refine⟨by rw[Ru,R9];omega,?_,?_,λj h2 h10=>?_⟩
 .have:=at_ 0 (by decide);simpa using this
 .have:=at_ 1 (by decide);simpa using this
 .obtain⟨v,h⟩:=at_ j h10
  rw[if_neg (by omega),if_neg (by omega)]at h;exact⟨v,h⟩
def Ia.ix{es:List Int}{j:Nat}{v:Int}(h:es[j]?=some v):aC (.lst (es.map D.int)) (.int (j:Int))=.ok (.int v):=fD (by rw[Pp,h];rfl)
def vt(d:D):au (ac):=match d with
 |.int j=>if -4611686018427387904<=j/\j<4611686018427387904 then .ok (intsFrom 0 j.toNat) else .stuck
 |_=>.stuck
def rn{f:am}{ρ:Ev}:wY f ρ=(f ρ).bind vt:=rfl
def BC{k:Nat}(h:k<=1000000):vt (.int (k:Int))=.ok (intsFrom 0 k):=by
 unfold vt;dsimp only;rw[if_pos ⟨by omega,by omega⟩,QM]
def first(es:List Int)(m:Nat):ci:=(Qu m).map λj=>97+((es[2+j]?).getD 0).toNat
def EY{es:List Int}(T:Ia es){m:Nat}(h1:1<=m)(h8:m<=8):tL (first es m):=by
 refine⟨by unfold first;simpa using h1,by unfold first;simpa using h8,λx hx=>?_⟩;unfold first at hx
 obtain⟨j,hj,rfl⟩:=Pw.mp hx;rw[Rk]at hj;obtain⟨v,e,b⟩:=T.el (2+j) (by omega) (by omega);rw[e,RM];exact zW _ (by omega)
def zF{es:List Int}(T:Ia es){m:Nat}(h8:m<=8){a b n k:D}{x6 x7:Sl}:cC 1 [2,5] (br 0) mYes (aa (ae 1) (aa (ae 2) (aa (dC (.int 2)) (ae 0) bc) aC) aC) [.sh a,.sh b,.sh (.str "abcdefghijklmnopqrstuvwxyz"),.ow n,.sh k,.sh (.lst (es.map D.int)),x6,x7] (intsFrom 0 m)=.ok (.lst ((first es m).map λc=>D.str ⟨#[c]⟩)):=by
 have hlen:(DL.intsFrom 0 m).length=m:=by unfold DL.intsFrom;simp
 rw[nC (F:=λd=>match d with|.int j=>.str ⟨#[97+((es[2+j.toNat]?).getD 0).toNat]⟩|d=>d) (by rw[hlen];omega)]
 .congr 2
  unfold DL.intsFrom first
  rw[Qd,Qd];apply Sf;intro j _;show D.str ⟨#[97+((es[2+(0+(j:Int)).toNat]?).getD 0).toNat]⟩=_;rw[show(0+(j:Int)).toNat=j by omega];rfl
 .intro d hd
  unfold DL.intsFrom at hd;obtain⟨j,hj,rfl⟩:=Pw.mp hd;rw[Rk]at hj;obtain⟨v,e,hb⟩:=T.el (2+j) (by omega) (by omega);refine⟨[.sh (.int (0+(j:Int))),.sh (.str "abcdefghijklmnopqrstuvwxyz"),.sh (.lst (es.map D.int))],rfl,rfl,?_⟩;have hix:aC (.lst (es.map D.int)) (.int (2+(0+(j:Int))))=.ok (.int v):=by
   rw[show(2+(0+(j:Int)))=((2+j:Nat):Int) by omega];exact Ia.ix e
  open_line with[hix,zV hb.1 hb.2]
  rw[show(0+(j:Int)).toNat=j by omega,e];rfl
def yZ{z:Pq}{j:Int}(h:(z.length:Int)<=j):Ss z none (some j)=Ss z none (some (z.length:Int)):=by
 show TK z none (some j)=TK z none (some (z.length:Int));have e:SW none (some j) 1 z.length=SW none (some (z.length:Int)) 1 z.length:=by
  have a:¬j<0:=by omega
  have b:¬((z.length:Int)<0):=by omega
  have c:min j (z.length:Int)=(z.length:Int):=by omega
  have d:min (z.length:Int) (z.length:Int)=(z.length:Int):=by omega
  simp[SW,a,b,c,d]
 unfold TK;rw[e]
def zk{α:Type}{l:List α}{x:α}(h:l.Nodup)(hx:x∉l):(l++[x]).Nodup:=by
 rw[RE];refine⟨h,by simp,λa ha b hb=>?_⟩;have:b=x:=by simpa using hb
 subst this;intro z;subst z;exact hx ha
set_option maxHeartbeats 1000000 in
def Ex{ds:List Int}(W:Drawn Ln ds){n:Nat}(hn:n<=7):∃css:List (ci),c8 [.lst (ds.map D.int),.int (n:Int)]=.ok (.lst (gV css))/\css.length=n/\css.Nodup/\∀cs∈css,tL cs:=by
 have hdl:ds.length=70:=W.len;obtain⟨ρ',hl,css,hc,hnd,hnm,x4,x5,x6,x7,rfl⟩:=A0 (i:=4) (n:=n)
  (ρ:=[.sh (.lst (ds.map D.int)),.sh (.int (n:Int)),.sh (.str "abcdefghijklmnopqrstuvwxyz"),.ow (.lst []),.no,.no,.no,.no])
  (body:=(ao (aF 5 (gm (ae 0) (cj (aa (dC (.int 10)) (ae 4) aW)) (cj (aa (aa (dC (.int 10)) (ae 4) aW) (dC (.int 10)) bc))))
 (ao (aF 6 (yr (dC (.str "")) (af (bK 1 [2,5] (wY (aa (dC (.int 1)) (aa (ae 5) (dC (.int 0)) aC) bc)) (br 0) mYes (aa (ae 1) (aa (ae 2) (aa (dC (.int 2)) (ae 0) bc) aC) aC)) ax)))
 (ao (cH (gq (aa (ae 4) (dC (.int 0)) yO) (aa (aa (ae 5) (dC (.int 1)) aC) (dC (.int 0)) ij))
 (ao (Am 6 (aa (gm (aa (ae 3) (aa (ae 4) (dC (.int 1)) gJ) aC) eJ (cj (aa (ae 5) (dC (.int 0)) aC))) (aa (ae 2) (aa (ae 5) (dC (.int 2)) aC) aC) bc))
 aj)
 aj)
 (ao (aF 7 (aa (ae 5) (dC (.int 9)) aC))
 (ao (fw (λ_=>30) (aa (ae 6) (ae 3) pG)
 (ao (aF 7 (aa (ae 7) (dC (.int 1)) bc))
 (ao (aF 6 (aa (gm (ae 6) eJ (cj (aS (dC (.int 1)) jV))) (aa (ae 2) (aa (ae 7) (dC (.int 26)) cn) aC) bc))
 aj)))
 (ao (bP 3 (ae 6))
 aj)))))))
  (λk ρ=>∃css:List (ci),css.length=k/\css.Nodup/\(∀cs∈css,tL cs)/\∃x4 x5 x6 x7,ρ=[.sh (.lst (ds.map D.int)),.sh (.int (n:Int)),.sh (.str "abcdefghijklmnopqrstuvwxyz"),.ow (.lst (gV css)),x4,x5,x6,x7]) (by
   rintro k hk ρ ⟨css,rfl,hnd,hnm,x4,x5,x6,x7,rfl⟩;have T:=Ji W (k:=css.length) (by omega);generalize hes:(ds.drop (10*css.length)).take 10=es at T;have hcut:lD (ds.map D.int) (some (10*(css.length:Int))) (some (10*(css.length:Int)+10))=es.map D.int:=by
    rw[yw (a:=10*css.length) (b:=10*css.length+10) (by omega) (by omega) (by omega) (by omega),show 10*css.length+10-10*css.length=10 by omega,hes]
   obtain⟨e0,g0,b0,b0'⟩:=T.e0;obtain⟨e1,g1,b1,b1'⟩:=T.e1;obtain⟨e2,g2,b2,b2'⟩:=T.el 2 (by decide) (by decide);obtain⟨e9,g9,b9,b9'⟩:=T.el 9 (by decide) (by decide);have i0:aC (.lst (es.map D.int)) (.int 0)=.ok (.int e0):=Ia.ix (j:=0) g0;have i1:aC (.lst (es.map D.int)) (.int 1)=.ok (.int e1):=Ia.ix (j:=1) g1;have i2:aC (.lst (es.map D.int)) (.int 2)=.ok (.int e2):=Ia.ix (j:=2) g2;have i9:aC (.lst (es.map D.int)) (.int 9)=.ok (.int e9):=Ia.ix (j:=9) g9;obtain⟨m,rfl⟩:=Qw b0;have hm1:dg 10 (css.length:Int)=true:=i7 (by decide) (by omega);have hsrc:vt (.int (1+(m:Int)))=.ok (DL.intsFrom 0 (1+m)):=by
    rw[show(1+(m:Int))=((1+m:Nat):Int) by omega];exact BC (by omega)
   have hjoin:=zx (cs:=first es (1+m)) (by unfold first;simp;omega);have hF:=EY T (m:=1+m) (by omega) (by omega);have hcomp:=λ(x6 x7:Sl)=>zF T (m:=1+m) (by omega) (a:=.lst (ds.map D.int)) (b:=.int (n:Int)) (n:=.lst (gV css)) (k:=.int (css.length:Int)) (x6:=x6) (x7:=x7);have hwh:∀(c:am) (s:bi) (ρ:Ev),fw (λ_=>30) c s ρ=bY c s 30 ρ:=λ_ _ _=>rfl;have hap:decide ((gV css).length<=999)=true:=decide_eq_true (by unfold gV;rw[Pg];omega);have fin:∀cs,cs∉css->tL cs->(css++[cs]).Nodup/\∀c∈css++[cs],tL c:=λcs h1 h2=>⟨zk hnd h1,λc hc=>by
    rw[Pz]at hc;rcases hc with hc|hc
    .exact hnm c hc
    .have:c=cs:=by simpa using hc
     subst this;exact h2⟩
   have hmp:∀cs,gV (css++[cs])=gV css++[.str (S cs)]:=λcs=>by unfold gV;rw[Qb];rfl
   have hS:∀cs:ci,(⟨cs.toArray⟩:Pq)=S cs:=λ_=>rfl;rw[hS]at hjoin;cases hcc:(decide ((css.length:Int) > 0)&&(e1==0)) with
   |false=>
    obtain⟨cs',at',hw,hN,hO⟩:=AO (a:=.lst (ds.map D.int)) (b:=.int (n:Int)) (c:=.int (css.length:Int)) (e:=.lst (es.map D.int)) (css:=css) (cs:=first es (1+m)) (at_:=e9) (by omega) hF;refine⟨[.sh (.lst (ds.map D.int)),.sh (.int (n:Int)),.sh (.str "abcdefghijklmnopqrstuvwxyz"),.ow (.lst (gV (css++[cs']))),.sh (.int (css.length:Int)),.sh (.lst (es.map D.int)),.sh (.str (S cs')),.sh (.int at')],?_,css++[cs'],by simp,(fin cs' hO hN).1,(fin cs' hO hN).2,_,_,_,_,rfl⟩;rw[hmp]
    by_cases hk0:(css.length:Int) > 0
    .have h10:(e1==0)=false:=by rw[decide_eq_true hk0]at hcc;simpa using hcc
     open_line with[no_df,eV hm1,hcut,i0,rn,hsrc,hcomp,hjoin,decide_eq_true hk0,i1,h10,i9,hwh,hw,cw hap]
    .open_line with[no_df,eV hm1,hcut,i0,rn,hsrc,hcomp,hjoin,decide_eq_false hk0,i9,hwh,hw,cw hap]
   |true=>
    rw[PM,decide_eq_true_eq]at hcc;have hk0:=hcc.1;have hlast:css.length-1<css.length:=by omega
    have hpx:=hnm css[css.length-1] (Rb hlast);have hixn:aC (.lst (gV css)) (.int ((css.length:Int)-1))=.ok (.str (S css[css.length-1])):=by
     rw[show((css.length:Int)-1)=((css.length-1:Nat):Int) by omega];exact fD (by unfold gV;rw[Pp,Pd hlast];rfl)
    generalize css[css.length-1]=pv at hixn hpx;have hsl:BD (.str (S pv)) none (some (m:Int))=.ok (.str (S (pv.take m))):=by
     rw[Ai (by rw[nQ];have:=hpx.l8;omega)]
     by_cases hmm:m<=pv.length
     .exact congrArg (λz=>au.ok (D.str z)) (qg hmm)
     .rw[yZ (by rw[nQ];omega),nQ]
      refine congrArg (λz=>au.ok (D.str z)) ((qg (P1 _)).trans ?_);rw[R8,Tf (by omega)];rfl
    have hadd:bc (.str (S (pv.take m))) (.str ⟨#[97+e2.toNat]⟩)=.ok (.str (S (pv.take m++[97+e2.toNat]))):=by
     have hln:(S (pv.take m)).length+(⟨#[97+e2.toNat]⟩:Pq).length<=1000:=by
      rw[nQ,Ru];show min m pv.length+1<=1000;omega
     rw[yE hln];exact congrArg (λz=>au.ok (D.str z)) (uX (pv.take m) [97+e2.toNat])
    have hset:∀(i:Nat) (ρ:Ev) (z:Pq),Iv i ρ (.str z)=.ok (.nx (ρ.set i (.sh (.str z)))):=λ_ _ _=>rfl;have hF2:tL (pv.take m++[97+e2.toNat]):=by
     refine⟨by simp,by simp;omega,λx hx=>?_⟩;rw[Pz]at hx;rcases hx with hx|hx
     .exact hpx.ab x (UT hx)
     .have:x=97+e2.toNat:=by simpa using hx
      rw[this];exact zW _ (by omega)
    obtain⟨cs',at',hw,hN,hO⟩:=AO (a:=.lst (ds.map D.int)) (b:=.int (n:Int)) (c:=.int (css.length:Int)) (e:=.lst (es.map D.int)) (css:=css) (cs:=pv.take m++[97+e2.toNat]) (at_:=e9) (by omega) hF2;refine⟨[.sh (.lst (ds.map D.int)),.sh (.int (n:Int)),.sh (.str "abcdefghijklmnopqrstuvwxyz"),.ow (.lst (gV (css++[cs']))),.sh (.int (css.length:Int)),.sh (.lst (es.map D.int)),.sh (.str (S cs')),.sh (.int at')],?_,css++[cs'],by simp,(fin cs' hO hN).1,(fin cs' hO hN).2,_,_,_,_,rfl⟩;rw[hmp];open_line with[no_df,eV hm1,hcut,i0,rn,hsrc,hcomp,hjoin,decide_eq_true hk0,i1,hcc.2,gJ,hixn,hsl,i2,zV b2 b2',hadd,Hv,hset,i9,hwh,hw,cw hap]) ⟨[],rfl,List.nodup_nil,λc hc=>(nomatch hc),_,_,_,_,rfl⟩
 refine⟨css,?_,hc,hnd,hnm⟩;open_line with[no_df,c8,nK,nh,xU (show n<=1000000 by omega),hl]
noncomputable def eG:bi :=
 (ao (aF 3 (aq (af (ae 0) (af (aq (af (dC (.int 420)) (af (dC (.int 60)) (af (dC (.int 2)) (af (dC (.int 5)) (af (aa (dC (.int 10)) (dC (.int 18)) jU) (af (dC (.int 30)) (af (dC (.int 6)) (af (dC (.int 5)) (af (aa (dC (.int 10)) (dC (.int 18)) jU) (af (dC (.int 30)) (af (dC (.int 3)) ax))))))))))) bO) ax)) aB))
 (ao (aF 4 (aa (aa (ae 3) (dC (.int 0)) aC) (aq (af (ae 2) ax) (m1 fg)) cn))
 (ao (aF 5 (aa (aa (aa (ae 4) (dC (.int 1)) bc) (aa (aa (ae 3) (dC (.int 1)) aC) (aa (aq (af (ae 2) ax) (m1 fg)) (dC (.int 1)) gJ) cn) bc) (aq (af (ae 2) ax) (m1 fg)) cn))
 (ao (cH (aa (aa (ae 3) (dC (.int 10)) aC) (dC (.int 0)) ij)
 (ao (aF 4 (aa (ae 1) (aa (aq (af (ae 2) ax) (m1 fg)) (dC (.int 1)) gJ) cn))
 (ao (aF 5 (aa (ae 4) (dC (.int 1)) bc))
 aj))
 aj)
 (ao (aF 6 (dC (.non)))
 (ao (cH (aa (aa (ae 3) (dC (.int 6)) aC) (dC (.int 0)) yO)
 (ao (aF 6 (aq (af (gm (ae 3) (cj (dC (.int 7))) (cj (dC (.int 10)))) ax) aA))
 (ao (cH (aa (aa (ae 6) (dC (.int 0)) aC) (dC (.int 0)) ij)
 (ao (aF 6 (aq (af (dC (.int 1)) (af (dC (.int 1)) ax)) eT))
 aj)
 aj)
 aj))
 aj)
 (ao (aT (aq (af (aa (ae 2) (ae 4) aC) (af (aa (ae 2) (ae 5) aC) (af (aa (aq (af (dC (.str "one")) (af (dC (.str "both")) ax)) bO) (aa (ae 3) (dC (.int 2)) aC) aC) (af (aq (af (gm (ae 3) (cj (dC (.int 3))) (cj (dC (.int 6)))) ax) aA) (af (ae 6) ax))))) eT))
 aj)))))))
def bQ:ac->au D:=bj 7 eG
def Bq:bF (1,1)/\0<((1,1):bT).1:=⟨⟨⟨by decide,by decide⟩,by decide,by decide⟩,by decide⟩
set_option maxHeartbeats 1000000 in
def Jg{zs:ce}{c:Int}{k:Nat}(h2:2<=zs.length)(h8:zs.length<=8)(nd:zs.Nodup):∃t,bQ [.int c,.int (k:Int),.lst (zs.map D.str)]=.ok (aZ t)/\ph zs t:=by
 obtain⟨vs,hd,W⟩:=draws_ok c [420,60,2,5,1000000000000000000,30,6,5,1000000000000000000,30,3] (by decide) (by decide);have hd':aB [.int c,.lst [.int 420,.int 60,.int 2,.int 5,.int 1000000000000000000,.int 30,.int 6,.int 5,.int 1000000000000000000,.int 30,.int 3]]=.ok (.lst (vs.map D.int)):=hd;obtain⟨d0,g0,b0,i0⟩:=W.ix 0 0 rfl rfl;obtain⟨d1,g1,b1,i1⟩:=W.ix 1 1 rfl rfl;obtain⟨d2,g2,b2,i2⟩:=W.ix 2 2 rfl rfl;obtain⟨d3,g3,b3,_⟩:=W.at 3 rfl;obtain⟨d4,g4,b4,_⟩:=W.at 4 rfl;obtain⟨d5,g5,b5,_⟩:=W.at 5 rfl;obtain⟨d6,g6,b6,i6⟩:=W.ix 6 6 rfl rfl;obtain⟨d7,g7,b7,_⟩:=W.at 7 rfl;obtain⟨d8,g8,b8,_⟩:=W.at 8 rfl;obtain⟨d9,g9,b9,_⟩:=W.at 9 rfl;obtain⟨d10,g10,b10,i10⟩:=W.ix 10 10 rfl rfl;have c3:=MV (x:=3) (y:=6) (i:=3) rfl rfl g3 g4 g5;have c7:=MV (x:=7) (y:=10) (i:=7) rfl rfl g7 g8 g9;obtain⟨x,hx,fx,lx⟩:=fraction_ok (w:=d3) (a:=d4) (b:=d5) b3 b4 b5;obtain⟨y,hy,fy,ly⟩:=fraction_ok (w:=d7) (a:=d8) (b:=d9) b7 b8 b9;obtain⟨wd,hw,jw⟩:=FV b2.1 b2.2;have hn0:((zs.length:Int)==0)=false:=beq_eq_false_iff_ne.mpr (by omega);have hn1:((zs.length:Int)-1==0)=false:=beq_eq_false_iff_ne.mpr (by omega);obtain⟨p,q,hp,hq,hpq,hplace⟩:∃p q:Int,(0<=p/\p<(zs.length:Int))/\(0<=q/\q<(zs.length:Int))/\p≠q/\(((d10==0)=true/\p=(k:Int).fmod ((zs.length:Int)-1)/\q=p+1)∨((d10==0)=false/\p=d0.fmod (zs.length:Int)/\q=(d0.fmod (zs.length:Int)+1+d1.fmod ((zs.length:Int)-1)).fmod (zs.length:Int))):=by
  cases h10:(d10==0) with
  |true=>
   have f:=dN (a:=(k:Int)) (b:=(zs.length:Int)-1) (by omega);exact⟨(k:Int).fmod ((zs.length:Int)-1),(k:Int).fmod ((zs.length:Int)-1)+1,by omega,by omega,by omega,.inl ⟨rfl,rfl,rfl⟩⟩
  |false=>
   have f:=dN (a:=d0) (b:=(zs.length:Int)) (by omega);have f':=dN (a:=d1) (b:=(zs.length:Int)-1) (by omega);obtain⟨hr,hne⟩:=vd (n:=(zs.length:Int)) (d:=d0.fmod (zs.length:Int)) (e:=d1.fmod ((zs.length:Int)-1)) (by omega) f.1 f.2 f'.1 f'.2;exact⟨_,_,f,hr,QB hne,.inr ⟨rfl,rfl,rfl⟩⟩
 obtain⟨z1,k1,j1⟩:=Dd (zs:=zs) hp.1 hp.2;obtain⟨z2,k2,j2⟩:=Dd (zs:=zs) hq.1 hq.2;have hz12:z1≠z2:=xy nd k1 k2 (by omega);have f1:aC (fr y) (.int 0)=.ok (.int y.1):=rfl;obtain⟨o,ho,hworth⟩:∃o:Option bT,(∀v,o=some v->bF v/\0<v.1)/\((¬d6 > 0/\o=none)∨(d6 > 0/\(y.1==0)=true/\o=some (1,1))∨(d6 > 0/\(y.1==0)=false/\o=some y)):=by
  by_cases h6:d6 > 0
  .cases hy0:(y.1==0) with
   |true=>exact⟨some (1,1),λv hv=>by cases hv;exact Bq,.inr (.inl ⟨h6,rfl,rfl⟩)⟩
   |false=>exact⟨some y,λv hv=>by cases hv;exact⟨fy,by have:y.1≠0:=beq_eq_false_iff_ne.mp hy0;omega⟩,.inr (.inr ⟨h6,rfl,rfl⟩)⟩
  .exact⟨none,λv hv=>(nomatch hv),.inl ⟨h6,rfl⟩⟩
 refine⟨⟨z1,z2,wd,x,o⟩,?_,PN k1,PN k2,hz12,hw,fx,lx,ho⟩;rw[show aZ ⟨z1,z2,wd,x,o⟩=.tup [.str z1,.str z2,.str wd,fr x,cq o] from rfl];rcases hplace with⟨h10,e1,e2⟩|⟨h10,e1,e2⟩<;>rcases hworth with⟨h6,e3⟩|⟨h6,hy0,e3⟩|⟨h6,hy0,e3⟩<;>subst e3
 .rw[e2,e1]at j2;rw[e1]at j1
  open_line with[bQ,eG,gW,hd',i0,i1,i2,i6,i10,Pg,hn0,hn1,gJ,h10,decide_eq_false h6,j1,j2,jw,c3,hx]
  rfl
 .rw[e2,e1]at j2;rw[e1]at j1
  open_line with[bQ,eG,gW,hd',i0,i1,i2,i6,i10,Pg,hn0,hn1,gJ,h10,decide_eq_true h6,c7,hy,f1,hy0,j1,j2,jw,c3,hx]
  rfl
 .rw[e2,e1]at j2;rw[e1]at j1
  open_line with[bQ,eG,gW,hd',i0,i1,i2,i6,i10,Pg,hn0,hn1,gJ,h10,decide_eq_true h6,c7,hy,f1,hy0,j1,j2,jw,c3,hx]
  rfl
 .rw[e2]at j2;rw[e1]at j1
  open_line with[bQ,eG,gW,hd',i0,i1,i2,i6,i10,Pg,hn0,hn1,gJ,h10,decide_eq_false h6,j1,j2,jw,c3,hx]
  rfl
 .rw[e2]at j2;rw[e1]at j1
  open_line with[bQ,eG,gW,hd',i0,i1,i2,i6,i10,Pg,hn0,hn1,gJ,h10,decide_eq_true h6,c7,hy,f1,hy0,j1,j2,jw,c3,hx]
  rfl
 .rw[e2]at j2;rw[e1]at j1
  open_line with[bQ,eG,gW,hd',i0,i1,i2,i6,i10,Pg,hn0,hn1,gJ,h10,decide_eq_true h6,c7,hy,f1,hy0,j1,j2,jw,c3,hx]
  rfl
noncomputable def nM:bi :=
 (ao (aF 1 (aq (af (aa (aa (ae 0) (aq (af (dC (.int 0)) ax) bO) bc) (dC (.int 0)) aC) (af (aa (aa (aq (af (dC (.int 6)) (af (dC (.int 420)) (af (dC (.int 60)) ax))) bO) (tU (aa (aq (af (dC (.int 8)) (af (dC (.int 3)) ax)) bO) (tU (aq (af (dC (.int 26)) ax) bO) (dC (.int 8))) oz) (dC (.int 7))) bc) (aq (af (dC (.int 18)) ax) bO) bc) ax)) aB))
 (ao (aF 2 (aq (af (dC (.int 14)) (af (aa (ae 1) (dC (.int 73)) aC) ax)) (m2 KW)))
 (ao (aT (aq (af (gm (ae 0) (cj (dC (.int 1))) (cj (aa (dC (.int 1)) (ae 2) bc))) (af (gm (ae 0) (cj (aa (dC (.int 1)) (ae 2) bc)) (cj (dC (.int 63)))) ax)) eT))
 aj)))
def aJ:ac->au D:=bj 3 nM
def hd0(ns:List Int):Int:=(ns++[0]).headD 0
def AX{ns:List Int}(hn:ns.length<=900){ρ:Ev}(h:ρ[0]?=some (.sh (.lst (ns.map D.int)))):(aa (aa (ae 0) (aq (af (dC (.int 0)) ax) bO) bc) (dC (.int 0)) aC) ρ=.ok (.int (hd0 ns)):=by
 have hadd:bc (.lst (ns.map D.int)) (.lst [.int 0])=.ok (.lst ((ns++[0]).map D.int)):=by
  rw[fI (decide_eq_true (by rw[Pg];simp;omega)),Qb];rfl
 have hix:aC (.lst ((ns++[0]).map D.int)) (.int 0)=.ok (.int (hd0 ns)):=by
  refine fD (k:=0) ?_;unfold hd0;cases ns<;>rfl
 have hv:ae 0 ρ=.ok (.lst (ns.map D.int)):=by
  show(match ρ[0]? with|some (.sh d)=>au.ok d|_=>.stuck)=_;rw[h]
 rw[su,su,hv];open_line with[hadd,hix]
def LQ:List Int:=[6,420,60]++Ln
def Om:List Int:=LQ++[18]
def Jq{ρ:Ev}:(aa (aq (af (dC (.int 6)) (af (dC (.int 420)) (af (dC (.int 60)) ax))) bO) (tU (aa (aq (af (dC (.int 8)) (af (dC (.int 3)) ax)) bO) (tU (aq (af (dC (.int 26)) ax) bO) (dC (.int 8))) oz) (dC (.int 7))) bc) ρ=.ok (.lst (LQ.map D.int)):=rfl
def Jr{ρ:Ev}:(aa (aa (aq (af (dC (.int 6)) (af (dC (.int 420)) (af (dC (.int 60)) ax))) bO) (tU (aa (aq (af (dC (.int 8)) (af (dC (.int 3)) ax)) bO) (tU (aq (af (dC (.int 26)) ax) bO) (dC (.int 8))) oz) (dC (.int 7))) bc) (aq (af (dC (.int 18)) ax) bO) bc) ρ=.ok (.lst (Om.map D.int)):=rfl
def HL{ns:List Int}{lo hi:Option Int}:∃ms:List Int,lD (ns.map D.int) lo hi=ms.map D.int/\ms.length<=ns.length:=by
 rw[jB];exact⟨_,rfl,Pu (List.length_take_le' ..) (by rw[R9];omega)⟩
def Fo{ns:List Int}(hn:ns.length<=63):∃c1 c2:List Int,aJ [.lst (ns.map D.int)]=.ok (.tup [.lst (c1.map D.int),.lst (c2.map D.int)])/\c1.length<=14/\c2.length<=63:=by
 obtain⟨vs,hd,W⟩:=draws_ok (hd0 ns) Om (by decide) (by decide);obtain⟨d,g,b,i⟩:=W.ix 73 73 rfl rfl;have hmin:KW (.int 14) (.int d)=.ok (.int (min 14 d)):=by
  show au.ok (D.int (if d<14 then d else 14))=_
  congr 2
  split<;>omega
 obtain⟨c2,hc2,hl2⟩:=HL (ns:=ns) (lo:=some (1+min 14 d)) (hi:=some 63);obtain⟨m,hm⟩:=Qw (show 0<=min 14 d by omega);have hc1:∃c1:List Int,lD (ns.map D.int) (some 1) (some (1+min 14 d))=c1.map D.int/\c1.length<=14:=by
  rw[jB];refine⟨_,rfl,Pu (List.length_take_le ..) ?_⟩;rw[hm,show(1+(m:Int))=((1+m:Nat):Int) by omega,HT.sIx_nat,show(1:Int)=((1:Nat):Int) from rfl,HT.sIx_nat];omega
 obtain⟨c1,hc1,hl1⟩:=hc1;refine⟨c1,c2,?_,hl1,by omega⟩;have hh:=AX (ns:=ns) (by omega) (ρ:=[.sh (.lst (ns.map D.int)),.no,.no]) rfl;rw[aJ,nM];rw[lZ];show((ao _ _) [.sh (.lst (ns.map D.int)),.no,.no]).bind Dr=_;rw[lY,lX,sq,gH,hh,rM,gY,gH,Jr];open_line with[hd,i,hmin,hc1,hc2]
noncomputable def tq:bi :=
 (ao (aF 1 (aq (af (aa (aa (ae 0) (aq (af (dC (.int 0)) ax) bO) bc) (dC (.int 0)) aC) (af (aa (aq (af (dC (.int 6)) (af (dC (.int 420)) (af (dC (.int 60)) ax))) bO) (tU (aa (aq (af (dC (.int 8)) (af (dC (.int 3)) ax)) bO) (tU (aq (af (dC (.int 26)) ax) bO) (dC (.int 8))) oz) (dC (.int 7))) bc) ax)) aB))
 (ao (aF 2 (aq (af (gm (ae 1) (cj (dC (.int 3))) eJ) (af (aa (dC (.int 2)) (aa (ae 1) (dC (.int 0)) aC) bc) ax)) c8))
 (ao (aF 3 (aa (aa (ae 1) (dC (.int 1)) aC) (aq (af (ae 2) ax) (m1 fg)) cn))
 (ao (aF 4 (aa (aa (aa (ae 3) (dC (.int 1)) bc) (aa (aa (ae 1) (dC (.int 2)) aC) (aa (aq (af (ae 2) ax) (m1 fg)) (dC (.int 1)) gJ) cn) bc) (aq (af (ae 2) ax) (m1 fg)) cn))
 (ao (aF 5 (bK 2 [3,4] (lP (ae 2)) (cB [0,1]) (aa (ae 0) (aq (af (ae 2) (af (ae 3) ax)) eT) bA) (ae 1)))
 (ao (aF 6 (aa (aa (aq (af (aa (ae 2) (ae 3) aC) ax) bO) (ae 5) bc) (aq (af (aa (ae 2) (ae 4) aC) ax) bO) bc))
 (ao (aF 7 (bK 2 [6] (lP (aa (aq (af (ae 0) ax) aJ) (dC (.int 0)) aC)) (cB [0,1]) mYes (aq (af (ae 1) (af (ae 0) (af (ae 2) ax))) bQ)))
 (ao (aT (aq (af (ae 2) (af (ae 7) (af (aa (ae 2) (ae 3) aC) (af (aa (ae 2) (ae 4) aC) ax)))) eT))
 aj))))))))
def c6:ac->au D:=bj 8 tq
def kj{zs:ce}:numbered 0 (zs.map D.str)=(Qu zs.length).map λ(k:Nat)=>D.tup [.int (k:Int),.str (zs[k]?.getD ("" : Pq))]:=by
 apply Sy;intro i;rw[c4,Pp,Pp]
 by_cases h:i<zs.length
 .rw[Pd h,Tq h]
  simp;rw[Pd h];rfl
 .rw[Q7 (by omega),Q7 (by simp;omega)];rfl
def BX{k f l:Nat}:bA (.int (k:Int)) (.tup [.int (f:Int),.int (l:Int)])=.ok (.bl (!(decide (k=f)||decide (k=l)))):=by
 have e:Cd (.int (k:Int)) (.tup [.int (f:Int),.int (l:Int)])=some (decide (k=f)||decide (k=l)):=by
  have e0:Cd (.int (k:Int)) (.tup [.int (f:Int),.int (l:Int)])=some (((f:Int)==(k:Int))||(((l:Int)==(k:Int))||false)):=rfl;rw[e0];refine congrArg some ?_;show(((f:Int)==(k:Int))||(((l:Int)==(k:Int))||false))=_;rw[Bool.or_false]
  congr 1
  .by_cases h:k=f
   .subst h;simp
   .rw[decide_eq_false h];exact beq_eq_false_iff_ne.mpr (by omega)
  .by_cases h:k=l
   .subst h;simp
   .rw[decide_eq_false h];exact beq_eq_false_iff_ne.mpr (by omega)
 unfold bA;rw[e]
def wy(zs:ce)(f l:Nat):ce:=((Qu zs.length).filter λk=>!(decide (k=f)||decide (k=l))).map λ(k:Nat)=>zs[k]?.getD ("" : Pq)
def CB{zs:ce}{f l:Nat}(h:zs.length<=8){a b x5 x6 x7:Sl}:cC 2 [3,4] (cB [0,1]) (aa (ae 0) (aq (af (ae 2) (af (ae 3) ax)) eT) bA) (ae 1) [a,b,.sh (.lst (zs.map D.str)),.sh (.int (f:Int)),.sh (.int (l:Int)),x5,x6,x7] (numbered 0 (zs.map D.str))=.ok (.lst ((wy zs f l).map D.str)):=by
 rw[iG (F:=λd=>match d with|.tup [_,z]=>z|d=>d) (p:=λd=>match d with|.tup [.int k,_]=>!(decide (k.toNat=f)||decide (k.toNat=l))|_=>false) (by rw[cZ,Pg];omega)]
 .congr 2
  rw[kj];unfold wy;rw[T6,Qd,Qd];rfl
 .intro d hd
  rw[kj]at hd;obtain⟨k,_,rfl⟩:=Pw.mp hd;refine⟨[.sh (.int (k:Int)),.sh (.str (zs[k]?.getD ("" : Pq))),.sh (.int (f:Int)),.sh (.int (l:Int))],rfl,?_,λ_=>rfl⟩;open_line with[BX,QM]
def pw(zs:ce)(f l:Nat):ce:=(zs[f]?.getD ("" : Pq))::(wy zs f l++[zs[l]?.getD ("" : Pq)])
def Lh(n f l:Nat):ci:=f::((Qu n).filter (λk=>!(decide (k=f)||decide (k=l)))++[l])
def wM{zs:ce}{f l:Nat}:pw zs f l=(Lh zs.length f l).map λ(k:Nat)=>zs[k]?.getD ("" : Pq):=by
 unfold pw Lh wy;rw[Pl,Qb];rfl
def IY{n f l:Nat}(hfl:f≠l):(Lh n f l).Nodup:=by
 unfold Lh;rw[PZ,RE];refine⟨λh=>?_,List.nodup_range.filter _,by simp,λa ha b hb=>?_⟩
 .rw[Pz]at h
  rcases h with h|h
  .have:=(Ql.mp h).2
   simp at this
  .exact hfl (by simpa using h)
 .have hb':b=l:=by simpa using hb
  subst hb';intro z;subst z;have:=(Ql.mp ha).2;simp at this
def yQ{n f l:Nat}(hf:f<n)(hl:l<n):∀k∈Lh n f l,k<n:=λk hk=>by
 unfold Lh at hk;rw[Pr,Pz]at hk;rcases hk with rfl|hk|hk
 .exact hf
 .exact Rk.mp (Ql.mp hk).1
 .have:k=l:=by simpa using hk
  subst this;exact hl
def z8{zs:ce}(nd:zs.Nodup){f l:Nat}(hf:f<zs.length)(hl:l<zs.length)(hfl:f≠l):(pw zs f l).Nodup:=by
 rw[wM,Rx,TQ];refine Ut ?_ (Rx.mp (IY hfl));intro a b ha hb hab;have h1:=yQ hf hl a ha;have h2:=yQ hf hl b hb;rw[Pd h1,Pd h2,RM,RM];exact λz=>hab ((Tb nd).mp z)
def qc{zs:ce}{f l:Nat}(hf:f<zs.length)(hl:l<zs.length):∀z∈pw zs f l,z∈zs:=λz hz=>by
 rw[wM]at hz;obtain⟨k,hk,rfl⟩:=Pw.mp hz;have h1:=yQ hf hl k hk;rw[Pd h1,RM];exact Rb h1
def CV{zs:ce}(nd:zs.Nodup){f l:Nat}(hf:f<zs.length)(hl:l<zs.length)(hfl:f≠l):2<=(pw zs f l).length/\(pw zs f l).length<=zs.length:=by
 refine⟨by unfold pw;simp,nodup_le (z8 nd hf hl hfl) (qc hf hl)⟩
def Bv{ws:ce}{cs:List Int}(h2:2<=ws.length)(h8:ws.length<=8)(nd:ws.Nodup)(h14:cs.length<=14){x0 x1 x2 x3 x4 x5 x7:Sl}:∃ts:List cO,cC 2 [6] (cB [0,1]) mYes (aq (af (ae 1) (af (ae 0) (af (ae 2) ax))) bQ) [x0,x1,x2,x3,x4,x5,.sh (.lst (ws.map D.str)),x7] (numbered 0 (cs.map D.int))=.ok (.lst (ts.map aZ))/\ts.length=cs.length/\∀t∈ts,ph ws t:=by
 have key:∀(c:Int) (k:Nat),∃t,bQ [.int c,.int (k:Int),.lst (ws.map D.str)]=.ok (aZ t)/\ph ws t:=λc k=>Jg h2 h8 nd;obtain⟨g,hg⟩:∃g:Int->Nat->cO,∀(c:Int) (k:Nat),bQ [.int c,.int (k:Int),.lst (ws.map D.str)]=.ok (aZ (g c k))/\ph ws (g c k):=⟨λc k=>Classical.choose (key c k),λc k=>UM (key c k)⟩
 refine⟨(Qu cs.length).map λ(k:Nat)=>g (cs[k]?.getD 0) k,?_,by simp,λt ht=>?_⟩
 .rw[nC (F:=λd=>match d with|.tup [.int k,.int c]=>aZ (g c k.toNat)|d=>d) (by rw[cZ,Pg];omega)]
  .congr 2
   apply Sy;intro i;rw[Pp,c4,Pp,Pp,Pp]
   by_cases h:i<cs.length
   .rw[Pd h,Tq h]
    show some (aZ (g cs[i] (((0+i:Nat):Int)).toNat))=some (aZ (g (cs[i]?.getD 0) i));rw[Pd h,RM,QM,QL]
   .rw[Q7 (by omega),Q7 (by simp;omega)];rfl
  .intro d hd
   obtain⟨i,hi⟩:=UL.mp hd;rw[c4,Pp]at hi;cases e:cs[i]? with
   |none=>rw[e]at hi;cases hi
   |some c=>
    rw[e]at hi;have hi':D.tup [.int ((0+i:Nat):Int),.int c]=d:=QF hi;rw[QL]at hi';subst hi';refine⟨[.sh (.int (i:Int)),.sh (.int c),.sh (.lst (ws.map D.str))],rfl,rfl,?_⟩;have h:=(hg c i).1;open_line with[h,QM]
 .obtain⟨k,_,rfl⟩:=Pw.mp ht
  exact(hg _ _).2
set_option maxHeartbeats 1000000 in
def web_cells{ns:List Int}(hn:ns.length<=63):∃w,∃c1 c2:List Int,aJ [.lst (ns.map D.int)]=.ok (.tup [.lst (c1.map D.int),.lst (c2.map D.int)])/\c2.length<=63/\w.ts.length=c1.length/\c6 [.lst (ns.map D.int)]=.ok (aO w)/\cD w:=by
 obtain⟨vs,hd,W⟩:=draws_ok (hd0 ns) LQ (by decide) (by decide);have hvl:vs.length=73:=W.len;obtain⟨d0,g0,b0,i0⟩:=W.ix 0 0 rfl rfl;obtain⟨d1,g1,b1,i1⟩:=W.ix 1 1 rfl rfl;obtain⟨d2,g2,b2,i2⟩:=W.ix 2 2 rfl rfl;have W3:Drawn Ln (vs.drop 3):=⟨by rw[R9,hvl];rfl,λi v s e1 e2=>by
  rw[RP]at e1;refine W.bnd (3+i) v s e1 ?_;have:LQ[3+i]?=Ln[i]?:=by
   unfold LQ;rw[Qc (by simp)];simp
  rw[this];exact e2⟩
 obtain⟨m,rfl⟩:=Qw b0.1;obtain⟨css,hnm,hcl,hnd,hall⟩:=Ex W3 (n:=2+m) (by omega);have hnm':c8 [.lst ((vs.drop 3).map D.int),.int (2+(m:Int))]=.ok (.lst ((css.map S).map D.str)):=by
  have:gV css=(css.map S).map D.str:=by unfold gV;rw[Qd];rfl
  rw[←this];exact hnm
 have hzl:(css.map S).length=2+m:=by rw[Pg,hcl]
 have nd:(css.map S).Nodup:=by
  rw[Rx,TQ];exact RU.imp (λh z=>h (IP z)) (Rx.mp hnd)
 have nm:nR (css.map S):=⟨nd,λz hz=>by
  obtain⟨cs,hc,rfl⟩:=Pw.mp hz;exact(hall cs hc).nameB⟩
 generalize css.map S=zs at *;have hcut:lD (vs.map D.int) (some 3) none=(vs.drop 3).map D.int:=by
  rw[jB,HT.sIx_none,show(3:Int)=((3:Nat):Int) from rfl,HT.sIx_nat,hvl];rw[Tf (by rw[R9];omega)];rfl
 have hn0:((zs.length:Int)==0)=false:=beq_eq_false_iff_ne.mpr (by omega);have hn1:((zs.length:Int)-1==0)=false:=beq_eq_false_iff_ne.mpr (by omega);have f1:=dN (a:=d1) (b:=(zs.length:Int)) (by omega);have f2:=dN (a:=d2) (b:=(zs.length:Int)-1) (by omega);obtain⟨hr,hne⟩:=vd (n:=(zs.length:Int)) (d:=d1.fmod (zs.length:Int)) (e:=d2.fmod ((zs.length:Int)-1)) (by omega) f1.1 f1.2 f2.1 f2.2;obtain⟨f,hf⟩:=Qw f1.1;obtain⟨l,hl⟩:=Qw hr.1;have hfn:f<zs.length:=by omega
 have hln:l<zs.length:=by omega
 have hfl:f≠l:=by omega
 have hixf:aC (.lst (zs.map D.str)) (.int (f:Int))=.ok (.str zs[f]):=fD (by rw[Pp,Pd hfn];rfl);have hixl:aC (.lst (zs.map D.str)) (.int (l:Int))=.ok (.str zs[l]):=fD (by rw[Pp,Pd hln];rfl);obtain⟨c1,c2,hcells,hc1,hc2⟩:=Fo hn;obtain⟨w2,w8⟩:=CV nd hfn hln hfl;have hwl:(wy zs f l).length+2=(pw zs f l).length:=by unfold pw;simp
 have a1:bc (.lst [.str zs[f]]) (.lst ((wy zs f l).map D.str))=.ok (.lst (.str zs[f]::(wy zs f l).map D.str)):=by
  rw[fI (decide_eq_true (by rw[Pg];simp;omega))];rfl
 have a2:bc (.lst (.str zs[f]::(wy zs f l).map D.str)) (.lst [.str zs[l]])=.ok (.lst ((pw zs f l).map D.str)):=by
  rw[fI (decide_eq_true (by simp;omega))];unfold pw;rw[Pl,Qb,Pd hfn,Pd hln];rfl
 have hh:=AX (ns:=ns) (by omega) (ρ:=[.sh (.lst (ns.map D.int)),.no,.no,.no,.no,.no,.no,.no]) rfl;obtain⟨ts,hts,htl,htall⟩:=Bv (ws:=pw zs f l) (cs:=c1) w2 (by omega) (z8 nd hfn hln hfl) hc1 (x0:=.sh (.lst (ns.map D.int))) (x1:=.sh (.lst (vs.map D.int))) (x2:=.sh (.lst (zs.map D.str))) (x3:=.sh (.int (f:Int))) (x4:=.sh (.int (l:Int))) (x5:=.sh (.lst ((wy zs f l).map D.str))) (x7:=.no);refine⟨⟨zs,ts,zs[f],zs[l]⟩,c1,c2,hcells,hc2,htl,?_,⟨by show 2<=zs.length;omega,by show zs.length<=7;omega,nm,by show ts.length<=14;omega,λt ht=>?_,Rb hfn,Rb hln,λz=>hfl ((Tb nd).mp z)⟩⟩
 .rw[c6,tq,lZ]
  show((ao _ _) [.sh (.lst (ns.map D.int)),.no,.no,.no,.no,.no,.no,.no]).bind Dr=_;rw[lY,lX,sq,gH,hh,rM,gY,gH,Jq];open_line with[no_df,hd,hcut,i0,hnm',i1,i2,Pg,hn0,hn1,gJ,hf]
  rw[hf]at hl;open_line with[no_df,hl,pU,mF,kq,CB (show zs.length<=8 by omega),hixf,hixl,a1,a2,hcells,hts]
  rfl
 .have T:=htall t ht
  exact⟨qc hfn hln _ T.a,qc hfn hln _ T.b,T.ne,T.w,T.l,T.l0,T.o⟩
end Cod
namespace DL
open PySem PySem.Spec PyProof.Rows L2
section
variable {X:Cx}{E:XK}{a b o:Qa}{f g fo:am}{pos:Pos}
def oX:D->D->au D:=vZ (λ_ _=>true) λi j=>.int (QV i j)
def A7(ha:DE X E a f)(hb:DE X E b g):DE X E (.BinOp a .BitAnd b pos) (aa f g oX):=oW J5 (cY λ_ _ _ _=>ri _) ha hb
end
def NS{α:Type}{us:List α}(h:us.length=1):∃a,us=[a]:=List.length_eq_one_iff.mp h
def Ov{α:Type}{us:List α}(h:us.length=2):∃a b,us=[a,b]:=by
 cases us with|nil=>cases h|cons a us=>obtain⟨b,rfl⟩:=NS (SS h);exact⟨a,b,rfl⟩
def Ou{α:Type}{us:List α}(h:us.length=3):∃a b c,us=[a,b,c]:=by
 cases us with|nil=>cases h|cons a us=>obtain⟨b,c,rfl⟩:=Ov (SS h);exact⟨a,b,c,rfl⟩
def Ot{α:Type}{us:List α}(h:us.length=4):∃a b c d,us=[a,b,c,d]:=by
 cases us with|nil=>cases h|cons a us=>obtain⟨b,c,d,rfl⟩:=Ou (SS h);exact⟨a,b,c,d,rfl⟩
def OV{α:Type}{us:List α}(h:us.length=5):∃a b c d e,us=[a,b,c,d,e]:=by
 cases us with|nil=>cases h|cons a us=>obtain⟨b,c,d,e,rfl⟩:=Ot (SS h);exact⟨a,b,c,d,e,rfl⟩
def OU{α:Type}{us:List α}(h:us.length=6):∃a b c d e f,us=[a,b,c,d,e,f]:=by
 cases us with|nil=>cases h|cons a us=>obtain⟨b,c,d,e,f,rfl⟩:=OV (SS h);exact⟨a,b,c,d,e,f,rfl⟩
def OT{α:Type}{us:List α}(h:us.length=7):∃a b c d e f g,us=[a,b,c,d,e,f,g]:=by
 cases us with|nil=>cases h|cons a us=>obtain⟨b,c,d,e,f,g,rfl⟩:=OU (SS h);exact⟨a,b,c,d,e,f,g,rfl⟩
structure FT (K:Ph) (mg:Pq->Option Pb) (x:Pq) (st:Rv) (ps:ce) (a:Pk) (d:Qy):Prop where
 F:CK K x x st a d
 b:jT K d ps []
 g:mg x=some (.ref a)
noncomputable def QA(K:Ph) (x:Pq) (st:Rv) (a:Pk):Prop:=QT K PH x=some (some (.ref a))/\S9 K (.ref a)=true/\∃oc kV dc pm cd ct od an sl,K.lookup a=some ⟨oc,od,.func (Sd x x (defArgs st) (defBody st) (defScope st) .none kV dc pm an cd ct),sl⟩/\Ub K cd x=true
def MI{K:Ph}{h:PR}{mg:Pq->Option Pb}{x:Pq}{st:Rv}{ps:ce}{a:Pk}(X:K.In h)(G:h.Ns PH mg)(q:QA K x st a)
  (hb:∀(kV doc pm:Pb) (an:Option Pk) (cdv ct:Pb) (us:List Pb),us.length=ps.length->bindArgs (Sd x x (defArgs st) (defBody st) (defScope st) .none kV doc pm an cdv ct) ⟨us,[]⟩=pure (ps.zip us)) :
  ∃d,FT K mg x st ps a d/\∃kV doc pm an cdv ct,d=Sd x x (defArgs st) (defBody st) (defScope st) .none kV doc pm an cdv ct:=by
 obtain⟨e1,e4,oc,kV,dc,pm,cd,ct,od,an,sl,e2,e3⟩:=q;exact⟨_,⟨v8 e2 e3 e4,(v8 (st:=st) e2 e3 e4).binds hb,RK X G e1⟩,_,_,_,_,_,_,rfl⟩
section
variable {X:Cx}{E:XK}{e:Qa}{es:List Qa}{fa:Ev->au (ac)}{f g h i j:am}{pos:Pos}{CX:p6}{k n:Nat}{fn:Pk}{fd:Qy}{ps:ce}{m:ac->au D}{x:Pq}{p:Pos}{st:Rv}
def OB(ρ:Ev)(ds:ac)(h:af f ax ρ=.ok ds):ds.length=1:=lB (λ_ h=>yF h) h
def OA(ρ:Ev)(ds:ac)(q:af f (af g ax) ρ=.ok ds):ds.length=2:=lB (OB ρ) q
def Oz(ρ:Ev)(ds:ac)(q:af f (af g (af h ax)) ρ=.ok ds):ds.length=3:=lB (OA ρ) q
def O4(ρ:Ev)(ds:ac)(q:af f (af g (af h (af i ax))) ρ=.ok ds):ds.length=4:=lB (Oz ρ) q
end
def wJ:ce->ac->Pq->Option D
 |k::ks,d::ds,x=>if k=x then some d else wJ ks ds x
 |_,_,_=>none
def kH(x y:D):au D:=match x,y with
 |.dic ks ds,.str k=>match wJ ks ds k with
  |some d=>.ok d
  |none=>.stuck
 |_,_=>.stuck
def wk(x y:D):au D:=match x,y with
 |.str k,.dic ks ds=>.ok (.bl (wJ ks ds k).isSome)
 |_,_=>.stuck
def jA(x y:D):au D:=match x,y with
 |.str k,.dic ks ds=>.ok (.bl (!(wJ ks ds k).isSome))
 |_,_=>.stuck
theorem wu{K:Ph}{H:Hp}{k:Pq}:∀{ks:ce}{ds:ac}{vs:ad},ks.length=vs.length->Reps K H ds vs ->
  (∀d,wJ ks ds k=some d->∃v,pz ((ks.map QE).zip vs) (QE k:eD)=some v/\Rep K H d v)/\(wJ ks ds k=none->pz ((ks.map QE).zip vs) (QE k:eD)=none)
 |[],ds,vs,hl,r=>by
  exact⟨λd e=>(nomatch e),λ_=>rfl⟩
 |x::ks,ds,vs,hl,r=>by
  cases vs with
  |nil=>cases hl
  |cons v vs=>
   cases ds with
   |nil=>have:=Reps.nil_iff.mp r;cases this
   |cons d ds=>
    obtain⟨v',vr,e0,h1,h2⟩:=az.mp r;cases e0;obtain⟨i1,i2⟩:=wu (k:=k) (ks:=ks) (ds:=ds) (vs:=vs) (by simpa using hl) h2;rw[Pl,QX]
    by_cases hx:x=k
    .subst hx
     refine⟨λd' e=>?_,λe=>?_⟩
     .rw[wJ,if_pos rfl]at e;cases e
      exact⟨v,ma rfl,h1⟩
     .rw[wJ,if_pos rfl]at e;cases e
    .have hne:¬(QE x:eD)=QE k:=λz=>hx (UR z)
     refine⟨λd' e=>?_,λe=>?_⟩
     .rw[wJ,if_neg hx]at e
      rw[jZ hne];exact i1 d' e
     .rw[wJ,if_neg hx]at e
      rw[jZ hne];exact i2 e
section
variable {X:Cx}{E:XK}{a b:Qa}{f g:am}{pos:Pos}
abbrev Mb:R2:=λx y H Q=>∃p v,x=.ref p/\wH H p y (some v)/\Q v H
abbrev Ma:R2:=λy x H Q=>∃p o,x=.ref p/\wH H p y o/\Q (.bl o.isSome) H
abbrev As:R2:=λy x H Q=>∃p o,x=.ref p/\wH H p y o/\Q (.bl (!o.isSome)) H
def G0:yJ X.K E Mb kH:=by
 intro x y v u H Ha Q hs r1 r2 q;unfold kH at q;cases x with
 |dic ks ds=>
  cases y with
  |str k=>
   rw[Rep]at r1;obtain⟨p,kvs,vs,rfl,h1,rfl,hl,h4⟩:=r1;rw[Rep.str_iff.mp r2];cases e:wJ ks ds k with
   |none=>simp only[e]at q;exact q.elim
   |some d=>
    simp only[e]at q;obtain⟨v,hv,rv⟩:=(wu hl h4).1 d e;exact⟨p,v,rfl,.inl ⟨_,.inr k,aD.rd hs h1,rfl,hv.symm⟩,bL hs q rv⟩
  |_=>exact q.elim
 |_=>exact q.elim
def AW{k:Pq}{ks:ce}{ds:ac}{v u:V}{H Ha:Hp}{K:Ph}(hs:aD Ha H)(r1:Rep K Ha (.str k) v)(r2:Rep K Ha (.dic ks ds) u):∃p o,u=.ref p/\wH H p v o/\o.isSome=(wJ ks ds k).isSome:=by
 rw[Rep]at r2;obtain⟨p,kvs,vs,rfl,h1,rfl,hl,h4⟩:=r2;rw[Rep.str_iff.mp r1];refine⟨p,_,rfl,.inl ⟨_,.inr k,aD.rd hs h1,rfl,rfl⟩,?_⟩;cases e:wJ ks ds k with|none=>rw[(wu hl h4).2 e];rfl|some d=>obtain⟨v,hv,_⟩:=(wu hl h4).1 d e;rw[hv];rfl
def En:yJ X.K E Ma wk:=by
 intro x y v u H Ha Q hs r1 r2 q;unfold wk at q;cases x with
 |str k=>
  cases y with
  |dic ks ds=>
   obtain⟨p,o,e1,e2,e3⟩:=AW hs r1 r2;exact⟨p,o,e1,e2,by rw[e3];exact bL hs q (rb _)⟩
  |_=>exact q.elim
 |_=>exact q.elim
def BW:yJ X.K E As jA:=by
 intro x y v u H Ha Q hs r1 r2 q;unfold jA at q;cases x with
 |str k=>
  cases y with
  |dic ks ds=>
   obtain⟨p,o,e1,e2,e3⟩:=AW hs r1 r2;exact⟨p,o,e1,e2,by rw[e3];exact bL hs q (rb _)⟩
  |_=>exact q.elim
 |_=>exact q.elim
def El(hu:X.A.units+1<RY):fR X (Qv .In) Ma:=by
 intro π s σ H x y v u Q I rx ry h;obtain⟨p,o,rfl,g,q⟩:=h;cases ry;exact N8 hu I g rx λs' I'=>⟨.bl o.isSome,H,I',rfl,q⟩
def BQ(hu:X.A.units+1<RY):fR X (Qv .NotIn) As:=by
 intro π s σ H x y v u Q I rx ry h;obtain⟨p,o,rfl,g,q⟩:=h;cases ry;exact HH hu I g rx λs' I'=>⟨.bl (!o.isSome),H,I',rfl,q⟩
def wg(hu:X.A.units+1<RY)(ha:DE X E a f)(hb:DE X E b g)(hs:Lb b:=by intro _ _;rfl):DE X E (.Subscript a b pos) (aa f g kH) :=
 ⟨bp (GL hu ha.o hb.o hs) (iY G0)⟩
end
section
variable {K:Ph}{E:XK}{He η Ha H H1:Hp}{σ:L2.St}{ρ:Ev}
def eZ.putOwnG(h:eZ K He η Ha σ H ρ){i:Nat}{dn:D}{p:Pk}(hp:∀(j:Nat) (a:Pk),σ[j]?=some (some (V.ref a))->a=p->∀d:D,ρ[j]?≠some (Sl.ow d))(he:He p=none)(h0:Ha p=none)(ho:Ic K Ha H p dn)(hx:∀(i j:Nat) (ds:ac) (a:Pk) (P:Nat->Pk),ρ[i]?=some (.ox j ds)->σ[i]?=some (some (.ref a))->M3 K He Ha H a j ds P->∀l,tV j l=true->p≠P l) :
  eZ K He η Ha (σ.set i (some (.ref p))) H (ρ.set i (.ow dn)):=by
 have key:∀(j:Nat) (s:Sl),(ρ.set i (.ow dn))[j]?=some s->(j=i/\s=.ow dn/\i<σ.length)∨(j≠i/\ρ[j]?=some s):=λj s e=>by
  by_cases hj:i=j
  .subst hj
   rw[Tc]at e;cases q:ρ[i]? with
   |none=>rw[q]at e;cases e
   |some s'=>
    rw[q]at e;cases e;refine .inl ⟨rfl,rfl,?_⟩;rw[←h.ln];exact(Po.mp q).1
  .rw[PB hj]at e
   exact .inr ⟨λz=>hj z.symm,e⟩
 have other:∀(k:Nat) (d2:D),k≠i->ρ[k]?=some (.ow d2)->some (some (V.ref p))≠σ[k]?:=λk d2 hk e2 z=>by
  obtain⟨a,h1,_⟩:=h.ow k d2 e2;rw[h1]at z;cases z;exact hp k p h1 rfl d2 e2
 refine⟨h.g,λj d' e=>?_,λj d' e=>?_,λj k d1 d2 hn e1 e2=>?_,by simp[h.ln],h.ex.upd (λj s e=>?_) (aD.refl _) (λa vs _ e=>e) λp us _ h0 hp _=>⟨hp,h0⟩⟩
 rotate_left 3
 .rcases key j _ e with⟨rfl,e',hl⟩|⟨hj,e'⟩
  .exact .inr (.inr (.inr ⟨dn,p,e',by rw[Qj hl],hx⟩))
  .exact .inl ⟨e',by rw[PB (QB hj)]⟩
 .rcases key j _ e with⟨rfl,e',hl⟩|⟨hj,e'⟩
  .cases e'
  .obtain⟨v',h1,h2⟩:=h.rd j d' e'
   exact⟨v',by rw[PB (QB hj)];exact h1,h2⟩
 .rcases key j _ e with⟨rfl,e',hl⟩|⟨hj,e'⟩
  .cases e'
   exact⟨p,by rw[Qj hl],he,h0,ho⟩
  .obtain⟨a,h1,h2⟩:=h.ow j d' e'
   exact⟨a,by rw[PB (QB hj)];exact h1,h2⟩
 .rcases key j _ e1 with⟨rfl,_,hl⟩|⟨hj,e1'⟩
  .rcases key k _ e2 with⟨rfl,_,_⟩|⟨hk,e2'⟩
   .exact absurd rfl hn
   .rw[Qj hl,PB (QB hk)]
    exact other k d2 hk e2'
  .rcases key k _ e2 with⟨rfl,_,hl⟩|⟨hk,e2'⟩
   .rw[Qj hl,PB (QB hj)]
    exact λz=>other j d1 hj e1' z.symm
   .rw[PB (QB hj),PB (QB hk)]
    exact h.ap j k d1 d2 hn e1' e2'
def eZ.writeG(h:eZ K He η Ha σ H ρ){i:Nat}{d:D}{p:Pk}{dn:D}{o:HO}(e:ρ[i]?=some (.ow d))(es:σ[i]?=some (some (.ref p)))(ho:Ic K Ha (upd H p o) p dn) :
  eZ K He η Ha σ (upd H p o) (ρ.set i (.ow dn)):=by
 obtain⟨a,h1,h2,h3,h4⟩:=h.ow i d e;rw[h1]at es;cases es;have hil:i<ρ.length:=(Po.mp e).1;have key:∀(j:Nat) (s:Sl),(ρ.set i (.ow dn))[j]?=some s->(j=i/\s=.ow dn)∨(j≠i/\ρ[j]?=some s):=λj s e=>by
  by_cases hj:i=j
  .subst hj
   rw[Qj hil]at e;cases e;exact .inl ⟨rfl,rfl⟩
  .rw[PB hj]at e
   exact .inr ⟨λz=>hj z.symm,e⟩
 refine⟨⟨λb o' eb=>?_,h.g.z,λb o' eb=>?_,h.g.nw⟩,λj d' e'=>?_,λj d' e'=>?_,λj k d1 d2 hn e1 e2=>?_,by simp[h.ln],h.ex.upd (λj s e'=>?_) (aD.refl _) (λb us _ eb=>?_) λq us _ q0 hq hd=>?_⟩
 rotate_left 5
 .rcases key j _ e' with⟨rfl,e''⟩|⟨hj,e''⟩
  .exact .inr (.inr (.inr ⟨dn,p,e'',h1,λi' j' ds' a' P' x1 x2 x3 l ol=>by
    obtain⟨a2,P2,y1,y2,y3,_⟩:=h.ex.1 i' j' ds' x1;rw[x2]at y1;cases y1;have:P2 l=P' l:=by
     obtain⟨vs1,_,z1,_,y5,_⟩:=x3;obtain⟨vs2,_,z3,_,y4,_⟩:=y2;rw[z1]at z3;cases z3;obtain⟨_,_,_,_,_,z2,_⟩:=y5 l ol;obtain⟨_,_,_,_,_,z4,_⟩:=y4 l ol;rw[z2]at z4;injection z4 with z4;injection z4 with z4;exact z4.symm
    rw[←this];intro zz;rw[zz]at h1;exact y3 j d l ol e h1⟩))
  .exact .inl ⟨e'',rfl⟩
 .rw[aG (by
   intro z;subst z;cases d with
   |lst ds'|dic ks ds'=>obtain⟨vs',h5,_⟩:=h4;rw[h5]at eb;cases eb
   |ob kk ds'=>
    cases kk with|dint ks=>obtain⟨vs',h5,_⟩:=h4;rw[h5]at eb;cases eb| _=>exact h4.elim
   |_=>exact h4)];exact eb
 .have hq':q≠p:=by
   intro z;subst z;exact hd i d e h1
  exact⟨by rw[aG hq'];exact hq,q0⟩
 .rw[aG (by intro z;subst z;rw[h2]at eb;cases eb)];exact h.g.s _ _ eb
 .rw[aG (by intro z;subst z;rw[h3]at eb;cases eb)];exact h.g.sub _ _ eb
 .rcases key j _ e' with⟨rfl,e''⟩|⟨hj,e''⟩
  .cases e''
  .exact h.rd j d' e''
 .rcases key j _ e' with⟨rfl,e''⟩|⟨hj,e''⟩
  .cases e''
   exact⟨p,h1,h2,h3,ho⟩
  .obtain⟨b,k1,k2,k3,k4⟩:=h.ow j d' e''
   refine⟨b,k1,k2,k3,?_⟩;have hb:b≠p:=by
    intro z;subst z;exact h.ap j i d' d hj e'' e (by rw[k1,h1])
   cases d' with
   |lst ds'=>
    obtain⟨vs',h5,h6⟩:=k4;exact⟨vs',by rw[aG hb];exact h5,h6⟩
   |dic ks ds'=>
    obtain⟨vs',h5,hl,h6⟩:=k4;exact⟨vs',by rw[aG hb];exact h5,hl,h6⟩
   |ob kk ds'=>
    cases kk with
    |dint ks=>
     obtain⟨vs',h5,hl,h6⟩:=k4;exact⟨vs',by rw[aG hb];exact h5,hl,h6⟩
    |_=>exact k4.elim
   |_=>exact k4.elim
 .rcases key j _ e1 with⟨rfl,e1'⟩|⟨hj,e1'⟩
  .rcases key k _ e2 with⟨rfl,_⟩|⟨hk,e2'⟩
   .exact absurd rfl hn
   .exact h.ap j k d d2 hn e e2'
  .rcases key k _ e2 with⟨rfl,_⟩|⟨hk,e2'⟩
   .exact h.ap j k d1 d hn e1' e
   .exact h.ap j k d1 d2 hn e1' e2'
end
def DQ:ce->ac->Pq->D->ac
 |k::ks,e::ds,x,d=>(if k=x then d else e)::DQ ks ds x d
 |_,ds,_,_=>ds
def BI(ks:ce)(ds:ac)(k:Pq)(d:D):D:=if k∈ks then .dic ks (DQ ks ds k d) else .dic (ks++[k]) (ds++[d])
theorem Bh{k:Pq}:∀{ks:ce}{vs:ad},ks.length=vs.length->(((ks.map QE).zip vs).any λkv=>decide (kv.1=(QE k:eD)))=decide (k∈ks)
 |[],_,_=>rfl
 |x::ks,[],h=>nomatch h
 |x::ks,v::vs,h=>by
  rw[Pl,QX,RI,Bh (by simpa using h)]
  by_cases hx:x=k
  .subst hx;simp
  .have:¬k=x:=λz=>hx z.symm
   simp[hx,this]
theorem Ar{K:Ph}{H:Hp}{k:Pq}{d:D}{v:V}(r:Rep K H d v):∀{ks:ce}{ds:ac}{vs:ad},ks.length=vs.length->Reps K H ds vs ->
  ∃vs',(((ks.map QE).zip vs).map λkv=>if kv.1=(QE k:eD) then(kv.1,v) else kv)=(ks.map QE).zip vs'/\ks.length=vs'.length/\Reps K H (DQ ks ds k d) vs'
 |[],ds,vs,hl,h=>⟨vs,rfl,hl,by cases ds<;>exact h⟩
 |x::ks,ds,[],hl,h=>nomatch hl
 |x::ks,[],v'::vs,hl,h=>by have:=Reps.nil_iff.mp h;cases this
 |x::ks,e::ds,v'::vs,hl,h=>by
  obtain⟨v2,vr,e0,h1,h2⟩:=az.mp h;cases e0;obtain⟨vs',i1,i2,i3⟩:=Ar r (ks:=ks) (ds:=ds) (vs:=vs) (by simpa using hl) h2;rw[Pl,QX,Pl,i1]
  by_cases hx:x=k
  .subst hx
   refine⟨v::vs',by rw[if_pos rfl];rfl,by simp[i2],?_⟩;rw[DQ,if_pos rfl];exact Reps.cons r i3
  .have hne:¬(QE x:eD)=QE k:=λz=>hx (UR z)
   refine⟨v'::vs',by rw[if_neg hne];rfl,by simp[i2],?_⟩;rw[DQ,if_neg hx];exact Reps.cons h1 i3
theorem Reps.snoc{K:Ph}{H:Hp}{d:D}{v:V}(r:Rep K H d v):∀{ds:ac}{vs:ad},Reps K H ds vs->Reps K H (ds++[d]) (vs++[v])
 |[],vs,h=>by rw[Reps.nil_iff.mp h];exact Reps.cons r Reps.nil
 |e::ds,vs,h=>by
  obtain⟨v2,vr,rfl,h1,h2⟩:=az.mp h;exact Reps.cons h1 (Reps.snoc r h2)
def Gv{K:Ph}{Ha H:Hp}{k:Pq}{d:D}{v:V}{ks:ce}{ds:ac}{vs:ad}{p:Pk}(hl:ks.length=vs.length)(h:Reps K Ha ds vs)(r:Rep K Ha d v):Ic K Ha (upd H p (.dK (j9 ((ks.map QE).zip vs) (QE k) v))) p (BI ks ds k d):=by
 unfold BI;rw[show ∀(kvs:List (eD×V)) (u:V),j9 kvs (QE k:eD) u=if(kvs.any λkv=>decide (kv.1=(QE k:eD)))=true then kvs.map (λkv=>if kv.1=(QE k:eD) then(kv.1,u) else kv) else kvs++[((QE k:eD),u)] from λ_ _=>rfl];rw[Bh hl]
 by_cases hk:k∈ks
 .rw[if_pos hk,if_pos (decide_eq_true hk)]
  obtain⟨vs',i1,i2,i3⟩:=Ar (k:=k) r hl h;exact⟨vs',by rw[aP,i1],i2,i3⟩
 .rw[if_neg hk,if_neg (by rw[decide_eq_false hk];decide)]
  refine⟨vs++[v],by rw[aP,Qb,List.zip_append (by rw[Pg];exact hl)];rfl,by simp[hl],Reps.snoc r h⟩
noncomputable def ON(K:Ph) (E:XK) (f:am):TE:=λσ H Q=>∃Ha ρ,aD Ha H/\eB K Ha σ ρ/\match f ρ with
 |.ok (.dic ks ds)=>∀p vs H' Ha',bf H Ha H' Ha'->H p=none->Ha' p=none->H' p=some (.dK ((ks.map QE).zip vs))->ks.length=vs.length->Reps K Ha' ds vs->Q (.ref p) H'
 |.ok _=>False
 |.exn x=>∀C ox H' Ha',bf H Ha H' Ha'->wK K Ha' x C ox->E C ox H'
 |.stuck=>False
structure OH (X:Cx) (E:XK) (e:Qa) (f:am):Prop where
 o:PE X e (ON X.K E f)
def Ei(i:Nat)(ρ:Ev)(d:D):au Fl:=match d with
 |.dic ks ds=>.ok (.nx (ρ.set i (.ow (.dic ks ds))))
 |_=>.stuck
def Ao(i:Nat)(f:am):bi:=λρ=>(f ρ).bind (Ei i ρ)
section
variable {X:Cx}{E:XK}{He η:Hp}{e b:Qa}{pos:Pos}{f k:am}
def HB{i:Nat}{x:Pq}{pos':Pos}(hN:X.N.Nodup)(hi:X.N[i]?=some x)(hx:Fx X.env.scope x)(he:OH X E e f)(hs:Rt e (some (.Name x pos')) pos.line X.env=pure false:=by rfl)
  (hf:X.fn x=true∨X.env.scope.names.lookup x=some .local := by first|exact .inl rfl|exact .inr rfl|assumption):DS X E He η (.Assign [.Name x pos'] e pos) (Ao i f):=by
 refine⟨?_⟩;refine cu (qv hN hi hx he.o hs hf) λD σ H z9=>?_;obtain⟨Ha,ρ,h,q⟩:=z9;refine⟨Ha,ρ,h.g.sub,h.rd,?_⟩
 unfold Ao at q;cases e1:f ρ with
 |stuck=>rw[e1]at q;exact q|exn x=>rw[e1]at q;exact λC ox H' Ha' g ex=>q C ox H' Ha' (h.g.trans g) ex
 |ok d=>
  rw[e1]at q;cases d with
  |dic ks ds=>
   intro p vs H' Ha' g hp h0 hv hl rp;refine q _ H' Ha' g.z ((h.grow g).putOwnG (dn:=.dic ks ds) (λj a ej ea d ed=>?_) (h.g.s.free hp) h0 ⟨vs,hv,hl,rp⟩ (h.fresh_x g.s hp));subst ea;obtain⟨a',k1,_,_,k4⟩:=h.ow j d ed;rw[ej]at k1;cases k1;cases d with
   |lst ds'|dic ks ds'=>obtain⟨vs',h5,_⟩:=k4;rw[hp]at h5;cases h5
   |ob kk ds'=>
    cases kk with|dint ks=>obtain⟨vs',h5,_⟩:=k4;rw[hp]at h5;cases h5| _=>exact k4.elim
   |_=>exact k4.elim
  |_=>exact q.elim
end
def E9(k d:D):au D:=match k with
 |.str x=>.ok (.dic [x] [d])
 |_=>.stuck
def A8(kf vf:am):am:=aa kf vf E9
def zh(ρ:Ev)(i:Nat)(k:ce->ac->au Fl):au Fl:=match ρ[i]? with
 |some (.ow (.dic ks ds))=>k ks ds
 |_=>.stuck
def oO(i:Nat)(ρ:Ev)(ks:ce)(ds:ac)(d j:D):au Fl:=match j with
 |.str x=>if ks.length<line then .ok (.nx (ρ.set i (.ow (BI ks ds x d)))) else .stuck
 |_=>.stuck
section
variable {X:Cx}{E:XK}{He η:Hp}{e b:Qa}{pos:Pos}{f k:am}
def Cn(hk:DE X E b k)(hv:DE X E e f):OH X E (.Dict [some b] [e] pos) (A8 k f):=by
 refine⟨?_⟩;refine bp (GK (D6 hk.o hv.o Gy) rfl rfl (by simp) (by simp)) λσ H Q ⟨Ha,ρ,hs,hr,q⟩ p hpn=>?_;have h0:Ha p=none:=hs.free hpn;have hs2:aD Ha (upd H p (.dK [])):=λb o e=>by rw[aG (by intro z;subst z;rw[h0]at e;cases e)];exact hs _ _ e
 have back:∀{H' Ha':Hp},bf (upd H p (.dK [])) Ha H' Ha'->bf H Ha H' Ha':=λg=>⟨λb o e=>g.s _ _ (by rw[aG (ba e hpn)];exact e),g.z,g.sub,λa k1 k2=>by
   have:=g.nw a k1 k2
   by_cases ha:a=p
   .subst ha;exact hpn
   .rw[aG ha]at this;exact this⟩
 refine⟨Ha,ρ,hs2,hr,?_⟩;unfold A8 aa at q;cases e1:k ρ with
 |stuck=>rw[e1]at q;exact q|exn z=>rw[e1]at q;exact λC ox H' Ha' g ex=>q C ox H' Ha' (back g) ex
 |ok kd=>
  rw[e1]at q;intro xk H1 H01 g1 r1;refine⟨H01,ρ,g1.sub,hr.mono g1.z,?_⟩;cases e2:f ρ with
  |stuck=>rw[e2]at q;exact q|exn z=>rw[e2]at q;exact λC ox H' Ha' g ex=>q C ox H' Ha' (back (g1.trans g)) ex
  |ok d=>
   rw[e2]at q;intro v H2 H02 g2 r2;cases kd with
   |str x=>
    have G:=g1.trans g2;have hp2:H2 p=some (.dK []):=G.s _ _ aP;have n02:H02 p=none:=by
     cases qq:H02 p with|none=>rfl|some o=>have:=G.nw p (by rw[qq];simp) h0;rw[aP]at this;cases this
    rw[Rep.str_iff.mp r1];refine⟨hp2,[(QE x,v)],rfl,by simp,?_⟩;have q:∀p vs H' Ha',bf H Ha H' Ha'->H p=none->Ha' p=none->H' p=some (.dK (([x].map QE).zip vs))->[x].length=vs.length->Reps X.K Ha' [d] vs->Q (.ref p) H':=q;refine q p [v] _ H02 ⟨λb o e=>?_,G.z,λb o e=>?_,(back G).nw⟩ hpn n02 aP rfl (Reps.cons r2 Reps.nil)
    .rw[aG (ba e hpn)];exact(back G).s _ _ e
    .rw[aG (by intro z;subst z;rw[n02]at e;cases e)];exact G.sub _ _ e
   |_=>exact q.elim
def BN{K:Ph}{Ha H:Hp}{σ:L2.St}{ρ:Ev}{i:Nat}{k:ce->ac->au Fl}{D':jg}(h:eZ K He η Ha σ H ρ)(q:bU K E He η Ha (zh ρ i k) D') :
  ∃ks ds p vs,ρ[i]?=some (.ow (.dic ks ds))/\σ[i]?=some (some (.ref p))/\H p=some (.dK ((ks.map QE).zip vs))/\ks.length=vs.length/\Reps K Ha ds vs/\bU K E He η Ha (k ks ds) D':=by
 unfold zh at q;cases e:ρ[i]? with
 |none=>rw[e]at q;exact q.elim
 |some s=>
  rw[e]at q;cases s with
  |no|sh d|ox j ds|pt a=>exact q.elim
  |ow d=>
   cases d with
   |dic ks ds=>
    obtain⟨p,h1,h2,h3,vs,h4,h5,h6⟩:=h.ow i _ e;exact⟨ks,ds,p,vs,rfl,h1,h4,h5,h6,q⟩
   |_=>exact q.elim
def D0{K:Ph}{Ha H:Hp}{σ:L2.St}{ρ:Ev}{i:Nat}{D':jg}{ks:ce}{ds:ac}{d j:D}{p:Pk}{vs:ad}{v u:V}(h:eZ K He η Ha σ H ρ)(e1:ρ[i]?=some (.ow (.dic ks ds)))(e2:σ[i]?=some (some (.ref p)))(e5:H p=some (.dK ((ks.map QE).zip vs)))(el:ks.length=vs.length)(e6:Reps K Ha ds vs)
  (rp:Rep K Ha d v)(rj:Rep K Ha j u)(q:bU K E He η Ha (oO i ρ ks ds d j) D'):∃a H4,V.ref p=.ref a/\CI H a u v H4/\D'.nx σ H4:=by
 unfold oO at q;cases j with
 |str x=>
  by_cases hl:ks.length<line
  .simp only[if_pos hl]at q
   rw[Rep.str_iff.mp rj];refine⟨p,_,rfl,CI.k (k:=.inr x) e5 ?_,?_⟩
   .rw[List.length_zip,Pg,←el,Nat.min_self]
    have:line<=sizeLine:=eC (P1 _);omega
   .exact q σ _ Ha (aD.refl _) (h.writeG e1 e2 (Gv el e6 rp))
  .simp only[if_neg hl]at q;exact q.elim
 |_=>exact q.elim
end
section
variable {X:Cx}{E:XK}{He η:Hp}{e b o:Qa}{pos apos cpos:Pos}{f k g:am}
def Jd{n:Nat}(h:n+64<RY):n+1<RY:=PK (by omega) h
end
theorem Reps.erase{K:Ph}{H:Hp}:∀{ds:ac}{vs:ad}(n:Nat),Reps K H ds vs->Reps K H (ds.eraseIdx n) (vs.eraseIdx n)
 |[],vs,n,h=>by rw[Reps.nil_iff.mp h];exact Reps.nil
 |d::ds,vs,n,h=>by
  obtain⟨v,vr,rfl,h1,h2⟩:=az.mp h;cases n with|zero=>exact h2|succ n=>exact Reps.cons h1 (Reps.erase n h2)
section
variable {X:Cx}{E:XK}{a b:Qa}{f g:am}{pos:Pos}
def MU(x y:D):au D:=match x,y with
 |.tup [],.tup es=>.ok (.tup es)
 |.tup ds,.tup es=>if ds.isEmpty=false/\ds.length+es.length<=line then .ok (.tup (ds++es)) else .stuck
 |_,_=>.stuck
end
structure Rw where
 x:Pq
 st:Rv
 N:ce
 n:Nat
abbrev Rw.ps(r:Rw):ce:=r.N.take r.n
instance {N P:ce}{sc:Sa}:Decidable (fS N P sc) :=
 decidable_of_iff (sc.kind=.function/\sc.isCoroutine=false/\sc.isGenerator=false/\N.Nodup/\N.take P.length=P/\(∀x∈P,sc.names.lookup x=some .local ∨ sc.names.lookup x=some .cell)/\∀y∈sc.names,y.2≠.free)
  ⟨λ⟨a,b,c,d,e,f,g⟩=>⟨a,b,c,d,e,f,g⟩,λ⟨a,b,c,d,e,f,g⟩=>⟨a,b,c,d,e,f,g⟩⟩
def Ni(rows:List Rw):Prop:=∀r∈rows,fS r.N r.ps (defScope r.st)
instance {rows:List Rw}:Decidable (Ni rows):=inferInstanceAs (Decidable (∀r∈rows,_))
def TG(rows:List Rw)(K:Ph)(mg:Pq->Option Pb)(A:Nat->Pk)(Q:Nat->Qy):Prop:=∀i r,rows[i]?=some r->FT K mg r.x r.st r.ps (A i) (Q i)
def Lp(r:Rw):Prop:=∀(kV doc pm:Pb) (an:Option Pk) (cdv ct:Pb) (us:List Pb),us.length=r.ps.length->bindArgs (Sd r.x r.x (defArgs r.st) (defBody r.st) (defScope r.st) .none kV doc pm an cdv ct) ⟨us,[]⟩=pure (r.ps.zip us)
def QAs(K:Ph):List Rw->List Pk->Prop
 |[],_=>True
 |r::rs,a::as=>QA K r.x r.st a/\QAs K rs as
 |_::_,[]=>False
def QAs.cons{K:Ph}{x:Pq}{st:Rv}{N:ce}{n:Nat}{rs:List Rw}{a:Pk}{as:List Pk}(q:QA K x st a)(t:QAs K rs as):QAs K (⟨x,st,N,n⟩::rs) (a::as):=⟨q,t⟩
theorem Ip{K:Ph}{h:PR}{mg:Pq->Option Pb}(X:K.In h)(G:h.Ns PH mg):∀{rows:List Rw}{as:List Pk},(∀r∈rows,Lp r)->QAs K rows as ->
  ∃Q:Nat->Qy,∀i r,rows[i]?=some r->FT K mg r.x r.st r.ps (as.getD i 0) (Q i)/\∃kV doc pm an cdv ct,Q i=Sd r.x r.x (defArgs r.st) (defBody r.st) (defScope r.st) .none kV doc pm an cdv ct
 |[],as,_,_=>⟨λ_=>default,λi r e=>by simp at e⟩
 |r::rs,[],_,q=>q.elim
 |r::rs,a::as,hb,q=>by
  obtain⟨Q,h⟩:=Ip X G (λr hr=>hb r (Pc _ hr)) q.2;obtain⟨d,h1,h2⟩:=MI X G q.1 (hb r Pf);refine⟨λi=>match i with|0=>d|i+1=>Q i,λi r' e=>?_⟩;cases i with|zero=>rw[Q0]at e;cases e;exact⟨h1,h2⟩|succ i=>rw[Qo]at e;exact h i r' e
structure fv (P:Qe) (w:Qt) (K:Ph) (mg:Pq->Option Pb) (base:PR) (CX:p6) (k:Nat) (fn:Pk) (fd:Qy) (ps:ce) (sp:Sp) (x:Pq) (st:Rv):Prop where
 F:iu P w K mg base CX k fn fd ps sp
 t:FT K mg x st ps fn fd
section
variable {P:Qe}{w:Qt}{K:Ph}{mg:Pq->Option Pb}{base:PR}{rows:List Rw}{A:Nat->Pk}{Q:Nat->Qy}{i k n:Nat}{r:Rw}{s:bi}{sM:Pk->Ev->ac->au MFl}
variable (T:TG rows K mg A Q) (S:Ni rows) (h:rows[i]?=some r)
include T S h
theorem oD(b:∀(cdv:Pb) (A':Qs) (outer:List QN) (s0:Pj) (H Ha:Hp) (E:XK),cV k (A'.deeper (envOfC r.x (defScope r.st) s0.heap.objs.size (A i) cdv)) ->
   CH (pH CX0 P w K mg base r.N r.x (defScope r.st) (A i) cdv A' outer s0 H E).nox E H Ha (defBody r.st) s):fv P w K mg base CX0 (k+1) (A i) (Q i) r.ps (spD K r.ps.length (bj r.N.length s)) r.x r.st :=
 ⟨Cj (T i r h).F (S r (PN h)) b,T i r h⟩
end
section
variable {X:Cx}{E:XK}{e:Qa}{es:List Qa}{fa:Ev->au (ac)}{pos:Pos}{CX:p6}{k k0 n:Nat}{fn:Pk}{fd:Qy}{ps:ce}{m:ac->au D}{x:Pq}{p:Pos}{st:Rv}
def rC(B:fv X.prog X.w X.K X.mg X.base CX k0 fn fd ps (spD X.K n m) x st)(hr:cV k X.A)(ha:DA X E (e::es) fa)(hle:k0<=k:=by decide)(hx:gs CX X E:=by first|exact xn|exact pass0E|exact passesE)(hl:∀ρ ds,fa ρ=.ok ds->ds.length=(e::es).length:=by first|exact OB|exact OA|exact Oz|exact O4|exact al5)(hn:(e::es).length=n:=by rfl)
  (hg:Gl X x:=by exact rfl)(hdb:(x==("__debug__" : Pq))=false:=by decide)(he:PD (e::es) X.env=(false,eval e X.env)::PD es X.env:=by exact bB rfl)(hpl:(Rj pos (PD es X.env)).any (·.1)=false:=by exact dk rfl) :
  DE X E (.Call (.Name x p) (e::es) [] pos) (aq fa m):=HG (B.F.mono hle) hr hg B.t.g B.t.F.kp B.t.b hx ha hn hl hdb he hpl
end
def O2{r:Rw}(hn:r.ps.length=1:=by rfl)(hb:∀(kV doc pm:Pb) (an:Option Pk) (cdv ct b:Pb),bindArgs (Sd r.x r.x (defArgs r.st) (defBody r.st) (defScope r.st) .none kV doc pm an cdv ct) ⟨[b],[]⟩=pure (r.ps.zip [b]):=by intros;rfl):Lp r:=λ_ _ _ _ _ _ us hl=>by
 obtain⟨b,rfl⟩:=NS (hl.trans hn);exact hb ..
def O1{r:Rw}(hn:r.ps.length=2:=by rfl)(hb:∀(kV doc pm:Pb) (an:Option Pk) (cdv ct b c:Pb),bindArgs (Sd r.x r.x (defArgs r.st) (defBody r.st) (defScope r.st) .none kV doc pm an cdv ct) ⟨[b,c],[]⟩=pure (r.ps.zip [b,c]):=by intros;rfl):Lp r:=λ_ _ _ _ _ _ us hl=>by
 obtain⟨b,c,rfl⟩:=Ov (hl.trans hn);exact hb ..
def O0{r:Rw}(hn:r.ps.length=3:=by rfl)(hb:∀(kV doc pm:Pb) (an:Option Pk) (cdv ct b c d:Pb),bindArgs (Sd r.x r.x (defArgs r.st) (defBody r.st) (defScope r.st) .none kV doc pm an cdv ct) ⟨[b,c,d],[]⟩=pure (r.ps.zip [b,c,d]):=by intros;rfl):Lp r:=λ_ _ _ _ _ _ us hl=>by
 obtain⟨b,c,d,rfl⟩:=Ou (hl.trans hn);exact hb ..
def OZ{r:Rw}(hn:r.ps.length=4:=by rfl)(hb:∀(kV doc pm:Pb) (an:Option Pk) (cdv ct b c d e:Pb),bindArgs (Sd r.x r.x (defArgs r.st) (defBody r.st) (defScope r.st) .none kV doc pm an cdv ct) ⟨[b,c,d,e],[]⟩=pure (r.ps.zip [b,c,d,e]):=by intros;rfl):Lp r:=λ_ _ _ _ _ _ us hl=>by
 obtain⟨b,c,d,e,rfl⟩:=Ot (hl.trans hn);exact hb ..
end DL
namespace DL
open PySem L2
section
variable {α β:Type}
def Rf(a b:au α):Prop:=a=.stuck∨a=b
def cX{a b:au α}{f g:α->au β}(h:Rf a b)(k:∀x,Rf (f x) (g x)):Rf (a.bind f) (b.bind g):=by
 rcases h with rfl|rfl
 .exact .inl rfl
 .cases a with
  |ok x=>exact k x
  |exn x=>exact .inr rfl
  |stuck=>exact .inl rfl
structure lH (f g:Ev->au α):Prop where
 o:∀ρ,Rf (f ρ) (g ρ)
end
structure Nj (f g:ac->au D):Prop where
 o:∀ds,Rf (f ds) (g ds)
def Nj.ok{f g:ac->au D}(h:Nj f g){ds:ac}{d:D}(e:f ds=.ok d):g ds=.ok d:=by
 rcases h.o ds with q|q
 .rw[q]at e;cases e
 .rw[←q];exact e
def rfm_refl{f:ac->au D}:Nj f f:=⟨λ_=>.inr rfl⟩
def rf_refl{α:Type}{f:Ev->au α}:lH f f:=⟨λ_=>.inr rfl⟩
section
variable {s s' t t':bi}{c c' f f':am}{fa fa':Ev->au (ac)}{m m':ac->au D}
def rf_stuck:lH cG s:=⟨λ_=>.inl rfl⟩
def rf_seq(h1:lH s s')(h2:lH t t'):lH (ao s t) (ao s' t'):=⟨λρ=>cX (h1.o ρ) λr=>by
 cases r with
 |nx ρ'=>exact h2.o ρ'
 |_=>exact .inr rfl⟩
def rf_if(hc:lH c c')(h1:lH s s')(h2:lH t t'):lH (cH c s t) (cH c' s' t'):=⟨λρ=>cX (hc.o _) λr=>by
 cases r with
 |bl b=>cases b with
  |true=>exact h1.o ρ
  |false=>exact h2.o ρ
 |_=>exact .inr rfl⟩
theorem pM{tg:Ev->D->au Ev}(h:lH s s'):∀(ds:ac) (ρ:Ev),Rf (bS tg s ds ρ) (bS tg s' ds ρ)
 |[],ρ=>.inr rfl
 |d::r,ρ=>by
  unfold bS;refine cX (.inr rfl) λρ1=>cX (h.o ρ1) λx=>?_;cases x with|nx ρ2|ct ρ2=>exact pM h r ρ2|bk ρ2|rt d=>exact .inr rfl
def rf_for{tg:Ev->D->au Ev}(hf:lH f f')(h:lH s s'):lH (iR f tg s) (iR f' tg s'):=⟨λρ=>cX (hf.o ρ) λd=>by
 cases d with
 |lst ds=>exact pM h ds ρ
 |_=>exact .inr rfl⟩
def rf_forI{tg:Ev->D->au Ev}{src:Ev->au (ac)}(h:lH s s'):lH (gz src tg s) (gz src tg s'):=⟨λρ=>cX (.inr rfl) λds=>pM h ds ρ⟩
def rf_drop(h:lH f f'):lH (fX f) (fX f'):=⟨λρ=>cX (h.o _) λ_=>.inr rfl⟩
def rf_ret(h:lH f f'):lH (aT f) (aT f'):=⟨λρ=>cX (h.o _) λ_=>.inr rfl⟩
def rf_set{i:Nat}(h:lH f f'):lH (aF i f) (aF i f'):=⟨λρ=>cX (h.o _) λ_=>.inr rfl⟩
def rf_b1{op:D->au D}(h:lH f f'):lH (aS f op) (aS f' op):=⟨λρ=>cX (h.o _) λ_=>.inr rfl⟩
def rf_not(h:lH f f'):lH (cU f) (cU f'):=rf_b1 h
def rf_b2{op:D->D->au D}(h:lH f f')(h2:lH c c'):lH (aa f c op) (aa f' c' op):=⟨λρ=>cX (h.o _) λ_=>cX (h2.o _) λ_=>.inr rfl⟩
def rf_bA(h:lH fa fa')(hm:Nj m m'):lH (aq fa m) (aq fa' m'):=⟨λρ=>cX (h.o _) λds=>hm.o ds⟩
def rf_cons(h:lH f f')(h2:lH fa fa'):lH (af f fa) (af f' fa'):=⟨λρ=>cX (h.o _) λ_=>cX (h2.o _) λ_=>.inr rfl⟩
end
end DL
local macro_rules|`(tactic|open_line with[rf_go])=>`(tactic|repeat (first|with_reducible exact DL.rf_refl|with_reducible exact DL.rf_stuck|with_reducible assumption|with_reducible exact DL.rfm_refl|with_reducible refine DL.rf_seq ?_ ?_|with_reducible refine DL.rf_if ?_ ?_ ?_|with_reducible refine DL.rf_for ?_ ?_|with_reducible refine DL.rf_forI ?_|with_reducible refine DL.rf_drop ?_|with_reducible refine DL.rf_ret ?_|with_reducible refine DL.rf_set ?_|with_reducible refine DL.rf_not ?_|with_reducible refine DL.rf_bA ?_ ?_|with_reducible refine DL.rf_cons ?_ ?_|with_reducible refine DL.rf_b1 ?_|with_reducible refine DL.rf_b2 ?_ ?_))
namespace Wex
open PySem L2 DL Com
def m_look_at_web:ac->au D:=bj 1 fP
noncomputable def cA:bi :=
 (ao (fX (aq (af (ae 0) ax) m_look_at_web))
 (ao (cH (cU (aS (ae 1) (jy "list")))
 (ao (n9 "NoTaking" (af (dC (.str "a taking is a list")) ax))
 aj)
 aj)
 (ao (aF 2 (aS (dC (.int 1)) jV))
 (ao (iR (ae 1) (br 3)
 (ao (cH (jP (cU (aq (af (ae 0) (af (ae 3) ax)) m_is_tie_number)) (aa (ae 3) (ae 2) HJ))
 (ao (n9 "NoTaking" (af (dC (.str "a taking is of rising numbers of ties")) ax))
 aj)
 aj)
 (ao (cH (aa (aa (aa (aa (ae 0) (dC (.int 1)) aC) (ae 3) aC) (dC (.int 4)) aC) (dC (.non)) ia)
 (ao (n9 "NoTaking" (af (dC (.str "a watched tie can't be taken")) ax))
 aj)
 aj)
 (ao (aF 2 (ae 3))
 aj))))
 aj))))
def m_look_at_taking:ac->au D:=bj 4 cA
end Wex
namespace Nwb
open PySem L2 DL Com
def m_look_at_web:ac->au D:=bj 1 fP
end Nwb
namespace K11
open PySem L2 DL
abbrev m_look_at_web:ac->au D:=Com.m_look_at_web
abbrev m_is_tie_number:ac->au D:=Com.m_is_tie_number
abbrev m_look_at_taking:ac->au D:=Com.m_look_at_taking
noncomputable def eg:bi :=
 (ao (aF 1 (aq (af (aa (ae 0) (dC (.int 0)) aC) (af (aa (ae 0) (dC (.int 1)) aC) ax)) eT))
 (ao (cH (aa (aa (ae 0) (dC (.int 2)) aC) (dC (.str "one")) ij)
 (ao (aT (aq (af (ae 1) ax) bO))
 aj)
 aj)
 (ao (aT (aq (af (ae 1) (af (aq (af (aa (ae 0) (dC (.int 1)) aC) (af (aa (ae 0) (dC (.int 0)) aC) ax)) eT) ax)) bO))
 aj)))
def m_steps_along:ac->au D:=bj 2 eg
end K11
namespace K12
open PySem L2 DL
abbrev m_look_at_web:ac->au D:=Com.m_look_at_web
abbrev m_is_tie_number:ac->au D:=Com.m_is_tie_number
abbrev m_look_at_taking:ac->au D:=Com.m_look_at_taking
end K12
namespace K51
open PySem L2 DL
abbrev m_is_length:ac->au D:=Com.m_is_length
abbrev m_look_at_web:ac->au D:=Com.m_look_at_web
noncomputable def b_has_lengths:bi :=
 (ao (cH (jP (cU (aS (ae 1) (jy "list"))) (aa (aq (af (ae 1) ax) (m1 fg)) (aq (af (aa (ae 0) (dC (.int 1)) aC) ax) (m1 fg)) jh))
 (ao (aT (dC (.bl false)))
 aj)
 aj)
 (ao (aT (aq (af (bK 1 [] (ff (ae 1)) (br 0) mYes (aq (af (ae 0) ax) m_is_length)) ax) (m1 sI)))
 aj))
def m_has_lengths:ac->au D:=bj 2 b_has_lengths
abbrev m_is_tie_number:ac->au D:=Com.m_is_tie_number
abbrev m_look_at_taking:ac->au D:=Com.m_look_at_taking
abbrev m_steps_along:ac->au D:=K11.m_steps_along
noncomputable def gK:bi :=
 (ao (pB 2 (aq ax bO))
 (ao (gz (lP (aa (ae 0) (dC (.int 1)) aC)) (cB [3,4])
 (ao (cH (aa (ae 3) (ae 1) bA)
 (ao (iR (aq (af (ae 4) ax) m_steps_along) (cB [5,6])
 (ao (bP 2 (aq (af (ae 3) (af (ae 5) (af (ae 6) ax))) eT))
 aj))
 aj)
 aj)
 aj))
 (ao (aT (ae 2))
 aj)))
def m_steps_left:ac->au D:=bj 7 gK
end K51
namespace K17
open PySem L2 DL
abbrev m_look_at_web:ac->au D:=Com.m_look_at_web
abbrev m_is_tie_number:ac->au D:=Com.m_is_tie_number
abbrev m_look_at_taking:ac->au D:=Com.m_look_at_taking
end K17
namespace K11
open PySem L2 DL Com
def eW{x y:Pq}:ij (.str x) (.str y)=.ok (.bl (decide (x=y))):=by
 have h:ij (.str x) (.str y)=.ok (.bl (x==y)):=rfl;rw[h]
 by_cases e:x=y
 .rw[decide_eq_true e,e,beq_self_eq_true]
 .rw[decide_eq_false e,beq_eq_false_iff_ne.mpr e]
def BE{m:Nat}{ks:ci}:(ks.map λ(k:Nat)=>D.int (k:Int)).all (bg m)=true:=Qi.mpr λd hd=>by
 obtain⟨z,_,rfl⟩:=Pw.mp hd;cases m<;>rfl
theorem Bj{n:Nat}:∀{ks:ci},((ks.map λ(k:Nat)=>D.int (k:Int)).any λd=>cN d (.int (n:Int)))=decide (n∈ks)
 |[]=>rfl
 |k::ks=>by
  rw[Pl,RI,Bj];have e:cN (.int (k:Int)) (.int (n:Int))=((k:Int)==(n:Int)):=by rw[cN]
  rw[e]
  by_cases h:n=k
  .subst h;simp
  .have h1:((k:Int)==(n:Int))=false:=beq_eq_false_iff_ne.mpr (by omega)
   rw[h1,Tu];have:n∈k::ks↔n∈ks:=by simp[h]
   exact decide_eq_decide.mpr this.symm
def notIn_nums{ks:ci}{n:Nat}:bA (.int (n:Int)) (.lst (ks.map λ(k:Nat)=>D.int (k:Int)))=.ok (.bl (!(decide (n∈ks)))):=by
 have e:Cd (.int (n:Int)) (.lst (ks.map λ(k:Nat)=>D.int (k:Int)))=some (decide (n∈ks)):=(if_pos ⟨rfl,BE⟩).trans (congrArg some Bj);unfold bA;rw[e]
def KA{α β:Type}{x:Lf}{k:α->au β}:(au.exn x).bind k=.exn x:=rfl
end K11
namespace K51
open PySem L2 DL Com
theorem uY{α:Type}{B:Ev}{tg:Ev->D->au Ev}{tt fe:am}(g:α->D)(pk:α->Option D):∀(L:List α),(∀a∈L,∃ρ1,tg B (g a)=.ok ρ1/\((pk a=none/\tt ρ1=.ok (.bl false))∨(∃d,pk a=some d/\tt ρ1=.ok (.bl true)/\fe ρ1=.ok d)))->bN B tg tt fe (L.map g)=.ok (L.filterMap pk)
 |[],_=>rfl
 |a::L,h=>by
  obtain⟨ρ1,h1,h2⟩:=h a Pf;have ih:=uY g pk L λd hd=>h d (Pc _ hd);rw[Pl];unfold bN;rw[h1,Cy];rcases h2 with⟨e,h2⟩|⟨d,e,h2,h3⟩
  .rw[h2,Cy]
   show bN B tg tt fe (L.map g)=_;rw[ih,List.filterMap_cons_none e]
  .rw[h2,Cy]
   show(fe ρ1).bind _=_;rw[h3,Cy,ih,Cy,List.filterMap_cons_some e]
def comp_pick{α:Type}{n:Nat}{fr':ci}{ρ:Ev}{tg:Ev->D->au Ev}{tt fe:am}(g:α->D)(pk:α->Option D){L:List α}(hl:L.length<=1000000)(h:∀a∈L,∃ρ1,tg (cS n fr' ρ) (g a)=.ok ρ1/\((pk a=none/\tt ρ1=.ok (.bl false))∨(∃d,pk a=some d/\tt ρ1=.ok (.bl true)/\fe ρ1=.ok d))):cC n fr' tg tt fe ρ (L.map g)=.ok (.lst (L.filterMap pk)):=by
 unfold cC;rw[if_pos (show(L.map g).length<=line from by rw[Pg];exact hl),uY g pk L h]
end K51
namespace Pth
open PySem L2 DL Com K17
open K11 (eW)
section
variable {ρ:Ev}{i:Nat}{f k:am}{ks:ce}{ds:ac}{d:D}
def ed_own:Ao i f ρ=(f ρ).bind (Ei i ρ):=rfl
def ed_own1:Ei i ρ (.dic ks ds)=.ok (.nx (ρ.set i (.ow (.dic ks ds)))):=rfl
def ed_put3{x:Pq}(h:decide (ks.length<=900)=true):oO i ρ ks ds d (.str x)=.ok (.nx (ρ.set i (.ow (BI ks ds x d)))):=if_pos (PK (of_decide_eq_true h) (by decide))
def ed_disp{a b:am}:A8 a b ρ=aa a b E9 ρ:=rfl
def ed_disp1{x:Pq}:E9 (.str x) d=.ok (.dic [x] [d]):=rfl
end
open K11 (eW)
def somes_some(xs:List bT):fV (xs.map some)=xs:=by
 unfold fV;rw[TB];simp
end Pth
namespace K16
open PySem L2 DL
abbrev m_look_at_web:ac->au D:=Nwb.m_look_at_web
abbrev m_is_tie_number:ac->au D:=Com.m_is_tie_number
noncomputable def cA:bi :=
 (ao (fX (aq (af (ae 0) ax) m_look_at_web))
 (ao (cH (cU (aS (ae 1) (jy "list")))
 (ao (n9 "NoTaking" (af (dC (.str "a taking is a list")) ax))
 aj)
 aj)
 (ao (aF 2 (aS (dC (.int 1)) jV))
 (ao (iR (ae 1) (br 3)
 (ao (cH (jP (cU (aq (af (ae 0) (af (ae 3) ax)) m_is_tie_number)) (aa (ae 3) (ae 2) HJ))
 (ao (n9 "NoTaking" (af (dC (.str "a taking is of rising numbers of ties")) ax))
 aj)
 aj)
 (ao (cH (aa (aa (aa (aa (ae 0) (dC (.int 1)) aC) (ae 3) aC) (dC (.int 4)) aC) (dC (.non)) ia)
 (ao (n9 "NoTaking" (af (dC (.str "a watched tie can't be taken")) ax))
 aj)
 aj)
 (ao (aF 2 (ae 3))
 aj))))
 aj))))
def m_look_at_taking:ac->au D:=bj 4 cA
end K16
namespace DL
open PySem PySem.Spec PyProof.Rows L2
def NP:Int->List Int->Int
 |a,[]=>a
 |a,b::r=>NP (if b > a then b else a) r
def pQ:Int->List Int->Int
 |a,[]=>a
 |a,b::r=>pQ (if b<a then b else a) r
theorem EB:∀(r:List Int) (a:Int),pQ a r∈a::r/\∀x∈a::r,pQ a r<=x
 |[],a=>⟨by unfold pQ;exact Pf,λx hx=>by unfold pQ;rw[PF.mp hx];exact Sv _⟩
 |b::r,a=>by
  unfold pQ;have ih:=EB r (if b<a then b else a);generalize hm:pQ (if b<a then b else a) r=m at ih
  by_cases h:b<a
  .rw[if_pos h]at ih
   refine⟨Pc _ ih.1,λx hx=>?_⟩;rcases Pr.mp hx with rfl|hx
   .have:=ih.2 b Pf;omega
   .exact ih.2 x hx
  .rw[if_neg h]at ih
   refine⟨?_,λx hx=>?_⟩
   .rcases Pr.mp ih.1 with e|e
    .rw[e];exact Pf
    .exact Pc _ (Pc _ e)
   .have ha:=ih.2 a Pf
    rcases Pr.mp hx with rfl|hx
    .exact ha
    .rcases Pr.mp hx with rfl|hx
     .omega
     .exact ih.2 x (Pc _ hx)
section
variable {X:Cx}{E:XK}
def Ox(x:D):au D:=match x with
 |.lst ds=>match fE ds with
  |some (n::ns)=>.ok (.int (NP n ns))
  |_=>.stuck
 |.tup ds=>match fE ds with
  |some (n::ns)=>.ok (.int (NP n ns))
  |_=>.stuck
 |_=>.stuck
def uW(x:D):au D:=match x with
 |.lst ds=>match fE ds with
  |some (n::ns)=>.ok (.int (pQ n ns))
  |_=>.stuck
 |_=>.stuck
def Iz(K:Ph):ad->Hp->VK->Prop:=λxs H Q=>∃p ds n ns,xs=[.ref p]/\Rep K H (.lst ds) (.ref p)/\fE ds=some (n::ns)/\Q (.int (pQ n ns)) H
def HQ{xs:Array (Int×Tok)}{n:Int}{ns:List Int}(e:n::ns=xs.toList.map (·.1)){v:Pb}(hv:(intItems xs)[argBest (λi j=>decide (numAt xs i<numAt xs j)) (xs.size-1)]?=some v):∃t,v=.int (pQ n ns) t:=by
 obtain⟨t,rfl⟩:=intItems_at hv;have hsz:0<xs.size:=by
  have:=congrArg S5 e;rw[PL,Pg,Rp (xs:=xs)]at this;omega
 obtain⟨h1,h2⟩:=argBest_lt (numAt xs) (xs.size-1);obtain⟨m1,m2⟩:=EB ns n;have hA:numAt xs (argBest (λi j=>decide (numAt xs i<numAt xs j)) (xs.size-1))∈n::ns:=by
  rw[e,numAt_eq];exact getD_mem (by rw[Pg,Rp];omega)
 have hB:numAt xs (argBest (λi j=>decide (numAt xs i<numAt xs j)) (xs.size-1))<=pQ n ns:=by
  rw[e]at m1;obtain⟨j,hj,ej⟩:=mem_getD m1;rw[Pg,Rp]at hj;have:=h2 j (by omega);rw[numAt_eq (j:=j)]at this;omega
 have:=m2 _ hA;exact⟨t,by congr 1;omega⟩
def u0(hc:X.calm=true):nT X (.builtin "min") (Iz X.K):=by
 intro π s σ H xs us Q I r h;obtain⟨p,ds,n,ns,rfl,hr,hi,q⟩:=h;obtain⟨u,rfl,ru⟩:=r.one;obtain⟨a,vs,its,ea,rfl,h1,h2,h3,h4,_⟩:=aX I hr ru;have hI:=xP hi h2 h3;obtain⟨xs,hx⟩:=hI.allInts.items;have hl':s.heap.IsList a (intItems xs):=hx▸h4;have e1:n::ns=xs.toList.map (·.1):=by
  rw[←nums_intItems,←hx];exact(show numsOf its.toArray.toList=n::ns from hI.numsOf).symm
 refine min_intList (I.ok.hd hc) hl' (by have:=congrArg S5 e1;rw[PL,Pg,Rp (xs:=xs)]at this;omega) λv h' tk hv hk=>?_;obtain⟨t,rfl⟩:=HQ e1 hv;exact⟨.int _,H,I.kept (t':=tk) (λb o e=>hk b o e),⟨_,rfl⟩,q⟩
def Bb:pj X E (Iz X.K) (m1 uW):=Bc λx v H Ha Q hs r q=>by
 cases x with
 |lst ds=>
  unfold uW at q;obtain⟨p,vs,rfl,h1,h2⟩:=aE.mp r;cases e:fE ds with
  |none=>simp only[e]at q;exact q.elim
  |some ns=>
   cases ns with
   |nil=>simp only[e]at q;exact q.elim
   |cons n ns=>
    simp only[e]at q;exact⟨p,ds,n,ns,rfl,r.mono hs,e,bL hs q (ri _)⟩
 |_=>exact q.elim
end
def tM{X:Cx}{π:List (Pk×Obj)}{σ:List (Option V)}{H:Hp}{s:Pj}(I:L2.Inv X π σ H s){p:Pk×Obj}(h1:s.heap.get? p.1=some p.2)(h2:H p.1=none)(h3:p.1≠X.env.locals)(h4:p.1∉X.fs)(h5:∀v,p.2.data≠.cell v):L2.Inv X (p::π) σ H s :=
 ⟨I.ok,I.os,I.bare,I.base,I.loc,I.cell,I.free,I.freeC,λq hq=>by
  rcases Pz.mp hq with hq|hq
  .exact I.pin q (Qk _ hq)
  .rcases Pr.mp hq with rfl|hq
   .exact⟨h1,h2,h3,h4,h5⟩
   .exact I.pin q (P4 _ hq),I.hok,I.len⟩
def yL{X:Cx}{π:List (Pk×Obj)}{σ:List (Option V)}{H:Hp}{s:Pj}{p:Pk×Obj}(I:L2.Inv X (p::π) σ H s):L2.Inv X π σ H s :=
 ⟨I.ok,I.os,I.bare,I.base,I.loc,I.cell,I.free,I.freeC,λq hq=>by
  rcases Pz.mp hq with hq|hq
  .exact I.pin q (Qk _ hq)
  .exact I.pin q (P4 _ (Pc _ hq)),I.hok,I.len⟩
structure IS (X:Cx) (q:Pq) (F:gN) (c P:Pk) (clos:List (Pq×Pk)):Prop where
 cl:closureFor F.scope X.env=pure clos
 cd:X.env.code=.ref c
 hd:W.CodeHd X.base c P
 tb:(P,#[rawInt F.pos.line,rawInt F.pos.col,.str q 0])∈gw X.K
 qu:X.env.qual++"<lambda>"=q
 df:defaultsOf F.params X.env=([],[])
abbrev lW(q:Pq)(F:gN)(clos:List (Pq×Pk))(pm:Pb)(c':Pk)(ctv:Pb):Obj:=W.kla_obj "<lambda>" q F.params F.body F.scope clos pm c' ctv
def Ob{a b c a' b' c':Pb}{m m':Array Pb}(h:#[a,b,c]++m=#[a',b',c']++m'):a=a'/\b=b'/\c=c':=by
 have e:=congrArg TR h;simp only[U1,Rg,Q6]at e;injection e with e1 e;injection e with e2 e;injection e with e3 _;exact⟨e1,e2,e3⟩
section
variable {X:Cx}{π:List (Pk×Obj)}{σ:List (Option V)}{H:Hp}{s:Pj}{A:Qs}{q:Pq}{F:gN}{c P:Pk}{clos:List (Pq×Pk)}{Q:Pb->Pj->Prop}{E:Pb->Pj->Prop}
def EL(I:L2.Inv X π σ H s)(M:IS X q F c P clos)
  (h:∀(f c':Pk) (ctv pm:Pb) (t:Tok) (m:Array Pb) (H':Hp) (s':Pj),L2.Inv X ((f,lW q F clos pm c' ctv)::π) σ H' s'->aD H H'->(∀b,H b=none->b≠c'->H' b=none)->H' c'=some (.tbl (#[.none,.str q t]++m))->s.heap.objs.size<=f->Q (.ref f) s') :
  P5 (PX X.prog X.w) A (eval (.Lambda F.params F.body F.scope F.pos) X.env) Q E s:=by
 obtain⟨more,eP⟩:=I.tab P _ M.tb;have tok:L2.TabOk H s.heap P _:=I.hok P _ eP;have hg:s.heap.Ns PH X.mg:=by
  obtain⟨o,es,ep,e,r⟩:=I.mod.glob;exact⟨o,es,ep,I.bk _ _ e,r⟩
 have hC:=M.hd.keeps I.bk;have hgP:PH≠P:=λz=>by
  obtain⟨o,es,ep,e,r⟩:=I.mod.glob;have:=(I.bs _ _ e).2;rw[z,eP]at this;cases this
 obtain⟨bm,ob,b1,b2,b3,b4,b5,b6⟩:=I.mod.bm;have hbP:bm≠P:=λz=>by
  have:=(I.bs _ _ b3).2;rw[z,eP]at this;cases this
 have hbG:bm≠PH:=λz=>by
  obtain⟨o,es,ep,e,hd,_⟩:=I.mod.glob;rw[z,e]at b3;cases b3;rw[hd]at b6;cases b6
 have hB:s.heap.BuiltinsAt X.mg P:=⟨bm,ob,b1,b2,hbG,hbP,I.bk _ _ b3,b4,b5,b6⟩
 have nP:∀b,H b=none->b≠P:=λb n z=>by rw[z,eP]at n;cases n
 refine W.kla_eval M.df ?_;rw[M.qu];rcases tok with⟨z,_⟩|⟨_,e|⟨l,c0,q',t0,t',mm,mm',c',e1,e2,e3⟩⟩
 .exact absurd z (mf M.tb)
 .-- for the first time
  refine W.kla_makeFunction M.cl I.ok.glob hg M.cd hC e Ra rfl hgP hB λc' ctv h' tk hx hge hlt hrec htb=>?_;obtain⟨cb,oc,vs,t,ec,hoc,hd,hv⟩:=hrec;obtain rfl:c'=cb:=by injection ec
  have hn:H c'=none:=I.hok.fresh hge;have old:∀{b:Pk}{o:Obj},s.heap.get? b=some o->b≠c':=λ{b o} e=>Qh (Pm (PQ e) hge);have kp:∀{b:Pk}{o:Obj},b≠P->s.heap.get? b=some o->(h'.push (lW q F clos ((X.mg "__name__").getD .none) c' ctv)).get? b=some o:=λ{b o} n e=>Px _ (hx b o n e);have hsz:s.heap.objs.size<=h'.objs.size:=Pu hge (R7 hlt);have same:aD H (upd H c' (.tbl #[.none,.str q 0])):=λb o e=>by rw[aG (ba e hn)];exact e
  have I2:L2.Inv X π σ (upd H c' (.tbl #[.none,.str q 0])) { s with heap:=h'.push (lW q F clos ((X.mg "__name__").getD .none) c' ctv),gens:=s.gens,drawn:=s.drawn,toks:=tk }:=by
   refine I.step (ch:=[]) (λ_ z=>nomatch z) (λb o _ _ _ e n=>kp (nP b n) e) (λb o _ _ _ e n=>⟨o.slots,kp (nP b n) e⟩) (λb o _ e n=>by rw[aG (old e)];exact n) (λb o _ e=>?_) (λb xs e=>same _ _ e) (λb o u e=>same _ _ e) (λb ps e=>⟨#[],by rw[same _ _ e];simp⟩) (λm hm=>?_) (λb u eu=>?_) I.bare
   .by_cases hb:b=P
    .subst hb;exact⟨_,Px _ htb⟩
    .exact⟨o,kp hb e⟩
   .obtain⟨o,es,ep,ho,r⟩:=hm
    exact⟨o,es,ep,kp (nP _ I.free) ho,r⟩
   .by_cases hb:b=c'
    .subst hb
     rw[aP]at eu;cases eu;exact Pt ⟨rfl,oc,vs,q,0,t,#[],rfl,Px _ hoc,hd,hv⟩
    .rw[aG hb]at eu
     by_cases hP2:b=P
     .subst hP2
      rw[eP]at eu;cases eu;exact R3 ⟨mf M.tb,.inr ⟨_,_,q,0,0,more,#[],c',rfl,Px _ htb,by rw[aP];rfl⟩⟩
     .refine(I.hok b u eu).stay (λa o ha x=>kp (λz=>?_) x) (λa x=>same _ _ x) (λa xs x=>same _ _ x) λa ps x=>same _ _ x
      rcases ha with rfl|ha
      .exact hP2 z
      .rw[z,eP]at ha;cases ha
  have hf:(upd H c' (.tbl #[.none,.str q 0])) h'.objs.size=none:=by rw[aG (Nat.ne_of_gt hlt)];exact I.hok.fresh hsz
  refine h h'.objs.size c' ctv _ 0 #[] _ _ (tM I2 (Qr _ rfl) hf (λz=>?_) (I.nofs hsz) (λv z=>by cases z)) same (λb n nb=>by rw[aG nb];exact n) (by rw[aP];rfl) hsz;have:=I.lt;exact absurd (show X.env.locals<X.env.locals from Pm this (z▸hsz)) (RH _)
 .-- its code stands in the table
  obtain⟨f1,f2,f3⟩:=Ob e1;cases f1;cases f2;cases f3;refine W.kla_makeFunctionHit (cv:=.ref c') M.cl I.ok.glob hg M.cd hC e2 (by simp[TriplesOk,rawInt]) (by simp[codeAmong,rawInt]) hB λctv h' tk hk hsz=>?_;have kp:∀{b:Pk}{o:Obj},s.heap.get? b=some o->(h'.push (lW q F clos ((X.mg "__name__").getD .none) c' ctv)).get? b=some o:=λ{b o} e=>Px _ (hk b o e);have I2:L2.Inv X π σ H { s with heap:=h'.push (lW q F clos ((X.mg "__name__").getD .none) c' ctv),toks:=tk }:=I.kept (λb o e=>kp e);have hf:H h'.objs.size=none:=I.hok.fresh hsz;refine h h'.objs.size c' ctv _ t' mm' H _ (tM I2 (Qr _ rfl) hf (λz=>?_) (I.nofs hsz) (λv z=>by cases z)) (aD.refl _) (λb n _=>n) e3 hsz;have:=I.lt;exact absurd (show X.env.locals<X.env.locals from Pm this (z▸hsz)) (RH _)
end
def tP(h:PR)(L:List Pk)(H:Hp):Hp:=λb=>if b∈L then(match h.get? b with|some o=>some (.frz o (.own b))|none=>H b) else H b
def unT(L:List Pk)(J:Hp):Hp:=λb=>if b∈L then none else J b
section
variable {h:PR}{L:List Pk}{H J:Hp}{b:Pk}
def me{o:Obj}(hb:b∈L)(e:h.get? b=some o):tP h L H b=some (.frz o (.own b)):=by unfold tP;rw[if_pos hb,e]
def fU(hb:b∉L):tP h L H b=H b:=if_neg hb
def j6(hb:b∈L):unT L J b=none:=if_pos hb
def bJ(hb:b∉L):unT L J b=J b:=if_neg hb
def md{u:HO}(e:unT L J b=some u):b∉L/\J b=some u:=by
 by_cases hb:b∈L
 .rw[j6 hb]at e;cases e
 .rw[bJ hb]at e;exact⟨hb,e⟩
end
structure uh (L:List Pk) (H:Hp) (h:PR):Prop where
 n:∀b∈L,H b=none
 o:∀b∈L,∃o,h.get? b=some o
def uh.same{L:List Pk}{H:Hp}{h:PR}(f:uh L H h):aD H (tP h L H):=λb u e=>by
 rw[fU (λz=>by rw[f.n b z]at e;cases e)];exact e
section
variable {P:Qe}{w:Qt}{K:Ph}{mg:Pq->Option Pb}{base:PR}{A:Qs}{outer:List QN}{s s':Pj}{H J:Hp}{L fs:List Pk}{h h':PR}
def uh.hok(f:uh L H h)(k:ji P w H h):ji P w (tP h L H) h:=λb u e=>by
 have own:∀c x,H c=some x->tP h L H c=some x:=λc x e=>f.same c x e
 by_cases hb:b∈L
 .obtain⟨o,ho⟩:=f.o b hb
  rw[me hb ho]at e;cases e;exact⟨ho,o,ho⟩
 .rw[fU hb]at e
  exact(k b u e).stay (λ_ _ _ q=>q) (λc q=>own _ _ q) (λc xs q=>own _ _ q) λc ps q=>own _ _ q
def uh.env0(f:uh L H s.heap)(e:pJ P w K mg base A outer s H)(hb:∀b∈L,base.get? b=none)(hf:∀b∈L,b∉zE outer):pJ P w K mg base A outer s (tP s.heap L H) :=
 ⟨e.frames,e.mod,λb o q=>⟨(e.bs b o q).1,by rw[fU (λz=>by rw[hb b z]at q;cases q)];exact(e.bs b o q).2⟩,e.bsz,e.funs,λb q=>by rw[fU (λz=>hf b z q)];exact e.frf b q,f.hok e.hok,e.bare,λP' d hm=>by
  obtain⟨m,q⟩:=e.tab P' d hm;exact⟨m,f.same _ _ q⟩⟩
def uh.back(f:uh L H h)(u:Un fs [] (tP h L H) J h h')(k:ji P w J h'):Un fs [] H (unT L J) h h'/\ji P w (unT L J) h'/\∀b∈L,∃o,h.get? b=some o/\h'.get? b=some o/\J b=some (.frz o (.own b)):=by
 have hJ:∀b∈L,∃o,h.get? b=some o/\h'.get? b=some o/\J b=some (.frz o (.own b)):=λb hb=>by
  obtain⟨o,ho⟩:=f.o b hb;have q:=u.frzs b o _ (me hb ho);exact⟨o,ho,(k b _ q).1,q⟩
 have out:∀{b:Pk}{x:HO},H b=some x->b∉L:=λ{b x} e z=>by rw[f.n b z]at e;cases e
 refine⟨⟨λb o e n hb hx=>?_,λb o e n hb hx=>?_,λb o e n hx=>?_,λb o e hx=>u.there b o e hx,λb xs e=>?_,λb o v e=>?_,λb ps e=>?_⟩,λb v e=>?_,hJ⟩
 .by_cases hL:b∈L
  .obtain⟨o',e1,e2,_⟩:=hJ b hL
   rw[e]at e1;cases e1;exact e2
  .exact u.keep b o e (by rw[fU hL];exact n) hb hx
 .by_cases hL:b∈L
  .obtain⟨o',e1,e2,_⟩:=hJ b hL
   rw[e]at e1;cases e1;exact⟨o.slots,e2⟩
  .exact u.slot b o e (by rw[fU hL];exact n) hb hx
 .by_cases hL:b∈L
  .exact j6 hL
  .rw[bJ hL];exact u.free b o e (by rw[fU hL];exact n) hx
 .rw[bJ (out e)];exact u.tups b xs (f.same _ _ e)
 .rw[bJ (out e)];exact u.frzs b o v (f.same _ _ e)
 .rw[bJ (out e)];exact u.tbls b ps (f.same _ _ e)
 .obtain⟨hb,e⟩:=md e
  have kp:∀c x,J c=some x->(∀o b,x≠.frz o (.own b))->unT L J c=some x:=λc x e n=>by
   rw[bJ (λz=>by obtain⟨o,_,_,q⟩:=hJ c z;rw[q]at e;cases e;exact n _ _ rfl)];exact e
  exact(k b v e).stay (λ_ _ _ q=>q) (λc q=>kp _ _ q (λ_ _ z=>by cases z)) (λc xs q=>kp _ _ q (λ_ _ z=>by cases z)) λc ps q=>kp _ _ q (λ_ _ z=>by cases z)
end
mutual
def iq:D->Bool
 |.tup ds=>noFns ds
 |.lst ds=>noFns ds
 |.dic _ ds=>noFns ds
 |.ob (.fn _) _=>false
 |.ob _ ds=>noFns ds
 |_=>true
def noFns:ac->Bool
 |[]=>true
 |d::r=>iq d&&noFns r
end
def zl{d:D}{r:ac}(h:noFns (d::r)=true):iq d=true/\noFns r=true:=by
 rw[noFns,PM]at h;exact h
def Ih(L:List Pk)(J:Hp):Prop:=∀b∈L,(∃o c,J b=some (.frz o (.own c)))∨(∃ps,J b=some (.tbl ps))∨J b=none
section
variable {K:Ph}{L:List Pk}{J:Hp}
def Ih.rd(h:Ih L J){a:Pk}{u:HO}(r:Rd J a u)(n:∀b,u≠.own b)(n2:∀ps,u≠.tbl ps)(n3:∀o b,u≠.frz o b):Rd (unT L J) a u:=by
 have out:a∉L:=λz=>by
  rcases h a z with⟨o,c,q⟩|⟨ps,q⟩|q<;>rcases r with r|⟨o',r⟩<;>rw[q]at r<;>cases r
  .exact n3 _ _ rfl
  .exact n _ rfl
  .exact n2 _ rfl
 unfold Rd;rw[bJ out];exact r
def Ih.at(h:Ih L J){a:Pk}{u:HO}(r:J a=some u)(n:∀o b,u≠.frz o (.own b))(n2:∀ps,u≠.tbl ps):unT L J a=some u:=by
 have out:a∉L:=λz=>by
  rcases h a z with⟨o,c,q⟩|⟨ps,q⟩|q<;>rw[q]at r<;>cases r
  .exact n _ _ rfl
  .exact n2 _ rfl
 rw[bJ out];exact r
mutual
theorem Rep.unT(h:Ih L J):∀{d:D}{v:V},iq d=true->Rep K J d v->Rep K (unT L J) d v
 |.non,_,_,r=>by unfold Rep at r ⊢;exact r
 |.bl _,_,_,r=>by unfold Rep at r ⊢;exact r
 |.int _,_,_,r=>by unfold Rep at r ⊢;exact r
 |.str _,_,_,r=>by unfold Rep at r ⊢;exact r
 |.tup ds,_,n,r=>by
  obtain⟨a,vs,e1,e2,e3⟩:=aL.mp r;rw[iq]at n;exact aL.mpr ⟨a,vs,e1,e2.imp (λq=>h.rd q (λ_ z=>by cases z) (λ_ z=>by cases z) (λ_ _ z=>by cases z)) id,Reps.unT h n e3⟩
 |.lst ds,_,n,r=>by
  obtain⟨a,vs,e1,e2,e3⟩:=aE.mp r;rw[iq]at n;exact aE.mpr ⟨a,vs,e1,e2.imp (λq=>h.rd q (λ_ z=>by cases z) (λ_ z=>by cases z) (λ_ _ z=>by cases z)) id,Reps.unT h n e3⟩
 |.dic ks ds,_,n,r=>by
  rw[iq]at n;rw[Rep]at r ⊢;obtain⟨a,kvs,vs,e1,e2,e3,e4,e5⟩:=r;exact⟨a,kvs,vs,e1,h.rd e2 (λ_ z=>by cases z) (λ_ z=>by cases z) (λ_ _ z=>by cases z),e3,e4,Reps.unT h n e5⟩
 |.exc x,_,_,r=>by
  obtain⟨a,C,dc,e1,e2,e3⟩:=iM.mp r;exact iM.mpr ⟨a,C,dc,e1,e2,h.rd e3 (λ_ z=>by cases z) (λ_ z=>by cases z) (λ_ _ z=>by cases z)⟩
 |.ob (.ins c ks) ds,_,n,r=>by
  rw[iq]at n
  .obtain⟨a,vs,e1,⟨C,dx,h0,h1,h2,h3⟩,e3⟩:=bq.mp r
   exact bq.mpr ⟨a,vs,e1,⟨C,dx,h0,h1,h.at h2 (λ_ _ z=>by cases z) (λ_ z=>by cases z),h3⟩,Reps.unT h n e3⟩
  .intro q z;cases z
 |.ob (.dint ks) ds,_,n,r=>by
  rw[iq]at n
  .obtain⟨a,vs,e1,⟨kvs,h1,h2,h3⟩,e3⟩:=bq.mp r
   exact bq.mpr ⟨a,vs,e1,⟨kvs,h.rd h1 (λ_ z=>by cases z) (λ_ z=>by cases z) (λ_ _ z=>by cases z),h2,h3⟩,Reps.unT h n e3⟩
  .intro q z;cases z
 |.ob (.exf c ks) ds,_,n,r=>by
  rw[iq]at n
  .obtain⟨a,vs,e1,⟨C,dx,fs,h1,h2,h3,h4⟩,e3⟩:=bq.mp r
   exact bq.mpr ⟨a,vs,e1,⟨C,dx,fs,h1,h.rd h2 (λ_ z=>by cases z) (λ_ z=>by cases z) (λ_ _ z=>by cases z),h.at h3 (λ_ _ z=>by cases z) (λ_ z=>by cases z),h4⟩,Reps.unT h n e3⟩
  .intro q z;cases z
 |.ob .pl ds,_,n,r=>by
  rw[iq]at n
  .obtain⟨a,vs,e1,h1,e3⟩:=bq.mp r
   exact bq.mpr ⟨a,vs,e1,h.at h1 (λ_ _ z=>by cases z) (λ_ z=>by cases z),Reps.unT h n e3⟩
  .intro q z;cases z
 |.ob (.fn q) ds,_,n,r=>by rw[iq]at n;cases n
theorem Reps.unT(h:Ih L J):∀{ds:ac}{vs:ad},noFns ds=true->Reps K J ds vs->Reps K (unT L J) ds vs
 |[],_,_,r=>by rw[Reps.nil_iff.mp r];exact Reps.nil
 |d::ds,_,n,r=>by
  obtain⟨n1,n2⟩:=zl n;obtain⟨v,rs,rfl,e1,e2⟩:=az.mp r;exact Reps.cons (Rep.unT h n1 e1) (Reps.unT h n2 e2)
end
def AN(x:Lf):Bool:=x.flds.all λp=>iq p.2
theorem qP{n:Pq}{d:D}:∀{l:List (Pq×D)},l.lookup n=some d->∃k,(k,d)∈l
 |[],e=>by cases e
 |(k,v)::r,e=>by
  rw[QI]at e;cases h:(n==k) with|true=>rw[h]at e;simp only[Rl]at e;subst e;exact⟨k,.head _⟩|false=>rw[h]at e;obtain⟨k',hk⟩:=qP e;exact⟨k',.tail _ hk⟩
def wK.unT(h:Ih L J){x:Lf}{C:Pb}{ox:Option Pk}(n:AN x=true)(r:wK K J x C ox):wK K (unT L J) x C ox:=by
 obtain⟨r1,r2⟩:=r;refine⟨r1,?_⟩;cases ox with
 |none=>exact r2
 |some a=>
  obtain⟨fs,e1,e2⟩:=r2;refine⟨fs,h.at e1 (λ_ _ z=>by cases z) (λ_ z=>by cases z),λm d hd=>?_⟩;obtain⟨v,e3,e4⟩:=e2 m d hd;obtain⟨k,hk⟩:=qP hd;exact⟨v,e3,Rep.unT h (Qi.mp n _ hk) e4⟩
end
def v7(r:au D):au D:=match r with
 |.ok d=>if iq d=true then .ok d else .stuck
 |.exn x=>if AN x=true then .exn x else .stuck
 |.stuck=>.stuck
abbrev LT:=Pq->ac->ac->au D
noncomputable def l9(P:Qe) (w:Qt) (K:Ph) (mg:Pq->Option Pb) (base:PR) (CX:p6) (k:Nat) (q:Pq) (m:ac->ac->au D):Prop :=
 ∀(A:Qs) (outer:List QN) (s:Pj) (H Ha:Hp) (caps ds:ac) (f:Pk) (us:List Pb) (vs:ad) (Q:VK) (E:XK),cV k A->pJ P w K mg base A outer s H->aD Ha H->Rep K Ha (.ob (.fn q) caps) (.ref f)->Reps K Ha ds vs->aY vs us ->
  post K E H Ha (m caps ds) Q->RJ (PX P w) A (.call (.ref f) ⟨us,[]⟩) (CR CX outer P w H s Q E) s
structure jI (P:Qe) (w:Qt) (K:Ph) (mg:Pq->Option Pb) (base:PR) (CX:p6) (k:Nat) (lt:LT):Prop where
 run:∀q,l9 P w K mg base CX k q (lt q)
section
variable {P:Qe}{w:Qt}{K:Ph}{mg:Pq->Option Pb}{base:PR}{CX:p6}{k:Nat}{lt:LT}{q:Pq}{m:ac->ac->au D}
def l9.mono{j:Nat}(h:l9 P w K mg base CX j q m)(l:j<=k):l9 P w K mg base CX k q m:=λA outer s H Ha caps ds f us vs Q E hr=>h A outer s H Ha caps ds f us vs Q E (hr.mono l)
def jI.mono{j:Nat}(h:jI P w K mg base CX j lt)(l:j<=k):jI P w K mg base CX k lt:=⟨λq=>(h.run q).mono l⟩
def EF:LT:=λ_ _ _=>.stuck
def qM(q:Pq)(m:ac->ac->au D)(lt:LT):LT:=λr=>if r=q then m else lt r
def EE:jI P w K mg base CX k EF:=⟨λq A outer s H Ha caps ds f us vs Q E _ _ _ _ _ _ h=>(show False from h).elim⟩
def B1(h:l9 P w K mg base CX k q m)(hl:jI P w K mg base CX k lt):jI P w K mg base CX k (qM q m lt):=⟨λr=>by
 by_cases e:r=q
 .subst e
  have z:qM r m lt r=m:=if_pos rfl;rw[z];exact h
 .have z:qM q m lt r=lt r:=if_neg e
  rw[z];exact hl.run r⟩
end
section
variable {X:Cx}{CX:p6}{k:Nat}{lt:LT}{π:List (Pk×Obj)}{σ:L2.St}{H Ha:Hp}{s:Pj}{Q:VK}{E:XK}{q:Pq}{caps ds:ac}{f:Pk}{us:List Pb}{vs:ad}
def Gh(L:jI X.prog X.w X.K X.mg X.base CX k lt)(hr:cV k X.A)(hx:gs CX X E)(I:L2.Inv X π σ H s)(hs:aD Ha H)(rf:Rep X.K Ha (.ob (.fn q) caps) (.ref f))(rd:Reps X.K Ha ds vs)(r:aY vs us)(h:post X.K E H Ha (lt q caps ds) Q) :
  P5 (PX X.prog X.w) X.A (call (.ref f) us) (EP X π σ Q) X.xe s:=by
 refine wpAny_call (codeAny_mono (L.run q X.A X.stack s H Ha caps ds f us vs Q E hr I.env0 hs rf rd r h) λr s' hq=>?_);cases r with
 |error e=>exact hx π σ H s e s' I hq
 |ok fl=>
  cases fl with|ret u=>exact I.after hq|next|brk|cont=>exact QK hq
def xV(I:L2.Inv X π σ H s)(hs:aD Ha H)(rf:Rep X.K Ha (.ob (.fn q) caps) (.ref f)):W.FnAt f s.heap:=by
 obtain⟨a,vs,e1,⟨F,clos,c',t,m,pm,ctv,h0,h1,h2,_⟩,_⟩:=bq.mp rf;cases e1;exact⟨_,_,_,_,(I.hok f _ (hs _ _ h2)).1⟩
end
def oA(lt:LT)(j:Nat)(fa:Ev->au (ac)):am:=λρ=>match ρ[j]? with
 |some (.sh (.ob (.fn q) caps))=>(fa ρ).bind λds=>lt q caps ds
 |_=>.stuck
section
variable {X:Cx}{E:XK}{e:Qa}{es:List Qa}{fa:Ev->au (ac)}{pos:Pos}{j:Nat}{lt:LT}{k k0:Nat}{CX:p6}{y:Pq}{p:Pos}
def yp(L:jI X.prog X.w X.K X.mg X.base CX k0 lt)(hr:cV k X.A)(hN:X.N[j]?=some y)(hv:CC X.env.scope y)(ha:DA X E (e::es) fa)(hle:k0<=k:=by decide)(hx:gs CX X E:=by first|exact xn|exact pass0E|exact passesE)
  (hd:(y==("__debug__" : Pq))=false:=by decide)(hcd:(y==("__classdict__" : Pq))=false:=by decide)(he:PD (e::es) X.env=(false,eval e X.env)::PD es X.env:=by exact bB rfl)(hpl:(Rj pos (PD es X.env)).any (·.1)=false:=by exact dk rfl) :
  DE X E (.Call (.Name y p) (e::es) [] pos) (oA lt j fa):=by
 refine⟨λπ s σ H Q I h=>?_⟩;obtain⟨Ha,ρ,hs,hr',q⟩:=h;unfold oA at q;cases ej:ρ[j]? with
 |none=>rw[ej]at q;exact q.elim
 |some sl=>
  rw[ej]at q;cases sl with
  |sh d=>
   cases d with
   |ob kd caps=>
    cases kd with
    |fn qn=>
     replace q:post X.K E H Ha ((fa ρ).bind λds=>lt qn caps ds) Q:=q;obtain⟨v,e1,e2⟩:=hr' j _ ej;obtain⟨a,vs0,rfl,_,_⟩:=bq.mp e2;refine wpAny_Call_Name_kw (cJ (ka hN hv hd hcd π s σ H (λv H1=>v=.ref a/\H1=H) I ⟨.ref a,e1,rfl,rfl⟩) λu s1 ⟨v,H1,I1,r,ev,eh⟩=>?_);subst ev eh;obtain rfl:u=Qm a:=r;refine W.callWith_F (xV I1 hs e2) (cJ (ha.o pos π s1 σ H1 (λvs H2=>∃H₀2 ds,aD H₀2 H2/\Rep X.K H₀2 (.ob (.fn qn) caps) (.ref a)/\Reps X.K H₀2 ds vs/\post X.K E H2 H₀2 (lt qn caps ds) Q) I1 ⟨Ha,ρ,hs,hr',?_⟩) λus s2 ⟨vs,H2,I2,r,H₀2,ds,z1,z2,z3,z4⟩=>⟨xV I2 z1 z2,Gh (L.mono hle) hr hx I2 z1 z2 z3 r z4⟩) he hpl;cases e3:fa ρ with
     |stuck|exn x=>rw[e3]at q;exact q
     |ok ds=>
      rw[e3]at q;intro vs H' Ha' g r1;exact⟨Ha',ds,g.sub,e2.mono g.z,r1,post.grow (r:=lt qn caps ds) q g⟩
    |_=>exact q.elim
   |_=>exact q.elim
  |_=>exact q.elim
end
noncomputable def Oa(P:Qe) (w:Qt) (K:Ph) (mg:Pq->Option Pb) (base:PR) (N:ce) (qual:Pq) (scope:Sa) (f c':Pk) (clos:List (Pq×Pk)) (A:Qs) (outer:List QN) (s:Pj) (H:Hp):Cx where
 prog:=P
 w:=w
 K:=K
 mg:=mg
 base:=base
 A:=A.deeper (W.envX qual scope s.heap.objs.size f (.ref c') clos)
 N:=N
 sf:=s
 Ha:=H
 env:=W.envX qual scope s.heap.objs.size f (.ref c') clos
 outer:=outer
 stack:=W.envX qual scope s.heap.objs.size f (.ref c') clos::outer
 ex:=[]
 calm:=true
 fn:=λ_=>false
 pn:=[]
 xe:=λ_ _=>False
structure Fz (N ps:ce) (sc:Sa):Prop where
 kind:sc.kind=.function
 co:sc.isCoroutine=false
 gen:sc.isGenerator=false
 nd:N.Nodup
 eq:N=ps++gA sc
 par:∀x∈ps,sc.names.lookup x=some .local
 fr:∀x∈gA sc,sc.names.lookup x=some .free
 has:∀y∈sc.names,y.2=.free->y.1∈gA sc
 nocell:∀y∈sc.names,y.2≠.cell
def B5(n c:Nat)(fb:am)(caps ds:ac):au D:=if ds.length=n/\caps.length=c/\noFns ds=true/\noFns caps=true then(match fb ((ds++caps).map Sl.sh) with
 |.ok d=>.ok d
 |_=>.stuck) else .stuck
theorem eY.all{H:Hp}:∀{cl:List (Pq×Pk)}{vs:ad},eY H cl vs->∀c∈cl.map (·.2),∃o u,H c=some (.frz o (.own c))/\o.data=.cell (some u)
 |[],_,_=>λc h=>by simp at h
 |(x,c)::r,_,⟨v,rs,o,u,_,h2,h3,_,h5⟩=>λb h=>by
  rw[Pl,Pr]at h;rcases h with h|h
  .rw[h];exact⟨o,u,h2,h3⟩
  .exact eY.all h5 b h
theorem eY.look{H:Hp}:∀{cl:List (Pq×Pk)}{vs:ad}{j:Nat}{x:Pq}{v:V},eY H cl vs->(cl.map (·.1)).Nodup->(cl.map (·.1))[j]?=some x->vs[j]?=some v->∃c o u,cl.lookup x=some c/\H c=some (.frz o (.own c))/\o.data=.cell (some u)/\bh v u
 |[],_,_,_,_,_,_,h,_=>by simp at h
 |(y,c)::r,_,0,x,v,⟨v',rs,o,u,h1,h2,h3,h4,h5⟩,nd,e1,e2=>by
  simp at e1;subst e1;rw[h1]at e2;simp at e2;subst e2;exact⟨c,o,u,by rw[QI,beq_self_eq_true],h2,h3,h4⟩
 |(y,c)::r,_,j+1,x,v,⟨v',rs,o,u,h1,h2,h3,h4,h5⟩,nd,e1,e2=>by
  rw[Pl]at nd e1;rw[Qo]at e1;rw[h1,Qo]at e2;obtain⟨c1,o1,u1,q1,q2⟩:=eY.look h5 (PZ.mp nd).2 e1 e2;refine⟨c1,o1,u1,?_,q2⟩;have ne:(x==y)=false:=by
   rw[beq_eq_false_iff_ne];rintro rfl;exact(PZ.mp nd).1 (PN e1)
  rw[QI,ne];exact q1
theorem lL{x:Pq}:∀{cl:List (Pq×Pk)},x∈cl.map (·.1)->∃c,cl.lookup x=some c
 |[],h=>by simp at h
 |(y,c)::r,h=>by
  rw[QI];cases e:(x==y) with
  |true=>exact⟨c,rfl⟩
  |false=>
   rw[Pl,Pr]at h;rcases h with h|h
   .rw[beq_eq_false_iff_ne]at e;exact absurd h e
   .exact lL h
theorem vc:∀{cl:List (Pq×Pk)},(cl.map (·.2)).Nodup->cl.Pairwise λx y=>x.2≠y.2
 |[],_=>.nil
 |(y,c)::r,h=>by
  rw[Pl]at h;obtain⟨h1,h2⟩:=PZ.mp h;exact .cons (λp hp e=>h1 (e▸Ro hp)) (vc h2)
theorem p8{y:Pq}{u:Pb}:∀{ps:ce}{us:List Pb}{i:Nat},ps.Nodup->ps[i]?=some y->us[i]?=some u->(ps.zip us).lookup y=some u
 |[],_,_,_,h,_=>by simp at h
 |_::_,[],_,_,_,h=>by simp at h
 |p::P,w::vs,0,nd,h1,h2=>by
  simp at h1 h2;subst h1;subst h2;rw[QX,QI,beq_self_eq_true]
 |p::P,w::vs,i+1,nd,h1,h2=>by
  have ne:(y==p)=false:=by
   rw[beq_eq_false_iff_ne];rintro rfl;exact(PZ.mp nd).1 (PN (by simpa using h1))
  rw[QX,QI,ne];exact p8 (i:=i) (PZ.mp nd).2 (by simpa using h1) (by simpa using h2)
theorem CL:∀{ps:ce}{us:List Pb},∀x∈(ps.zip us).map (·.1),x∈ps
 |_,_,x,h=>by
  obtain⟨⟨a,b⟩,h1,rfl⟩:=Pw.mp h;exact(SO h1).1
theorem uo:∀{ps:ce}{us:List Pb},ps.Nodup->((ps.zip us).map (·.1)).Nodup
 |[],_,_=>by simp
 |_::_,[],_=>by simp
 |p::P,w::vs,h=>by
  rw[QX,Pl];exact PZ.mpr ⟨λz=>(PZ.mp h).1 (CL _ z),uo (PZ.mp h).2⟩
def Ld{y:Pq}{u:Pb}{ps:ce}{us:List Pb}{i:Nat}(nd:ps.Nodup)(h1:ps[i]?=some y)(h2:us[i]?=some u):(ps.zip us).reverse.lookup y=some u:=by
 rw[lookup_reverse_of_nodup _ (uo nd)];exact p8 nd h1 h2
def nG(L:List Pk)(H J:Hp):Hp:=λb=>if b∈L then H b else J b
section
variable {L:List Pk}{H J:Hp}{b:Pk}
def kM(hb:b∈L):nG L H J b=H b:=if_pos hb
def dr(hb:b∉L):nG L H J b=J b:=if_neg hb
def uD(s:aD (unT L H) J):aD H (nG L H J):=λb u e=>by
 by_cases hb:b∈L
 .rw[kM hb];exact e
 .rw[dr hb];exact s b u (by rw[bJ hb];exact e)
def Cg{Ha Ja:Hp}(hs:aD Ha H)(g:bf (unT L H) (unT L Ha) J Ja):bf H Ha (nG L H J) (nG L Ha Ja) :=
 ⟨uD g.s,uD g.z,λb u e=>by
  by_cases hb:b∈L
  .rw[kM hb]at e ⊢;exact hs b u e
  .rw[dr hb]at e ⊢;exact g.sub b u e,λa h1 h2=>by
  by_cases hb:a∈L
  .rw[kM hb]at h1;exact absurd h2 h1
  .rw[dr hb]at h1
   have:=g.nw a h1 (by rw[bJ hb];exact h2);rw[bJ hb]at this;exact this⟩
end
section
variable {P:Qe}{w:Qt}{L fs:List Pk}{H J:Hp}{h h':PR}
def zM(hc:∀b∈L,∃o c,H b=some (.frz o (.own c))/\h.get? b=some o)(hf:∀b∈L,b∉fs)(u:Un fs [] (unT L H) J h h')(k:ji P w J h'):Un fs [] H (nG L H J) h h'/\ji P w (nG L H J) h':=by
 have out:∀{b:Pk}{x:HO},H b=some x->(∀o c,x≠.frz o (.own c))->b∉L:=λ{b x} e n z=>by
  obtain⟨o,c,q,_⟩:=hc b z;rw[e]at q;cases q;exact n _ _ rfl
 have outn:∀{b:Pk},H b=none->b∉L:=λ{b} e z=>by
  obtain⟨o,c,q,_⟩:=hc b z;rw[e]at q;cases q
 have jn:∀b∈L,J b=none:=λb hb=>by
  obtain⟨o,c,_,q⟩:=hc b hb;exact u.free b o q (j6 hb) (by simp)
 refine⟨⟨λb o e n hb hx=>u.keep b o e (by rw[bJ (outn n)];exact n) hb hx,λb o e n hb hx=>u.slot b o e (by rw[bJ (outn n)];exact n) hb hx,λb o e n hx=>?_,λb o e hx=>u.there b o e hx,λb xs e=>?_,λb o v e=>?_,λb ps e=>?_⟩,λb v e=>?_⟩
 .rw[dr (outn n)];exact u.free b o e (by rw[bJ (outn n)];exact n) hx
 .have nb:=out e (λ_ _ z=>by cases z)
  rw[dr nb];exact u.tups b xs (by rw[bJ nb];exact e)
 .by_cases hb:b∈L
  .rw[kM hb];exact e
  .rw[dr hb];exact u.frzs b o v (by rw[bJ hb];exact e)
 .have nb:=out e (λ_ _ z=>by cases z)
  rw[dr nb];exact u.tbls b ps (by rw[bJ nb];exact e)
 .by_cases hb:b∈L
  .rw[kM hb]at e
   obtain⟨o,c,q,q2⟩:=hc b hb;rw[q]at e;cases e;have q3:=u.keep b o q2 (j6 hb) (hf b hb) (by simp);exact⟨q3,o,q3⟩
  .rw[dr hb]at e
   have own:∀c x,J c=some x->nG L H J c=some x:=λc x q=>by
    rw[dr (λz=>by rw[jn c z]at q;cases q)];exact q
   exact(k b v e).stay (λ_ _ _ q=>q) (λc q=>own _ _ q) (λc xs q=>own _ _ q) λc ps q=>own _ _ q
def Cs(hc:∀b∈L,∃o c,H b=some (.frz o (.own c))/\h.get? b=some o)(k:ji P w H h):ji P w (unT L H) h:=λb v e=>by
 obtain⟨hb,e⟩:=md e;have own:∀c x,H c=some x->(∀o b,x≠.frz o b)->unT L H c=some x:=λc x q n=>by
  rw[bJ (λz=>by obtain⟨o,c2,q2,_⟩:=hc c z;rw[q2]at q;cases q;exact n _ _ rfl)];exact q
 exact(k b v e).stay (λ_ _ _ q=>q) (λc q=>own _ _ q (λ_ _ z=>by cases z)) (λc xs q=>own _ _ q (λ_ _ z=>by cases z)) λc ps q=>own _ _ q (λ_ _ z=>by cases z)
end
section
variable {P:Qe}{w:Qt}{K:Ph}{mg:Pq->Option Pb}{base:PR}{k:Nat}{q:Pq}{F:gN}{N ps:ce}{fb:am}
def vU(hF:(uM K).lookup q=some F)(S:Fz N ps F.scope)
  (hbind:∀(c':Pk) (clos:List (Pq×Pk)) (pm ctv:Pb) (us:List Pb),us.length=ps.length->bindArgs (W.kla_fn "<lambda>" q F.params F.body F.scope clos pm (.ref c') ctv) ⟨us,[]⟩=pure (ps.zip us))
  (hbody:∀(f c':Pk) (clos:List (Pq×Pk)) (A:Qs) (outer:List QN) (s:Pj) (H:Hp),cV k (A.deeper (W.envX q F.scope s.heap.objs.size f (.ref c') clos))->DE (Oa P w K mg base N q F.scope f c' clos A outer s H) E0 F.body fb) :
  l9 P w K mg base CX0 (k+1) q (B5 ps.length (gA F.scope).length fb):=by
 intro A outer s H Ha caps ds f us vs Q E hr e0 hs rf rd r h;unfold B5 at h
 by_cases hl:ds.length=ps.length/\caps.length=(gA F.scope).length/\noFns ds=true/\noFns caps=true
 case neg=>rw[if_neg hl]at h;exact h.elim
 rw[if_pos hl]at h;obtain⟨hl1,hl2,hn1,hn2⟩:=hl;obtain⟨a,vs0,ea,⟨F',clos,c',t,mm,pm,ctv,h0,⟨h1,h1'⟩,h2,h3,h4⟩,h5⟩:=bq.mp rf;cases ea;rw[hF]at h0;cases h0;have hvl:vs.length=ps.length:=by rw[←rd.length,hl1]
 have hul:us.length=ps.length:=by rw[←r.length,hvl]
 have hcl:vs0.length=(gA F.scope).length:=by rw[←h5.length,hl2]
 have hget:=(e0.hok f _ (hs _ _ h2)).1;have hcd:s.heap.CodeRec (.ref c') q:=by
  rcases e0.hok c' _ (hs _ _ h3) with⟨_,oc,ws,qu,t1,t2,more,z1,z2,z3,z4⟩|⟨z,_⟩
  .have e:=congrArg TR z1
   simp only[U1,Rg,Q6]at e;injection e with _ e;injection e with e _;cases e;exact⟨c',oc,ws,t2,rfl,z2,z3,z4⟩
  .exact(z (by rw[Um (by simp)];rfl)).elim
 have lim:s.heap.NoLimit:=e0.mod.nolimit.keeps λb o e=>(e0.bs b o e).1;have hc:∀b∈clos.map (·.2),∃o c,H b=some (.frz o (.own c))/\s.heap.get? b=some o:=λb hb=>by
  obtain⟨o,u,z1,_⟩:=h4.all b hb;exact⟨o,b,hs _ _ z1,(e0.hok b _ (hs _ _ z1)).1⟩
 have hfr:∀b∈clos.map (·.2),b∉zE outer:=λb hb z=>by
  obtain⟨o,c,q1,_⟩:=hc b hb;rw[e0.frf b z]at q1;cases q1
 have hnd:(clos.map (·.1)).Nodup:=by
  have:=S.nd;rw[S.eq]at this;rw[h1];exact(RE.mp this).2.1
 refine W.kla_callFunE hr.depth hget rfl S.co S.gen rfl hcd ?_;rw[hbind c' clos pm ctv us hul];refine P7 (wpAny_newFunctionEnv S.nocell (λy hy=>S.par _ (SO hy).1) (λh₁ hns hsb=>⟨lim.fresh _ hsb,?_⟩) S.kind);show RJ _ _ (.expr F.body (W.envX q F.scope s.heap.objs.size f (.ref c') clos)) _ _;have hk₁:∀b o,s.heap.get? b=some o->h₁.get? b=some o:=λb o e=>hsb.extBut b o (Qh (PQ e)) (Px _ e);refine W.kla_codeExpr ?_;have off:ji P w (unT (clos.map (·.2)) H) h₁:=(Cs hc e0.hok).kept hk₁;have un0:∀{b:Pk},H b=none->unT (clos.map (·.2)) H b=none:=λ{b} e=>by
  by_cases hb:b∈clos.map (·.2)
  .exact j6 hb
  .rw[bJ hb];exact e
 have hns':h₁.Ns s.heap.objs.size (λx=>(ps.zip us).reverse.lookup x):=hns;have I:L2.Inv (Oa P w K mg base N q F.scope f c' clos A outer s (unT (clos.map (·.2)) H)) [] ((vs++vs0).map some) (unT (clos.map (·.2)) H) { s with heap:=h₁,toks:=s.toks+(ps.zip us).length }:=by
  have noA:∀b:Pk,b∉(Oa P w K mg base N q F.scope f c' clos A outer s (unT (clos.map (·.2)) H)).ex:=λb z=>absurd (show b∈([]:List Pk) from z) (by simp);refine⟨⟨e0.mod,S.kind,rfl,rfl,P1 _,λy z c h1 h2=>?_,λy hy=>?_,λy c z _=>absurd (show false=true from z) (by decide),λ_=>hr.hd,U0 e0.frames,.inr ⟨rfl,rfl⟩,λb z=>absurd z (noA b),λb o e=>⟨(e0.bs b o e).1,un0 (e0.bs b o e).2⟩,e0.bsz,λb _ _=>noA b,λb z=>absurd z (noA b),e0.funs,λb z=>un0 (e0.frf b z),λP' d hm=>?_⟩,
   rfl,e0.bare,Un.kept hk₁,⟨_,hns',λi y v z1 z2 z3=>?_⟩,λy c z=>?_,un0 (e0.hok.fresh (P1 _)),λy c z=>?_,λp hp=>absurd (show p∈([]:List (Pk×Obj)) from hp) (by simp),off,?_⟩
  .exact name_of_addr (vc h1') (Qx h1) (Qx h2)
  .have hy:F.scope.names.lookup y=some .cell∨F.scope.names.lookup y=some .free:=hy
   rcases hy with hy|hy
   .exact absurd rfl (S.nocell _ (Qx hy))
   .refine lL ?_
    show y∈clos.map (·.1);rw[h1];exact S.has _ (Qx hy) rfl
  .obtain⟨m,e⟩:=e0.tab P' d hm
   refine⟨m,?_⟩;show unT _ H P'=_;rw[bJ (λz=>by obtain⟨o,c,z1,_⟩:=hc _ z;rw[e]at z1;cases z1)];exact e
  .have z1:N[i]?=some y:=z1
   rw[S.eq]at z1
   by_cases hi:i<ps.length
   .rw[P0 hi]at z1
    rw[Qb,P0 (by simp;omega),Pp]at z2;have ha:vs[i]?=some v:=by
     cases e:vs[i]? with|none=>rw[e]at z2;cases z2|some a=>rw[e]at z2;cases z2;rfl
    obtain⟨u,hu,rv⟩:=r.get ha;have k:=S.par y (PN z1);refine⟨u,rv,.inl ⟨k,?_⟩⟩;have ndP:ps.Nodup:=by
     have:=S.nd;rw[S.eq]at this;exact(RE.mp this).1
    exact Ld ndP z1 hu
   .rw[Qc (by omega)]at z1
    rw[Qb,Qc (by simp;omega),Pg,hvl,Pp]at z2;have ha:vs0[i-ps.length]?=some v:=by
     cases e:vs0[i-ps.length]? with|none=>rw[e]at z2;cases z2|some a=>rw[e]at z2;cases z2;rfl
    rw[←h1]at z1;obtain⟨c,o,u,q1,q2,q3,q4⟩:=h4.look hnd z1 ha;have k:=S.fr y (by rw[←h1];exact PN z1);exact⟨u,q4,.inr ⟨.inr k,c,q1,o,hk₁ _ _ (e0.hok c _ (hs _ _ q2)).1,q3⟩⟩
  .obtain⟨o,u,q1,q2⟩:=h4.all c (Ro (Qx z))
   exact⟨_,o,hk₁ _ _ (e0.hok c _ (hs _ _ q1)).1,q2⟩
  .exact j6 (Ro (Qx z))
  .show((vs++vs0).map some).length=N.length
   rw[S.eq,Pg,P9,P9,hvl,hcl]
 have hLam:Ih (clos.map (·.2)) Ha:=λb hb=>by
  obtain⟨o,u,z,_⟩:=h4.all b hb;exact .inl ⟨o,b,z⟩
 have hS:aD (unT (clos.map (·.2)) Ha) (unT (clos.map (·.2)) H):=λb u e=>by
  obtain⟨hb,e⟩:=md e;rw[bJ hb];exact hs b u e
 refine Rn ((hbody f c' clos A outer s (unT (clos.map (·.2)) H) (hr.deeper _)).o [] _ _ _ (λv J=>(∀b∈clos.map (·.2),J b=none)->Q v (nG (clos.map (·.2)) H J)) I ⟨unT (clos.map (·.2)) Ha,(ds++caps).map Sl.sh,hS,λi d e=>?_,?_⟩) (λu s' ⟨v,J,I',rv,q'⟩=>?_) λe s' z=>(show False from z).elim
 .rw[Pp]at e
  have e1:(ds++caps)[i]?=some d:=by
   cases z:(ds++caps)[i]? with|none=>rw[z]at e;cases e|some x=>rw[z]at e;cases e;rfl
  obtain⟨v,z1,z2⟩:=((Reps.unT hLam hn1 rd).app (Reps.unT hLam hn2 h5)).get e1;exact⟨v,by rw[Pp,z1];rfl,z2⟩
 .cases e:fb ((ds++caps).map Sl.sh) with
  |stuck=>rw[e]at h;exact h.elim
  |exn x=>rw[e]at h;exact h.elim
  |ok d=>
   rw[e]at h;intro v J Ja g rp hj;exact h v _ _ (Cg hs g) (rp.mono λb u z=>by
    rw[dr (λhb=>by have:=g.sub b u z;rw[hj b hb]at this;cases this)];exact z)
 .have hj:∀b∈clos.map (·.2),J b=none:=λb hb=>by
   obtain⟨o,c,_,z⟩:=hc b hb;exact I'.base.free b o z (j6 hb) (by intro z;exact nomatch z)
  obtain⟨u1,k1⟩:=zM hc hfr I'.base I'.hok;exact⟨v,_,I'.os,I'.bare,u1,k1,rv,q' hj⟩
end
def jE:ci->Ev->Option (ac)
 |[],_=>some []
 |i::r,ρ=>match ρ[i]? with
  |some (.sh d)=>(jE r ρ).map (d::·)
  |_=>none
def zB(j:Nat)(d:D)(ds:ac):ac:=ds.take j++d::ds.drop j
def sH(fa:Ev->au (ac))(j:Nat)(q:Pq)(cs:ci)(m:ac->au D):am:=λρ=>(fa ρ).bind λds=>match jE cs ρ with
 |some caps=>v7 (m (zB j (.ob (.fn q) caps) ds))
 |none=>.stuck
structure Ik (X:Cx) (F:gN) (clos:List (Pq×Pk)) (cs:ci):Prop where
 nm:clos.map (·.1)=gA F.scope
 nd:(gA F.scope).Nodup
 lk:∀p∈clos,X.env.cells.lookup p.1=some p.2
 ix:cs.map (X.N[·]?)=clos.map λp=>some p.1
 nl:∀p∈clos,X.env.kindOf p.1≠some .local /\ CC X.env.scope p.1
 fn:∀p∈clos,X.fn p.1=true
def zO{X:Cx}{F:gN}{clos:List (Pq×Pk)}{cs:ci}(ok:X.Ok)(C:Ik X F clos cs):(clos.map (·.2)).Nodup:=by
 have nd:(clos.map (·.1)).Nodup:=by rw[C.nm];exact C.nd
 have lk:=C.lk;clear C
 induction clos with
 |nil=>simp
 |cons p r ih=>
  rw[Pl]at nd ⊢;obtain⟨n1,n2⟩:=PZ.mp nd;refine PZ.mpr ⟨λz=>?_,ih n2 λq hq=>lk q (Pc _ hq)⟩;obtain⟨q,hq,e⟩:=Pw.mp z;have h1:=lk p Pf;have h2:=lk q (Pc _ hq);have e3:=ok.inj p.1 q.1 p.2 h1 (by rw[h2,e]);exact n1 (by rw[e3];exact Ro hq)
theorem sU{X:Cx}{π:List (Pk×Obj)}{σ:L2.St}{H Ha:Hp}{s:Pj}{ρ:Ev}(I:L2.Inv X π σ H s)(hr:eB X.K Ha σ ρ):∀{clos:List (Pq×Pk)}{cs:ci}{caps:ac},(∀p∈clos,X.env.cells.lookup p.1=some p.2)->(cs.map (X.N[·]?)=clos.map λp=>some p.1) ->
  (∀p∈clos,X.env.kindOf p.1≠some .local /\ CC X.env.scope p.1)->jE cs ρ=some caps->∃vs,Reps X.K Ha caps vs/\∀(J:Hp),(∀p∈clos,∃o,s.heap.get? p.2=some o/\J p.2=some (.frz o (.own p.2)))->eY J clos vs
 |[],[],_,_,_,_,e=>by cases e;exact⟨[],Reps.nil,λJ _=>rfl⟩
 |[],_::_,_,_,e,_,_=>by simp at e
 |_::_,[],_,_,e,_,_=>by simp at e
 |(x,c)::r,i::is,caps,lk,e1,nl,e2=>by
  rw[Pl,Pl]at e1;injection e1 with e1 e1';unfold jE at e2;cases e3:ρ[i]? with
  |none=>rw[e3]at e2;cases e2
  |some sl=>
   rw[e3]at e2;cases sl with
   |sh d=>
    replace e2:(jE is ρ).map (d::·)=some caps:=e2;cases e4:jE is ρ with
    |none=>rw[e4]at e2;cases e2
    |some cp=>
     rw[e4]at e2;cases e2;obtain⟨vs,h1,h2⟩:=sU I hr (λp hp=>lk p (Pc _ hp)) e1' (λp hp=>nl p (Pc _ hp)) e4;obtain⟨v,q1,q2⟩:=hr i d e3;refine⟨v::vs,Reps.cons q2 h1,λJ hJ=>?_⟩;obtain⟨m,hm,hl⟩:=I.loc;have nv:=nl (x,c) Pf;obtain⟨u,rv,lo⟩:=hl i x v e1 q1 nv.2;rcases lo with⟨lo,_⟩|⟨_,c',lc,o,ho,hd⟩
     .exact absurd lo nv.1
     .have:=lk (x,c) Pf
      rw[this]at lc;cases lc;obtain⟨o2,g1,g2⟩:=hJ (x,c) Pf;rw[ho]at g1;cases g1;exact⟨v,vs,o,u,rfl,g2,hd,rv,h2 J λp hp=>hJ p (Pc _ hp)⟩
   |_=>cases e2
section
variable {X:Cx}{E:XK}{e:Qa}{es:List Qa}{f:am}{fa:Ev->au (ac)}{q:Pq}{F:gN}{clos:List (Pq×Pk)}{j:Nat}
noncomputable def OI(X:Cx) (q:Pq) (F:gN) (clos:List (Pq×Pk)) (j:Nat) (π:List (Pk×Obj)) (σ:L2.St) (H Ha:Hp) (ds:ac) (us:List Pb) (s':Pj):Prop :=
 ∃(f c':Pk) (ctv pm:Pb) (t:Tok) (m:Array Pb) (H' Ha':Hp) (vs1 vs2:ad) (u1 u2:List Pb),us=u1++.ref f::u2/\vs1.length=j/\aY vs1 u1/\aY vs2 u2/\Reps X.K Ha' ds (vs1++vs2)/\bf H Ha H' Ha' /\
  L2.Inv X ((f,lW q F clos pm c' ctv)::π) σ H' s'/\H' c'=some (.tbl (#[.none,.str q t]++m))/\X.sf.heap.objs.size<=f
structure AL (X:Cx) (E:XK) (es:List Qa) (fa:Ev->au (ac)) (j:Nat) (q:Pq) (F:gN) (clos:List (Pq×Pk)):Prop where
 o:∀(pos:Pos) (π:List (Pk×Obj)) (s:Pj) (σ:L2.St) (H Ha:Hp) (ρ:Ev),L2.Inv X π σ H s->aD Ha H->eB X.K Ha σ ρ->uF X.K E H Ha (fa ρ) (λ_ _=>True) ->
  P5 (PX X.prog X.w) X.A (spliced (Rj pos (PD es X.env))) (λus s'=>∃ds,fa ρ=.ok ds/\OI X q F clos j π σ H Ha ds us s') X.xe s
def K7{c P:Pk}(M:IS X q F c P clos)(ha:DA X E es fa)(hs:PD (.Lambda F.params F.body F.scope F.pos::es) X.env=(false,eval (.Lambda F.params F.body F.scope F.pos) X.env)::PD es X.env:=by exact bB rfl):AL X E (.Lambda F.params F.body F.scope F.pos::es) fa 0 q F clos:=by
 refine⟨λpos π s σ H Ha ρ I hsm hrd h=>?_⟩;rw[hs];show P5 _ _ (spliced ((false,eval (.Lambda F.params F.body F.scope F.pos) X.env)::Rj pos (PD es X.env))) _ _ s;refine Calls.spliced_cons (EL I M λf c' ctv pm t m H' s' I' hsame _ htb hsz=>?_);have g0:bf H Ha H' Ha:=⟨hsame,aD.refl _,hsm.trans hsame,λa h1 h2=>absurd h2 h1⟩
 refine cJ (ha.o pos _ s' σ H' (λvs H2=>∃ds H₀2,fa ρ=.ok ds/\bf H' Ha H2 H₀2/\Reps X.K H₀2 ds vs) I' ⟨Ha,ρ,g0.sub,hrd,?_⟩) λus s2 ⟨vs,H2,I2,r2,ds,H₀2,e2,g2,q2⟩=>?_
 .cases e2:fa ρ with
  |stuck=>rw[e2]at h;exact h.elim
  |exn y=>rw[e2]at h;exact λC ox H1 H₀1 g=>h C ox H1 H₀1 (g0.trans g)
  |ok ds=>exact λvs H1 H₀1 g r=>⟨ds,H₀1,rfl,g,r⟩
 .exact⟨ds,e2,f,c',ctv,pm,t,m,H2,H₀2,[],vs,[],us,rfl,rfl,.nil,r2,q2,g0.trans g2,I2,g2.s _ _ htb,Pu I.sz hsz⟩
end
def wG(CX:p6):Prop:=∀(outer:List QN) (H:Hp) (s:Pj) (L:List Pk) (E:XK) (e:Pb) (s':Pj),uh L H s.heap->CX outer (tP s.heap L H) s (λC ox J=>E C ox (unT L J)) e s'->CX outer H s E e s'
def EV:wG CX0:=λ_ _ _ _ _ _ _ _ h=>h.elim
theorem xc{K:Ph}{H:Hp}{d:D}{v:V}(h:Rep K H d v):∀{vs1:ad}{ds:ac}{vs2:ad},Reps K H ds (vs1++vs2)->Reps K H (zB vs1.length d ds) (vs1++v::vs2)
 |[],_,_,r=>Reps.cons h r
 |_::vs1,[],_,r=>by have:=Reps.nil_iff.mp r;cases this
 |_::vs1,x::ds,_,r=>by
  obtain⟨v',rs,e,h1,h2⟩:=az.mp r;rw[Rg]at e;injection e with e1 e2;subst e1 e2;exact Reps.cons h1 (xc h (vs1:=vs1) h2)
section
variable {X:Cx}{E:XK}{CX:p6}{k n:Nat}{fn:Pk}{fd:Qy}{ps:ce}{m:ac->au D}{q:Pq}{F:gN}{clos:List (Pq×Pk)}{cs:ci}{j:Nat}{π:List (Pk×Obj)}{σ:L2.St}{H Ha Hb H₀₁:Hp}{s:Pj}{ρ:Ev}{ds caps:ac}{us:List Pb}{Q:VK}
def Gi(Fn:iu X.prog X.w X.K X.mg X.base CX k fn fd ps (spD X.K n m))(hr:cV k X.A)(hb:jT X.K fd ps [])(hx:gs CX X E)(hf:wG CX)(hF:(uM X.K).lookup q=some F)(C:Ik X F clos cs)(hrd:eB X.K Ha σ ρ)(hcs:jE cs ρ=some caps)(hn:ds.length+1=n)
  (hA:OI X q F clos j π σ H Ha ds us s)(h:post X.K E H Ha (v7 (m (zB j (.ob (.fn q) caps) ds))) Q):X.K.In s.heap/\P5 (PX X.prog X.w) X.A (call (.ref fn) us) (EP X π σ Q) X.xe s:=by
 obtain⟨f,c',ctv,pm,t,mm,H',Ha',vs1,vs2,u1,u2,rfl,hj,r1,r2,hds,g,I,htb,hfz⟩:=hA;refine⟨I.kIn,?_⟩;replace h:=h.grow g;have hpin:=I.pin (f,lW q F clos pm c' ctv) (P4 _ Pf);obtain⟨p1,p2,p3,p4,p5⟩:=hpin;have lkm:∀b∈clos.map (·.2),∃x,X.env.cells.lookup x=some b/\X.fn x=true:=λb hb=>by
  obtain⟨p,hp,e⟩:=Pw.mp hb;exact⟨p.1,by rw[←e];exact C.lk p hp,C.fn p hp⟩
 have fr:uh (f::clos.map (·.2)) H' s.heap:=⟨λb hb=>by
  rcases Pr.mp hb with rfl|hb
  .exact p2
  .obtain⟨x,hx,_⟩:=lkm b hb
   exact I.freeC x b hx,λb hb=>by
  rcases Pr.mp hb with rfl|hb
  .exact⟨_,p1⟩
  .obtain⟨x,hx,_⟩:=lkm b hb
   obtain⟨v,o,ho,_⟩:=I.cell x b hx;exact⟨o,ho⟩⟩
 have hc'L:c'∉f::clos.map (·.2):=λz=>by rw[fr.n c' z]at htb;cases htb
 have hge:∀b∈f::clos.map (·.2),X.sf.heap.objs.size<=b:=λb hb=>by
  rcases Pr.mp hb with rfl|hb
  .exact hfz
  .obtain⟨x,hx,hfn⟩:=lkm b hb
   exact I.ok.cab x b hfn hx
 have hbase:∀b∈f::clos.map (·.2),X.base.get? b=none:=λb hb=>UZ (Pu I.ok.bsz (hge b hb));have hfrs:∀b∈f::clos.map (·.2),b∉zE X.stack:=λb hb z=>by
  rcases Pr.mp (I.stkSub b z) with e|z
  .rcases Pr.mp hb with rfl|hb
   .exact p3 e
   .obtain⟨x,hx,_⟩:=lkm b hb
    exact I.cne x b hx e
  .obtain⟨_,o,ho,_⟩:=I.ok.funs.mem z
   exact absurd (Pm (PQ ho) (hge b hb)) (RH _)
 let L:=f::clos.map (·.2)
 let H2:=tP s.heap L H'
 let R:Hp:=λb=>if b∈L∨b=c' then H2 b else Ha' b
 have s2:aD H' H2:=fr.same;have sR:aD R H2:=λb u e=>by
  by_cases hb:b∈L∨b=c'
  .have e:(if b∈L∨b=c' then H2 b else Ha' b)=some u:=e
   rw[if_pos hb]at e;exact e
  .have e:(if b∈L∨b=c' then H2 b else Ha' b)=some u:=e
   rw[if_neg hb]at e;exact s2 _ _ (g.sub _ _ e)
 have s0R:aD Ha' R:=λb u e=>by
  show(if b∈L∨b=c' then H2 b else Ha' b)=some u
  by_cases hb:b∈L∨b=c'
  .rw[if_pos hb];exact s2 _ _ (g.sub _ _ e)
  .rw[if_neg hb];exact e
 have RL:∀b,b∈L->R b=H2 b:=λb hb=>if_pos (.inl hb);have Rc:R c'=some (.tbl (#[.none,.str q t]++mm)):=by
  show(if c'∈L∨c'=c' then H2 c' else Ha' c')=_;rw[if_pos (.inr rfl)];exact s2 _ _ htb
 obtain⟨vs0,k1,k2⟩:=sU I (hrd.mono g.z) C.lk C.ix C.nl hcs;have rf:Rep X.K R (.ob (.fn q) caps) (.ref f):=bq.mpr ⟨f,vs0,rfl,⟨F,clos,c',t,mm,pm,ctv,hF,⟨C.nm,zO I.ok C⟩,by rw[RL f Pf];exact me Pf p1,Rc,k2 R λp hp=>by
  have hm:p.2∈L:=Pc _ (Ro hp);obtain⟨o,ho⟩:=fr.o _ hm;exact⟨o,ho,by rw[RL _ hm];exact me hm ho⟩⟩,k1.mono s0R⟩
 have rds:Reps X.K R (zB j (.ob (.fn q) caps) ds) (vs1++.ref f::vs2):=by rw[←hj];exact xc rf (hds.mono s0R)
 have rv:aY (vs1++V.ref f::vs2) (u1++Qm f::u2):=r1.append (.cons rfl r2);have env2:pJ X.prog X.w X.K X.mg X.base X.A X.stack s H2:=fr.env0 I.env0 hbase hfrs;have hlen:(vs1++V.ref f::vs2).length=n:=by
  have:=hds.length;rw[P9]at this;rw[P9,PL];omega
 have key:∀(J Ja:Hp),bf H2 R J Ja->∃L',Ih L' Ja/\bf H' Ha' (unT L J) (unT L' Ja):=λJ Ja gj=>by
  have hl0:∀b∈L,∃o c,Ja b=some (.frz o (.own c)):=λb hb=>by
   obtain⟨o,ho⟩:=fr.o b hb;exact⟨o,b,gj.z b _ (by rw[RL b hb];exact me hb ho)⟩
  have hcz:=gj.z c' _ Rc;refine⟨if Ha' c'=none then c'::L else L,λb hb=>?_,λb u e=>?_,λb u e=>?_,λb u e=>?_,λa h1 h2=>?_⟩
  .by_cases z:Ha' c'=none
   .rw[if_pos z]at hb
    rcases Pr.mp hb with rfl|hb
    .exact .inr (.inl ⟨_,hcz⟩)
    .exact .inl (hl0 b hb)
   .rw[if_neg z]at hb;exact .inl (hl0 b hb)
  .have nb:b∉L:=λz=>by rw[fr.n b z]at e;cases e
   rw[bJ nb];exact gj.s b u (s2 b u e)
  .have nb:b∉L:=λz=>by have:=g.sub b u e;rw[fr.n b z]at this;cases this
   have nb':b∉(if Ha' c'=none then c'::L else L):=λz=>by
    by_cases y:Ha' c'=none
    .rw[if_pos y]at z
     rcases Pr.mp z with rfl|z
     .rw[y]at e;cases e
     .exact nb z
    .rw[if_neg y]at z;exact nb z
   rw[bJ nb'];exact gj.z b u (s0R b u e)
  .obtain⟨nb,e⟩:=md e
   have nL:b∉L:=λz=>nb (by
    by_cases y:Ha' c'=none
    .rw[if_pos y];exact Pc _ z
    .rw[if_neg y];exact z)
   rw[bJ nL];exact gj.sub b u e
  .have na:a∉(if Ha' c'=none then c'::L else L):=λz=>h1 (j6 z)
   rw[bJ na]at h1;have nL:a∉L:=λz=>na (by
    by_cases y:Ha' c'=none
    .rw[if_pos y];exact Pc _ z
    .rw[if_neg y];exact z)
   have nc:a≠c':=λz=>na (by rw[←z,if_pos h2];exact Pf);have hRa:R a=none:=by
    show(if a∈L∨a=c' then H2 a else Ha' a)=none;rw[if_neg (by rintro(z|z);exact nL z;exact nc z)];exact h2
   have:=gj.nw a h1 hRa;have e:H2 a=H' a:=fU nL;rw[e]at this;exact this
 have hpost:post X.K (λC ox J=>E C ox (unT L J)) H2 R (m (zB j (.ob (.fn q) caps) ds)) (λv J=>Q v (unT L J)):=by
  cases e:m (zB j (.ob (.fn q) caps) ds) with
  |stuck=>rw[e]at h;exact h
  |ok d=>
   rw[e]at h;replace h:post X.K E H' Ha' (if iq d=true then .ok d else .stuck) Q:=h
   by_cases hd:iq d=true
   .rw[if_pos hd]at h
    intro v J Ja gj rp;obtain⟨L',hl,g'⟩:=key J Ja gj;exact h v _ _ g' (Rep.unT hl hd rp)
   .rw[if_neg hd]at h;exact h.elim
  |exn x=>
   rw[e]at h;replace h:post X.K E H' Ha' (if AN x=true then .exn x else .stuck) Q:=h
   by_cases hd:AN x=true
   .rw[if_pos hd]at h
    intro C' ox J Ja gj rp;obtain⟨L',hl,g'⟩:=key J Ja gj;exact h C' ox _ _ g' (wK.unT hl hd rp)
   .rw[if_neg hd]at h;exact h.elim
 have hul:(u1++Qm f::u2).length=ps.length:=by
  rw[←rv.length];exact Fn.len _ _ _ _ (show spD X.K n m (vs1++V.ref f::vs2) H2 (λv J=>Q v (unT L J)) (λC ox J=>E C ox (unT L J)) from⟨hlen,R,_,sR,rds,hpost⟩)
 have hbd:=hb s (u1++Qm f::u2) I.kIn (by rw[QH];exact hul);rw[QH]at hbd;refine wpAny_call (codeAny_mono (Fn.run X.A X.stack s H2 ⟨u1++.ref f::u2,[]⟩ (u1++.ref f::u2) (vs1++.ref f::vs2) (λv J=>Q v (unT L J)) (λC ox J=>E C ox (unT L J)) hr env2 hbd rv ⟨hlen,R,_,sR,rds,hpost⟩) λr s' hq=>?_);cases r with
 |error e=>exact hx _ σ H' s e s' I (hf _ _ _ L _ _ _ fr hq)
 |ok fl=>
  cases fl with
  |ret u=>
   obtain⟨v,J,os,bare,un,hok,rvv,qq⟩:=hq;obtain⟨un',hok',_⟩:=fr.back un hok;obtain⟨v2,H3,I3,r3,q3⟩:=I.after (Q:=Q) (u:=u) (s':=s') ⟨v,unT L J,os,bare,un',hok',rvv,qq⟩;exact⟨v2,H3,yL I3,r3,q3⟩
  |next|brk|cont=>exact QK hq
end
structure tJ (K:Ph) (fd:Qy) (q:Pq) (F:gN):Prop where
 ex:∃c P,fd.code=.ref c/\Uc K c P=true/\(P,#[rawInt F.pos.line,rawInt F.pos.col,.str q 0])∈gw K
 lk:(uM K).lookup q=some F
section
variable {X:Cx}{E:XK}{e:Qa}{es:List Qa}{fa:Ev->au (ac)}{q:Pq}{F:gN}{clos:List (Pq×Pk)}{cs:ci}{j:Nat}{fd:Qy}
def HV(L:tJ X.K fd q F)(hcd:fd.code=X.env.code)(ha:DA X E es fa)(hcl:closureFor F.scope X.env=pure clos:=by exact rfl)(hq:X.env.qual++"<lambda>"=q:=by exact rfl)(hdf:defaultsOf F.params X.env=([],[]):=by exact rfl)
  (hs:PD (.Lambda F.params F.body F.scope F.pos::es) X.env=(false,eval (.Lambda F.params F.body F.scope F.pos) X.env)::PD es X.env:=by exact bB rfl):AL X E (.Lambda F.params F.body F.scope F.pos::es) fa 0 q F clos:=by
 obtain⟨c,P,e1,e2,e3⟩:=L.ex;exact⟨λpos π s σ H Ha ρ I=>(K7 ⟨hcl,by rw[←hcd];exact e1,W.codeHd_of_K I.ok.mod.kin e2,e3,hq,hdf⟩ ha hs).o pos π s σ H Ha ρ I⟩
def Ff{CX:p6}{k k0 n:Nat}{fn:Pk}{fd':Qy}{ps:ce}{m:ac->au D}{x:Pq}{st:Rv}{p pos:Pos}(B:fv X.prog X.w X.K X.mg X.base CX k0 fn fd' ps (spD X.K n m) x st)(hr:cV k X.A)(L:tJ X.K fd q F)(C:Ik X F clos cs)(ha:AL X E (e::es) fa j q F clos)(hl:∀ρ ds,fa ρ=.ok ds->ds.length+1=n)
  (hle:k0<=k:=by decide)(hx:gs CX X E:=by first|exact xn|exact pass0E|exact passesE)(hf:wG CX:=by first|exact EV|exact forgetsE)
  (hg:Gl X x:=by exact rfl)(hdb:(x==("__debug__" : Pq))=false:=by decide)(he:PD (e::es) X.env=(false,eval e X.env)::PD es X.env:=by exact bB rfl)(hpl:(Rj pos (PD es X.env)).any (·.1)=false:=by exact dk rfl) :
  DE X E (.Call (.Name x p) (e::es) [] pos) (sH fa j q cs m):=by
 refine⟨λπ s σ H Q I h=>?_⟩;obtain⟨Ha,ρ,hs,hrd,h⟩:=h;unfold sH at h;refine wpAny_Call_Name_kw (pR I hg B.t.g ?_ hdb);refine Ux (h₀:=X.base) I.ok.mod.kin B.t.F.kp (cJ (ha.o pos π s σ H Ha ρ I hs hrd ?_) λus s1 ⟨ds,e1,hA⟩=>?_) he hpl
 .cases e1:fa ρ with
  |stuck=>rw[e1]at h;exact h.elim
  |exn y=>rw[e1]at h;exact h
  |ok ds=>exact λ_ _ _ _ _=>Ra
 .rw[e1]at h
  replace h:post X.K E H Ha (match jE cs ρ with
   |some caps=>v7 (m (zB j (.ob (.fn q) caps) ds))
   |none=>.stuck) Q:=h
  cases e2:jE cs ρ with
  |none=>rw[e2]at h;exact h.elim
  |some caps=>
   rw[e2]at h;exact Gi (B.F.mono hle) hr B.t.b hx hf L.lk C hrd e2 (hl ρ ds e1) hA h
end
section
variable {P:Qe}{w:Qt}{K:Ph}{mg:Pq->Option Pb}{base:PR}{rows:List Rw}{A:Nat->Pk}{Q:Nat->Qy}{i k n:Nat}{r:Rw}{s:bi}
variable (T:TG rows K mg A Q) (S:Ni rows) (h:rows[i]?=some r)
include T S h
theorem OR(b:∀(cdv:Pb),(Q i).code=cdv->∀(A':Qs) (outer:List QN) (s0:Pj) (H Ha:Hp) (E:XK),cV k (A'.deeper (envOfC r.x (defScope r.st) s0.heap.objs.size (A i) cdv)) ->
   CH (pH CX0 P w K mg base r.N r.x (defScope r.st) (A i) cdv A' outer s0 H E).nox E H Ha (defBody r.st) s):fv P w K mg base CX0 (k+1) (A i) (Q i) r.ps (spD K r.ps.length (bj r.N.length s)) r.x r.st :=
 ⟨ra (T i r h).F (S r (PN h)) b,T i r h⟩
end
noncomputable def kY(i j:Nat) (ρ:Ev) (ds:ac) (d:D):au Fl:=match d with
 |.int k=>match xM ds.length k with
  |some n=>match ds[n]? with
   |some x=>if ds.length<line then .ok (.nx ((ρ.set j (.ow (.lst (ds.eraseIdx n)))).set i (.sh x))) else .stuck
   |none=>.stuck
  |none=>.stuck
 |_=>.stuck
def k6(i j:Nat)(f:am):bi:=λρ=>xo ρ j λds=>(f ρ).bind (kY i j ρ ds)
section
variable {X:Cx}{E:XK}{He η:Hp}{e:Qa}{f:am}{pos:Pos}
def yl{i j:Nat}{x y:Pq}{pos' q1 q2 q3:Pos}(hN:X.N.Nodup)(hi:X.N[i]?=some x)(hx:Fx X.env.scope x)(hj:X.N[j]?=some y)(hv:CC X.env.scope y)(he:DE X E e f)
  (hd:(y==("__debug__" : Pq))=false:=by decide)(hcd:(y==("__classdict__" : Pq))=false:=by decide)
  (hbase':Sg (.Name y q1) "pop" X.env (eval (.Name y q1) X.env)=eval (.Name y q1) X.env:=by rfl)
  (hfew':((Rj q3 (PD [e] X.env)).all (λx=>!x.1)&&(Ua q3 (S3 [] X.env)).all (λx=>x.1.isSome)
  &&decide ([e].length+([]:List S6).length+(if([]:List S6).isEmpty then 0 else 1)<30))=true:=by exact rg rfl)
  (hline':(q2.endLine==q3.line)=true:=by rfl) (hs':PD [e] X.env=(false,eval e X.env)::PD [] X.env:=by exact bB rfl) (hplain':(Rj q3 (PD [] X.env)).any (·.1)=false:=by exact dk rfl)
  (hs:Rt (.Call (.Attribute (.Name y q1) "pop" q2) [e] [] q3) (some (.Name x pos')) pos.line X.env=pure false:=by rfl)
  (hf:X.fn x=true∨X.env.scope.names.lookup x=some .local := by first|exact .inl rfl|exact .inr rfl|assumption) :
  DS X E He η (.Assign [.Name x pos'] (.Call (.Attribute (.Name y q1) "pop" q2) [e] [] q3) pos) (k6 i j f):=by
 refine⟨?_⟩;refine cu (qv hN hi hx (Eg Uv PySem.F.slot_list_pop PySem.F.type_list_pop Ez (ka hj hv hd hcd) (fH he.o kc hs') hbase' hfew' hline' hs' hplain') hs hf) λD σ H ⟨Ha,ρ,h,q⟩=>?_;obtain⟨ds,p,vs,e1,e2,e3,e4,e5,e6,q⟩:=qC h q;refine⟨.ref p,e2,.inl ⟨rfl,vs,fk.of e5⟩,?_⟩;refine⟨Ha,ρ,h.g.sub,h.rd,plain h q λd v H' Ha' _ g rp q'=>?_⟩;unfold kY at q';cases d with
 |int k=>
  simp only at q';cases e7:xM ds.length k with
  |none=>simp only[e7]at q';exact q'.elim
  |some n=>
   simp only[e7]at q';cases e8:ds[n]? with
   |none=>simp only[e8]at q';exact q'.elim
   |some d=>
    simp only[e8]at q'
    by_cases hl:ds.length<line
    .rw[if_pos hl]at q'
     obtain⟨s1,s2,s3,s4⟩:=vW e7;have hlen:=e6.length;have hl2:ds.length<1000001:=Pm hl (by decide);have e5':H' p=some (.lst vs):=g.s _ _ e5;rw[ay.mp rp];obtain⟨w,y1,y2⟩:=e6.get e8;refine⟨p,vs,k,n,w,rfl,rfl,e5',by omega,by omega,by rw[←hlen];exact s1,y1,?_⟩;have h2:=(h.grow g).write e1 e2 ((e6.mono g.z).erase n);exact q' _ _ Ha' (aD.refl _) (h2.put (y2.mono g.z))
    .rw[if_neg hl]at q';exact q'.elim
 |_=>exact q'.elim
end
mutual
def km:D->Bool
 |.tup ds=>instFs ds
 |.lst _=>false
 |.dic _ _=>false
 |.exc _=>false
 |.ob (.ins _ _) ds=>instFs ds
 |.ob _ _=>false
 |_=>true
def instFs:ac->Bool
 |[]=>true
 |d::ds=>km d&&instFs ds
end
mutual
theorem Rep.inst_to{K:Ph}{H H':Hp}(et:∀a vs,Rd H a (.tup vs)->Rd H' a (.tup vs))(ei:∀a C dx fs,H a=some (.ins C dx fs)->H' a=some (.ins C dx fs)):∀{d:D}{v:V},km d=true->Rep K H d v->Rep K H' d v
 |.non,_,_,h=>by unfold Rep at h ⊢;exact h
 |.bl _,_,_,h=>by unfold Rep at h ⊢;exact h
 |.int _,_,_,h=>by unfold Rep at h ⊢;exact h
 |.str _,_,_,h=>by unfold Rep at h ⊢;exact h
 |.tup ds,_,f,h=>by
  rw[km]at f;obtain⟨a,vs,e1,e2,e3⟩:=aL.mp h;refine aL.mpr ⟨a,vs,e1,?_,Reps.inst_to et ei f e3⟩;rcases e2 with e2|e2
  .exact .inl (et _ _ e2)
  .exact .inr e2
 |.lst ds,_,f,h=>by rw[km]at f;cases f
 |.dic ks ds,_,f,h=>by rw[km]at f;cases f
 |.exc x,_,f,h=>by rw[km]at f;cases f
 |.ob (.ins c ks) ds,_,f,h=>by
  rw[km]at f;obtain⟨a,vs,e1,⟨C,dx,h0,h1,h2,h3⟩,e3⟩:=bq.mp h;exact bq.mpr ⟨a,vs,e1,⟨C,dx,h0,h1,ei _ _ _ _ h2,h3⟩,Reps.inst_to et ei f e3⟩
 |.ob (.dint _) ds,_,f,h=>by rw[km]at f<;>first|cases f|(intros;intro z;cases z)
 |.ob (.exf _ _) ds,_,f,h=>by rw[km]at f<;>first|cases f|(intros;intro z;cases z)
 |.ob .pl ds,_,f,h=>by rw[km]at f<;>first|cases f|(intros;intro z;cases z)
 |.ob (.fn _) ds,_,f,h=>by rw[km]at f<;>first|cases f|(intros;intro z;cases z)
theorem Reps.inst_to{K:Ph}{H H':Hp}(et:∀a vs,Rd H a (.tup vs)->Rd H' a (.tup vs))(ei:∀a C dx fs,H a=some (.ins C dx fs)->H' a=some (.ins C dx fs)):∀{ds:ac}{vs:ad},instFs ds=true->Reps K H ds vs->Reps K H' ds vs
 |[],_,_,h=>by unfold Reps at h ⊢;exact h
 |d::ds,_,f,h=>by
  rw[instFs,PM]at f;obtain⟨v,r,e1,e2,e3⟩:=az.mp h;exact az.mpr ⟨v,r,e1,Rep.inst_to et ei f.1 e2,Reps.inst_to et ei f.2 e3⟩
end
noncomputable def ir(Ha J:Hp) (p:Pk) (ws:ad):Hp:=λa=>match Ha a with
 |some o=>some o
 |none=>if a=p then some (.lst ws) else match J a with
  |some (.tup vs)=>some (.tup vs)
  |some (.frz o (.tup vs))=>some (.frz o (.tup vs))
  |some (.ins C dx fs)=>some (.ins C dx fs)
  |_=>none
section
variable {K:Ph}{E:XK}{He η Ha H H1 J:Hp}{σ:L2.St}{ρ:Ev}{p:Pk}{ws:ad}
def Bl(h:aD Ha J){a:Pk}{o:HO}(n:a≠p)(e:ir Ha J p ws a=some o):J a=some o:=by
 unfold ir at e;cases q:Ha a with
 |some u=>rw[q]at e;cases e;exact h _ _ q
 |none=>
  rw[q]at e;simp only[if_neg n]at e;cases q2:J a with
  |none=>rw[q2]at e;cases e
  |some u=>
   rw[q2]at e;cases u with
   |tup vs|ins C dx fs=>cases e;rfl
   |frz o' u'=>cases u'<;>first|(cases e;rfl)|cases e
   |_=>cases e
def HY(h:aD Ha J)(hp:J p=none∨∃l,J p=some (.lst l))(a:Pk)(vs:ad)(e:Rd J a (.tup vs)):Rd (ir Ha J p ws) a (.tup vs):=by
 have n:a≠p:=λz=>by
  subst z;rcases hp with hp|⟨l,hp⟩<;>rcases e with e|⟨o,e⟩<;>rw[hp]at e<;>cases e
 rcases e with e|⟨o,e⟩
 .refine .inl ?_
  unfold ir;cases q:Ha a with|some u=>have:=h _ _ q;rw[e]at this;cases this;rfl|none=>simp only[if_neg n];rw[e]
 .refine .inr ⟨o,?_⟩
  unfold ir;cases q:Ha a with|some u=>have:=h _ _ q;rw[e]at this;cases this;rfl|none=>simp only[if_neg n];rw[e]
def Fv(h:aD Ha J)(hp:J p=none∨∃l,J p=some (.lst l))(a:Pk)(C dx:Pk)(fs:List (Pq×V))(e:J a=some (.ins C dx fs)):ir Ha J p ws a=some (.ins C dx fs):=by
 have n:a≠p:=λz=>by
  subst z;rcases hp with hp|⟨l,hp⟩<;>rw[hp]at e<;>cases e
 unfold ir;cases q:Ha a with|some u=>have:=h _ _ q;rw[e]at this;cases this;rfl|none=>simp only[if_neg n];rw[e]
def eZ.behindJ(h:eZ K He η Ha σ H ρ)(g:bf H (frz He Ha H) H1 J)(hp:H p=none)(hv:H1 p=some (.lst ws)):eZ K He η (ir Ha J p ws) σ H1 ρ:=by
 have hJ:aD Ha J:=h.frz_sub.trans g.z;have z:aD Ha (ir Ha J p ws):=λb o e=>by unfold ir;rw[e]
 have hpe:He p=none:=h.g.s.free hp;refine⟨⟨h.g.s.trans g.s,h.g.z.trans z,λb o e=>?_,λa h1 h2=>?_⟩,h.rd.mono z,λi d e=>?_,h.ap,h.ln,h.ex.upd (λj s e=>.inl ⟨e,rfl⟩) z (λa vs _ e=>g.s _ _ e) λq us hq h0 hl _=>⟨g.s _ _ hl,by
  have:frz He Ha H q=some (.lst us):=by unfold frz;rw[hq];exact hl
  have:=g.z _ _ this;have n:q≠p:=λz=>by rw[z,hp]at hl;cases hl
  unfold ir;rw[h0];simp only[if_neg n];rw[this]⟩⟩
 .by_cases n:b=p
  .subst n
   unfold ir at e;cases q:Ha b with|some u=>rw[h.g.sub _ _ q]at hp;cases hp|none=>rw[q]at e;simp only[if_true]at e;cases e;exact hv
  .exact g.sub _ _ (Bl hJ n e)
 .by_cases n:a=p
  .rw[n];exact hpe
  .cases q:ir Ha J p ws a with
   |none=>exact absurd q h1
   |some o=>
    have hj:=Bl hJ n q;exact(h.frz_grow.trans g).nw a (by rw[hj];simp) h2
 .obtain⟨a,k1,k2,k3,k4⟩:=h.ow i d e
  have non:∀u,H a=some u->(∀vs,u≠.tup vs)->(∀o v,u≠.frz o v)->(∀C dx fs,u≠.ins C dx fs)->ir Ha J p ws a=none:=λu hu n1 n2 n3=>by
   have n:a≠p:=λz=>by rw[z,hp]at hu;cases hu
   have:frz He Ha H a=some u:=by unfold frz;rw[k2];exact hu
   have:=g.z _ _ this;unfold ir;rw[k3];simp only[if_neg n];rw[this];cases u with|tup vs=>exact absurd rfl (n1 _)|frz o v=>exact absurd rfl (n2 _ _)|ins C dx fs=>exact absurd rfl (n3 _ _ _)| _=>rfl
  refine⟨a,k1,k2,?_,?_⟩
  .cases d with
   |lst ds=>obtain⟨vs,h5,_⟩:=k4;exact non _ h5 (λ_ z=>nomatch z) (λ_ _ z=>nomatch z) (λ_ _ _ z=>nomatch z)
   |dic ks ds=>obtain⟨vs,h5,_⟩:=k4;exact non _ h5 (λ_ z=>nomatch z) (λ_ _ z=>nomatch z) (λ_ _ _ z=>nomatch z)
   |ob kk ds=>
    cases kk with|dint ks=>obtain⟨vs,h5,_⟩:=k4;exact non _ h5 (λ_ z=>nomatch z) (λ_ _ z=>nomatch z) (λ_ _ _ z=>nomatch z)| _=>exact k4.elim
   |_=>exact k4.elim
  .cases d with
   |lst ds=>obtain⟨vs,h5,h6⟩:=k4;exact⟨vs,g.s _ _ h5,h6.mono z⟩
   |dic ks ds=>obtain⟨vs,h5,hl,h6⟩:=k4;exact⟨vs,g.s _ _ h5,hl,h6.mono z⟩
   |ob kk ds=>
    cases kk with|dint ks=>obtain⟨vs,h5,hl,h6⟩:=k4;exact⟨vs,g.s _ _ h5,hl,h6.mono z⟩| _=>exact k4.elim
   |_=>exact k4.elim
end
def oN(k:am)(i:Nat)(ρ:Ev)(ks:ce)(ds:ac)(d:D):au Fl:=match d with
 |.lst es=>if instFs es=true then(k ρ).bind (oO i ρ ks ds (.lst es)) else .stuck
 |_=>.stuck
def vz(i:Nat)(f k:am):bi:=λρ=>zh ρ i λks ds=>(f (iP ρ)).bind (oN k i ρ ks ds)
section
variable {X:Cx}{E:XK}{He η:Hp}{e b:Qa}{pos:Pos}{f k:am}
def E6{i:Nat}{x:Pq}{p1 p2:Pos}(hu:X.A.units+1<RY)(hN:X.N[i]?=some x)(hv:CC X.env.scope x)(he:DF X E e f)(hk:DE X E b k)
  (hd:(x==("__debug__" : Pq))=false:=by decide)(hcd:(x==("__classdict__" : Pq))=false:=by decide)
  (hs:Rt e (some (.Subscript (.Name x p1) b p2)) pos.line X.env=pure false:=by rfl):DS X E He η (.Assign [.Subscript (.Name x p1) b p2] e pos) (vz i f k):=by
 refine⟨?_⟩;refine cu (Gx hu (ka hN hv hd hcd) hk.o he.o hs) λD σ H z9=>?_;obtain⟨Ha,ρ,h,q⟩:=z9;refine⟨frz He Ha H,iP ρ,h.frz_le,h.looks,?_⟩
 obtain⟨ks,ds,p,vs,e1,e2,e5,el,e6,q⟩:=BN h q;cases ef:f (iP ρ) with
 |stuck=>rw[ef]at q;exact q|exn x=>rw[ef]at q;exact λC ox H' Ha' g ex=>q C ox H' Ha' (h.frz_grow.trans g) ex
 |ok d=>
  rw[ef]at q;replace q:bU X.K E He η Ha (oN k i ρ ks ds d) D:=q;unfold oN at q;cases d with
  |lst es=>
   simp only at q
   by_cases fl:instFs es=true
   .rw[if_pos fl]at q
    intro p' ws H1 J g hp h0 hv' rp;have hJ:aD Ha J:=h.frz_sub.trans g.z;have hJp:J p'=none∨∃l,J p'=some (.lst l):=by
     cases z:J p' with
     |none=>exact .inl rfl
     |some u=>
      have:=g.sub _ _ z;rw[hv']at this;cases this;exact .inr ⟨_,rfl⟩
    have h1':=h.behindJ g hp hv';have z:aD Ha (ir Ha J p' ws):=λb o e=>by unfold ir;rw[e]
    have hpR:ir Ha J p' ws p'=some (.lst ws):=by
     unfold ir;cases q0:Ha p' with|some u=>rw[h.g.sub _ _ q0]at hp;cases hp|none=>simp
    have r1:Rep X.K (ir Ha J p' ws) (.lst es) (.ref p'):=aE.mpr ⟨p',ws,rfl,fk.of hpR,Reps.inst_to (HY hJ hJp) (Fv hJ hJp) fl rp⟩;refine⟨.ref p,e2,?_⟩;replace q:bU X.K E He η (ir Ha J p' ws) ((k ρ).bind (oO i ρ ks ds (.lst es))) D:=bU.grow (r:=(k ρ).bind (oO i ρ ks ds (.lst es))) q z;refine⟨ir Ha J p' ws,ρ,h1'.g.sub,h1'.rd,plain (k:=oO i ρ ks ds (.lst es)) h1' q λj u H2 H02 _ g2 r2 q2=>?_⟩;exact D0 (h1'.grow g2) e1 e2 (g2.s _ _ (g.s _ _ e5)) el ((e6.mono z).mono g2.z) (r1.mono g2.z) r2 q2
   .rw[if_neg fl]at q;exact q.elim
  |_=>exact q.elim
end
def o6(sc:Sa)(env:QN):List (Pq×Pk):=((sc.names.filter λp=>p.2==.free).map λp=>(p.1,(env.cells.lookup p.1).getD 0)).reverse
def oF{sc:Sa}{env:QN}:(o6 sc env).map (·.1)=gA sc:=by
 unfold o6 gA;rw[List.map_reverse,Qd];rfl
def Cr{sc:Sa}{env:QN}{p:Pq×Pk}(h:p∈o6 sc env):p.1∈gA sc/\p.2=(env.cells.lookup p.1).getD 0:=by
 refine⟨by rw[←oF (env:=env)];exact Ro h,?_⟩;unfold o6 at h;rw[List.mem_reverse]at h;obtain⟨q,_,e⟩:=Pw.mp h;rw[←e]
def zA(env:QN)(x:Pq):Bool:=(env.cells.lookup x).isSome&&match env.kindOf x with
 |some .cell=>true
 |_=>false
def HN{X:Cx}{F:gN}{cs:ci}(h1:(gA F.scope).Nodup:=by decide +kernel)(h2:∀x∈gA F.scope,zA X.env x=true:=by exact λx hx=>Qi.mp (by rfl:(gA _).all (zA _)=true) x hx)(ix:cs.map (X.N[·]?)=(gA F.scope).map some:=by exact rfl)(hf:∀x,X.fn x=true:=by exact λ_=>rfl):Ik X F (o6 F.scope X.env) cs:=by
 have hc:∀p∈o6 F.scope X.env,X.env.cells.lookup p.1=some p.2/\X.env.kindOf p.1=some .cell:=λp hp=>by
  obtain⟨m,e⟩:=Cr hp;have q:=h2 p.1 m;unfold zA at q;rw[PM]at q;obtain⟨q1,q2⟩:=q;constructor
  .cases z:X.env.cells.lookup p.1 with
   |none=>rw[z]at q1;cases q1
   |some c=>rw[e,z];rfl
  .split at q2
   .assumption
   .cases q2
 refine⟨oF,h1,λp hp=>(hc p hp).1,?_,λp hp=>⟨?_,.inr (.inl ?_)⟩,λp _=>hf p.1⟩
 .rw[ix,←oF (env:=X.env),Qd];rfl
 .rw[(hc p hp).2];decide
 .exact(hc p hp).2
def My(st:Rv):gN:=(Kb (.stmts (defBody st))).getD ⟨⟨[],[],.none,[],[],.none,[]⟩,.Constant .none 0 ⟨0,0,0,0⟩,⟨.function,[],false,false,[]⟩,⟨0,0,0,0⟩⟩
def Fy(K:Ph)(a:Pk)(q:Pq)(F:gN):Prop:=∃oc od fd sl c P,K.lookup a=some ⟨oc,od,.func fd,sl⟩/\fd.code=.ref c/\Uc K c P=true/\(P,#[rawInt F.pos.line,rawInt F.pos.col,.str q 0])∈gw K/\(uM K).lookup q=some F
def B6{K:Ph}{x qual:Pq}{st:Rv}{a:Pk}{fd:Qy}{q:Pq}{F:gN}(U:CK K x qual st a fd)(h:Fy K a q F):tJ K fd q F:=by
 obtain⟨oc,od,fd',sl,c,P,h1,h2,h3,h4,h5⟩:=h;obtain⟨oc2,od2,kV,doc,pm,an,cdv,ct,osl,e,lk,hcd⟩:=U.ex;rw[lk]at h1;cases h1;exact⟨⟨c,P,h2,h3,h4⟩,h5⟩
section
variable {X:Cx}{E:XK}{es:List Qa}{fa:Ev->au (ac)}{q:Pq}{F:gN}{fd:Qy}
def HW(L:tJ X.K fd q F)(hcd:fd.code=X.env.code)(ha:DA X E es fa)(hcl:closureFor F.scope X.env=pure (o6 F.scope X.env):=by exact rfl)(hq:X.env.qual++"<lambda>"=q:=by exact rfl)(hdf:defaultsOf F.params X.env=([],[]):=by exact rfl)
  (hs:PD (.Lambda F.params F.body F.scope F.pos::es) X.env=(false,eval (.Lambda F.params F.body F.scope F.pos) X.env)::PD es X.env:=by exact bB rfl):AL X E (.Lambda F.params F.body F.scope F.pos::es) fa 0 q F (o6 F.scope X.env):=HV L hcd ha hcl hq hdf hs
def K8{f:am}{n:Nat}(h:∀ρ ds,fa ρ=.ok ds->ds.length+1=n):∀ρ ds,af f fa ρ=.ok ds->ds.length+1=n+1:=λρ ds e=>by
 unfold af at e;cases e1:f ρ with
 |stuck|exn x=>rw[e1]at e;cases e
 |ok x=>
  rw[e1]at e;replace e:((fa ρ).bind λxs=>au.ok (x::xs))=.ok ds:=e;cases e2:fa ρ with
  |stuck|exn x=>rw[e2]at e;cases e
  |ok xs=>
   rw[e2]at e;cases e;rw[PL,h ρ xs e2]
def O5:∀ρ ds,ax ρ=.ok ds->ds.length+1=1:=λ_ _ h=>by rw[yF h]
end
end DL
namespace DL
def Dc:ac->Nat
 |.int x::r=>x.natAbs+Dc r
 |_=>0
def EU:Ev->Nat:=λρ=>match ρ with
 |.sh (.ob (.fn _) [_,_,.tup [.lst rs,_]])::_=>Dc rs+1
 |_=>0
end DL
namespace K37
open PySem L2 DL
abbrev aB:ac->au D:=Cod.aB
abbrev aJ:ac->au D:=Cod.aJ
abbrev aA:ac->au D:=Cod.aA
noncomputable def da:bi :=
 (ao (aF 1 (aq (af (dC (.int 420)) (af (dC (.int 60)) (af (dC (.int 2)) (af (dC (.int 5)) (af (aa (dC (.int 10)) (dC (.int 18)) jU) (af (dC (.int 30)) (af (dC (.int 6)) (af (dC (.int 5)) (af (aa (dC (.int 10)) (dC (.int 18)) jU) (af (dC (.int 30)) (af (dC (.int 3)) (af (dC (.int 5)) (af (aa (dC (.int 10)) (dC (.int 18)) jU) (af (dC (.int 30)) ax)))))))))))))) bO))
 (ao (aT (bK 1 [1] (ff (aa (aq (af (ae 0) ax) aJ) (dC (.int 0)) aC)) (br 0) mYes (aq (af (gm (aq (af (ae 0) (af (ae 1) ax)) aB) (cj (dC (.int 11))) eJ) ax) aA)))
 aj))
def bG:ac->au D:=bj 2 da
abbrev m_look_at_web:ac->au D:=Nwb.m_look_at_web
abbrev m_is_tie_number:ac->au D:=Com.m_is_tie_number
abbrev m_look_at_taking:ac->au D:=K16.m_look_at_taking
noncomputable def iH:bi :=
 (ao (aF 3 (dC (.int 0)))
 (ao (gz (Df (aa (ae 0) (dC (.int 1)) aC) (ae 1)) (cB [4,5])
 (ao (cH (aa (aa (ae 4) (dC (.int 0)) aC) (ae 2) ij)
 (ao (aF 3 (aa (ae 3) (ae 5) bc))
 aj)
 aj)
 (ao (cH (aa (aa (ae 4) (dC (.int 1)) aC) (ae 2) ij)
 (ao (aF 3 (aa (ae 3) (ae 5) gJ))
 aj)
 aj)
 aj)))
 (ao (aT (ae 3))
 aj)))
def m_goes_from:ac->au D:=bj 6 iH
abbrev m_steps_left:ac->au D:=K51.m_steps_left
def fN:bi :=
 (ao (aT (bK 3 [2] (ff (aq (af (ae 0) (af (ae 1) ax)) m_steps_left)) (cB [0,1,2]) (gq (aa (ae 1) (ae 3) pG) (aa (ae 2) (ae 3) bA)) (ae 0)))
 aj)
def m_numbers_out:ac->au D:=bj 3 fN
noncomputable def b_fewest_turns:bi :=
 (ao (Ao 2 (A8 (ae 1) (aq ax bO)))
 (ao (pB 3 (aq (af (ae 1) ax) bO))
 (ao (fw (λ_=>1000) (aa (ae 3) (aq ax bO) jh)
 (ao (k6 4 3 (dC (.int 0)))
 (ao (iR (ae 0) (br 5)
 (ao (cH (gq (aa (aS (ae 5) (fj "here")) (ae 4) ij) (aa (aS (ae 5) (fj "there")) (ae 2) jA))
 (ao (vz 2 (aa (aa (ae 2) (ae 4) kH) (aq (af (ae 5) ax) bO) oz) (aS (ae 5) (fj "there")))
 (ao (bP 3 (aS (ae 5) (fj "there")))
 aj))
 aj)
 aj))
 aj)))
 (ao (aT (ae 2))
 aj))))
def m_fewest_turns:ac->au D:=bj 6 b_fewest_turns
noncomputable def b_sent_along:bi :=
 (ao (pB 3 (aq (af (ae 0) ax) (m1 sG)))
 (ao (iR (ae 1) (br 4)
 (ao (An 3 (aa (aa (ae 3) (aS (ae 4) (fj "number")) aC) (aa (aS (ae 4) (fj "sign")) (ae 2) aW) bc) (aS (ae 4) (fj "number")))
 aj))
 (ao (aT (ae 3))
 aj)))
def m_sent_along:ac->au D:=bj 5 b_sent_along
def b_least_room:bi :=
 (ao (aT (aq (af (bK 1 [] (ff (ae 0)) (br 0) (aa (aS (ae 0) (fj "room")) (dC (.non)) kG) (aS (ae 0) (fj "room"))) ax) (m1 uW)))
 aj)
def m_least_room:ac->au D:=bj 1 b_least_room
noncomputable def b_turns_left:bi :=
 (ao (pB 4 (aq ax bO))
 (ao (gz (lP (aa (ae 0) (dC (.int 1)) aC)) (cB [5,6])
 (ao (cH (aa (ae 5) (ae 2) bA)
 (ao (aF 7 (KZ (aa (aa (ae 6) (dC (.int 2)) aC) (dC (.str "one")) ij) (aa (ae 3) (ae 5) aC) (aa (aa (ae 1) (ae 5) aC) (aa (ae 3) (ae 5) aC) bc)))
 (ao (bP 4 (aq (af (ae 5) (af (dC (.int 1)) (af (aa (ae 6) (dC (.int 0)) aC) (af (aa (ae 6) (dC (.int 1)) aC) (af (dC (.int 0)) (af (aa (aa (ae 1) (ae 5) aC) (aa (ae 3) (ae 5) aC) gJ) ax)))))) (zt "Turn" ["number","sign","here","there","cost","room"])))
 (ao (bP 4 (aq (af (ae 5) (af (aS (dC (.int 1)) jV) (af (aa (ae 6) (dC (.int 1)) aC) (af (aa (ae 6) (dC (.int 0)) aC) (af (dC (.int 0)) (af (ae 7) ax)))))) (zt "Turn" ["number","sign","here","there","cost","room"])))
 aj)))
 aj)
 aj))
 (ao (aT (bK 1 [] (ff (ae 4)) (br 0) (aa (aS (ae 0) (fj "room")) (dC (.int 0)) yO) (ae 0)))
 aj)))
def m_turns_left:ac->au D:=bj 8 b_turns_left
def bl_most_flow:am :=
 (aq (af (ae 1) (af (aa (ae 3) (dC (.int 0)) aC) (af (ae 2) (af (ae 0) ax)))) m_turns_left)
def gD:ac->ac->au D:=B5 1 3 bl_most_flow
def lt_filled:LT:=(qM (qT "most_flow") gD EF)
noncomputable def b_filled:bi :=
 (ao (aF 4 (aq (af (oA lt_filled 0 (af (ae 1) ax)) (af (ae 2) ax)) m_fewest_turns))
 (ao (fw EU (aa (ae 3) (ae 4) wk)
 (ao (aF 1 (aq (af (ae 1) (af (aa (ae 4) (ae 3) kH) (af (aq (af (aa (ae 4) (ae 3) kH) ax) m_least_room) ax))) m_sent_along))
 (ao (aF 4 (aq (af (oA lt_filled 0 (af (ae 1) ax)) (af (ae 2) ax)) m_fewest_turns))
 aj)))
 (ao (aT (aq (af (ae 1) (af (ae 4) ax)) eT))
 aj)))
def m_filled:ac->au D:=bj 5 b_filled
end K37
namespace K34
open PySem L2 DL
abbrev aB:ac->au D:=Cod.aB
abbrev aJ:ac->au D:=Cod.aJ
abbrev bx:ac->au D:=Cod.bx
abbrev aA:ac->au D:=Cod.aA
noncomputable def iJ:bi :=
 (ao (aT (aq (af (aa (aa (aa (ae 0) (dC (.int 0)) aC) (aa (ae 1) (dC (.int 1)) aC) aW) (aa (aa (ae 2) (aa (ae 1) (dC (.int 0)) aC) aW) (aa (ae 0) (dC (.int 1)) aC) aW) bc) (af (aa (aa (ae 0) (dC (.int 1)) aC) (aa (ae 1) (dC (.int 1)) aC) aW) ax)) bx)) aj)
def bI:ac->au D:=bj 3 iJ
noncomputable def da:bi :=
 (ao (aF 1 (aq (af (dC (.int 420)) (af (dC (.int 60)) (af (dC (.int 2)) (af (dC (.int 5)) (af (aa (dC (.int 10)) (dC (.int 18)) jU) (af (dC (.int 30)) (af (dC (.int 6)) (af (dC (.int 5)) (af (aa (dC (.int 10)) (dC (.int 18)) jU) (af (dC (.int 30)) (af (dC (.int 3)) (af (dC (.int 5)) (af (aa (dC (.int 10)) (dC (.int 18)) jU) (af (dC (.int 30)) ax)))))))))))))) bO)) (ao (aT (bK 1 [1] (ff (aa (aq (af (ae 0) ax) aJ) (dC (.int 0)) aC)) (br 0) mYes (aq (af (gm (aq (af (ae 0) (af (ae 1) ax)) aB) (cj (dC (.int 11))) eJ) ax) aA))) aj))
def bG:ac->au D:=bj 2 da
abbrev m_look_at_web:ac->au D:=Com.m_look_at_web
abbrev m_is_tie_number:ac->au D:=Com.m_is_tie_number
abbrev m_look_at_taking:ac->au D:=Com.m_look_at_taking
noncomputable def gL:bi :=
 (ao (aF 3 (aq (af (dC (.int 0)) (af (dC (.int 1)) ax)) eT)) (ao (gz (lP (aa (ae 0) (dC (.int 1)) aC)) (cB [4,5]) (ao (cH (aa (aa (ae 5) (dC (.int 0)) aC) (ae 2) ij) (ao (aF 3 (aq (af (ae 3) (af (aa (ae 1) (ae 4) aC) (af (dC (.int 1)) ax))) bI)) aj) aj) (ao (cH (aa (aa (ae 5) (dC (.int 1)) aC) (ae 2) ij) (ao (aF 3 (aq (af (ae 3) (af (aa (ae 1) (ae 4) aC) (af (aS (dC (.int 1)) jV) ax))) bI)) aj) aj) aj))) (ao (aT (ae 3)) aj)))
def cL:ac->au D:=bj 6 gL
end K34
namespace K35
open PySem L2 DL
abbrev aB:ac->au D:=Cod.aB
abbrev aJ:ac->au D:=Cod.aJ
abbrev aA:ac->au D:=Cod.aA
noncomputable def da:bi :=
 (ao (aF 1 (aq (af (dC (.int 420)) (af (dC (.int 60)) (af (dC (.int 2)) (af (dC (.int 5)) (af (aa (dC (.int 10)) (dC (.int 18)) jU) (af (dC (.int 30)) (af (dC (.int 6)) (af (dC (.int 5)) (af (aa (dC (.int 10)) (dC (.int 18)) jU) (af (dC (.int 30)) (af (dC (.int 3)) (af (dC (.int 5)) (af (aa (dC (.int 10)) (dC (.int 18)) jU) (af (dC (.int 30)) ax)))))))))))))) bO))
 (ao (aT (bK 1 [1] (ff (aa (aq (af (ae 0) ax) aJ) (dC (.int 0)) aC)) (br 0) mYes (aq (af (gm (aq (af (ae 0) (af (ae 1) ax)) aB) (cj (dC (.int 11))) eJ) ax) aA)))
 aj))
def bG:ac->au D:=bj 2 da
def pf:bi :=
 (ao (aT (bK 2 [1] (lP (aa (ae 0) (dC (.int 1)) aC)) (cB [0,1]) (gq (aa (aa (ae 1) (dC (.int 4)) aC) (dC (.non)) kG) (aa (aa (aa (ae 2) (ae 0) yq) (dC (.int 1)) oX) (dC (.int 1)) ij)) (ae 0)))
 aj)
def cW:ac->au D:=bj 2 pf
abbrev m_look_at_web:ac->au D:=Wex.m_look_at_web
abbrev m_is_tie_number:ac->au D:=Com.m_is_tie_number
abbrev m_look_at_taking:ac->au D:=Wex.m_look_at_taking
noncomputable def eg:bi :=
 (ao (aF 1 (aq (af (aa (ae 0) (dC (.int 0)) aC) (af (aa (ae 0) (dC (.int 1)) aC) ax)) eT))
 (ao (cH (aa (aa (ae 0) (dC (.int 2)) aC) (dC (.str "one")) ij)
 (ao (aT (aq (af (ae 1) ax) bO))
 aj)
 aj)
 (ao (aT (aq (af (ae 1) (af (aq (af (aa (ae 0) (dC (.int 1)) aC) (af (aa (ae 0) (dC (.int 0)) aC) ax)) eT) ax)) bO))
 aj)))
def m_steps_along:ac->au D:=bj 2 eg
noncomputable def gK:bi :=
 (ao (pB 2 (aq ax bO))
 (ao (gz (lP (aa (ae 0) (dC (.int 1)) aC)) (cB [3,4])
 (ao (cH (aa (ae 3) (ae 1) bA)
 (ao (iR (aq (af (ae 4) ax) m_steps_along) (cB [5,6])
 (ao (bP 2 (aq (af (ae 3) (af (ae 5) (af (ae 6) ax))) eT))
 aj))
 aj)
 aj)
 aj))
 (ao (aT (ae 2))
 aj)))
def m_steps_left:ac->au D:=bj 7 gK
def fN:bi :=
 (ao (aT (bK 3 [2] (ff (aq (af (ae 0) (af (ae 1) ax)) m_steps_left)) (cB [0,1,2]) (gq (aa (ae 1) (ae 3) pG) (aa (ae 2) (ae 3) bA)) (ae 0)))
 aj)
def m_numbers_out:ac->au D:=bj 3 fN
noncomputable def dX:bi :=
 (ao (cH (aa (aa (ae 0) (dC (.int 2)) aC) (dC (.str "both")) ij)
 (ao (aT (aa (aa (aa (ae 0) (dC (.int 0)) aC) (ae 1) pG) (aa (aa (ae 0) (dC (.int 1)) aC) (ae 1) pG) jh))
 aj)
 aj)
 (ao (aT (gq (aa (aa (ae 0) (dC (.int 0)) aC) (ae 1) pG) (aa (aa (ae 0) (dC (.int 1)) aC) (ae 1) bA)))
 aj))
def bu:ac->au D:=bj 2 dX
end K35
namespace K36
open PySem L2 DL
abbrev aB:ac->au D:=Cod.aB
abbrev aJ:ac->au D:=Cod.aJ
abbrev bx:ac->au D:=Cod.bx
abbrev aA:ac->au D:=Cod.aA
noncomputable def iJ:bi :=
 (ao (aT (aq (af (aa (aa (aa (ae 0) (dC (.int 0)) aC) (aa (ae 1) (dC (.int 1)) aC) aW) (aa (aa (ae 2) (aa (ae 1) (dC (.int 0)) aC) aW) (aa (ae 0) (dC (.int 1)) aC) aW) bc) (af (aa (aa (ae 0) (dC (.int 1)) aC) (aa (ae 1) (dC (.int 1)) aC) aW) ax)) bx))
 aj)
def bI:ac->au D:=bj 3 iJ
noncomputable def gL:bi :=
 (ao (aF 3 (aq (af (dC (.int 0)) (af (dC (.int 1)) ax)) eT))
 (ao (gz (lP (aa (ae 0) (dC (.int 1)) aC)) (cB [4,5])
 (ao (cH (aa (aa (ae 5) (dC (.int 0)) aC) (ae 2) ij)
 (ao (aF 3 (aq (af (ae 3) (af (aa (ae 1) (ae 4) aC) (af (dC (.int 1)) ax))) bI))
 aj)
 aj)
 (ao (cH (aa (aa (ae 5) (dC (.int 1)) aC) (ae 2) ij)
 (ao (aF 3 (aq (af (ae 3) (af (aa (ae 1) (ae 4) aC) (af (aS (dC (.int 1)) jV) ax))) bI))
 aj)
 aj)
 aj)))
 (ao (aT (ae 3))
 aj)))
def cL:ac->au D:=bj 6 gL
abbrev m_look_at_web:ac->au D:=Com.m_look_at_web
abbrev m_on_one_scale:ac->au D:=Com.m_on_one_scale
abbrev m_ratio:ac->au D:=Com.m_ratio
noncomputable def iH:bi :=
 (ao (aF 3 (dC (.int 0)))
 (ao (gz (Df (aa (ae 0) (dC (.int 1)) aC) (ae 1)) (cB [4,5])
 (ao (cH (aa (aa (ae 4) (dC (.int 0)) aC) (ae 2) ij)
 (ao (aF 3 (aa (ae 3) (ae 5) bc))
 aj)
 aj)
 (ao (cH (aa (aa (ae 4) (dC (.int 1)) aC) (ae 2) ij)
 (ao (aF 3 (aa (ae 3) (ae 5) gJ))
 aj)
 aj)
 aj)))
 (ao (aT (ae 3))
 aj)))
def m_goes_from:ac->au D:=bj 6 iH
noncomputable def iI:bi :=
 (ao (fX (aq (af (ae 0) ax) m_look_at_web))
 (ao (aF 2 (aq (af (ae 1) ax) m_on_one_scale))
 (ao (aT (aq (af (aq (af (ae 0) (af (aa (ae 2) (dC (.int 0)) aC) (af (aa (ae 0) (dC (.int 2)) aC) ax))) m_goes_from) (af (aa (ae 2) (dC (.int 1)) aC) ax)) m_ratio))
 aj)))
def eK:ac->au D:=bj 3 iI
end K36
namespace K40
open PySem L2 DL
abbrev aB:ac->au D:=Cod.aB
abbrev c8:ac->au D:=Cod.c8
abbrev aJ:ac->au D:=Cod.aJ
abbrev bx:ac->au D:=Cod.bx
abbrev aA:ac->au D:=Cod.aA
abbrev bQ:ac->au D:=Cod.bQ
abbrev c6:ac->au D:=Cod.c6
abbrev bG:ac->au D:=K37.bG
def pe:bi :=
 (ao (aF 1 (dC (.int 2329089562800)))
 (ao (aT (bK 2 [1] (ff (ae 0)) (cB [0,1]) mYes (aa (ae 0) (aa (ae 2) (ae 1) jz) aW)))
 aj))
def f9:ac->au D:=bj 2 pe
abbrev m_is_name:ac->au D:=Com.m_is_name
abbrev m_look_at_places:ac->au D:=Com.m_look_at_places
abbrev m_is_whole:ac->au D:=Com.m_is_whole
abbrev m_common_divisor:ac->au D:=Com.m_common_divisor
abbrev m_is_ratio:ac->au D:=Com.m_is_ratio
abbrev m_is_length:ac->au D:=Com.m_is_length
abbrev m_is_worth:ac->au D:=Com.m_is_worth
abbrev m_is_tie:ac->au D:=Com.m_is_tie
abbrev m_look_at_ties:ac->au D:=Com.m_look_at_ties
abbrev m_is_place:ac->au D:=Com.m_is_place
abbrev m_look_at_web:ac->au D:=Com.m_look_at_web
abbrev m_has_lengths:ac->au D:=K51.m_has_lengths
def jR:bi :=
 (ao (fX (aq (af (ae 0) ax) m_look_at_web))
 (ao (cH (cU (aq (af (ae 0) (af (ae 1) ax)) m_has_lengths))
 (ao cG
 aj)
 aj)
 aj))
def dh:ac->au D:=bj 2 jR
abbrev m_is_tie_number:ac->au D:=Com.m_is_tie_number
abbrev m_look_at_taking:ac->au D:=Com.m_look_at_taking
abbrev m_shared_bottom:ac->au D:=Com.m_shared_bottom
abbrev m_as_whole:ac->au D:=Com.m_as_whole
abbrev m_on_one_scale:ac->au D:=Com.m_on_one_scale
abbrev m_fewest_turns:ac->au D:=K37.m_fewest_turns
abbrev m_sent_along:ac->au D:=K37.m_sent_along
abbrev m_least_room:ac->au D:=K37.m_least_room
abbrev m_turns_left:ac->au D:=K37.m_turns_left
def bl_most_flow:am :=
 (aq (af (ae 1) (af (aa (ae 3) (dC (.int 0)) aC) (af (ae 2) (af (ae 0) ax)))) m_turns_left)
def gD:ac->ac->au D:=B5 1 3 bl_most_flow
def lt_filled:LT:=(qM (qT "most_flow") gD EF)
abbrev m_filled:ac->au D:=K37.m_filled
abbrev m_ratio:ac->au D:=Com.m_ratio
noncomputable def o9:bi :=
 (ao (fX (aq (af (ae 0) (af (ae 1) ax)) dh))
 (ao (fX (aq (af (ae 0) (af (ae 2) ax)) m_look_at_taking))
 (ao (aF 3 (aq (af (ae 1) ax) m_on_one_scale))
 (ao (aF 4 (bK 1 [] (ff (ae 1)) (br 0) mYes (dC (.int 0))))
 (ao (aF 5 (sH (af (ae 4) (af (aa (ae 0) (dC (.int 2)) aC) (af (aa (ae 0) (dC (.int 3)) aC) ax))) 0 (qT "most_flow") [0,2,3] m_filled))
 (ao (aF 6 (bK 1 [5] (ff (aa (ae 0) (dC (.int 0)) aC)) (br 0) (aa (ae 0) (aa (ae 1) (dC (.int 1)) aC) wk) (ae 0)))
 (ao (aT (aq (af (bK 1 [3] (ff (aa (ae 5) (dC (.int 0)) aC)) (br 0) mYes (aq (af (ae 0) (af (aa (ae 1) (dC (.int 1)) aC) ax)) m_ratio)) (af (ae 6) ax)) eT))
 aj)))))))
def iz:ac->au D:=bj 7 o9
abbrev m_goes_from:ac->au D:=K37.m_goes_from
noncomputable def iI:bi :=
 (ao (fX (aq (af (ae 0) ax) m_look_at_web))
 (ao (aF 2 (aq (af (ae 1) ax) m_on_one_scale))
 (ao (aT (aq (af (aq (af (ae 0) (af (aa (ae 2) (dC (.int 0)) aC) (af (aa (ae 0) (dC (.int 2)) aC) ax))) m_goes_from) (af (aa (ae 2) (dC (.int 1)) aC) ax)) m_ratio))
 aj)))
def eK:ac->au D:=bj 3 iI
abbrev bI:ac->au D:=K34.bI
abbrev cL:ac->au D:=K34.cL
noncomputable def kP:bi :=
 (ao (cH (jP (cU (aS (ae 1) (jy "list"))) (cU (aq (af (bK 1 [0] (ff (ae 1)) (br 0) mYes (aq (af (ae 0) (af (aa (ae 1) (dC (.int 0)) aC) ax)) m_is_place)) ax) (m1 sI))))
 (ao cG
 aj)
 aj)
 (ao (cH (aa (ae 1) (bK 1 [1] (ff (aa (ae 0) (dC (.int 0)) aC)) (br 0) (aa (ae 0) (ae 1) pG) (ae 0)) jh)
 (ao cG
 aj)
 aj)
 (ao (cH (jP (aa (aa (ae 0) (dC (.int 2)) aC) (ae 1) bA) (aa (aa (ae 0) (dC (.int 3)) aC) (ae 1) pG))
 (ao cG
 aj)
 aj)
 aj)))
def dJ:ac->au D:=bj 2 kP
abbrev m_plus:ac->au D:=Com.m_plus
abbrev m_sum_of:ac->au D:=Com.m_sum_of
abbrev m_steps_along:ac->au D:=K11.m_steps_along
abbrev m_steps_left:ac->au D:=K51.m_steps_left
abbrev m_numbers_out:ac->au D:=K37.m_numbers_out
noncomputable def vb:bi :=
 (ao (fX (aq (af (ae 0) (af (ae 1) ax)) dh))
 (ao (fX (aq (af (ae 0) (af (ae 2) ax)) m_look_at_taking))
 (ao (fX (aq (af (ae 0) (af (ae 3) ax)) dJ))
 (ao (aT (aq (af (bK 1 [1] (ff (aq (af (ae 0) (af (ae 2) (af (ae 3) ax))) m_numbers_out)) (br 0) mYes (aa (ae 1) (ae 0) aC)) ax) m_sum_of))
 aj))))
def k9:ac->au D:=bj 4 vb
noncomputable def pd:bi :=
 (ao (Gg [3,4] (aq (af (ae 0) (af (ae 1) (af (ae 2) ax))) iz))
 (ao (aF 5 (aq (af (ae 0) (af (ae 3) ax)) eK))
 (ao (cH (jP (aa (ae 5) (aq (af (ae 0) (af (ae 3) (af (aa (ae 0) (dC (.int 2)) aC) ax))) cL) jh) (aa (aq (af (ae 0) (af (ae 1) (af (ae 2) (af (ae 4) ax)))) k9) (ae 5) jh))
 (ao (aT (dC (.non)))
 aj)
 aj)
 (ao (aT (ae 5))
 aj))))
def dM:ac->au D:=bj 6 pd
abbrev bu:ac->au D:=K35.bu
noncomputable def nH:bi :=
 (ao (aF 1 (aq (af (aq (af (aa (ae 0) (dC (.int 2)) aC) ax) bO) ax) bO))
 (ao (iR (aa (ae 0) (dC (.int 0)) aC) (br 2)
 (ao (cH (aa (ae 2) (aq (af (aa (ae 0) (dC (.int 2)) aC) (af (aa (ae 0) (dC (.int 3)) aC) ax)) eT) bA)
 (ao (aF 1 (aa (ae 1) (bK 1 [2] (ff (ae 1)) (br 0) mYes (aa (ae 0) (aq (af (ae 1) ax) bO) bc)) bc))
 aj)
 aj)
 aj))
 (ao (aT (ae 1))
 aj)))
def gE:ac->au D:=bj 3 nH
noncomputable def iK:bi :=
 (ao (pB 3 (aq ax bO))
 (ao (iR (aq (af (ae 0) ax) gE) (br 4)
 (ao (aF 5 (dC (.int 0)))
 (ao (gz (lP (aa (ae 0) (dC (.int 1)) aC)) (cB [6,7])
 (ao (cH (gq (aa (ae 6) (ae 2) bA) (aq (af (ae 7) (af (ae 4) ax)) bu))
 (ao (aF 5 (aa (ae 5) (aa (ae 1) (ae 6) aC) bc))
 aj)
 aj)
 aj))
 (ao (bP 3 (ae 5))
 aj))))
 (ao (aT (aq (af (ae 3) ax) (m1 uW)))
 aj)))
def dz:ac->au D:=bj 8 iK
noncomputable def nJ:bi :=
 (ao (aF 4 (aq (af (ae 0) (af (ae 1) (af (ae 3) ax))) dM))
 (ao (cH (aa (ae 4) (dC (.non)) ia)
 (ao (aT (dC (.non)))
 aj)
 aj)
 (ao (aF 5 (aq (af (ae 0) (af (ae 2) (af (ae 3) ax))) dz))
 (ao (cH (aa (aa (aa (ae 4) (dC (.int 0)) aC) (dC (.int 2329089562800)) aW) (aa (ae 5) (aa (ae 4) (dC (.int 1)) aC) aW) jh)
 (ao (aT (dC (.non)))
 aj)
 aj)
 (ao (aT (ae 5))
 aj)))))
def bR:ac->au D:=bj 6 nJ
abbrev cW:ac->au D:=K35.cW
noncomputable def IM:bi :=
 (ao (aF 1 (aq (af (ae 0) ax) c6))
 (ao (aF 2 (aq (af (ae 0) ax) bG))
 (ao (aF 3 (aq (af (ae 2) ax) f9))
 (ao (aF 4 (aq (af (ae 1) (af (ae 2) (af (ae 3) (af (aq ax bO) ax)))) bR))
 (ao (cH (aa (ae 4) (dC (.non)) ia)
 (ao (aT (dC (.bl false)))
 aj)
 aj)
 (ao (aF 5 (aq (af (ae 1) (af (bK 1 [] (ff (ae 2)) (br 0) mYes (aq (af (aa (dC (.int 2)) (aa (ae 0) (dC (.int 0)) aC) aW) (af (aa (ae 0) (dC (.int 1)) aC) ax)) bx)) (af (aq ax bO) ax))) dM))
 (ao (cH (jP (aa (ae 5) (dC (.non)) ia) (aa (aa (aa (ae 5) (dC (.int 0)) aC) (dC (.int 2329089562800)) aW) (aa (aa (dC (.int 2)) (ae 4) aW) (aa (ae 5) (dC (.int 1)) aC) aW) jh))
 (ao (aT (dC (.bl false)))
 aj)
 aj)
 (ao (iR (aa (aq (af (ae 0) ax) aJ) (dC (.int 1)) aC) (br 6)
 (ao (aF 7 (aq (af (ae 6) (af (aq (af (dC (.int 16384)) (af (dC (.int 3)) (af (dC (.int 16384)) (af (dC (.int 14)) ax)))) bO) ax)) aB))
 (ao (aF 8 (aq (af (ae 1) (af (aa (ae 7) (dC (.int 0)) aC) ax)) cW))
 (ao (cH (aa (aa (ae 7) (dC (.int 1)) aC) (dC (.int 0)) yO)
 (ao (aF 8 (bK 1 [7] (ff (ae 8)) (br 0) (aa (aa (aa (aa (ae 1) (dC (.int 2)) aC) (ae 0) yq) (dC (.int 1)) oX) (dC (.int 1)) ij) (ae 0)))
 aj)
 aj)
 (ao (aF 9 (aq (af (ae 1) (af (ae 2) (af (ae 3) (af (ae 8) ax)))) bR))
 (ao (cH (jP (aa (ae 9) (dC (.non)) ia) (aa (ae 9) (ae 4) yO))
 (ao (aT (dC (.bl false)))
 aj)
 aj)
 (ao (aF 10 (bK 1 [8,7] (ff (ae 8)) (br 0) (aa (ae 0) (aa (ae 1) (aa (aa (ae 2) (dC (.int 3)) aC) (aq (af (ae 1) ax) (m1 fg)) cn) aC) jh) (ae 0)))
 (ao (aF 11 (aq (af (ae 1) (af (ae 2) (af (ae 3) (af (ae 10) ax)))) bR))
 (ao (cH (jP (aa (ae 11) (dC (.non)) ia) (aa (ae 11) (ae 9) KY))
 (ao (aT (dC (.bl false)))
 aj)
 aj)
 aj)))))))))
 (ao (aT (dC (.bl true)))
 aj)))))))))
def m_law:ac->au D:=bj 12 IM
def top(i:Nat):Rv:=PySem.Challenge.pw_farthestcut_k40_whole_most_by_all_sides.main.body.getD i (.Pass ⟨0,0,0,0⟩)
noncomputable def rows:List Rw:=[
 ⟨"_law_draws",top 69,["_law_cell","_law_tops","_law_found","_law_left","_law_mixed","_law_k"],2⟩,
 ⟨"_law_names",top 72,["_law_d","_law_many","_law_some","_law_names_here","_law_k","_law_e","_law_name","_law_at"],2⟩,
 ⟨"_law_cells",top 74,["_law_script","_law_d","_law_many"],1⟩,
 ⟨"_law_low",top 70,["_law_top","_law_bottom","_law_one","_law_other"],2⟩,
 ⟨"_law_fraction",top 71,["_law_d","_law_top","_law_bottom"],1⟩,
 ⟨"_law_tie",top 73,["_law_cell","_law_k","_law_walk","_law_d","_law_at","_law_other","_law_worth"],3⟩,
 ⟨"_law_web",top 75,["_law_script","_law_d","_law_places","_law_first","_law_last","_law_amid","_law_walk","_law_ties"],1⟩,
 ⟨"_law_rooms",top 76,["_law_script","_law_tops"],1⟩,
 ⟨"_law_ints",top 81,["_law_rooms_here","_law_bottom"],1⟩,
 ⟨"is_name",top 20,["thing"],1⟩,
 ⟨"look_at_places",top 46,["places","number","place"],1⟩,
 ⟨"is_whole",top 18,["thing"],1⟩,
 ⟨"common_divisor",top 14,["one","other","larger","smaller","rest"],2⟩,
 ⟨"is_ratio",top 19,["thing"],1⟩,
 ⟨"is_length",top 41,["thing"],1⟩,
 ⟨"is_worth",top 42,["thing"],1⟩,
 ⟨"is_tie",top 40,["thing"],1⟩,
 ⟨"look_at_ties",top 47,["ties","places","number","tie"],2⟩,
 ⟨"is_place",top 48,["thing","places"],2⟩,
 ⟨"look_at_web",top 45,["thing"],1⟩,
 ⟨"has_lengths",top 44,["web","thing"],2⟩,
 ⟨"look_at_rooms",top 60,["web","thing"],2⟩,
 ⟨"is_tie_number",top 43,["web","thing"],2⟩,
 ⟨"look_at_taking",top 58,["web","thing","ahead","number"],2⟩,
 ⟨"shared_bottom",top 55,["some","bottom","one"],1⟩,
 ⟨"as_whole",top 56,["one","bottom"],2⟩,
 ⟨"on_one_scale",top 54,["some","bottom"],1⟩,
 ⟨"fewest_turns",top 3,["turns","first","found","waiting","here","turn"],2⟩,
 ⟨"sent_along",top 5,["amounts","turns","more","sent","turn"],3⟩,
 ⟨"least_room",top 4,["turns"],1⟩,
 ⟨"turns_left",top 67,["web","rooms","taken","amounts","turns","number","tie","back"],4⟩,
 ⟨"filled",top 2,["turns_with","amounts","first","last","found"],4⟩,
 ⟨"ratio",top 23,["top","bottom","divisor"],2⟩,
 ⟨"most_flow",top 66,["web","rooms","taking","scaled","nothing","found","side"],3⟩,
 ⟨"goes_from",top 61,["web","sizes","place","more","tie","size"],3⟩,
 ⟨"amount_of",top 62,["web","flow","scaled"],2⟩,
 ⟨"_law_plus",top 77,["_law_one","_law_other","_law_sign"],3⟩,
 ⟨"_law_going",top 78,["_law_web_here","_law_flow","_law_place","_law_found","_law_k","_law_tie_here"],3⟩,
 ⟨"look_at_side",top 64,["web","thing"],2⟩,
 ⟨"plus",top 24,["one","other"],2⟩,
 ⟨"sum_of",top 25,["some","total","one"],1⟩,
 ⟨"steps_along",top 50,["tie","there"],1⟩,
 ⟨"steps_left",top 51,["web","taken","steps","number","tie","here","there"],2⟩,
 ⟨"numbers_out",top 52,["web","taken","side"],3⟩,
 ⟨"room_of",top 63,["web","rooms","taking","side"],4⟩,
 ⟨"_law_most",top 84,["_law_web_here","_law_rooms_here","_law_taking","_law_flow","_law_side","_law_amount"],3⟩,
 ⟨"_law_leads_out",top 80,["_law_tie_here","_law_side"],2⟩,
 ⟨"_law_sides",top 82,["_law_web_here","_law_sides_here","_law_place"],1⟩,
 ⟨"_law_least_room",top 83,["_law_web_here","_law_numbers","_law_taken","_law_found","_law_side","_law_out","_law_k","_law_tie_here"],3⟩,
 ⟨"_law_right",top 85,["_law_web_here","_law_rooms_here","_law_numbers","_law_taking","_law_amount","_law_least"],4⟩,
 ⟨"_law_bits",top 79,["_law_web_here","_law_bits_here"],2⟩,
 ⟨"law",top 86,["_law_script","_law_web_here","_law_rooms_here","_law_numbers","_law_whole","_law_twice","_law_cell","_law_d","_law_taking","_law_least","_law_fewer","_law_more"],1⟩]
def sc:Ni rows:=by decide +kernel
theorem nd(i:Nat){r:Rw}(h:rows[i]?=some r:=by rfl):r.N.Nodup:=(sc r (PN h)).nd
def bn:∀r∈rows,Lp r:=by
 unfold rows
 repeat refine List.forall_mem_cons.mpr ⟨by first|exact O2|exact O1|exact O0|exact OZ|exact bd5,?_⟩
 exact λ_ h=>nomatch h
abbrev kW:Rv:=Hl (top 1) 0
def Dm:fS ["self","number","sign","here","there","cost","room"] ["self","number","sign","here","there","cost","room"] (defScope kW):=⟨rfl,rfl,rfl,by decide +kernel,rfl,by decide +kernel,by decide +kernel⟩
abbrev gF:gN:=My (top 66)
def vS:Fz ["amounts","web","taking","scaled"] ["amounts"] gF.scope:=⟨rfl,rfl,rfl,by decide +kernel,rfl,by decide +kernel,by decide +kernel,by decide +kernel,by decide +kernel⟩
set_option genInjectivity false in
set_option genSizeOfSpec false in
structure Adr where
 bD:Pk
 gG:Pk
 v5:Qy
 A:Nat->Pk
 Q:Nat->Qy
set_option genInjectivity false in
set_option genSizeOfSpec false in
structure Txt (K:Ph) (mg:Pq->Option Pb) (t:Adr):Prop where
 g:TG rows K mg t.A t.Q
 lm_most_flow:tJ K (t.Q 33) (qT "most_flow") gF
 n_abs:mg "abs"=none
 n_all:mg "all"=none
 n_bool:mg "bool"=none
 n_enumerate:mg "enumerate"=none
 n_int:mg "int"=none
 n_isinstance:mg "isinstance"=none
 n_len:mg "len"=none
 n_list:mg "list"=none
 n_min:mg "min"=none
 n_range:mg "range"=none
 n_str:mg "str"=none
 n_tuple:mg "tuple"=none
 n_zip:mg "zip"=none
 AZ:mg "Turn"=some (.ref t.bD)
 Ij:CK K "__init__" "Turn.__init__" kW t.gG t.v5
 pX:jT K t.v5 ["self","number","sign","here","there","cost","room"] []
 AR:Mk K t.bD t.gG
 pL:MZ K "Turn" ["number","sign","here","there","cost","room"] t.bD
 gr:vk K mg "FEWEST_PLACES" (.int 2)
 jG:vk K mg "FIRST" (.int 2)
 oI:vk K mg "LAST" (.int 3)
 sX:vk K mg "LENGTH" (.int 3)
 oH:vk K mg "LETTERS" (.str "abcdefghijklmnopqrstuvwxyz")
 ic:vk K mg "LONGEST_NAME" (.int 8)
 iX:vk K mg "MOST_PLACES" (.int 7)
 kK:vk K mg "MOST_TIES" (.int 14)
 sW:vk K mg "NOUGHT" (.tup [(.int 0),(.int 1)])
 lN:vk K mg "ONE" (.int 0)
 fL:vk K mg "OTHER" (.int 1)
 eX:vk K mg "PLACES" (.int 0)
 jF:vk K mg "TIES" (.int 1)
 oG:vk K mg "WORD" (.int 2)
 wt:vk K mg "WORDS" (.tup [(.str "one"),(.str "both")])
 pV:vk K mg "WORTH" (.int 4)
section
variable {P:Qe}{w:Qt}{K:Ph}{mg:Pq->Option Pb}{base:PR}{t:Adr}
def uR(T:Txt K mg t):iu P w K mg base CX0 1 t.gG t.v5 ["self","number","sign","here","there","cost","room"] (vv K ["number","sign","here","there","cost","room"]) :=
 Hr T.Ij Dm (by decide) rfl (by decide) λcdv A outer s0 H E=>(lq (i:=1) rfl rfl (Pt rfl) (Pt rfl) (lq (i:=2) rfl rfl (Pt rfl) (Pt rfl) (lq (i:=3) rfl rfl (Pt rfl) (Pt rfl) (lq (i:=4) rfl rfl (Pt rfl) (Pt rfl) (lq (i:=5) rfl rfl (Pt rfl) (Pt rfl) (lq (i:=6) rfl rfl (Pt rfl) (Pt rfl) KQ))))))
def dZ(T:Txt K mg t):fv P w K mg base CX0 1 (t.A 0) (t.Q 0) ["_law_cell","_law_tops"] (spD K 2 aB) "_law_draws" (top 69) :=
 oD T.g sc (i:=0) rfl λ_ _ _ _ _ _ _ _=>(
 (ag (l5 (i:=2) (nd 0) rfl (Pt rfl) (kD aw))
 (ag (aI (i:=3) (nd 0) rfl (Pt rfl) (aV kJ sS rfl T.n_abs PyProof.Rows.Boot.«abs» (ai (dv 0) aw)))
 (ag (aI (i:=4) (nd 0) rfl (Pt rfl) (cP (cy (cP (dv 0) ak) ak) ak))
 (ag (A5 Qg rfl rfl T.n_range (aV bW du rfl T.n_len PyProof.Rows.Boot.«len» (ai (dv 1) aw)) (bE (i:=5) (nd 0) rfl (Pt rfl)) dm
 (ag (bC (aK Ek (cY λ_ _ _ _=>rb _) (aV kJ sS rfl T.n_abs PyProof.Rows.Boot.«abs» (ai (dv 0) aw)) (oy ak ak) nm)
 (ag (eL (i:=2) rfl (Pt rfl) (cP (dv 3) (av (dv 1) (dv 5))))
 (ag (aI (i:=3) (nd 0) rfl (Pt rfl) (kE (dv 3) (av (dv 1) (dv 5))))
 ar))
 (ag (aI (i:=4) (nd 0) rfl (Pt rfl) (cP (bH (bH (bH (cy (dv 4) (dv 4)) (cy ak (dv 4))) (cy ak (dv 5))) ak) ak))
 (ag (eL (i:=2) rfl (Pt rfl) (cP (cP (cy (dv 4) ak) ak) (av (dv 1) (dv 5))))
 ar)))
 ar))
 (ag (aM (dv 2))
 ar))))))
def ud(T:Txt K mg t):fv P w K mg base CX0 1 (t.A 1) (t.Q 1) ["_law_d","_law_many"] (spD K 2 c8) "_law_names" (top 72) :=
 oD T.g sc (i:=1) rfl λ_ _ _ _ H _ _ hr=>(
 (ag (aI (i:=2) (nd 1) rfl (R3 rfl) l6)
 (ag (l5 (i:=3) (nd 1) rfl (Pt rfl) (kD aw))
 (ag (A5 Qg rfl rfl T.n_range (dv 1) (bE (i:=4) (nd 1) rfl (Pt rfl)) dm
 (ag (aI (i:=5) (nd 1) rfl (R3 rfl) (dq (dv 0) (c9 (cy ak (dv 4))) (c9 (bH (cy ak (dv 4)) ak))))
 (ag (aI (i:=6) (nd 1) rfl (Pt rfl) (HE l6 (ai (ft (h9 ["_law_j","_law_some","_law_e"] 1 [2,5] rfl (Cm rfl T.n_range (bH ak (av (dv 5) ak))) (bV (by decide)) (λs H C fp pn=>⟨λHe η=>(bE (i:=0) (show Qq (["_law_j","_law_some","_law_e"]:ce) from by decide) rfl (Pt rfl)),dU,(av (dv 1) (av (dv 2) (bH ak (dv 0))))⟩) ⟨rfl,rfl⟩ rfl rfl rfl rfl)) aw)))
 (ag (bC (DW.dt (sE (aK qD (cY λ_ _ _ _=>rb _) (dv 4) ak nm) (gZ (aK (dG hr.units) fZ (av (dv 5) ak) ak nm))))
 (ag (Hz (i:=6) (nd 1) rfl (Pt rfl) (bH (dq (av (dv 3) (ou (dv 4) ak)) nB (c9 (av (dv 5) ak))) (av (dv 2) (av (dv 5) ak))))
 ar)
 ar)
 (ag (aI (i:=7) (nd 1) rfl (Pt rfl) (av (dv 5) ak))
 (ag (kC _ Qg (aK (lI hr.units) lJ (dv 6) (dv 3) rfl)
 (ag (aI (i:=7) (nd 1) rfl (Pt rfl) (bH (dv 7) ak))
 (ag (aI (i:=6) (nd 1) rfl (Pt rfl) (bH (dq (dv 6) nB (c9 (sF ak))) (av (dv 2) (cP (dv 7) ak))))
 ar)))
 (ag (eL (i:=3) rfl (Pt rfl) (dv 6))
 ar)))))))
 (ag (aM (dv 3))
 ar)))))
def iT(T:Txt K mg t):fv P w K mg base CX0 2 (t.A 2) (t.Q 2) ["_law_script"] (spD K 1 aJ) "_law_cells" (top 74) :=
 oD T.g sc (i:=2) rfl λ_ _ _ _ _ _ _ hr=>(
 (ag (aI (i:=1) (nd 2) rfl (Pt rfl) (rC (dZ T) hr (ai (av (bH (dv 0) (cg (ai ak aw))) ak) (ai (bH (bH (cg (ai ak (ai ak (ai ak aw)))) (we (zJ (cg (ai ak (ai ak aw))) (we (kD (ai ak aw)) ak)) ak)) (cg (ai ak aw))) aw))))
 (ag (aI (i:=2) (nd 2) rfl (Pt rfl) (aV (Cu rfl) K3 rfl T.n_min PyProof.Rows.Boot.«min» (ai ak (ai (av (dv 1) ak) aw))))
 (ag (aM (eF (ai (dq (dv 0) (c9 ak) (c9 (bH ak (dv 2)))) (ai (dq (dv 0) (c9 (bH ak (dv 2))) (c9 ak)) aw))))
 ar))))
def kh(T:Txt K mg t):fv P w K mg base CX0 1 (t.A 3) (t.Q 3) ["_law_top","_law_bottom"] (spD K 2 bx) "_law_low" (top 70) :=
 oD T.g sc (i:=3) rfl λ_ _ _ _ _ _ _ hr=>(
 (ag (aI (i:=2) (nd 3) rfl (Pt rfl) (aV kJ sS rfl T.n_abs PyProof.Rows.Boot.«abs» (ai (dv 0) aw)))
 (ag (aI (i:=3) (nd 3) rfl (Pt rfl) (dv 1))
 (ag (kC _ Qg (aK (eQ hr.units) iy (dv 3) ak nm)
 (ag (KN (i:=2) (j:=3) rfl (nd 3) rfl rfl (by decide) rfl rfl (ai (dv 3) (ai (cP (dv 2) (dv 3)) aw)) rfl)
 ar))
 (ag (aM (eF (ai (kE (dv 0) (dv 2)) (ai (kE (dv 1) (dv 2)) aw))))
 ar)))))
def fz(T:Txt K mg t):fv P w K mg base CX0 2 (t.A 4) (t.Q 4) ["_law_d"] (spD K 1 aA) "_law_fraction" (top 71) :=
 oD T.g sc (i:=4) rfl λ_ _ _ _ _ _ _ hr=>(
 (ag (aI (i:=1) (nd 4) rfl (Pt rfl) (av (cg (ai ak (ai (cP (av (dv 0) ak) ak) (ai (cP (av (dv 0) ak) ak) (ai (av (dv 0) ak) (ai (cP (av (dv 0) ak) ak) aw)))))) (av (dv 0) ak)))
 (ag (aI (i:=2) (nd 4) rfl (Pt rfl) (av (cg (ai ak (ai ak (ai (bH ak (av (dv 0) ak)) (ai ak (ai (bH ak (cP (av (dv 0) ak) ak)) aw)))))) (av (dv 0) ak)))
 (ag (aM (rC (kh T) hr (ai (dv 1) (ai (dv 2) aw))))
 ar))))
def xt(T:Txt K mg t):fv P w K mg base CX0 3 (t.A 5) (t.Q 5) ["_law_cell","_law_k","_law_walk"] (spD K 3 bQ) "_law_tie" (top 73) :=
 oD T.g sc (i:=5) rfl λ_ _ _ _ _ _ _ hr=>(
 (ag (aI (i:=3) (nd 5) rfl (Pt rfl) (rC (dZ T) hr (ai (dv 0) (ai (cg (ai ak (ai ak (ai ak (ai ak (ai (oy ak ak) (ai ak (ai ak (ai ak (ai (oy ak ak) (ai ak (ai ak aw)))))))))))) aw))))
 (ag (aI (i:=4) (nd 5) rfl (Pt rfl) (cP (av (dv 3) ak) (aV bW du rfl T.n_len PyProof.Rows.Boot.«len» (ai (dv 2) aw))))
 (ag (aI (i:=5) (nd 5) rfl (Pt rfl) (cP (bH (bH (dv 4) ak) (cP (av (dv 3) ak) (ou (aV bW du rfl T.n_len PyProof.Rows.Boot.«len» (ai (dv 2) aw)) ak))) (aV bW du rfl T.n_len PyProof.Rows.Boot.«len» (ai (dv 2) aw))))
 (ag (bC (aK (dG hr.units) fZ (av (dv 3) ak) ak nm)
 (ag (aI (i:=4) (nd 5) rfl (Pt rfl) (cP (dv 1) (ou (aV bW du rfl T.n_len PyProof.Rows.Boot.«len» (ai (dv 2) aw)) ak)))
 (ag (aI (i:=5) (nd 5) rfl (Pt rfl) (bH (dv 4) ak))
 ar))
 ar)
 (ag (aI (i:=6) (nd 5) rfl (Pt rfl) dY)
 (ag (bC (aK qD (cY λ_ _ _ _=>rb _) (av (dv 3) ak) ak nm)
 (ag (aI (i:=6) (nd 5) rfl (Pt rfl) (rC (fz T) hr (ai (dq (dv 3) (c9 ak) (c9 ak)) aw)))
 (ag (bC (aK (dG hr.units) fZ (av (dv 6) ak) ak nm)
 (ag (aI (i:=6) (nd 5) rfl (Pt rfl) (eF (ai ak (ai ak aw))))
 ar)
 ar)
 ar))
 ar)
 (ag (aM (eF (ai (av (dv 2) (dv 4)) (ai (av (dv 2) (dv 5)) (ai (av (cg (ai l6 (ai l6 aw))) (av (dv 3) ak)) (ai (rC (fz T) hr (ai (dq (dv 3) (c9 ak) (c9 ak)) aw)) (ai (dv 6) aw)))))))
 ar))))))))
def xr(T:Txt K mg t):fv P w K mg base CX0 4 (t.A 6) (t.Q 6) ["_law_script"] (spD K 1 c6) "_law_web" (top 75) :=
 oD T.g sc (i:=6) rfl λ_ _ _ _ H _ _ hr=>(
 (ag (aI (i:=1) (nd 6) rfl (Pt rfl) (rC (dZ T) hr (ai (av (bH (dv 0) (cg (ai ak aw))) ak) (ai (bH (cg (ai ak (ai ak (ai ak aw)))) (we (zJ (cg (ai ak (ai ak aw))) (we (kD (ai ak aw)) ak)) ak)) aw))))
 (ag (aI (i:=2) (nd 6) rfl (Pt rfl) (rC (ud T) hr (ai (dq (dv 1) (c9 ak) nB) (ai (bH ak (av (dv 1) ak)) aw))))
 (ag (aI (i:=3) (nd 6) rfl (R3 rfl) (cP (av (dv 1) ak) (aV bW du rfl T.n_len PyProof.Rows.Boot.«len» (ai (dv 2) aw))))
 (ag (aI (i:=4) (nd 6) rfl (R3 rfl) (cP (bH (bH (dv 3) ak) (cP (av (dv 1) ak) (ou (aV bW du rfl T.n_len PyProof.Rows.Boot.«len» (ai (dv 2) aw)) ak))) (aV bW du rfl T.n_len PyProof.Rows.Boot.«len» (ai (dv 2) aw))))
 (ag (nA (i:=5) (nd 6) rfl rfl gS (h9 ["_law_k","_law_place","_law_first","_law_last"] 2 [3,4] rfl (gI rfl T.n_enumerate (dv 2)) (j7 (by decide)) (λs H C fp pn=>⟨λHe η=>(fF rfl (aU (i:=0) (show Qq (["_law_k","_law_place","_law_first","_law_last"]:ce) from by decide) rfl (Pt rfl) (aU (i:=1) (show Qq (["_law_k","_law_place","_law_first","_law_last"]:ce) from by decide) rfl (Pt rfl) dB))),(fK (aK (dF hr.units) dH (dv 0) (eF (ai (dv 2) (ai (dv 3) aw))) rfl)),(dv 1)⟩) ⟨rfl,rfl⟩ rfl rfl rfl rfl))
 (ag (aI (i:=6) (nd 6) rfl (R3 rfl) (bH (bH (cg (ai (av (dv 2) (dv 3)) aw)) (dv 5)) (cg (ai (av (dv 2) (dv 4)) aw))))
 (ag (nA (i:=7) (nd 6) rfl rfl gS (h9 ["_law_k","_law_cell","_law_walk"] 2 [6] rfl (gI rfl T.n_enumerate (av (rC (iT T) hr (ai (dv 0) aw)) ak)) (j7 (by decide)) (λs H C fp pn=>⟨λHe η=>(fF rfl (aU (i:=0) (show Qq (["_law_k","_law_cell","_law_walk"]:ce) from by decide) rfl (Pt rfl) (aU (i:=1) (show Qq (["_law_k","_law_cell","_law_walk"]:ce) from by decide) rfl (Pt rfl) dB))),dU,(rC (xt T) hr (ai (dv 1) (ai (dv 0) (ai (dv 2) aw))))⟩) ⟨rfl,rfl⟩ rfl rfl rfl rfl))
 (ag (aM (eF (ai (dv 2) (ai (dv 7) (ai (av (dv 2) (dv 3)) (ai (av (dv 2) (dv 4)) aw))))))
 ar)))))))))
def uc(T:Txt K mg t):fv P w K mg base CX0 3 (t.A 7) (t.Q 7) ["_law_script"] (spD K 1 bG) "_law_rooms" (top 76) :=
 oD T.g sc (i:=7) rfl λ_ _ _ _ H _ _ hr=>(
 (ag (aI (i:=1) (nd 7) rfl (R3 rfl) (cg (ai ak (ai ak (ai ak (ai ak (ai (oy ak ak) (ai ak (ai ak (ai ak (ai (oy ak ak) (ai ak (ai ak (ai ak (ai (oy ak ak) (ai ak aw))))))))))))))))
 (ag (aM (ft (h9 ["_law_cell","_law_tops"] 1 [1] rfl (cE (av (rC (iT T) hr (ai (dv 0) aw)) ak)) (bV (by decide)) (λs H C fp pn=>⟨λHe η=>(bE (i:=0) (show Qq (["_law_cell","_law_tops"]:ce) from by decide) rfl (Pt rfl)),dU,(rC (fz T) hr (ai (dq (rC (dZ T) hr (ai (dv 0) (ai (dv 1) aw))) (c9 ak) nB) aw))⟩) ⟨rfl,rfl⟩ rfl rfl rfl rfl)))
 ar)))
def vO(T:Txt K mg t):fv P w K mg base CX0 1 (t.A 8) (t.Q 8) ["_law_rooms_here"] (spD K 1 f9) "_law_ints" (top 81) :=
 oD T.g sc (i:=8) rfl λ_ _ _ _ H _ _ _=>(
 (ag (aI (i:=1) (nd 8) rfl (R3 rfl) ak)
 (ag (aM (ft (h9 ["_law_top","_law_part","_law_bottom"] 2 [1] rfl (cE (dv 0)) (j7 (by decide)) (λs H C fp pn=>⟨λHe η=>(fF rfl (aU (i:=0) (show Qq (["_law_top","_law_part","_law_bottom"]:ce) from by decide) rfl (Pt rfl) (aU (i:=1) (show Qq (["_law_top","_law_part","_law_bottom"]:ce) from by decide) rfl (Pt rfl) dB))),dU,(cy (dv 0) (kE (dv 2) (dv 1)))⟩) ⟨rfl,rfl⟩ rfl rfl rfl rfl)))
 ar)))
def jo(T:Txt K mg t):fv P w K mg base CX0 1 (t.A 9) (t.Q 9) ["thing"] (spD K 1 m_is_name) "is_name" (top 20) :=
 oD T.g sc (i:=9) rfl λ_ _ _ _ H _ _ hr=>(
 (ag (bC (DW.dt (dP (cf (cx (cI qU rfl T.n_isinstance rfl T.n_str PyProof.Rows.Boot.«str» (dv 0)))) (bw (cf (yk uI uI (gP λ_ _ _ _=>rb _) (gP λ_ _ _ _=>rb _) gQ gQ ak (aV bW du rfl T.n_len PyProof.Rows.Boot.«len» (ai (dv 0) aw)) (aQ T.ic rfl))))))
 (ag (aM jO)
 ar)
 ar)
 (ag (aM (aV (sV rfl) zN rfl T.n_all PyProof.Rows.Boot.«all» (ai (ft (h9 ["sign"] 1 [] rfl (KP (dv 0)) (bV (by decide)) (λs H C fp pn=>⟨λHe η=>(bE (i:=0) (show Qq (["sign"]:ce) from by decide) rfl (Pt rfl)),dU,(gp (lI hr.units) lJ (dv 0) (aQ T.oH rfl) rfl)⟩) ⟨rfl,rfl⟩ rfl rfl rfl rfl)) aw)))
 ar)))
def mn(T:Txt K mg t):fv P w K mg base CX0 2 (t.A 10) (t.Q 10) ["places"] (spD K 1 m_look_at_places) "look_at_places" (top 46) :=
 oD T.g sc (i:=10) rfl λ_ _ _ _ _ _ _ hr=>(
 (ag (bC (DW.dt (dP (cf (cx (cI gb rfl T.n_isinstance rfl T.n_list PyProof.Rows.Boot.«list» (dv 0)))) (bw (cf (yk uI uI (gP λ_ _ _ _=>rb _) (gP λ_ _ _ _=>rb _) gQ gQ (aQ T.gr rfl) (aV bW du rfl T.n_len PyProof.Rows.Boot.«len» (ai (dv 0) aw)) (aQ T.iX rfl))))))
 (ag cm
 ar)
 ar)
 (ag (ju Qg rfl (gI rfl T.n_enumerate (dv 0)) (fF rfl (aU (i:=1) (nd 10) rfl (Pt rfl) (aU (i:=2) (nd 10) rfl (Pt rfl) dB))) eI
 (ag (bC (DW.dt (dP (cf (cx (rC (jo T) hr (ai (dv 2) aw)))) (bw (aK (lI hr.units) lJ (dv 2) (dq (dv 0) nB (c9 (dv 1))) rfl))))
 (ag cm
 ar)
 ar)
 ar))
 ar)))
def fY(T:Txt K mg t):fv P w K mg base CX0 1 (t.A 11) (t.Q 11) ["thing"] (spD K 1 m_is_whole) "is_whole" (top 18) :=
 oD T.g sc (i:=11) rfl λ_ _ _ _ _ _ _ _=>(
 (ag (aM (kF (cI zv rfl T.n_isinstance rfl T.n_int PyProof.Rows.Boot.«int» (dv 0)) (jx (KU (cI xJ rfl T.n_isinstance rfl T.n_bool PyProof.Rows.Boot.«bool» (dv 0))))))
 ar))
def eS(T:Txt K mg t):fv P w K mg base CX0 1 (t.A 12) (t.Q 12) ["one","other"] (spD K 2 m_common_divisor) "common_divisor" (top 14) :=
 oD T.g sc (i:=12) rfl λ_ _ _ _ _ _ _ hr=>(
 (ag (aI (i:=2) (nd 12) rfl (Pt rfl) (aV kJ sS rfl T.n_abs PyProof.Rows.Boot.«abs» (ai (dv 0) aw)))
 (ag (aI (i:=3) (nd 12) rfl (Pt rfl) (aV kJ sS rfl T.n_abs PyProof.Rows.Boot.«abs» (ai (dv 1) aw)))
 (ag (kC _ Qg (aK (eQ hr.units) iy (dv 3) ak nm)
 (ag (aI (i:=4) (nd 12) rfl (Pt rfl) (cP (dv 2) (dv 3)))
 (ag (aI (i:=2) (nd 12) rfl (Pt rfl) (dv 3))
 (ag (aI (i:=3) (nd 12) rfl (Pt rfl) (dv 4))
 ar))))
 (ag (aM (dv 2))
 ar)))))
def oQ(T:Txt K mg t):fv P w K mg base CX0 2 (t.A 13) (t.Q 13) ["thing"] (spD K 1 m_is_ratio) "is_ratio" (top 19) :=
 oD T.g sc (i:=13) rfl λ_ _ _ _ _ _ _ hr=>(
 (ag (bC (DW.dt (dP (cf (cx (cI jt rfl T.n_isinstance rfl T.n_tuple PyProof.Rows.Boot.«tuple» (dv 0)))) (bw (aK (eQ hr.units) iy (aV bW du rfl T.n_len PyProof.Rows.Boot.«len» (ai (dv 0) aw)) ak nm))))
 (ag (aM jO)
 ar)
 ar)
 (ag (bC (DW.dt (dP (cf (cx (rC (fY T) hr (ai (av (dv 0) ak) aw)))) (bw (cf (cx (rC (fY T) hr (ai (av (dv 0) ak) aw)))))))
 (ag (aM jO)
 ar)
 ar)
 (ag (aM (kF (gp Ek (cY λ_ _ _ _=>rb _) (av (dv 0) ak) ak nm) (jx (gp (dG hr.units) fZ (rC (eS T) hr (ai (av (dv 0) ak) (ai (av (dv 0) ak) aw))) ak nm))))
 ar))))
def mq(T:Txt K mg t):fv P w K mg base CX0 3 (t.A 14) (t.Q 14) ["thing"] (spD K 1 m_is_length) "is_length" (top 41) :=
 oD T.g sc (i:=14) rfl λ_ _ _ _ _ _ _ hr=>(
 (ag (aM (kF (rC (oQ T) hr (ai (dv 0) aw)) (jx (gp Ek (cY λ_ _ _ _=>rb _) (av (dv 0) ak) ak nm))))
 ar))
def xp(T:Txt K mg t):fv P w K mg base CX0 3 (t.A 15) (t.Q 15) ["thing"] (spD K 1 m_is_worth) "is_worth" (top 42) :=
 oD T.g sc (i:=15) rfl λ_ _ _ _ _ _ _ hr=>(
 (ag (aM (MQ (gp ke ki (dv 0) dY nm) (jx (kF (rC (oQ T) hr (ai (dv 0) aw)) (jx (gp qD (cY λ_ _ _ _=>rb _) (av (dv 0) ak) ak nm))))))
 ar))
def BS(T:Txt K mg t):fv P w K mg base CX0 4 (t.A 16) (t.Q 16) ["thing"] (spD K 1 m_is_tie) "is_tie" (top 40) :=
 oD T.g sc (i:=16) rfl λ_ _ _ _ _ _ _ hr=>(
 (ag (bC (DW.dt (dP (cf (cx (cI jt rfl T.n_isinstance rfl T.n_tuple PyProof.Rows.Boot.«tuple» (dv 0)))) (bw (aK (eQ hr.units) iy (aV bW du rfl T.n_len PyProof.Rows.Boot.«len» (ai (dv 0) aw)) ak nm))))
 (ag (aM jO)
 ar)
 ar)
 (ag (bC (DW.dt (dP (cf (cx (rC (jo T) hr (ai (av (dv 0) (aQ T.lN rfl)) aw)))) (dP (cf (cx (rC (jo T) hr (ai (av (dv 0) (aQ T.fL rfl)) aw)))) (bw (aK (dG hr.units) fZ (av (dv 0) (aQ T.lN rfl)) (av (dv 0) (aQ T.fL rfl)) nm)))))
 (ag (aM jO)
 ar)
 ar)
 (ag (bC (DW.dt (dP (cf (cx (cI qU rfl T.n_isinstance rfl T.n_str PyProof.Rows.Boot.«str» (av (dv 0) (aQ T.oG rfl))))) (bw (aK (dF hr.units) dH (av (dv 0) (aQ T.oG rfl)) (aQ T.wt rfl) rfl))))
 (ag (aM jO)
 ar)
 ar)
 (ag (aM (kF (rC (mq T) hr (ai (av (dv 0) (aQ T.sX rfl)) aw)) (jx (rC (xp T) hr (ai (av (dv 0) (aQ T.pV rfl)) aw)))))
 ar)))))
def pC(T:Txt K mg t):fv P w K mg base CX0 5 (t.A 17) (t.Q 17) ["ties","places"] (spD K 2 m_look_at_ties) "look_at_ties" (top 47) :=
 oD T.g sc (i:=17) rfl λ_ _ _ _ _ _ _ hr=>(
 (ag (bC (DW.dt (dP (cf (cx (cI gb rfl T.n_isinstance rfl T.n_list PyProof.Rows.Boot.«list» (dv 0)))) (bw (aK qD (cY λ_ _ _ _=>rb _) (aV bW du rfl T.n_len PyProof.Rows.Boot.«len» (ai (dv 0) aw)) (aQ T.kK rfl) nm))))
 (ag cm
 ar)
 ar)
 (ag (ju Qg rfl (gI rfl T.n_enumerate (dv 0)) (fF rfl (aU (i:=2) (nd 17) rfl (Pt rfl) (aU (i:=3) (nd 17) rfl (Pt rfl) dB))) eI
 (ag (bC (DW.dt (dP (cf (cx (rC (BS T) hr (ai (dv 3) aw)))) (dP (aK (dF hr.units) dH (av (dv 3) (aQ T.lN rfl)) (dv 1) rfl) (bw (aK (dF hr.units) dH (av (dv 3) (aQ T.fL rfl)) (dv 1) rfl)))))
 (ag cm
 ar)
 ar)
 ar))
 ar)))
def kg(T:Txt K mg t):fv P w K mg base CX0 2 (t.A 18) (t.Q 18) ["thing","places"] (spD K 2 m_is_place) "is_place" (top 48) :=
 oD T.g sc (i:=18) rfl λ_ _ _ _ _ _ _ hr=>(
 (ag (aM (kF (rC (jo T) hr (ai (dv 0) aw)) (jx (gp (lI hr.units) lJ (dv 0) (dv 1) rfl))))
 ar))
def gU(T:Txt K mg t):fv P w K mg base CX0 6 (t.A 19) (t.Q 19) ["thing"] (spD K 1 m_look_at_web) "look_at_web" (top 45) :=
 oD T.g sc (i:=19) rfl λ_ _ _ _ _ _ _ hr=>(
 (ag (bC (DW.dt (dP (cf (cx (cI jt rfl T.n_isinstance rfl T.n_tuple PyProof.Rows.Boot.«tuple» (dv 0)))) (bw (aK (eQ hr.units) iy (aV bW du rfl T.n_len PyProof.Rows.Boot.«len» (ai (dv 0) aw)) ak nm))))
 (ag cm
 ar)
 ar)
 (ag (fJ (rC (mn T) hr (ai (av (dv 0) (aQ T.eX rfl)) aw)))
 (ag (fJ (rC (pC T) hr (ai (av (dv 0) (aQ T.jF rfl)) (ai (av (dv 0) (aQ T.eX rfl)) aw))))
 (ag (bC (cf (cx (rC (kg T) hr (ai (av (dv 0) (aQ T.jG rfl)) (ai (av (dv 0) (aQ T.eX rfl)) aw)))))
 (ag cm
 ar)
 ar)
 (ag (bC (DW.dt (dP (cf (cx (rC (kg T) hr (ai (av (dv 0) (aQ T.oI rfl)) (ai (av (dv 0) (aQ T.eX rfl)) aw))))) (bw (aK (dG hr.units) fZ (av (dv 0) (aQ T.oI rfl)) (av (dv 0) (aQ T.jG rfl)) nm))))
 (ag cm
 ar)
 ar)
 ar))))))
def qH(T:Txt K mg t):fv P w K mg base CX0 4 (t.A 20) (t.Q 20) ["web","thing"] (spD K 2 m_has_lengths) "has_lengths" (top 44) :=
 oD T.g sc (i:=20) rfl λ_ _ _ _ H _ _ hr=>(
 (ag (bC (DW.dt (dP (cf (cx (cI gb rfl T.n_isinstance rfl T.n_list PyProof.Rows.Boot.«list» (dv 1)))) (bw (aK (eQ hr.units) iy (aV bW du rfl T.n_len PyProof.Rows.Boot.«len» (ai (dv 1) aw)) (aV bW du rfl T.n_len PyProof.Rows.Boot.«len» (ai (av (dv 0) (aQ T.jF rfl)) aw)) nm))))
 (ag (aM jO)
 ar)
 ar)
 (ag (aM (aV (sV rfl) zN rfl T.n_all PyProof.Rows.Boot.«all» (ai (ft (h9 ["one"] 1 [] rfl (cE (dv 1)) (bV (by decide)) (λs H C fp pn=>⟨λHe η=>(bE (i:=0) (show Qq (["one"]:ce) from by decide) rfl (Pt rfl)),dU,(rC (mq T) hr (ai (dv 0) aw))⟩) ⟨rfl,rfl⟩ rfl rfl rfl rfl)) aw)))
 ar)))
def i4(T:Txt K mg t):fv P w K mg base CX0 7 (t.A 21) (t.Q 21) ["web","thing"] (spD K 2 dh) "look_at_rooms" (top 60) :=
 oD T.g sc (i:=21) rfl λ_ _ _ _ _ _ _ hr=>(
 (ag (fJ (rC (gU T) hr (ai (dv 0) aw)))
 (ag (bC (cf (cx (rC (qH T) hr (ai (dv 0) (ai (dv 1) aw)))))
 (ag cm
 ar)
 ar)
 ar)))
def oh(T:Txt K mg t):fv P w K mg base CX0 2 (t.A 22) (t.Q 22) ["web","thing"] (spD K 2 m_is_tie_number) "is_tie_number" (top 43) :=
 oD T.g sc (i:=22) rfl λ_ _ _ _ _ _ _ hr=>(
 (ag (aM (kF (rC (fY T) hr (ai (dv 1) aw)) (jx (Fe uI Ej (gP λ_ _ _ _=>rb _) (gP λ_ _ _ _=>rb _) gQ gQ ak (dv 1) (aV bW du rfl T.n_len PyProof.Rows.Boot.«len» (ai (av (dv 0) (aQ T.jF rfl)) aw))))))
 ar))
def iw(T:Txt K mg t):fv P w K mg base CX0 7 (t.A 23) (t.Q 23) ["web","thing"] (spD K 2 m_look_at_taking) "look_at_taking" (top 58) :=
 oD T.g sc (i:=23) rfl λ_ _ _ _ _ _ _ hr=>(
 (ag (fJ (rC (gU T) hr (ai (dv 0) aw)))
 (ag (bC (cf (cx (cI gb rfl T.n_isinstance rfl T.n_list PyProof.Rows.Boot.«list» (dv 1))))
 (ag cm
 ar)
 ar)
 (ag (aI (i:=2) (nd 23) rfl (Pt rfl) (sF ak))
 (ag (jv Qg rfl (dv 1) (bE (i:=3) (nd 23) rfl (Pt rfl)) dm
 (ag (bC (DW.dt (dP (cf (cx (rC (oh T) hr (ai (dv 0) (ai (dv 3) aw))))) (bw (aK uI (cY λ_ _ _ _=>rb _) (dv 3) (dv 2) nm))))
 (ag cm
 ar)
 ar)
 (ag (bC (aK ke ki (av (av (av (dv 0) (aQ T.jF rfl)) (dv 3)) (aQ T.pV rfl)) dY nm)
 (ag cm
 ar)
 ar)
 (ag (aI (i:=2) (nd 23) rfl (Pt rfl) (dv 3))
 ar))))
 ar)))))
def og(T:Txt K mg t):fv P w K mg base CX0 2 (t.A 24) (t.Q 24) ["some"] (spD K 1 m_shared_bottom) "shared_bottom" (top 55) :=
 oD T.g sc (i:=24) rfl λ_ _ _ _ _ _ _ hr=>(
 (ag (aI (i:=1) (nd 24) rfl (Pt rfl) ak)
 (ag (jv Qg rfl (dv 0) (bE (i:=2) (nd 24) rfl (Pt rfl)) dm
 (ag (aI (i:=1) (nd 24) rfl (Pt rfl) (cy (kE (dv 1) (rC (eS T) hr (ai (dv 1) (ai (av (dv 2) ak) aw)))) (av (dv 2) ak)))
 ar))
 (ag (aM (dv 1))
 ar))))
def xq(T:Txt K mg t):fv P w K mg base CX0 1 (t.A 25) (t.Q 25) ["one","bottom"] (spD K 2 m_as_whole) "as_whole" (top 56) :=
 oD T.g sc (i:=25) rfl λ_ _ _ _ _ _ _ _=>(
 (ag (aM (cy (av (dv 0) ak) (kE (dv 1) (av (dv 0) ak))))
 ar))
def jL(T:Txt K mg t):fv P w K mg base CX0 3 (t.A 26) (t.Q 26) ["some"] (spD K 1 m_on_one_scale) "on_one_scale" (top 54) :=
 oD T.g sc (i:=26) rfl λ_ _ _ _ H _ _ hr=>(
 (ag (aI (i:=1) (nd 26) rfl (R3 rfl) (rC (og T) hr (ai (ft (h9 ["one"] 1 [] rfl (cE (dv 0)) (bV (by decide)) (λs H C fp pn=>⟨λHe η=>(bE (i:=0) (show Qq (["one"]:ce) from by decide) rfl (Pt rfl)),(fK (aK vJ vQ (dv 0) dY nm)),(dv 0)⟩) ⟨rfl,rfl⟩ rfl rfl rfl rfl)) aw)))
 (ag (aM (eF (ai (ft (h9 ["one","bottom"] 1 [1] rfl (cE (dv 0)) (bV (by decide)) (λs H C fp pn=>⟨λHe η=>(bE (i:=0) (show Qq (["one","bottom"]:ce) from by decide) rfl (Pt rfl)),dU,(yo (aK ke ki (dv 0) dY nm) dY (rC (xq T) hr (ai (dv 0) (ai (dv 1) aw))))⟩) ⟨rfl,rfl⟩ rfl rfl rfl rfl)) (ai (dv 1) aw))))
 ar)))
def jM(T:Txt K mg t):fv P w K mg base CX0 1 (t.A 27) (t.Q 27) ["turns","first"] (spD K 2 m_fewest_turns) "fewest_turns" (top 3) :=
 oD T.g sc (i:=27) rfl λ_ _ _ _ _ _ _ hr=>(
 (ag (HB (i:=2) (nd 27) rfl (Pt rfl) (Cn (dv 1) (cg aw)))
 (ag (l5 (i:=3) (nd 27) rfl (Pt rfl) (kD (ai (dv 1) aw)))
 (ag (kC _ Qg (aK (eQ hr.units) iy (dv 3) (cg aw) nm)
 (ag (yl (i:=4) (j:=3) (nd 27) rfl (Pt rfl) rfl (Pt rfl) ak)
 (ag (jv Qg rfl (dv 0) (bE (i:=5) (nd 27) rfl (Pt rfl)) dm
 (ag (bC (DW.dt (sE (aK (dG hr.units) fZ (iU (dv 5)) (dv 4) nm) (gZ (aK (BQ (Jd hr.units)) BW (iU (dv 5)) (dv 2) rfl))))
 (ag (E6 (i:=2) (Jd hr.units) rfl (Pt rfl) (zJ (wg (Jd hr.units) (dv 2) (dv 4)) (cg (ai (dv 5) aw))) (iU (dv 5)))
 (ag (eL (i:=3) rfl (Pt rfl) (iU (dv 5)))
 ar))
 ar)
 ar))
 ar)))
 (ag (aM (dv 2))
 ar)))))
def tZ(T:Txt K mg t):fv P w K mg base CX0 1 (t.A 28) (t.Q 28) ["amounts","turns","more"] (spD K 3 m_sent_along) "sent_along" (top 5) :=
 oD T.g sc (i:=28) rfl λ_ _ _ _ _ _ _ _=>(
 (ag (l5 (i:=3) (nd 28) rfl (Pt rfl) (HC rfl T.n_list (ai (dv 0) aw)))
 (ag (jv Qg rfl (dv 1) (bE (i:=4) (nd 28) rfl (Pt rfl)) dm
 (ag (HA (i:=3) rfl (Pt rfl) (bH (av (dv 3) (iU (dv 4))) (cy (iU (dv 4)) (dv 2))) (iU (dv 4)))
 ar))
 (ag (aM (dv 3))
 ar))))
def ua(T:Txt K mg t):fv P w K mg base CX0 1 (t.A 29) (t.Q 29) ["turns"] (spD K 1 m_least_room) "least_room" (top 4) :=
 oD T.g sc (i:=29) rfl λ_ _ _ _ H _ _ _=>(
 (ag (aM (aV (u0 rfl) Bb rfl T.n_min PyProof.Rows.Boot.«min» (ai (ft (h9 ["turn"] 1 [] rfl (cE (dv 0)) (bV (by decide)) (λs H C fp pn=>⟨λHe η=>(bE (i:=0) (show Qq (["turn"]:ce) from by decide) rfl (Pt rfl)),(fK (aK vJ vQ (iU (dv 0)) dY nm)),(iU (dv 0))⟩) ⟨rfl,rfl⟩ rfl rfl rfl rfl)) aw)))
 ar))
def tX(T:Txt K mg t):fv P w K mg base CX0 3 (t.A 30) (t.Q 30) ["web","rooms","taken","amounts"] (spD K 4 m_turns_left) "turns_left" (top 67) :=
 oD T.g sc (i:=30) rfl λ_ _ _ _ H _ _ hr=>(
 (ag (l5 (i:=4) (nd 30) rfl (Pt rfl) (kD aw))
 (ag (ju Qg rfl (gI rfl T.n_enumerate (av (dv 0) (aQ T.jF rfl))) (fF rfl (aU (i:=5) (nd 30) rfl (Pt rfl) (aU (i:=6) (nd 30) rfl (Pt rfl) dB))) eI
 (ag (bC (aK (dF hr.units) dH (dv 5) (dv 2) rfl)
 (ag (aI (i:=7) (nd 30) rfl (Pt rfl) (yo (aK (dG hr.units) fZ (av (dv 6) (aQ T.oG rfl)) l6 nm) (av (dv 3) (dv 5)) (bH (av (dv 1) (dv 5)) (av (dv 3) (dv 5)))))
 (ag (eL (i:=4) rfl (Pt rfl) (Fd T.AR ((uR T).mono (by decide:1<=1)) hr rfl T.AZ T.pL.ns T.pX T.pL.recC xn (ai (dv 5) (ai ak (ai (av (dv 6) (aQ T.lN rfl)) (ai (av (dv 6) (aQ T.fL rfl)) (ai ak (ai (ou (av (dv 1) (dv 5)) (av (dv 3) (dv 5))) aw))))))))
 (ag (eL (i:=4) rfl (Pt rfl) (Fd T.AR ((uR T).mono (by decide:1<=1)) hr rfl T.AZ T.pL.ns T.pX T.pL.recC xn (ai (dv 5) (ai (sF ak) (ai (av (dv 6) (aQ T.fL rfl)) (ai (av (dv 6) (aQ T.lN rfl)) (ai ak (ai (dv 7) aw))))))))
 ar)))
 ar)
 ar))
 (ag (aM (ft (h9 ["turn"] 1 [] rfl (cE (dv 4)) (bV (by decide)) (λs H C fp pn=>⟨λHe η=>(bE (i:=0) (show Qq (["turn"]:ce) from by decide) rfl (Pt rfl)),(fK (aK qD (cY λ_ _ _ _=>rb _) (iU (dv 0)) ak nm)),(dv 0)⟩) ⟨rfl,rfl⟩ rfl rfl rfl rfl)))
 ar))))
def tW(T:Txt K mg t):l9 P w K mg base CX0 4 (qT "most_flow") gD :=
 vU (k:=3) T.lm_most_flow.lk vS (λ_ _ _ _ us hl=>by obtain⟨_,rfl⟩:=NS hl;rfl) λf c' clos A outer s H hr=>(
 (rC (tX T) hr (ai (dv 1) (ai (av (dv 3) ak) (ai (dv 2) (ai (dv 0) aw))))))
def qL(T:Txt K mg t):jI P w K mg base CX0 4 lt_filled:=(B1 ((tW T).mono (by decide)) EE)
def BU(T:Txt K mg t):fv P w K mg base CX0 5 (t.A 31) (t.Q 31) ["turns_with","amounts","first","last"] (spD K 4 m_filled) "filled" (top 2) :=
 oD T.g sc (i:=31) rfl λ_ _ _ _ _ _ _ hr=>(
 (ag (aI (i:=4) (nd 31) rfl (Pt rfl) (rC (jM T) hr (ai (yp (qL T) hr rfl (Pt rfl) (ai (dv 1) aw)) (ai (dv 2) aw))))
 (ag (kC _ Qg (aK (El (Jd hr.units)) En (dv 3) (dv 4) rfl)
 (ag (aI (i:=1) (nd 31) rfl (Pt rfl) (rC (tZ T) hr (ai (dv 1) (ai (wg (Jd hr.units) (dv 4) (dv 3)) (ai (rC (ua T) hr (ai (wg (Jd hr.units) (dv 4) (dv 3)) aw)) aw)))))
 (ag (aI (i:=4) (nd 31) rfl (Pt rfl) (rC (jM T) hr (ai (yp (qL T) hr rfl (Pt rfl) (ai (dv 1) aw)) (ai (dv 2) aw))))
 ar)))
 (ag (aM (eF (ai (dv 1) (ai (dv 4) aw))))
 ar))))
def qF(T:Txt K mg t):fv P w K mg base CX0 2 (t.A 32) (t.Q 32) ["top","bottom"] (spD K 2 m_ratio) "ratio" (top 23) :=
 oD T.g sc (i:=32) rfl λ_ _ _ _ _ _ _ hr=>(
 (ag (bC (DW.dt (dP (cf (cx (rC (fY T) hr (ai (dv 0) aw)))) (bw (cf (cx (rC (fY T) hr (ai (dv 1) aw)))))))
 (ag cm
 ar)
 ar)
 (ag (bC (aK (dG hr.units) fZ (dv 1) ak nm)
 (ag cm
 ar)
 ar)
 (ag (aI (i:=2) (nd 32) rfl (Pt rfl) (rC (eS T) hr (ai (dv 0) (ai (dv 1) aw))))
 (ag (bC (aK Ej (cY λ_ _ _ _=>rb _) (dv 1) ak nm)
 (ag (aI (i:=2) (nd 32) rfl (Pt rfl) (sF (dv 2)))
 ar)
 ar)
 (ag (aM (eF (ai (kE (dv 0) (dv 2)) (ai (kE (dv 1) (dv 2)) aw))))
 ar))))))
def vL(T:Txt K mg t):fv P w K mg base CX0 8 (t.A 33) (t.Q 33) ["web","rooms","taking"] (spD K 3 iz) "most_flow" (top 66) :=
 OR T.g sc (i:=33) rfl λ_ hcd _ _ _ H _ _ hr=>(
 (ag (fJ (rC (i4 T) hr (ai (dv 0) (ai (dv 1) aw))))
 (ag (fJ (rC (iw T) hr (ai (dv 0) (ai (dv 2) aw))))
 (ag (aI (i:=3) (nd 33) rfl (R3 rfl) (rC (jL T) hr (ai (dv 1) aw)))
 (ag (nA (i:=4) (nd 33) rfl rfl gS (h9 ["room"] 1 [] rfl (cE (dv 1)) (bV (by decide)) (λs H C fp pn=>⟨λHe η=>(bE (i:=0) (show Qq (["room"]:ce) from by decide) rfl (Pt rfl)),dU,ak⟩) ⟨rfl,rfl⟩ rfl rfl rfl rfl))
 (ag (aI (i:=5) (nd 33) rfl (R3 rfl) (Ff (BU T) hr T.lm_most_flow HN (HW (F:=gF) T.lm_most_flow hcd (ai (dv 4) (ai (av (dv 0) (aQ T.jG rfl)) (ai (av (dv 0) (aQ T.oI rfl)) aw)))) (K8 (K8 (K8 O5)))))
 (ag (nA (i:=6) (nd 33) rfl rfl gS (h9 ["place","found"] 1 [5] rfl (cE (av (dv 0) (aQ T.eX rfl))) (bV (by decide)) (λs H C fp pn=>⟨λHe η=>(bE (i:=0) (show Qq (["place","found"]:ce) from by decide) rfl (Pt rfl)),(fK (aK (El (Jd hr.units)) En (dv 0) (av (dv 1) ak) rfl)),(dv 0)⟩) ⟨rfl,rfl⟩ rfl rfl rfl rfl))
 (ag (aM (eF (ai (ft (h9 ["amount","scaled"] 1 [3] rfl (cE (av (dv 5) ak)) (bV (by decide)) (λs H C fp pn=>⟨λHe η=>(bE (i:=0) (show Qq (["amount","scaled"]:ce) from by decide) rfl (Pt rfl)),dU,(rC (qF T) hr (ai (dv 0) (ai (av (dv 1) ak) aw)))⟩) ⟨rfl,rfl⟩ rfl rfl rfl rfl)) (ai (dv 6) aw))))
 ar))))))))
def vM(T:Txt K mg t):fv P w K mg base CX0 1 (t.A 34) (t.Q 34) ["web","sizes","place"] (spD K 3 m_goes_from) "goes_from" (top 61) :=
 oD T.g sc (i:=34) rfl λ_ _ _ _ _ _ _ hr=>(
 (ag (aI (i:=3) (nd 34) rfl (Pt rfl) ak)
 (ag (ju Qg rfl (KO rfl T.n_zip (av (dv 0) (aQ T.jF rfl)) (dv 1)) (fF rfl (aU (i:=4) (nd 34) rfl (Pt rfl) (aU (i:=5) (nd 34) rfl (Pt rfl) dB))) eI
 (ag (bC (aK (dG hr.units) fZ (av (dv 4) (aQ T.lN rfl)) (dv 2) nm)
 (ag (aI (i:=3) (nd 34) rfl (Pt rfl) (bH (dv 3) (dv 5)))
 ar)
 ar)
 (ag (bC (aK (dG hr.units) fZ (av (dv 4) (aQ T.fL rfl)) (dv 2) nm)
 (ag (aI (i:=3) (nd 34) rfl (Pt rfl) (ou (dv 3) (dv 5)))
 ar)
 ar)
 ar)))
 (ag (aM (dv 3))
 ar))))
def vN(T:Txt K mg t):fv P w K mg base CX0 7 (t.A 35) (t.Q 35) ["web","flow"] (spD K 2 eK) "amount_of" (top 62) :=
 oD T.g sc (i:=35) rfl λ_ _ _ _ _ _ _ hr=>(
 (ag (fJ (rC (gU T) hr (ai (dv 0) aw)))
 (ag (aI (i:=2) (nd 35) rfl (Pt rfl) (rC (jL T) hr (ai (dv 1) aw)))
 (ag (aM (rC (qF T) hr (ai (rC (vM T) hr (ai (dv 0) (ai (av (dv 2) ak) (ai (av (dv 0) (aQ T.jG rfl)) aw)))) (ai (av (dv 2) ak) aw))))
 ar))))
def mr(T:Txt K mg t):fv P w K mg base CX0 2 (t.A 36) (t.Q 36) ["_law_one","_law_other","_law_sign"] (spD K 3 bI) "_law_plus" (top 77) :=
 oD T.g sc (i:=36) rfl λ_ _ _ _ _ _ _ hr=>(
 (ag (aM (rC (kh T) hr (ai (bH (cy (av (dv 0) ak) (av (dv 1) ak)) (cy (cy (dv 2) (av (dv 1) ak)) (av (dv 0) ak))) (ai (cy (av (dv 0) ak) (av (dv 1) ak)) aw))))
 ar))
def ue(T:Txt K mg t):fv P w K mg base CX0 3 (t.A 37) (t.Q 37) ["_law_web_here","_law_flow","_law_place"] (spD K 3 cL) "_law_going" (top 78) :=
 oD T.g sc (i:=37) rfl λ_ _ _ _ _ _ _ hr=>(
 (ag (aI (i:=3) (nd 37) rfl (Pt rfl) (eF (ai ak (ai ak aw))))
 (ag (ju Qg rfl (gI rfl T.n_enumerate (av (dv 0) ak)) (fF rfl (aU (i:=4) (nd 37) rfl (Pt rfl) (aU (i:=5) (nd 37) rfl (Pt rfl) dB))) eI
 (ag (bC (aK (dG hr.units) fZ (av (dv 5) ak) (dv 2) nm)
 (ag (aI (i:=3) (nd 37) rfl (Pt rfl) (rC (mr T) hr (ai (dv 3) (ai (av (dv 1) (dv 4)) (ai ak aw)))))
 ar)
 ar)
 (ag (bC (aK (dG hr.units) fZ (av (dv 5) ak) (dv 2) nm)
 (ag (aI (i:=3) (nd 37) rfl (Pt rfl) (rC (mr T) hr (ai (dv 3) (ai (av (dv 1) (dv 4)) (ai (sF ak) aw)))))
 ar)
 ar)
 ar)))
 (ag (aM (dv 3))
 ar))))
def pE(T:Txt K mg t):fv P w K mg base CX0 3 (t.A 38) (t.Q 38) ["web","thing"] (spD K 2 dJ) "look_at_side" (top 64) :=
 oD T.g sc (i:=38) rfl λ_ _ _ _ H _ _ hr=>(
 (ag (bC (DW.dt (dP (cf (cx (cI gb rfl T.n_isinstance rfl T.n_list PyProof.Rows.Boot.«list» (dv 1)))) (bw (cf (cx (aV (sV rfl) zN rfl T.n_all PyProof.Rows.Boot.«all» (ai (ft (h9 ["one","web"] 1 [0] rfl (cE (dv 1)) (bV (by decide)) (λs H C fp pn=>⟨λHe η=>(bE (i:=0) (show Qq (["one","web"]:ce) from by decide) rfl (Pt rfl)),dU,(rC (kg T) hr (ai (dv 0) (ai (av (dv 1) (aQ T.eX rfl)) aw)))⟩) ⟨rfl,rfl⟩ rfl rfl rfl rfl)) aw)))))))
 (ag cm
 ar)
 ar)
 (ag (bC (aK (eQ hr.units) iy (dv 1) (ft (h9 ["place","thing"] 1 [1] rfl (cE (av (dv 0) (aQ T.eX rfl))) (bV (by decide)) (λs H C fp pn=>⟨λHe η=>(bE (i:=0) (show Qq (["place","thing"]:ce) from by decide) rfl (Pt rfl)),(fK (aK (lI hr.units) lJ (dv 0) (dv 1) rfl)),(dv 0)⟩) ⟨rfl,rfl⟩ rfl rfl rfl rfl)) nm)
 (ag cm
 ar)
 ar)
 (ag (bC (DW.dt (dP (aK (dF hr.units) dH (av (dv 0) (aQ T.jG rfl)) (dv 1) rfl) (bw (aK (lI hr.units) lJ (av (dv 0) (aQ T.oI rfl)) (dv 1) rfl))))
 (ag cm
 ar)
 ar)
 ar))))
def GY(T:Txt K mg t):fv P w K mg base CX0 3 (t.A 39) (t.Q 39) ["one","other"] (spD K 2 m_plus) "plus" (top 24) :=
 oD T.g sc (i:=39) rfl λ_ _ _ _ _ _ _ hr=>(
 (ag (aM (rC (qF T) hr (ai (bH (cy (av (dv 0) ak) (av (dv 1) ak)) (cy (av (dv 1) ak) (av (dv 0) ak))) (ai (cy (av (dv 0) ak) (av (dv 1) ak)) aw))))
 ar))
def BR(T:Txt K mg t):fv P w K mg base CX0 4 (t.A 40) (t.Q 40) ["some"] (spD K 1 m_sum_of) "sum_of" (top 25) :=
 oD T.g sc (i:=40) rfl λ_ _ _ _ _ _ _ hr=>(
 (ag (aI (i:=1) (nd 40) rfl (Pt rfl) (aQ T.sW rfl))
 (ag (jv Qg rfl (dv 0) (bE (i:=2) (nd 40) rfl (Pt rfl)) dm
 (ag (aI (i:=1) (nd 40) rfl (Pt rfl) (rC (GY T) hr (ai (dv 1) (ai (dv 2) aw))))
 ar))
 (ag (aM (dv 1))
 ar))))
def qE(T:Txt K mg t):fv P w K mg base CX0 1 (t.A 41) (t.Q 41) ["tie"] (spD K 1 m_steps_along) "steps_along" (top 50) :=
 oD T.g sc (i:=41) rfl λ_ _ _ _ _ _ _ hr=>(
 (ag (aI (i:=1) (nd 41) rfl (Pt rfl) (eF (ai (av (dv 0) (aQ T.lN rfl)) (ai (av (dv 0) (aQ T.fL rfl)) aw))))
 (ag (bC (aK (dG hr.units) fZ (av (dv 0) (aQ T.oG rfl)) l6 nm)
 (ag (aM (cg (ai (dv 1) aw)))
 ar)
 ar)
 (ag (aM (cg (ai (dv 1) (ai (eF (ai (av (dv 0) (aQ T.fL rfl)) (ai (av (dv 0) (aQ T.lN rfl)) aw))) aw))))
 ar))))
def tY(T:Txt K mg t):fv P w K mg base CX0 2 (t.A 42) (t.Q 42) ["web","taken"] (spD K 2 m_steps_left) "steps_left" (top 51) :=
 oD T.g sc (i:=42) rfl λ_ _ _ _ _ _ _ hr=>(
 (ag (l5 (i:=2) (nd 42) rfl (Pt rfl) (kD aw))
 (ag (ju Qg rfl (gI rfl T.n_enumerate (av (dv 0) (aQ T.jF rfl))) (fF rfl (aU (i:=3) (nd 42) rfl (Pt rfl) (aU (i:=4) (nd 42) rfl (Pt rfl) dB))) eI
 (ag (bC (aK (dF hr.units) dH (dv 3) (dv 1) rfl)
 (ag (jv Qg rfl (rC (qE T) hr (ai (dv 4) aw)) (fF rfl (aU (i:=5) (nd 42) rfl (Pt rfl) (aU (i:=6) (nd 42) rfl (Pt rfl) dB))) eI
 (ag (eL (i:=2) rfl (Pt rfl) (eF (ai (dv 3) (ai (dv 5) (ai (dv 6) aw)))))
 ar))
 ar)
 ar)
 ar))
 (ag (aM (dv 2))
 ar))))
def qG(T:Txt K mg t):fv P w K mg base CX0 3 (t.A 43) (t.Q 43) ["web","taken","side"] (spD K 3 m_numbers_out) "numbers_out" (top 52) :=
 oD T.g sc (i:=43) rfl λ_ _ _ _ H _ _ hr=>(
 (ag (aM (ft (h9 ["number","here","there","side"] 3 [2] rfl (cE (rC (tY T) hr (ai (dv 0) (ai (dv 1) aw)))) (j7 (by decide)) (λs H C fp pn=>⟨λHe η=>(fF rfl (aU (i:=0) (show Qq (["number","here","there","side"]:ce) from by decide) rfl (Pt rfl) (aU (i:=1) (show Qq (["number","here","there","side"]:ce) from by decide) rfl (Pt rfl) (aU (i:=2) (show Qq (["number","here","there","side"]:ce) from by decide) rfl (Pt rfl) dB)))),(fK (DW.dt (sE (aK (lI hr.units) lJ (dv 1) (dv 3) rfl) (gZ (aK (dF hr.units) dH (dv 2) (dv 3) rfl))))),(dv 0)⟩) ⟨rfl,rfl⟩ rfl rfl rfl rfl)))
 ar))
def zj(T:Txt K mg t):fv P w K mg base CX0 8 (t.A 44) (t.Q 44) ["web","rooms","taking","side"] (spD K 4 k9) "room_of" (top 63) :=
 oD T.g sc (i:=44) rfl λ_ _ _ _ H _ _ hr=>(
 (ag (fJ (rC (i4 T) hr (ai (dv 0) (ai (dv 1) aw))))
 (ag (fJ (rC (iw T) hr (ai (dv 0) (ai (dv 2) aw))))
 (ag (fJ (rC (pE T) hr (ai (dv 0) (ai (dv 3) aw))))
 (ag (aM (rC (BR T) hr (ai (ft (h9 ["number","rooms"] 1 [1] rfl (cE (rC (qG T) hr (ai (dv 0) (ai (dv 2) (ai (dv 3) aw))))) (bV (by decide)) (λs H C fp pn=>⟨λHe η=>(bE (i:=0) (show Qq (["number","rooms"]:ce) from by decide) rfl (Pt rfl)),dU,(av (dv 1) (dv 0))⟩) ⟨rfl,rfl⟩ rfl rfl rfl rfl)) aw)))
 ar)))))
def mv(T:Txt K mg t):fv P w K mg base CX0 9 (t.A 45) (t.Q 45) ["_law_web_here","_law_rooms_here","_law_taking"] (spD K 3 dM) "_law_most" (top 84) :=
 oD T.g sc (i:=45) rfl λ_ _ _ _ _ _ _ hr=>(
 (ag (KL rfl (rC (vL T) hr (ai (dv 0) (ai (dv 1) (ai (dv 2) aw)))) (aU (i:=3) (nd 45) rfl (Pt rfl) (aU (i:=4) (nd 45) rfl (Pt rfl) dB)))
 (ag (aI (i:=5) (nd 45) rfl (Pt rfl) (rC (vN T) hr (ai (dv 0) (ai (dv 3) aw))))
 (ag (bC (DW.dt (dP (aK (eQ hr.units) iy (dv 5) (rC (ue T) hr (ai (dv 0) (ai (dv 3) (ai (av (dv 0) ak) aw)))) nm) (bw (aK (eQ hr.units) iy (rC (zj T) hr (ai (dv 0) (ai (dv 1) (ai (dv 2) (ai (dv 4) aw))))) (dv 5) nm))))
 (ag (aM dY)
 ar)
 ar)
 (ag (aM (dv 5))
 ar)))))
def mw(T:Txt K mg t):fv P w K mg base CX0 1 (t.A 46) (t.Q 46) ["_law_tie_here","_law_side"] (spD K 2 bu) "_law_leads_out" (top 80) :=
 oD T.g sc (i:=46) rfl λ_ _ _ _ _ _ _ hr=>(
 (ag (bC (aK (dG hr.units) fZ (av (dv 0) ak) l6 nm)
 (ag (aM (gp (eQ hr.units) iy (gp (lI hr.units) lJ (av (dv 0) ak) (dv 1) rfl) (gp (lI hr.units) lJ (av (dv 0) ak) (dv 1) rfl) nm))
 ar)
 ar)
 (ag (aM (kF (gp (lI hr.units) lJ (av (dv 0) ak) (dv 1) rfl) (jx (gp (dF hr.units) dH (av (dv 0) ak) (dv 1) rfl))))
 ar)))
def ub(T:Txt K mg t):fv P w K mg base CX0 1 (t.A 47) (t.Q 47) ["_law_web_here"] (spD K 1 gE) "_law_sides" (top 82) :=
 oD T.g sc (i:=47) rfl λ_ _ _ _ H _ _ hr=>(
 (ag (aI (i:=1) (nd 47) rfl (Pt rfl) (cg (ai (cg (ai (av (dv 0) ak) aw)) aw)))
 (ag (jv Qg rfl (av (dv 0) ak) (bE (i:=2) (nd 47) rfl (R3 rfl)) dm
 (ag (bC (aK (dF hr.units) dH (dv 2) (eF (ai (av (dv 0) ak) (ai (av (dv 0) ak) aw))) rfl)
 (ag (aI (i:=1) (nd 47) rfl (Pt rfl) (bH (dv 1) (ft (h9 ["_law_side","_law_place"] 1 [2] rfl (cE (dv 1)) (bV (by decide)) (λs H C fp pn=>⟨λHe η=>(bE (i:=0) (show Qq (["_law_side","_law_place"]:ce) from by decide) rfl (Pt rfl)),dU,(bH (dv 0) (cg (ai (dv 1) aw)))⟩) ⟨rfl,rfl⟩ rfl rfl rfl rfl))))
 ar)
 ar)
 ar))
 (ag (aM (dv 1))
 ar))))
def lU(T:Txt K mg t):fv P w K mg base CX0 2 (t.A 48) (t.Q 48) ["_law_web_here","_law_numbers","_law_taken"] (spD K 3 dz) "_law_least_room" (top 83) :=
 oD T.g sc (i:=48) rfl λ_ _ _ _ _ _ _ hr=>(
 (ag (l5 (i:=3) (nd 48) rfl (Pt rfl) (kD aw))
 (ag (jv Qg rfl (rC (ub T) hr (ai (dv 0) aw)) (bE (i:=4) (nd 48) rfl (Pt rfl)) dm
 (ag (aI (i:=5) (nd 48) rfl (Pt rfl) ak)
 (ag (ju Qg rfl (gI rfl T.n_enumerate (av (dv 0) ak)) (fF rfl (aU (i:=6) (nd 48) rfl (Pt rfl) (aU (i:=7) (nd 48) rfl (Pt rfl) dB))) eI
 (ag (bC (DW.dt (sE (aK (dF hr.units) dH (dv 6) (dv 2) rfl) (gZ (cx (rC (mw T) hr (ai (dv 7) (ai (dv 4) aw)))))))
 (ag (aI (i:=5) (nd 48) rfl (Pt rfl) (bH (dv 5) (av (dv 1) (dv 6))))
 ar)
 ar)
 ar))
 (ag (eL (i:=3) rfl (Pt rfl) (dv 5))
 ar))))
 (ag (aM (aV (u0 rfl) Bb rfl T.n_min PyProof.Rows.Boot.«min» (ai (dv 3) aw)))
 ar))))
def iS(T:Txt K mg t):fv P w K mg base CX0 10 (t.A 49) (t.Q 49) ["_law_web_here","_law_rooms_here","_law_numbers","_law_taking"] (spD K 4 bR) "_law_right" (top 85) :=
 oD T.g sc (i:=49) rfl λ_ _ _ _ _ _ _ hr=>(
 (ag (aI (i:=4) (nd 49) rfl (Pt rfl) (rC (mv T) hr (ai (dv 0) (ai (dv 1) (ai (dv 3) aw)))))
 (ag (bC (aK ke ki (dv 4) dY nm)
 (ag (aM dY)
 ar)
 ar)
 (ag (aI (i:=5) (nd 49) rfl (Pt rfl) (rC (lU T) hr (ai (dv 0) (ai (dv 2) (ai (dv 3) aw)))))
 (ag (bC (aK (eQ hr.units) iy (cy (av (dv 4) ak) ak) (cy (dv 5) (av (dv 4) ak)) nm)
 (ag (aM dY)
 ar)
 ar)
 (ag (aM (dv 5))
 ar))))))
def vP(T:Txt K mg t):fv P w K mg base CX0 1 (t.A 50) (t.Q 50) ["_law_web_here","_law_bits_here"] (spD K 2 cW) "_law_bits" (top 79) :=
 oD T.g sc (i:=50) rfl λ_ _ _ _ H _ _ hr=>(
 (ag (aM (ft (h9 ["_law_k","_law_tie_here","_law_bits_here"] 2 [1] rfl (gI rfl T.n_enumerate (av (dv 0) ak)) (j7 (by decide)) (λs H C fp pn=>⟨λHe η=>(fF rfl (aU (i:=0) (show Qq (["_law_k","_law_tie_here","_law_bits_here"]:ce) from by decide) rfl (Pt rfl) (aU (i:=1) (show Qq (["_law_k","_law_tie_here","_law_bits_here"]:ce) from by decide) rfl (Pt rfl) dB))),(fK (DW.dt (sE (aK vJ vQ (av (dv 1) ak) dY nm) (gZ (aK (dG hr.units) fZ (A7 (Fb (dv 2) (dv 0)) ak) ak nm))))),(dv 0)⟩) ⟨rfl,rfl⟩ rfl rfl rfl rfl)))
 ar))
def ok_law(T:Txt K mg t):fv P w K mg base CX0 11 (t.A 51) (t.Q 51) ["_law_script"] (spD K 1 m_law) "law" (top 86) :=
 oD T.g sc (i:=51) rfl λ_ _ _ _ H _ _ hr=>(
 (ag (aI (i:=1) (nd 51) rfl (Pt rfl) (rC (xr T) hr (ai (dv 0) aw)))
 (ag (aI (i:=2) (nd 51) rfl (Pt rfl) (rC (uc T) hr (ai (dv 0) aw)))
 (ag (aI (i:=3) (nd 51) rfl (Pt rfl) (rC (vO T) hr (ai (dv 2) aw)))
 (ag (aI (i:=4) (nd 51) rfl (Pt rfl) (rC (iS T) hr (ai (dv 1) (ai (dv 2) (ai (dv 3) (ai (cg aw) aw))))))
 (ag (bC (aK ke ki (dv 4) dY nm)
 (ag (aM jO)
 ar)
 ar)
 (ag (aI (i:=5) (nd 51) rfl (Pt rfl) (rC (mv T) hr (ai (dv 1) (ai (ft (h9 ["_law_room"] 1 [] rfl (cE (dv 2)) (bV (by decide)) (λs H C fp pn=>⟨λHe η=>(bE (i:=0) (show Qq (["_law_room"]:ce) from by decide) rfl (Pt rfl)),dU,(rC (kh T) hr (ai (cy ak (av (dv 0) ak)) (ai (av (dv 0) ak) aw)))⟩) ⟨rfl,rfl⟩ rfl rfl rfl rfl)) (ai (cg aw) aw)))))
 (ag (bC (DW.dt (dP (aK ke ki (dv 5) dY nm) (bw (aK (eQ hr.units) iy (cy (av (dv 5) ak) ak) (cy (cy ak (dv 4)) (av (dv 5) ak)) nm))))
 (ag (aM jO)
 ar)
 ar)
 (ag (jv Qg rfl (av (rC (iT T) hr (ai (dv 0) aw)) ak) (bE (i:=6) (nd 51) rfl (Pt rfl)) dm
 (ag (aI (i:=7) (nd 51) rfl (R3 rfl) (rC (dZ T) hr (ai (dv 6) (ai (cg (ai ak (ai ak (ai ak (ai ak aw))))) aw))))
 (ag (aI (i:=8) (nd 51) rfl (R3 rfl) (rC (vP T) hr (ai (dv 1) (ai (av (dv 7) ak) aw))))
 (ag (bC (aK qD (cY λ_ _ _ _=>rb _) (av (dv 7) ak) ak nm)
 (ag (aI (i:=8) (nd 51) rfl (R3 rfl) (ft (h9 ["_law_k","_law_d"] 1 [7] rfl (cE (dv 8)) (bV (by decide)) (λs H C fp pn=>⟨λHe η=>(bE (i:=0) (show Qq (["_law_k","_law_d"]:ce) from by decide) rfl (Pt rfl)),(fK (aK (dG hr.units) fZ (A7 (Fb (av (dv 1) ak) (dv 0)) ak) ak nm)),(dv 0)⟩) ⟨rfl,rfl⟩ rfl rfl rfl rfl)))
 ar)
 ar)
 (ag (aI (i:=9) (nd 51) rfl (Pt rfl) (rC (iS T) hr (ai (dv 1) (ai (dv 2) (ai (dv 3) (ai (dv 8) aw))))))
 (ag (bC (DW.dt (dP (aK ke ki (dv 9) dY nm) (bw (aK qD (cY λ_ _ _ _=>rb _) (dv 9) (dv 4) nm))))
 (ag (aM jO)
 ar)
 ar)
 (ag (nA (i:=10) (nd 51) rfl rfl gS (h9 ["_law_k","_law_taking","_law_d"] 1 [8,7] rfl (cE (dv 8)) (bV (by decide)) (λs H C fp pn=>⟨λHe η=>(bE (i:=0) (show Qq (["_law_k","_law_taking","_law_d"]:ce) from by decide) rfl (Pt rfl)),(fK (aK (eQ hr.units) iy (dv 0) (av (dv 1) (cP (av (dv 2) ak) (aV bW du rfl T.n_len PyProof.Rows.Boot.«len» (ai (dv 1) aw)))) nm)),(dv 0)⟩) ⟨rfl,rfl⟩ rfl rfl rfl rfl))
 (ag (aI (i:=11) (nd 51) rfl (Pt rfl) (rC (iS T) hr (ai (dv 1) (ai (dv 2) (ai (dv 3) (ai (dv 10) aw))))))
 (ag (bC (DW.dt (dP (aK ke ki (dv 11) dY nm) (bw (aK Ej (cY λ_ _ _ _=>rb _) (dv 11) (dv 9) nm))))
 (ag (aM jO)
 ar)
 ar)
 ar)))))))))
 (ag (aM jO)
 ar))))))))))
end
def txt_mk{K:Ph}{h:PR}{mg:Pq->Option Pb}(X:K.In h)(G:h.Ns PH mg){bD gG:Pk}{a0 a1 a2 a3 a4 a5 a6 a7 a8 a9 a10 a11 a12 a13 a14 a15 a16 a17 a18 a19 a20 a21 a22 a23 a24 a25 a26 a27 a28 a29 a30 a31 a32 a33 a34 a35 a36 a37 a38 a39 a40 a41 a42 a43 a44 a45 a46 a47 a48 a49 a50 a51:Pk}(qs:QAs K rows [a0,a1,a2,a3,a4,a5,a6,a7,a8,a9,a10,a11,a12,a13,a14,a15,a16,a17,a18,a19,a20,a21,a22,a23,a24,a25,a26,a27,a28,a29,a30,a31,a32,a33,a34,a35,a36,a37,a38,a39,a40,a41,a42,a43,a44,a45,a46,a47,a48,a49,a50,a51])
  {Eo EN Fg D7 yz Fj:Pb}{Em Fs:Option Pk}{Dg:Array (Option Pb)}
  (Ax:QT K PH "Turn"=some (some (.ref bD))) (Gs:Q3 K (.ref bD) "__init__"=some (some (.ref gG))) (Gr:W.isFn K (.ref gG)=true) (Aw:K.lookup gG=some ⟨Eo,Em,.func (Sd "__init__" "Turn.__init__" (defArgs kW) (defBody kW) (defScope kW) .none EN Fg D7 Fs yz Fj),Dg⟩) (Av:Ub K yz "Turn.__init__"=true) (Au:S9 K (.ref gG)=true) (Gq:W.makesIn K bD=true) (Gp:S9 K (.ref bD)=true) (DD:Tv K bD Str.empty=true) (DM:Ti K bD=true) (DC:TZ K bD=true) (DB:Q3 K (.ref bD) "__setattr__"=some (some (.builtin "object.__setattr__"))) (DP:Q3 K (.ref bD) "__class__"=some (some (.builtin "object.__class__"))) (DN:TY K (.builtin "object.__class__") "__get__"=some (some (.builtin "getset_descriptor.__get__"))) (Ds:Uu K (.builtin "object.__class__")=some true) (DK:W.mroIn K bD (.type "object")=some true) (Dz:Sj K (.ref bD) (.type "NoneType")=some false) (Dy:Sj K (.ref bD) (.type "bool")=some false) (Dx:Sj K (.ref bD) (.type "int")=some false) (Dw:Sj K (.ref bD) (.type "str")=some false) (Dv:Sj K (.ref bD) (.type "tuple")=some false) (Du:Sj K (.ref bD) (.type "list")=some false) (Dt:Sj K (.ref bD) (.type "dict")=some false) (ql:Q3 K (.ref bD) "number"=some none) (vA:Q3 K (.ref bD) "sign"=some none) (vC:Q3 K (.ref bD) "here"=some none) (tT:Q3 K (.ref bD) "there"=some none) (vD:Q3 K (.ref bD) "cost"=some none) (vB:Q3 K (.ref bD) "room"=some none)
  (lx_most_flow:Fy K a33 (qT "most_flow") gF)
  (z_abs:QT K PH "abs"=some none)
  (z_all:QT K PH "all"=some none)
  (z_bool:QT K PH "bool"=some none)
  (z_enumerate:QT K PH "enumerate"=some none)
  (z_int:QT K PH "int"=some none)
  (z_isinstance:QT K PH "isinstance"=some none)
  (z_len:QT K PH "len"=some none)
  (z_list:QT K PH "list"=some none)
  (z_min:QT K PH "min"=some none)
  (z_range:QT K PH "range"=some none)
  (z_str:QT K PH "str"=some none)
  (z_tuple:QT K PH "tuple"=some none)
  (z_zip:QT K PH "zip"=some none)
  {pA:Tok}(pq:QT K PH "FEWEST_PLACES"=some (some (.int 2 pA)))
  {F4:Tok}(FP:QT K PH "FIRST"=some (some (.int 2 F4)))
  {Jm:Tok}(IV:QT K PH "LAST"=some (some (.int 3 Jm)))
  {C9:Tok}(CP:QT K PH "LENGTH"=some (some (.int 3 C9)))
  {By:Tok}(Bp:QT K PH "LETTERS"=some (some (.str "abcdefghijklmnopqrstuvwxyz" By)))
  {qd:Tok}(p9:QT K PH "LONGEST_NAME"=some (some (.int 8 qd)))
  {tQ:Tok}(tO:QT K PH "MOST_PLACES"=some (some (.int 7 tQ)))
  {wU:Tok}(wL:QT K PH "MOST_TIES"=some (some (.int 14 wU)))
  {xg:Pk}{xv:Obj}(CO:QT K PH "NOUGHT"=some (some (.ref xg))) (CT:K.lookup xg=some xv) (CY:∃od its n sl vs,xv=⟨.type "tuple",od,.seq its n,sl⟩/\aY vs its.toList/\its.size<=sizeLine/\∀H,Reps K H [.int 0,.int 1] vs)
  {LA:Tok}(Lr:QT K PH "ONE"=some (some (.int 0 LA)))
  {F3:Tok}(FO:QT K PH "OTHER"=some (some (.int 1 F3)))
  {C8:Tok}(CN:QT K PH "PLACES"=some (some (.int 0 C8)))
  {Jl:Tok}(IU:QT K PH "TIES"=some (some (.int 1 Jl)))
  {Jk:Tok}(IT:QT K PH "WORD"=some (some (.int 2 Jk)))
  {Ay:Pk}{AK:Obj}(FN:QT K PH "WORDS"=some (some (.ref Ay))) (FU:K.lookup Ay=some AK) (FX:∃od its n sl vs,AK=⟨.type "tuple",od,.seq its n,sl⟩/\aY vs its.toList/\its.size<=sizeLine/\∀H,Reps K H [.str "one",.str "both"] vs)
  {F2:Tok}(FL:QT K PH "WORTH"=some (some (.int 4 F2))) :
  ∃t:Adr,Txt K mg t/\t.A 51=a51/\∃kV doc pm an cdv ct,t.Q 51=Sd "law" "law" (defArgs (top 86)) (defBody (top 86)) (defScope (top 86)) .none kV doc pm an cdv ct:=by
 obtain⟨Q,hQ⟩:=Ip X G bn qs;have D_law:=(hQ 51 _ rfl).2;refine⟨⟨bD,gG,_,λi=>[a0,a1,a2,a3,a4,a5,a6,a7,a8,a9,a10,a11,a12,a13,a14,a15,a16,a17,a18,a19,a20,a21,a22,a23,a24,a25,a26,a27,a28,a29,a30,a31,a32,a33,a34,a35,a36,a37,a38,a39,a40,a41,a42,a43,a44,a45,a46,a47,a48,a49,a50,a51].getD i 0,Q⟩,⟨λi r h=>(hQ i r h).1,B6 (hQ 33 _ rfl).1.F lx_most_flow,Q2 X G z_abs,Q2 X G z_all,Q2 X G z_bool,Q2 X G z_enumerate,Q2 X G z_int,Q2 X G z_isinstance,Q2 X G z_len,Q2 X G z_list,Q2 X G z_min,Q2 X G z_range,Q2 X G z_str,Q2 X G z_tuple,Q2 X G z_zip,RK X G Ax,v8 Aw Av Au,?pX,⟨Gq,Gs,Gr,Gp⟩,Gm Ax DD DM DC DB DP DN Ds DK Dz Dy Dx Dw Dv Du Dt (i5 ql ( i5 vA ( i5 vC ( i5 tT ( i5 vD ( i5 vB (G2))))))),?gr,?jG,?oI,?sX,?oH,?ic,?iX,?kK,?sW,?lN,?fL,?eX,?jF,?oG,?wt,?pV⟩,rfl,D_law⟩
 case pX=>exact(v8 (st:=kW) Aw Av Au).binds λ_ _ _ _ _ _ us hl=>by obtain⟨_,_,_,_,_,_,_,rfl⟩:=OT hl;rfl
 case gr=>exact dS (RK X G pq)
 case jG=>exact dS (RK X G FP)
 case oI=>exact dS (RK X G IV)
 case sX=>exact dS (RK X G CP)
 case oH=>exact Hg (RK X G Bp)
 case ic=>exact dS (RK X G p9)
 case iX=>exact dS (RK X G tO)
 case kK=>exact dS (RK X G wL)
 case sW=>
  obtain⟨od,its,n,sl,vs,rfl,h1,h2,h3⟩:=CY;exact AS (RK X G CO) CT h1 h2 h3
 case lN=>exact dS (RK X G Lr)
 case fL=>exact dS (RK X G FO)
 case eX=>exact dS (RK X G CN)
 case jF=>exact dS (RK X G IU)
 case oG=>exact dS (RK X G IT)
 case wt=>
  obtain⟨od,its,n,sl,vs,rfl,h1,h2,h3⟩:=FX;exact AS (RK X G FN) FU h1 h2 h3
 case pV=>exact dS (RK X G FL)
def txt_wr{K:Ph}{mg:Pq->Option Pb}{a:Pk}{R:Adr->Prop}(h:∃t:Adr,Txt K mg t/\t.A 51=a/\R t):∃t:Adr,Txt K mg t/\mg "law"=some (.ref (t.A 51))/\R t:=h.elim λt ⟨T,_,r⟩=>⟨t,T,(T.g 51 _ rfl).g,r⟩
end K40
namespace Flo
open PySem L2 DL Com
open K11 (eW)
structure Tn where
 n:Int
 sg:Int
 a:Pq
 b:Pq
 c:Int
def gu(t:Tn):D:=.ob (.ins "Turn" ["number","sign","here","there","cost","room"]) [.int t.n,.int t.sg,.str t.a,.str t.b,.int 0,.int t.c]
def N2{t:Tn}:fj "number" (gu t)=.ok (.int t.n):=rfl
def N1{t:Tn}:fj "sign" (gu t)=.ok (.int t.sg):=rfl
def Kx{t:Tn}:fj "here" (gu t)=.ok (.str t.a):=rfl
def Kw{t:Tn}:fj "there" (gu t)=.ok (.str t.b):=rfl
def Hs{t:Tn}:fj "room" (gu t)=.ok (.int t.c):=rfl
abbrev kR:=Pq×List Tn
def pD(p:List Tn):D:=.lst (p.map gu)
def fB(F:List kR):D:=.dic (F.map (·.1)) (F.map λe=>pD e.2)
def cF(F:List kR)(k:Pq):Option (List Tn):=(F.find? λe=>decide (e.1=k)).map (·.2)
theorem pZ{k:Pq}:∀{F:List kR},wJ (F.map (·.1)) (F.map λe=>pD e.2) k=(cF F k).map pD
 |[]=>rfl
 |e::F=>by
  rw[Pl,Pl,wJ];unfold cF
  by_cases h:e.1=k
  .rw[if_pos h,List.find?_cons_of_pos (by exact decide_eq_true h)];rfl
  .rw[if_neg h,List.find?_cons_of_neg (by simpa using h),pZ];rfl
def gR{F:List kR}{k:Pq}:cF F k=none↔k∉F.map (·.1):=by
 unfold cF;rw[Option.map_eq_none_iff,List.find?_eq_none];constructor
 .intro h z
  obtain⟨e,he,e2⟩:=Pw.mp z;exact h e he (decide_eq_true e2)
 .intro h e he z
  exact h (Pw.mpr ⟨e,he,of_decide_eq_true z⟩)
def ja{F:List kR}{k:Pq}{p:List Tn}(h:cF F k=some p):(k,p)∈F:=by
 unfold cF at h;rw[UA]at h;obtain⟨e,h1,h2⟩:=h;have:=List.find?_some h1;simp at this;rw[←this,←h2];exact List.mem_of_find?_eq_some h1
def Ks{F:List kR}{k:Pq}:wk (.str k) (fB F)=.ok (.bl (cF F k).isSome):=by
 show au.ok (D.bl (wJ _ _ k).isSome)=_;rw[pZ];cases cF F k<;>rfl
def MF{F:List kR}{k:Pq}:jA (.str k) (fB F)=.ok (.bl (!(cF F k).isSome)):=by
 show au.ok (D.bl (!(wJ _ _ k).isSome))=_;rw[pZ];cases cF F k<;>rfl
def MG{F:List kR}{k:Pq}{p:List Tn}(h:cF F k=some p):kH (fB F) (.str k)=.ok (pD p):=by
 show(match wJ _ _ k with|some d=>au.ok d|none=>.stuck)=_;rw[pZ,h];rfl
theorem ES:∀(p:List Tn),instFs (p.map gu)=true
 |[]=>rfl
 |t::p=>by rw[Pl,instFs,ES];rfl
def DZ{F:List kR}{k:Pq}{p:List Tn}(h:cF F k=none):BI (F.map (·.1)) (F.map λe=>pD e.2) k (pD p)=fB (F++[(k,p)]):=by
 unfold BI;rw[if_neg (gR.mp h)];unfold fB;rw[Qb,Qb];rfl
def Be(h:Pq)(st:List kR×ce)(t:Tn):List kR×ce :=
 if t.a=h/\cF st.1 t.b=none then(st.1++[(t.b,((cF st.1 h).getD [])++[t])],st.2++[t.b]) else st
noncomputable abbrev iB:bi :=
 (ao (cH (gq (aa (aS (ae 5) (fj "here")) (ae 4) ij) (aa (aS (ae 5) (fj "there")) (ae 2) jA))
 (ao (vz 2 (aa (aa (ae 2) (ae 4) kH) (aq (af (ae 5) ax) bO) oz) (aS (ae 5) (fj "there")))
 (ao (bP 3 (aS (ae 5) (fj "there")))
 aj))
 aj)
 aj)
section
variable {s0 s1 s2 s3 s4 s5:Sl}{f k:am}{ks:ce}{ds es:ac}{ρ:Ev}{i:Nat}
def Hy:vz 2 f k [s0,s1,.ow (.dic ks ds),s3,s4,s5]=(f (iP [s0,s1,.ow (.dic ks ds),s3,s4,s5])).bind (oN k 2 [s0,s1,.ow (.dic ks ds),s3,s4,s5] ks ds):=rfl
def E4(h:instFs es=true):oN k i ρ ks ds (.lst es)=(k ρ).bind (oO i ρ ks ds (.lst es)):=if_pos h
def KC(h:decide (ds.length+es.length<=999)=true):oz (.lst ds) (.lst es)=.ok (.lst (ds++es)):=if_pos (Pu (of_decide_eq_true h) (by decide))
end
def Kq{T:D}{Fi:D}{F:List kR}{W:ce}{h:Pq}{t:Tn}{p:List Tn}(hp:cF F h=some p)(h1:F.length<=900)(h2:p.length<=900)(h3:W.length<=900) :
  iB [.sh T,.sh Fi,.ow (fB F),.ow (.lst (W.map D.str)),.sh (.str h),.sh (gu t)]=.ok (.nx [.sh T,.sh Fi,.ow (fB (Be h (F,W) t).1),.ow (.lst ((Be h (F,W) t).2.map D.str)),.sh (.str h),.sh (gu t)]):=by
 unfold Be
 by_cases e1:t.a=h
 .cases e2:cF F t.b with
  |some q=>
   have g1:jA (.str t.b) (fB F)=.ok (.bl false):=by rw[MF,e2];rfl
   rw[if_neg (by rintro⟨_,z⟩;cases z)];unfold fB at g1 ⊢;open_line with[Kx,Kw,eW,g1,decide_eq_true e1]
  |none=>
   have g1:jA (.str t.b) (fB F)=.ok (.bl true):=by rw[MF,e2];rfl
   have g2:kH (fB F) (.str h)=.ok (.lst (p.map gu)):=MG hp;have g3:oz (.lst (p.map gu)) (.lst [gu t])=.ok (pD (p++[t])):=by
    rw[KC (decide_eq_true (by simp;omega))];unfold pD;rw[Qb];rfl
   have g4:instFs ((p++[t]).map gu)=true:=ES _;have g5:=DZ (p:=p++[t]) e2;have g6:decide ((F.map (·.1)).length<=900)=true:=decide_eq_true (by rw[Pg];exact h1);have g7:decide ((W.map D.str).length<=999)=true:=decide_eq_true (by rw[Pg];omega);have e9:(W++[t.b]).map D.str=W.map D.str++[.str t.b]:=by rw[Qb];rfl
   rw[if_pos ⟨e1,rfl⟩,hp];unfold fB pD at g1 g2 g3 g5;unfold fB pD;open_line with[Kx,Kw,eW,g1,decide_eq_true e1,Hy,g2,g3,E4 g4,Pth.ed_put3 g6,g5,cw g7,e9,RM]
 .rw[if_neg (by rintro⟨z,_⟩;exact e1 z)]
  unfold fB;open_line with[Kx,Kw,eW,decide_eq_false e1]
end Flo
namespace K21
open PySem L2 DL
abbrev m_look_at_web:ac->au D:=Nwb.m_look_at_web
abbrev m_is_tie_number:ac->au D:=Com.m_is_tie_number
end K21
namespace K15
open PySem L2 DL
abbrev m_look_at_web:ac->au D:=Com.m_look_at_web
abbrev m_is_tie_number:ac->au D:=Com.m_is_tie_number
abbrev m_look_at_taking:ac->au D:=Com.m_look_at_taking
end K15
namespace K54
open PySem L2 DL
abbrev m_look_at_web:ac->au D:=Com.m_look_at_web
abbrev m_is_tie_number:ac->au D:=Com.m_is_tie_number
abbrev m_look_at_taking:ac->au D:=Com.m_look_at_taking
end K54
namespace K54
open PySem L2 DL Com Pth
open K51 (comp_pick)
def lh{α:Type}{tg:Ev->D->au Ev}{body:bi}(g:α->D)(P:List α->Ev->Prop){L:List α}(h:∀pre a post,L=pre++a::post->∀ρ,P pre ρ->∃ρ1 ρ2,tg ρ (g a)=.ok ρ1/\body ρ1=.ok (.nx ρ2)/\P (pre++[a]) ρ2){ρ:Ev}(h0:P [] ρ):∃ρ',bS tg body (L.map g) ρ=.ok (.nx ρ')/\P L ρ':=by
 have key:∀(post pre:List α) (ρ:Ev),L=pre++post->P pre ρ->∃ρ',bS tg body (post.map g) ρ=.ok (.nx ρ')/\P L ρ':=by
  intro post
  induction post with
  |nil=>intro pre ρ e hp;rw[QH]at e;subst e;exact⟨ρ,rfl,hp⟩
  |cons a post ih=>
   intro pre ρ e hp;obtain⟨ρ1,ρ2,h1,h2,h3⟩:=h pre a post e ρ hp;obtain⟨ρ',h4,h5⟩:=ih (pre++[a]) ρ2 (by rw[e];simp) h3;exact⟨ρ',by rw[Pl,iF h1 h2,h4],h5⟩
 exact key L [] ρ rfl h0
def kn{α:Type}{tg:Ev->D->au Ev}{body:bi}(g:α->D)(P:List α->Ev->Prop){L:List α}(h:∀pre a post,L=pre++a::post->∀ρ,P pre ρ->∃ρ1 ρ2,tg ρ (.tup [.int (pre.length:Int),g a])=.ok ρ1/\body ρ1=.ok (.nx ρ2)/\P (pre++[a]) ρ2){ρ:Ev}(h0:P [] ρ):∃ρ',bS tg body (numbered 0 (L.map g)) ρ=.ok (.nx ρ')/\P L ρ':=by
 have key:∀(post pre:List α) (ρ:Ev),L=pre++post->P pre ρ->∃ρ',bS tg body (numbered pre.length (post.map g)) ρ=.ok (.nx ρ')/\P L ρ':=by
  intro post
  induction post with
  |nil=>intro pre ρ e hp;rw[QH]at e;subst e;exact⟨ρ,rfl,hp⟩
  |cons a post ih=>
   intro pre ρ e hp;obtain⟨ρ1,ρ2,h1,h2,h3⟩:=h pre a post e ρ hp;obtain⟨ρ',h4,h5⟩:=ih (pre++[a]) ρ2 (by rw[e];simp) h3;rw[P9,RC]at h4;exact⟨ρ',by rw[Pl,DL.numbered,iF h1 h2,h4],h5⟩
 exact key L [] ρ rfl h0
end K54
namespace Flo
open PySem L2 DL Com
open K11 (eW)
open K54 (lh)
def Lk:Pq->List Tn->Pq->Prop
 |a,[],k=>a=k
 |a,t::r,k=>t.a=a/\Lk t.b r k
theorem Lk.snoc{t:Tn}:∀{p:List Tn}{a:Pq},Lk a p t.a->Lk a (p++[t]) t.b
 |[],a,h=>⟨h.symm,rfl⟩
 |s::p,a,⟨h1,h2⟩=>⟨h1,Lk.snoc h2⟩
structure Bf (ts:List Tn) (fi:Pq) (F:List kR):Prop where
 nd:(F.map (·.1)).Nodup
 rt:(fi,[])∈F
 pl:∀k∈F.map (·.1),k∈fi::ts.map (·.b)
 lk:∀e∈F,Lk fi e.2 e.1
 tk:∀e∈F,∀s∈e.2,s∈ts/\s.b≠fi/\s.b∈F.map (·.1)
 nb:∀e∈F,(e.2.map (·.b)).Nodup
 fa:∀e∈F,∀s∈e.2.tail,s.a≠fi
 nf:∀e∈F,e.1=fi->e.2=[]
 ln:∀e∈F,e.2.length<F.length
section
variable {ts:List Tn}{fi h:Pq}{F:List kR}{p:List Tn}{t:Tn}{W:ce}
def Bf.start:Bf ts fi [(fi,[])]:=by
 have key:∀e∈[((fi,[]):kR)],e=(fi,[]):=λe he=>PF.mp he;refine⟨by simp,by simp,by simp,λe he=>?_,λe he s hs=>?_,λe he=>?_,λe he s hs=>?_,λe he _=>?_,λe he=>?_⟩
 .rw[key e he];rfl
 .rw[key e he]at hs;cases hs
 .rw[key e he];exact .nil
 .rw[key e he]at hs;cases hs
 .rw[key e he]
 .rw[key e he];exact Nat.one_pos
def Bf.len(B:Bf ts fi F):F.length<=ts.length+1:=by
 have:=Cod.nodup_le B.nd B.pl;simpa using this
def Bf.step(B:Bf ts fi F)(hp:cF F h=some p)(ht:t∈ts)(ha:t.a=h)(hb:cF F t.b=none):Bf ts fi (F++[(t.b,p++[t])]):=by
 have hm:=ja hp;have nb:=gR.mp hb;have hk:(F++[(t.b,p++[t])]).map (·.1)=F.map (·.1)++[t.b]:=by rw[Qb];rfl
 have hfi:fi∈F.map (·.1):=Pw.mpr ⟨_,B.rt,rfl⟩;have nfi:t.b≠fi:=λz=>nb (z▸hfi);refine⟨?_,Qk _ B.rt,λk hk'=>?_,λe he=>?_,λe he s hs=>?_,λe he=>?_,λe he s hs=>?_,λe he z=>?_,λe he=>?_⟩
 .rw[hk]
  exact RE.mpr ⟨B.nd,by simp,λa ha b hb=>by rw[PF.mp hb];rintro rfl;exact nb ha⟩
 .rw[hk]at hk'
  rcases Pz.mp hk' with z|z
  .exact B.pl k z
  .rw[PF.mp z];exact Pc _ (Pw.mpr ⟨t,ht,rfl⟩)
 .rcases Pz.mp he with z|z
  .exact B.lk e z
  .obtain rfl:=PF.mp z
   exact Lk.snoc (by have:=B.lk _ hm;rw[ha];exact this)
 .rw[hk]
  rcases Pz.mp he with z|z
  .obtain⟨h1,h2,h3⟩:=B.tk e z s hs
   exact⟨h1,h2,Qk _ h3⟩
  .obtain rfl:=PF.mp z
   rcases Pz.mp hs with hs|hs
   .obtain⟨h1,h2,h3⟩:=B.tk _ hm s hs
    exact⟨h1,h2,Qk _ h3⟩
   .rw[PF.mp hs]
    exact⟨ht,nfi,P4 _ (by simp)⟩
 .rcases Pz.mp he with z|z
  .exact B.nb e z
  .obtain rfl:=PF.mp z
   show((p++[t]).map (·.b)).Nodup;rw[Qb];refine RE.mpr ⟨B.nb _ hm,by simp,λa ha b hb=>?_⟩;rw[show b=t.b by simpa using hb];obtain⟨s,hs,rfl⟩:=Pw.mp ha;intro z;exact nb (z▸(B.tk _ hm s hs).2.2)
 .rcases Pz.mp he with z|z
  .exact B.fa e z s hs
  .obtain rfl:=PF.mp z
   have hs:s∈(p++[t]).tail:=hs;cases p with
   |nil=>cases hs
   |cons q p=>
    have hs:s∈p++[t]:=hs;rcases Pz.mp hs with hs|hs
    .exact B.fa _ hm s hs
    .rw[PF.mp hs,ha]
     intro z;have:=B.nf _ hm z;cases this
 .rcases Pz.mp he with y|y
  .exact B.nf e y z
  .obtain rfl:=PF.mp y
   exact absurd z nfi
 .rw[P9,RC]
  rcases Pz.mp he with z|z
  .have:=B.ln e z;omega
  .obtain rfl:=PF.mp z
   have:p.length<F.length:=B.ln _ hm;show(p++[t]).length<_;rw[P9,RC];omega
def Bf.get(B:Bf ts fi F){e:kR}(he:e∈F):cF F e.1=some e.2:=by
 cases z:cF F e.1 with
 |none=>exact absurd (Pw.mpr ⟨e,he,rfl⟩) (gR.mp z)
 |some q=>
  have hm:=ja z;have:=B.nd;have key:∀(F:List kR),(F.map (·.1)).Nodup->∀(a b:kR),a∈F->b∈F->a.1=b.1->a=b:=by
   intro F
   induction F with
   |nil=>intro _ a b ha;cases ha
   |cons x F ih=>
    intro nd a b ha hb hab;rw[Pl,PZ]at nd;rcases Pr.mp ha with ha|ha<;>rcases Pr.mp hb with hb|hb
    .rw[ha,hb]
    .exact absurd (by rw[←ha,hab];exact Pw.mpr ⟨b,hb,rfl⟩) nd.1
    .exact absurd (by rw[←hb,←hab];exact Pw.mpr ⟨a,ha,rfl⟩) nd.1
    .exact ih nd.2 a b ha hb hab
  have:=key _ this _ _ he hm rfl;rw[this]
def Bf.has(B:Bf ts fi F){k:Pq}(hk:k∈F.map (·.1)):∃p,cF F k=some p:=by
 cases z:cF F k with|none=>exact absurd hk (gR.mp z)|some p=>exact⟨p,rfl⟩
structure Wt (ts:List Tn) (F:List kR) (W:ce):Prop where
 k:∀x∈W,x∈F.map (·.1)
 dn:∀x∈F.map (·.1),x∉W->∀t∈ts,t.a=x->t.b∈F.map (·.1)
def Kp(hn:ts.length<=800){T:D}{Fi:D}{F0:List kR}{W0:ce}{x5:Sl}(B0:Bf ts fi F0)(hh:h∈F0.map (·.1))(hW:W0.length+1<=F0.length) :
  ∃(F:List kR) (W:ce) (y5:Sl),Bf ts fi F/\(∀x∈F0.map (·.1),x∈F.map (·.1))/\W.length+F0.length=W0.length+F.length/\(∀x∈W0,x∈W)/\(∀x∈F.map (·.1),x∈F0.map (·.1)∨x∈W)/\(∀x∈W,x∈W0∨x∈F.map (·.1))/\(∀t∈ts,t.a=h->t.b∈F.map (·.1)) /\
   bS (br 5) iB (ts.map gu) [.sh T,.sh Fi,.ow (fB F0),.ow (.lst (W0.map D.str)),.sh (.str h),x5]=.ok (.nx [.sh T,.sh Fi,.ow (fB F),.ow (.lst (W.map D.str)),.sh (.str h),y5]):=by
 obtain⟨ρ',e,F,W,y5,r1,r2,r3,r4,r5,r6,r7,rfl⟩:=lh (tg:=br 5) (body:=iB) gu (L:=ts) (λpre ρ=>∃(F:List kR) (W:ce) (y5:Sl),Bf ts fi F/\(∀x∈F0.map (·.1),x∈F.map (·.1))/\W.length+F0.length=W0.length+F.length/\(∀x∈W0,x∈W)/\(∀x∈F.map (·.1),x∈F0.map (·.1)∨x∈W)/\(∀x∈W,x∈W0∨x∈F.map (·.1))/\(∀t∈pre,t.a=h->t.b∈F.map (·.1)) /\
   ρ=[.sh T,.sh Fi,.ow (fB F),.ow (.lst (W.map D.str)),.sh (.str h),y5]) (λpre t post hL ρ z9=>by
   obtain⟨F,W,y5,r1,r2,r3,r4,r5,r6,r7,er⟩:=z9;subst er;have ht:t∈ts:=by rw[hL];simp
   obtain⟨p,hp⟩:=r1.has (r2 h hh);have hl:=r1.len;have hpl:p.length<F.length:=r1.ln _ (ja hp);have eb:=Kq (T:=T) (Fi:=Fi) (W:=W) (t:=t) hp (by omega) (by omega) (by omega);refine⟨_,_,rfl,eb,?_⟩;unfold Be
   by_cases c:t.a=h/\cF F t.b=none
   .simp only[if_pos c,hp,RM]
    have hk:(F++[(t.b,p++[t])]).map (·.1)=F.map (·.1)++[t.b]:=by rw[Qb];rfl
    refine⟨_,_,_,r1.step hp ht c.1 c.2,λx hx=>?_,?_,λx hx=>?_,λx hx=>?_,λx hx=>?_,λs hs hsa=>?_,rfl⟩
    .rw[hk];exact Qk _ (r2 x hx)
    .simp only[P9,RC];omega
    .exact Qk _ (r4 x hx)
    .rw[hk]at hx
     rcases Pz.mp hx with hx|hx
     .exact(r5 x hx).imp id λz=>Qk _ z
     .exact .inr (P4 _ hx)
    .rw[hk]
     rcases Pz.mp hx with hx|hx
     .exact(r6 x hx).imp id λz=>Qk _ z
     .exact .inr (P4 _ hx)
    .rw[hk]
     rcases Pz.mp hs with hs|hs
     .exact Qk _ (r7 s hs hsa)
     .rw[PF.mp hs];exact P4 _ (by simp)
   .simp only[if_neg c]
    refine⟨F,W,_,r1,r2,r3,r4,r5,r6,λs hs hsa=>?_,rfl⟩;rcases Pz.mp hs with hs|hs
    .exact r7 s hs hsa
    .rw[PF.mp hs]at hsa ⊢
     by_cases z:t.b∈F.map (·.1)
     .exact z
     .exact absurd ⟨hsa,gR.mpr z⟩ c) ⟨F0,W0,x5,B0,λ_ z=>z,rfl,λ_ z=>z,λ_ z=>.inl z,λ_ z=>.inl z,λ_ z=>(nomatch z),rfl⟩
 exact⟨F,W,y5,r1,r2,r3,r4,r5,r6,r7,e⟩
end
open K11 (eW)
def yH(ts:List Tn)(F:List kR):Prop:=∀t∈ts,t.a∈F.map (·.1)->t.b∈F.map (·.1)
abbrev wT:am:=aa (ae 3) (aq ax bO) jh
abbrev wB:bi :=
 (ao (k6 4 3 (dC (.int 0)))
 (ao (iR (ae 0) (br 5)
 iB)
 aj))
def KH{s0 s1 s2 s4 s5:Sl}{d:D}{ds:ac}(h:decide ((d::ds).length<=900)=true):k6 4 3 (dC (.int 0)) [s0,s1,s2,.ow (.lst (d::ds)),s4,s5]=.ok (.nx [s0,s1,s2,.ow (.lst ds),.sh d,s5]):=by
 have h:=of_decide_eq_true h;have h2:(d::ds).length<line:=PK h (by decide);have h1:xM (d::ds).length 0=some 0:=by
  unfold xM;simp
  try omega
 show kY 4 3 [s0,s1,s2,.ow (.lst (d::ds)),s4,s5] (d::ds) (.int 0)=_;unfold kY;simp only[h1];simp only[Q0,if_pos h2];rfl
def G4{h:Pq}{W:ce}:jh (.lst (D.str h::W.map D.str)) (.lst [])=.ok (.bl true):=by
 have h1:∀n,(W.map D.str).all (bg n)=true:=λn=>Qi.mpr λx hx=>by
  obtain⟨y,_,rfl⟩:=Pw.mp hx;cases n<;>rfl
 unfold jh;have h2:bg 40 (.lst (D.str h::W.map D.str))=true:=by
  show((D.str h::W.map D.str).all (bg 39))=true;rw[RT,h1];rfl
 rw[if_pos ⟨h2,rfl⟩];rfl
section
variable {ts:List Tn}{fi h:Pq}{F:List kR}{p:List Tn}{t:Tn}{W:ce}
def IZ(hn:ts.length<=800):∀(f:Nat) (F:List kR) (W:ce) (x4 x5:Sl),Bf ts fi F->Wt ts F W->W.length<=F.length->ts.length+1+W.length<F.length+f ->
  ∃(G:List kR) (y4 y5:Sl),Bf ts fi G/\yH ts G/\bY wT wB f [.sh (.lst (ts.map gu)),.sh (.str fi),.ow (fB F),.ow (.lst (W.map D.str)),x4,x5]=.ok (.nx [.sh (.lst (ts.map gu)),.sh (.str fi),.ow (fB G),.ow (.lst []),y4,y5]):=by
 intro f
 induction f with
 |zero=>intro F W x4 x5 B _ h1 h2;have:=B.len;omega
 |succ f ih=>
  intro F W x4 x5 B V h1 h2;cases W with
  |nil=>
   refine⟨F,x4,x5,B,λt ht ha=>V.dn _ ha (by simp) t ht rfl,gO ?_⟩;have e:jh (.lst []) (.lst [])=.ok (.bl false):=rfl;unfold fB;open_line with[e]
  |cons h W=>
   have hl:=B.len;obtain⟨G,U,y5,r1,r2,r3,r4,r5,r6,r7,e⟩:=Kp hn (T:=.lst (ts.map gu)) (Fi:=.str fi) (x5:=x5) B (V.k h Pf) (W0:=W) (by rw[PL]at h1;omega);have V':Wt ts G U:=⟨λx hx=>by
    rcases r6 x hx with z|z
    .exact r2 x (V.k x (Pc _ z))
    .exact z,λx hx nx t ht ha=>by
    rcases r5 x hx with z|z
    .by_cases c:x=h
     .exact r7 t ht (by rw[ha,c])
     .exact r2 _ (V.dn x z (λy=>by
       rcases Pr.mp y with y|y
       .exact c y
       .exact nx (r4 x y)) t ht ha)
    .exact absurd z nx⟩
   rw[PL]at h1 h2;obtain⟨G',y4,y6,q1,q2,q3⟩:=ih G U (.sh (.str h)) y5 r1 V' (by omega) (by omega);refine⟨G',y4,y6,q1,q2,?_⟩;rw[←q3];have hp:decide ((D.str h::W.map D.str).length<=900)=true:=decide_eq_true (by simp;omega);refine jY ?_ ?_
   .have e:jh (.lst (D.str h::W.map D.str)) (.lst [])=.ok (.bl true):=G4
    unfold fB;open_line with[e]
   .rw[Pl]
    unfold fB at e ⊢;open_line with[KH hp,e]
def uT(hn:ts.length<=800):∃G,Bf ts fi G/\yH ts G/\K37.m_fewest_turns [.lst (ts.map gu),.str fi]=.ok (fB G):=by
 obtain⟨G,y4,y5,h1,h2,h3⟩:=IZ (fi:=fi) hn 1000 [(fi,[])] [fi] .no .no Bf.start ⟨λx hx=>by simpa using hx,λx hx nx=>by simp at hx nx;exact absurd hx nx⟩ (by simp) (by simp;omega);refine⟨G,h1,h2,?_⟩;have hf:fB [(fi,[])]=.dic [fi] [.lst []]:=rfl;rw[hf]at h3;have hw:∀(c:am) (s:bi) (ρ:Ev),fw (λ_=>1000) c s ρ=bY c s 1000 ρ:=λ_ _ _=>rfl;unfold fB at h3 ⊢;simp only[Pl,Rq]at h3;open_line with[K37.m_fewest_turns,K37.b_fewest_turns,Pth.ed_own,Pth.ed_disp,Pth.ed_disp1,Pth.ed_own1,hw,h3]
end
end Flo
namespace K35
open PySem L2 DL Com
abbrev nI(k:Nat):D:=.int (k:Int)
def LY{ns:List Int}{c1 c2:List Int}(hc:Cod.aJ [.lst (ns.map D.int)]=.ok (.tup [.lst (c1.map D.int),.lst (c2.map D.int)]))(h14:c1.length<=14):∃xs:List bT,bG [.lst (ns.map D.int)]=.ok (.lst (xs.map fr))/\xs.length=c1.length/\∀x∈xs,bF x/\0<=x.1:=by
 have key:∀c:Int,∃x:bT,(∀ρ:Ev,ρ[0]?=some (.sh (.int c))->ρ[1]?=some (.sh (.lst [.int 420,.int 60,.int 2,.int 5,.int 1000000000000000000,.int 30,.int 6,.int 5,.int 1000000000000000000,.int 30,.int 3,.int 5,.int 1000000000000000000,.int 30]))->(aq (af (gm (aq (af (ae 0) (af (ae 1) ax)) aB) (cj (dC (.int 11))) eJ) ax) aA) ρ=.ok (fr x))/\bF x/\0<=x.1:=λc=>by
  obtain⟨vs,hd,V⟩:=Cod.draws_ok c [420,60,2,5,1000000000000000000,30,6,5,1000000000000000000,30,3,5,1000000000000000000,30] (by decide) (by decide);have hvl:vs.length=14:=V.len;obtain⟨v11,g11,b11,_⟩:=V.ix 11 11 rfl rfl;obtain⟨v12,g12,b12,_⟩:=V.ix 12 12 rfl rfl;obtain⟨v13,g13,b13,_⟩:=V.ix 13 13 rfl rfl;obtain⟨x,hx,fx,x0⟩:=Cod.fraction_ok (w:=v11) (a:=v12) (b:=v13) b11 b12 b13;refine⟨x,λρ h0 h1=>?_,fx,x0⟩;have hcut:lD (vs.map D.int) (some 11) none=[.int v11,.int v12,.int v13]:=by
   rw[jB,HT.sIx_none,show(11:Int)=((11:Nat):Int) from rfl,HT.sIx_nat,hvl];have:=C5 (i:=11) g11 g12 g13;show((vs.drop 11).take 3).map D.int=_;rw[this];rfl
  have hd':Cod.aB [.int c,.lst [.int 420,.int 60,.int 2,.int 5,.int 1000000000000000000,.int 30,.int 6,.int 5,.int 1000000000000000000,.int 30,.int 3,.int 5,.int 1000000000000000000,.int 30]]=.ok (.lst (vs.map D.int)):=hd;generalize vs.map D.int=Q at *;open_line with[h0,h1,hd',hcut,hx]
 obtain⟨g,hg⟩:∃g:Int->bT,∀c,(∀ρ:Ev,ρ[0]?=some (.sh (.int c))->ρ[1]?=some (.sh (.lst [.int 420,.int 60,.int 2,.int 5,.int 1000000000000000000,.int 30,.int 6,.int 5,.int 1000000000000000000,.int 30,.int 3,.int 5,.int 1000000000000000000,.int 30]))->(aq (af (gm (aq (af (ae 0) (af (ae 1) ax)) aB) (cj (dC (.int 11))) eJ) ax) aA) ρ=.ok (fr (g c)))/\bF (g c)/\0<=(g c).1:=⟨λc=>Classical.choose (key c),λc=>UM (key c)⟩
 refine⟨c1.map g,?_,by simp,λx hx=>?_⟩
 .have hcomp:cC 1 [1] (br 0) mYes (aq (af (gm (aq (af (ae 0) (af (ae 1) ax)) aB) (cj (dC (.int 11))) eJ) ax) aA) [.sh (.lst (ns.map D.int)),.sh (.lst [.int 420,.int 60,.int 2,.int 5,.int 1000000000000000000,.int 30,.int 6,.int 5,.int 1000000000000000000,.int 30,.int 3,.int 5,.int 1000000000000000000,.int 30])] (c1.map D.int)=.ok (.lst ((c1.map g).map fr)):=by
   rw[nC (F:=λd=>match d with|.int v=>fr (g v)|d=>d) (by rw[Pg];omega)]
   .rw[Qd,Qd];rfl
   .intro d hd
    obtain⟨c,_,rfl⟩:=Pw.mp hd;exact⟨[.sh (.int c),.sh (.lst [.int 420,.int 60,.int 2,.int 5,.int 1000000000000000000,.int 30,.int 6,.int 5,.int 1000000000000000000,.int 30,.int 3,.int 5,.int 1000000000000000000,.int 30])],rfl,rfl,(hg c).1 _ rfl rfl⟩
  have p18:jU (.int 10) (.int 18)=.ok (.int 1000000000000000000):=rfl;open_line with[bG,da,p18,hc,hcomp]
 .obtain⟨c,_,rfl⟩:=Pw.mp hx
  exact(hg c).2
def Fm{α:Type}{F:α->D}{xs:List α}{m:Nat}{fr:ci}{tt fe:am}{ρ:Ev}{q:Nat->Bool}{G:Nat->D}(hn:xs.length<=1000)(h:∀(k:Nat) (x:α),xs[k]?=some x->∃ρ1,cB [0,1] (cS m fr ρ) (.tup [.int (k:Int),F x])=.ok ρ1/\tt ρ1=.ok (.bl (q k))/\(q k=true->fe ρ1=.ok (G k))) :
  cC m fr (cB [0,1]) tt fe ρ (numbered 0 (xs.map F))=.ok (.lst (((Qu xs.length).filter q).map G)):=by
 have hi:numbered 0 (xs.map F)=(Qu xs.length).map λ(k:Nat)=>D.tup [.int (k:Int),(xs[k]?.map F).getD .non]:=by
  apply Sy;intro i;rw[c4,Pp,Pp]
  by_cases h:i<xs.length
  .rw[Pd h,Tq h]
   simp;rw[Pd h];rfl
  .rw[Q7 (by omega),Q7 (by simp;omega)];rfl
 rw[hi];rw[iG (F:=λd=>match d with|.tup [.int v,_]=>G v.toNat|d=>d) (p:=λd=>match d with|.tup [.int v,_]=>q v.toNat|_=>false) (by simp;omega)]
 .rw[T6,Qd]
  rfl
 .intro d hd
  obtain⟨k,hk,rfl⟩:=Pw.mp hd;have hk':=Rk.mp hk;have e:xs[k]?=some xs[k]:=Pd hk';obtain⟨ρ1,h1,h2,h3⟩:=h k xs[k] e;rw[e];exact⟨ρ1,h1,by simpa using h2,λz=>by simpa using h3 (by simpa using z)⟩
def bits_ok{w:gB}(W:cD w)(v:Int):∃ks,cW [aO w,.int v]=.ok (aN ks)/\iL w ks:=by
 have h14:=W.t14;have hc:cC 2 [1] (cB [0,1]) (gq (aa (aa (ae 1) (dC (.int 4)) aC) (dC (.non)) kG) (aa (aa (aa (ae 2) (ae 0) yq) (dC (.int 1)) oX) (dC (.int 1)) ij)) (ae 0) [.sh (aO w),.sh (.int v)] (numbered 0 (w.ts.map aZ))=.ok (.lst (((Qu w.ts.length).filter (λk=>Ll w k&&(QV (v / 2 ^ k) 1==1))).map nI)):=by
  refine Fm (by omega) λk t ht=>?_;have hW:Ll w k=t.o.isSome:=by unfold Ll;rw[ht];rfl
  refine⟨[.sh (.int (k:Int)),.sh (aZ t),.sh (.int v)],rfl,?_,λ_=>rfl⟩;have hs:yq (.int v) (.int (k:Int))=.ok (.int (v / 2 ^ k)):=by
   show(if decide (0<=(k:Int))=true then au.ok (D.int (v / 2 ^ (k:Int).toNat)) else .stuck)=_;rw[if_pos (decide_eq_true (by omega)),QM]
  have hb:oX (.int (v / 2 ^ k)) (.int 1)=.ok (.int (QV (v / 2 ^ k) 1)):=rfl;rw[hW,show aZ t=.tup [.str t.a,.str t.b,.str t.w,fr t.l,cq t.o] from rfl];cases ho:t.o with
  |none=>open_line with[cq];rfl
  |some x=>open_line with[cq,fr,Hq,hs,hb,Option.isSome_some,RV]
 refine⟨(Qu w.ts.length).filter (λk=>Ll w k&&(QV (v / 2 ^ k) 1==1)),?_,?_,λk hk=>?_⟩
 .rw[show aO w=.tup [.lst (w.ps.map D.str),.lst (w.ts.map aZ),.str w.fi,.str w.la] from rfl]at hc ⊢
  open_line with[cW,pf,hc]
  rfl
 .exact RU.sublist List.filter_sublist UD
 .have:=(Ql.mp hk).2
  rw[PM]at this;exact Hj.mp this.1
def eW{d:D}{z:Pq}:cN d (.str z)=true↔d=.str z:=by
 cases d with
 |str x=>rw[cN];simp
 |_=>constructor<;>intro h<;>first|cases h|(unfold cN at h;cases h)
def Pa(zs:ce):D->Bool
 |.str z=>nameB z&&decide (z∈zs)
 |_=>false
theorem Ae:∀{a b:ce},eqDs (a.map D.str) (b.map D.str)=decide (a=b)
 |[],[]=>rfl
 |[],_::_=>by simp[eqDs]
 |_::_,[]=>by simp[eqDs]
 |x::a,y::b=>by
  rw[Pl,Pl,eqDs,Ae,cN]
  by_cases h1:x=y
  .subst h1;simp
  .simp[h1]
def ne_strl{a b:ce}:jh (.lst (a.map D.str)) (.lst (b.map D.str))=.ok (.bl (!(decide (a=b)))):=by
 unfold jh;rw[if_pos ⟨kX (n:=39),kX (n:=39)⟩,wc,Ae]
def sumF(xs:List bT):bT:=cz (lO xs).1 (lO xs).2
def sum_acc{xs:List bT}(hl:xs.length<=40)(hx:∀x∈xs,bF x):Bo xs.length (sumF xs)/\Low (sumF xs):=by
 have A:=kT (xs:=xs) (by omega) hx;have hL:=dA (a:=(lO xs).1) A.pos;have:=hL.q1;exact⟨⟨by show 0<(cz _ _).2;omega,Pu iD A.b1,Pu iC A.b2⟩,hL⟩
def ck(ss:ce)(t:cO):Bool:=if t.w="both" then(decide (t.a∈ss) != decide (t.b∈ss)) else(decide (t.a∈ss)&&!(decide (t.b∈ss)))
def leads_ok{w:gB}{t:cO}(h:ph w.ps t){ss:ce}:bu [aZ t,.lst (ss.map D.str)]=.ok (.bl (ck ss t)):=by
 have hb:ij (.str t.w) (.str "both")=.ok (.bl (t.w=="both")):=ny;rw[show aZ t=.tup [.str t.a,.str t.b,.str t.w,fr t.l,cq t.o] from rfl];unfold ck
 by_cases c:t.w="both"
 .rw[if_pos c]
  rw[c]at hb ⊢;have hne:∀x y:Bool,jh (.bl x) (.bl y)=.ok (.bl (x != y)):=λx y=>by cases x<;>cases y<;>rfl
  open_line with[bu,dX,hb,eU,hne]
 .rw[if_neg c]
  rw[beq_eq_false_iff_ne.mpr c]at hb;cases e:decide (t.a∈ss) with
  |true=>open_line with[bu,dX,hb,eU,e,jq,RV]
  |false=>open_line with[bu,dX,hb,eU,e,RA]
def CJ(k:Nat)(t:cO):ac:=if t.w="one" then[.tup [nI k,.str t.a,.str t.b]] else[.tup [nI k,.str t.a,.str t.b],.tup [nI k,.str t.b,.str t.a]]
def F8{k:Nat}{t:cO}:(CJ k t).length<=2:=by unfold CJ;split<;>simp
def Ft{t:cO}:m_steps_along [aZ t]=.ok (.lst (if t.w="one" then[.tup [.str t.a,.str t.b]] else[.tup [.str t.a,.str t.b],.tup [.str t.b,.str t.a]])):=by
 have hb:ij (.str t.w) (.str "one")=.ok (.bl (t.w=="one")):=ny;rw[show aZ t=.tup [.str t.a,.str t.b,.str t.w,fr t.l,cq t.o] from rfl]
 by_cases c:t.w="one"
 .rw[if_pos c,c]
  open_line with[m_steps_along,eg,show ij (.str "one") (.str "one")=.ok (.bl true) from rfl]
 .rw[if_neg c]
  rw[beq_eq_false_iff_ne.mpr c]at hb;open_line with[m_steps_along,eg,hb]
def oM(ks:ci)(ts:List cO):Nat->ac
 |0=>[]
 |j+1=>oM ks ts j++(match ts[j]? with|some t=>if j∈ks then[] else CJ j t|none=>[])
theorem vq{ks:ci}{ts:List cO}:∀j,(oM ks ts j).length<=2*j
 |0=>R4 _
 |j+1=>by
  unfold oM;rw[P9];have:=vq (ks:=ks) (ts:=ts) j;split
  .split
   .simp;omega
   .have:=F8 (k:=j) (t:=‹cO›);omega
  .simp;omega
def notin_nums{k:Nat}{ks:ci}:bA (.int (k:Int)) (aN ks)=.ok (.bl (!(decide (k∈ks)))):=by
 have e:Cd (.int (k:Int)) (aN ks)=some (decide (k∈ks)):=by
  have h1:(ks.map λ(k:Nat)=>D.int (k:Int)).all (bg 40)=true:=Qi.mpr λd hd=>by
   obtain⟨z,_,rfl⟩:=Pw.mp hd;rfl
  have h2:(ks.map λ(k:Nat)=>D.int (k:Int)).any (λd=>cN d (.int (k:Int)))=decide (k∈ks):=by
   induction ks with
   |nil=>rfl
   |cons y zs ih=>
    rw[Pl,RI,ih (by
     rw[Pl,RT,PM]at h1;exact h1.2)]
    rw[cN]
    by_cases h:y=k
    .subst h;simp
    .have:((y:Int)==(k:Int))=false:=beq_eq_false_iff_ne.mpr (by omega)
     rw[this,Tu];simp[QB h]
  exact(if_pos ⟨rfl,h1⟩).trans (congrArg some h2)
 unfold bA;rw[e]
def qf:bi:=(ao (cH (aa (ae 3) (ae 1) bA)
 (ao (iR (aq (af (ae 4) ax) m_steps_along) (cB [5,6])
 (ao (bP 2 (aq (af (ae 3) (af (ae 5) (af (ae 6) ax))) eT))
 aj))
 aj)
 aj)
 aj)
def Hd{w:gB}(W:cD w){ks:ci}:m_steps_left [aO w,aN ks]=.ok (.lst (oM ks w.ts w.ts.length)):=by
 have h14:=W.t14;obtain⟨ρ',hl,x3,x4,x5,x6,rfl⟩:=lj (ds:=numbered 0 (w.ts.map aZ)) (tg:=cB [3,4]) (body:=qf) (ρ:=[.sh (aO w),.sh (aN ks),.ow (.lst []),.no,.no,.no,.no])
  (λj ρ=>∃x3 x4 x5 x6,ρ=[.sh (aO w),.sh (aN ks),.ow (.lst (oM ks w.ts j)),x3,x4,x5,x6]) (by
   rintro j d hd ρ ⟨x3,x4,x5,x6,rfl⟩;obtain⟨t,ht,rfl⟩:=gC hd;have hj:j<w.ts.length:=(Po.mp ht).1;have hlen:=vq (ks:=ks) (ts:=w.ts) j;have e1:oM ks w.ts (j+1)=oM ks w.ts j++(if j∈ks then[] else CJ j t):=by
    conv=>lhs;unfold oM
    rw[ht]
   have hni:=notin_nums (k:=j) (ks:=ks)
   by_cases c:j∈ks
   .rw[decide_eq_true c]at hni
    refine⟨_,[.sh (aO w),.sh (aN ks),.ow (.lst (oM ks w.ts j)),.sh (.int (j:Int)),.sh (aZ t),x5,x6],jN rfl,?_,_,_,_,_,by rw[e1,if_pos c,QH]⟩;unfold qf;open_line with[hni]
   .rw[decide_eq_false c]at hni
    rw[e1,if_neg c];have ha:=Ft (t:=t);have ap1:decide ((oM ks w.ts j).length<=999)=true:=decide_eq_true (by omega);unfold CJ
    by_cases c1:t.w="one"
    .rw[if_pos c1]at ha ⊢
     refine⟨_,[.sh (aO w),.sh (aN ks),.ow (.lst (oM ks w.ts j++[.tup [nI j,.str t.a,.str t.b]])),.sh (.int (j:Int)),.sh (aZ t),.sh (.str t.a),.sh (.str t.b)],jN rfl,?_,_,_,_,_,rfl⟩;have hf:bS (cB [5,6]) (ao (bP 2 (aq (af (ae 3) (af (ae 5) (af (ae 6) ax))) eT)) aj) [.tup [.str t.a,.str t.b]] [.sh (aO w),.sh (aN ks),.ow (.lst (oM ks w.ts j)),.sh (.int (j:Int)),.sh (aZ t),x5,x6]=.ok (.nx [.sh (aO w),.sh (aN ks),.ow (.lst (oM ks w.ts j++[.tup [nI j,.str t.a,.str t.b]])),.sh (.int (j:Int)),.sh (aZ t),.sh (.str t.a),.sh (.str t.b)]):=by
      unfold bS bS;rw[show cB [5,6] [.sh (aO w),.sh (aN ks),.ow (.lst (oM ks w.ts j)),.sh (.int (j:Int)),.sh (aZ t),x5,x6] (.tup [.str t.a,.str t.b])=.ok [.sh (aO w),.sh (aN ks),.ow (.lst (oM ks w.ts j)),.sh (.int (j:Int)),.sh (aZ t),.sh (.str t.a),.sh (.str t.b)] from jN rfl];open_line with[cw ap1]
     unfold qf;open_line with[hni,ha,hf]
    .rw[if_neg c1]at ha ⊢
     refine⟨_,[.sh (aO w),.sh (aN ks),.ow (.lst (oM ks w.ts j++[.tup [nI j,.str t.a,.str t.b],.tup [nI j,.str t.b,.str t.a]])),.sh (.int (j:Int)),.sh (aZ t),.sh (.str t.b),.sh (.str t.a)],jN rfl,?_,_,_,_,_,rfl⟩;have ap2:decide ((oM ks w.ts j++[D.tup [.int (j:Int),.str t.a,.str t.b]]).length<=999)=true:=decide_eq_true (by simp;omega);have hf:bS (cB [5,6]) (ao (bP 2 (aq (af (ae 3) (af (ae 5) (af (ae 6) ax))) eT)) aj) [.tup [.str t.a,.str t.b],.tup [.str t.b,.str t.a]] [.sh (aO w),.sh (aN ks),.ow (.lst (oM ks w.ts j)),.sh (.int (j:Int)),.sh (aZ t),x5,x6]=.ok (.nx [.sh (aO w),.sh (aN ks),.ow (.lst (oM ks w.ts j++[.tup [nI j,.str t.a,.str t.b]]++[.tup [nI j,.str t.b,.str t.a]])),.sh (.int (j:Int)),.sh (aZ t),.sh (.str t.b),.sh (.str t.a)]):=by
      unfold bS bS bS;rw[show cB [5,6] [.sh (aO w),.sh (aN ks),.ow (.lst (oM ks w.ts j)),.sh (.int (j:Int)),.sh (aZ t),x5,x6] (.tup [.str t.a,.str t.b])=.ok [.sh (aO w),.sh (aN ks),.ow (.lst (oM ks w.ts j)),.sh (.int (j:Int)),.sh (aZ t),.sh (.str t.a),.sh (.str t.b)] from jN rfl];open_line with[cw ap1,cw ap2]
     rw[RF]at hf;unfold qf;open_line with[hni,ha,hf]) ⟨.no,.no,.no,.no,rfl⟩
 have hlen:(numbered 0 (w.ts.map aZ)).length=w.ts.length:=by rw[cZ,Pg]
 rw[hlen]at hl;unfold qf at hl;have i1:aC (aO w) (.int 1)=.ok (.lst (w.ts.map aZ)):=rfl;open_line with[m_steps_left,gK,i1,hl]
def jm(ks:ci)(ss:ce)(ts:List cO)(n:Nat):ci:=(Qu n).filter λk=>!(decide (k∈ks))&&(match ts[k]? with|some t=>ck ss t|none=>false)
def pO(ss:ce):D->Bool
 |.tup [_,.str a,.str b]=>decide (a∈ss)&&!(decide (b∈ss))
 |_=>false
def fO:D->D
 |.tup [x,_,_]=>x
 |d=>d
def F7{ss:ce}{k:Nat}{t:cO}(hw:t.w="one"∨t.w="both"):((CJ k t).filter (pO ss)).map fO=if ck ss t=true then[nI k] else[]:=by
 rcases hw with h|h
 .have hl:ck ss t=(decide (t.a∈ss)&&!(decide (t.b∈ss))):=by unfold ck;rw[if_neg (by rw[h];decide)]
  have hs:CJ k t=[.tup [nI k,.str t.a,.str t.b]]:=by unfold CJ;rw[if_pos h]
  rw[hl,hs];have e:pO ss (.tup [nI k,.str t.a,.str t.b])=(decide (t.a∈ss)&&!(decide (t.b∈ss))):=rfl;cases q:(decide (t.a∈ss)&&!(decide (t.b∈ss))) with|true=>rw[Rm (by rw[e,q])];rfl|false=>rw[Qp (by rw[e,q];decide)];rfl
 .have hl:ck ss t=(decide (t.a∈ss) != decide (t.b∈ss)):=by unfold ck;rw[if_pos h]
  have hs:CJ k t=[.tup [nI k,.str t.a,.str t.b],.tup [nI k,.str t.b,.str t.a]]:=by unfold CJ;rw[if_neg (by rw[h];decide)]
  rw[hl,hs];have e1:pO ss (.tup [nI k,.str t.a,.str t.b])=(decide (t.a∈ss)&&!(decide (t.b∈ss))):=rfl;have e2:pO ss (.tup [nI k,.str t.b,.str t.a])=(decide (t.b∈ss)&&!(decide (t.a∈ss))):=rfl;cases q1:decide (t.a∈ss)<;>cases q2:decide (t.b∈ss)<;>rw[q1,q2]at e1 e2
  .rw[Qp (by rw[e1];decide),Qp (by rw[e2];decide)];rfl
  .rw[Qp (by rw[e1];decide),Rm (by rw[e2];rfl)];rfl
  .rw[Rm (by rw[e1];rfl),Qp (by rw[e2];decide)];rfl
  .rw[Qp (by rw[e1];decide),Qp (by rw[e2];decide)];rfl
theorem Ag{ks:ci}{ss:ce}{ts:List cO}(hw:∀t∈ts,t.w="one"∨t.w="both"):∀n,((oM ks ts n).filter (pO ss)).map fO=(jm ks ss ts n).map nI
 |0=>rfl
 |n+1=>by
  unfold oM jm;rw[List.filter_append,Qb,Ag hw n,List.range_succ,List.filter_append,Qb]
  congr 1
  cases e:ts[n]? with
  |none=>rw[Qp (by simp[e])];rfl
  |some t=>
   show((if n∈ks then[] else CJ n t).filter (pO ss)).map fO=_
   by_cases c:n∈ks
   .rw[if_pos c,Qp (by simp[c])];rfl
   .rw[if_neg c,F7 (hw t (PN e))]
    cases q:ck ss t with|true=>rw[if_pos rfl,Rm (by simp[c,e,q])];rfl|false=>rw[if_neg (by decide),Qp (by simp[e,q])];rfl
theorem Ah{ks:ci}{ts:List cO}:∀n,∀d∈oM ks ts n,∃(k:Nat) (a b:Pq),d=.tup [nI k,.str a,.str b]
 |0,d,hd=>(nomatch hd)
 |n+1,d,hd=>by
  unfold oM at hd;rcases Pz.mp hd with h|h
  .exact Ah n d h
  .split at h
   .split at h
    .cases h
    .unfold CJ at h
     split at h
     .rw[PF.mp h];exact⟨_,_,_,rfl⟩
     .rcases Pr.mp h with rfl|h
      .exact⟨_,_,_,rfl⟩
      .rw[PF.mp h];exact⟨_,_,_,rfl⟩
   .cases h
def out_ok{w:gB}(W:cD w){ks:ci}{ss:ce}:m_numbers_out [aO w,aN ks,.lst (ss.map D.str)]=.ok (aN (jm ks ss w.ts w.ts.length)):=by
 have h14:=W.t14;have hl:=Hd W (ks:=ks);have hc:cC 3 [2] (cB [0,1,2]) (gq (aa (ae 1) (ae 3) pG) (aa (ae 2) (ae 3) bA)) (ae 0) [.sh (aO w),.sh (aN ks),.sh (.lst (ss.map D.str))] (oM ks w.ts w.ts.length)=.ok (aN (jm ks ss w.ts w.ts.length)):=by
  rw[iG (F:=fO) (p:=pO ss) (by have:=vq (ks:=ks) (ts:=w.ts) w.ts.length;omega),Ag (λt ht=>(W.ts t ht).w)]
  .rfl
  .intro d hd
   obtain⟨k,a,b,rfl⟩:=Ah _ d hd;refine⟨[.sh (nI k),.sh (.str a),.sh (.str b),.sh (.lst (ss.map D.str))],rfl,?_,λ_=>rfl⟩;show _=au.ok (D.bl (decide (a∈ss)&&!(decide (b∈ss))));cases e:decide (a∈ss) with
   |true=>open_line with[eU,e,jq,RV]
   |false=>open_line with[eU,e,RA]
 open_line with[m_numbers_out,fN,hl,hc]
def fq(ks:ci)(ss:ce)(ts:List cO)(xs:List bT)(n:Nat):List bT:=(jm ks ss ts n).map λk=>xs.getD k (0,1)
def roomF_fin{ks:ci}{ss:ce}{ts:List cO}{xs:List bT}{n:Nat}(hx:∀x∈xs,bF x):∀x∈fq ks ss ts xs n,bF x:=λx hm=>by
 obtain⟨k,_,rfl⟩:=Pw.mp hm;rw[R6];cases e:xs[k]? with|none=>exact⟨⟨by decide,by decide⟩,by decide,by decide⟩|some y=>exact hx y (PN e)
def roomF_len{ks:ci}{ss:ce}{ts:List cO}{xs:List bT}{n:Nat}:(fq ks ss ts xs n).length<=n:=by
 unfold fq jm;rw[Pg];exact Pu (SF _ _) (by simp)
end K35
namespace K36
open PySem L2 DL Com
def sg(s:Int)(x:bT):bT:=(s*x.1,x.2)
def vx{s:Int}{x:bT}(h:bF x)(hs:s=1∨s=-1):bF (sg s x):=by
 rcases hs with rfl|rfl
 .have:sg 1 x=x:=by unfold sg;rw[T2]
  rw[this];exact h
 .refine⟨⟨h.q1,?_⟩,?_,h.qN⟩
  .show Qf (-1*x.1) x.2=1
   rw[show(-1*x.1)=-x.1 by omega,Int.neg_gcd];exact h.g1
  .show(-1*x.1).natAbs<jX
   have:=h.pN;omega
def sumF(xs:List bT):bT:=cz (lO xs).1 (lO xs).2
def sum_acc{xs:List bT}(hl:xs.length<=40)(hx:∀x∈xs,bF x):Bo xs.length (sumF xs)/\Low (sumF xs):=by
 have A:=kT (xs:=xs) (by omega) hx;have hL:=dA (a:=(lO xs).1) A.pos;have:=hL.q1;exact⟨⟨by show 0<(cz _ _).2;omega,Pu iD A.b1,Pu iC A.b2⟩,hL⟩
def vG{xs:List bT}{x:bT}{s:Int}(hl:xs.length<=39)(hxs:∀y∈xs,bF y)(hx:bF x)(hs:s=1∨s=-1):bI [fr (sumF xs),fr x,.int s]=.ok (fr (sumF (xs++[sg s x]))):=by
 have hx':=vx hx hs;have A:=kT (xs:=xs) (by omega) hxs;obtain⟨hA,_⟩:=sum_acc (xs:=xs) (by omega) hxs;have hB:=hA.step hx';have bb:bnd (xs.length+1)<pK:=pW (by omega);have b60:bnd xs.length<nU:=Pm (pW (by omega)) p7;have hw:sumF (xs++[sg s x])=cz ((sumF xs).1*x.2+s*x.1*(sumF xs).2) ((sumF xs).2*x.2):=by
  have:=xE (s:=lO xs) (x:=sg s x) A.pos hx'.q1;unfold sumF;rw[C3,←this];rfl
 have hlo:=Cod.low_ok (a:=(sumF xs).1*x.2+s*x.1*(sumF xs).2) (b:=(sumF xs).2*x.2) hB.pos (PK hB.b1 bb) (PK hB.b2 bb);have m1_:dg (sumF xs).1 x.2=true:=fA (PK hA.b1 b60) (Pm hx.qN de);have m0_:dg s x.1=true:=fA (Pm (show s.natAbs<jX by rcases hs with rfl|rfl<;>decide) de) (Pm hx.pN de);have m2_:dg (s*x.1) (sumF xs).2=true:=fA (Pm hx'.pN de) (PK hA.b2 b60);have m3_:dg (sumF xs).2 x.2=true:=fA (PK hA.b2 b60) (Pm hx.qN de);rw[hw];generalize sumF xs=u at *;rw[show fr u=.tup [.int u.1,.int u.2] from rfl,show fr x=.tup [.int x.1,.int x.2] from rfl];open_line with[bI,iJ,eV m1_,eV m0_,eV m2_,eV m3_,hlo]
def part(p:Pq)(t:cO)(x:bT):List bT:=(if t.a=p then[sg 1 x] else[])++(if t.b=p then[sg (-1) x] else[])
def parts(p:Pq):List cO->List bT->List bT
 |t::ts,x::xs=>part p t x++parts p ts xs
 |_,_=>[]
def GQ{p:Pq}{t:cO}{x:bT}:(part p t x).length<=2:=by
 unfold part;split<;>split<;>simp
theorem parts_len{p:Pq}:∀{ts:List cO}{xs:List bT},(parts p ts xs).length<=2*ts.length
 |[],_=>by simp[parts]
 |_::_,[]=>by simp[parts]
 |t::ts,x::xs=>by
  unfold parts;rw[P9,PL];have:=parts_len (p:=p) (ts:=ts) (xs:=xs);have:=GQ (p:=p) (t:=t) (x:=x);omega
def Eh{p:Pq}{t:cO}{x:bT}(h:bF x):∀y∈part p t x,bF y:=λy hy=>by
 unfold part at hy;rw[Pz]at hy;rcases hy with hy|hy
 .split at hy
  .have:y=sg 1 x:=by simpa using hy
   rw[this];exact vx h (.inl rfl)
  .cases hy
 .split at hy
  .have:y=sg (-1) x:=by simpa using hy
   rw[this];exact vx h (.inr rfl)
  .cases hy
theorem parts_fin{p:Pq}:∀{ts:List cO}{xs:List bT},(∀x∈xs,bF x)->∀y∈parts p ts xs,bF y
 |[],_,_,y,hy=>by simp[parts]at hy
 |_::_,[],_,y,hy=>by simp[parts]at hy
 |t::ts,x::xs,h,y,hy=>by
  unfold parts at hy;rw[Pz]at hy;rcases hy with hy|hy
  .exact Eh (h x Pf) y hy
  .exact parts_fin (λz hz=>h z (Pc _ hz)) y hy
def IH{x y:Pq}:ij (.str x) (.str y)=.ok (.bl (decide (x=y))):=by
 rw[ny]
 congr 2
def zC{A B p:D}{P:Pq}{t:cO}{x:bT}{acc:List bT}{k:Nat}{xs:List bT}(hp:p=.str P)(hacc:∀y∈acc,bF y)(hl:acc.length<=37)(hx:xs[k]?=some x)(fx:bF x):∃ρ2,(ao (cH (aa (aa (ae 5) (dC (.int 0)) aC) (ae 2) ij)
 (ao (aF 3 (aq (af (ae 3) (af (aa (ae 1) (ae 4) aC) (af (dC (.int 1)) ax))) bI))
 aj)
 aj)
 (ao (cH (aa (aa (ae 5) (dC (.int 1)) aC) (ae 2) ij)
 (ao (aF 3 (aq (af (ae 3) (af (aa (ae 1) (ae 4) aC) (af (aS (dC (.int 1)) jV) ax))) bI))
 aj)
 aj)
 aj)) [.sh A,.sh (.lst (xs.map fr)),.sh p,.sh (fr (sumF acc)),.sh (.int (k:Int)),.sh (aZ t)]=.ok (.nx ρ2)/\ρ2=[.sh A,.sh (.lst (xs.map fr)),.sh p,.sh (fr (sumF (acc++part P t x))),.sh (.int (k:Int)),.sh (aZ t)]:=by
 subst hp;have hix:aC (.lst (xs.map fr)) (.int (k:Int))=.ok (fr x):=fD (by rw[Pp,hx];rfl);have i0:aC (aZ t) (.int 0)=.ok (.str t.a):=rfl;have i1:aC (aZ t) (.int 1)=.ok (.str t.b):=rfl;have p1:=vG (xs:=acc) (x:=x) (s:=1) (by omega) hacc fx (.inl rfl);refine⟨_,?_,rfl⟩
 by_cases ha:t.a=P
 .have hacc':∀y∈acc++[sg 1 x],bF y:=λy hy=>by
   rw[Pz]at hy;rcases hy with hy|hy
   .exact hacc y hy
   .have:y=sg 1 x:=by simpa using hy
    rw[this];exact vx fx (.inl rfl)
  have p2:=vG (xs:=acc++[sg 1 x]) (x:=x) (s:=-1) (by simp;omega) hacc' fx (.inr rfl)
  by_cases hb:t.b=P
  .have e:acc++part P t x=acc++[sg 1 x]++[sg (-1) x]:=by unfold part;rw[if_pos ha,if_pos hb,RF]
   rw[e];open_line with[i0,i1,IH,decide_eq_true ha,decide_eq_true hb,hix,p1,p2]
  .have e:acc++part P t x=acc++[sg 1 x]:=by unfold part;rw[if_pos ha,if_neg hb,QH]
   rw[e];open_line with[i0,i1,IH,decide_eq_true ha,decide_eq_false hb,hix,p1]
 .have p2:=vG (xs:=acc) (x:=x) (s:=-1) (by omega) hacc fx (.inr rfl)
  by_cases hb:t.b=P
  .have e:acc++part P t x=acc++[sg (-1) x]:=by unfold part;rw[if_neg ha,if_pos hb,Q6]
   rw[e];open_line with[i0,i1,IH,decide_eq_false ha,decide_eq_true hb,hix,p2]
  .have e:acc++part P t x=acc:=by unfold part;rw[if_neg ha,if_neg hb];simp
   rw[e];open_line with[i0,i1,IH,decide_eq_false ha,decide_eq_false hb]
theorem qB{p:Pq}:∀{ts:List cO}{xs:List bT}{k:Nat}{t:cO}{x:bT},ts[k]?=some t->xs[k]?=some x->parts p (ts.take (k+1)) (xs.take (k+1))=parts p (ts.take k) (xs.take k)++part p t x
 |t'::ts,x'::xs,0,t,x,h1,h2=>by
  cases h1;cases h2;show part p t' x'++parts p [] []=[]++part p t' x';simp[parts]
 |t'::ts,x'::xs,k+1,t,x,h1,h2=>by
  show part p t' x'++parts p (ts.take (k+1)) (xs.take (k+1))=(part p t' x'++parts p (ts.take k) (xs.take k))++part p t x;rw[qB (ts:=ts) (xs:=xs) h1 h2,RF]
 |[],_,_,_,_,h1,_=>by simp at h1
 |_::_,[],_,_,_,_,h2=>by simp at h2
def going_ok{w:gB}{P:Pq}{xs:List bT}(h14:w.ts.length<=14)(hl:xs.length=w.ts.length)(hx:∀x∈xs,bF x):cL [aO w,.lst (xs.map fr),.str P]=.ok (fr (sumF (parts P w.ts xs))):=by
 obtain⟨ρ',hf,x4,x5,rfl⟩:=lj (ds:=numbered 0 (w.ts.map aZ)) (tg:=cB [4,5]) (ρ:=[.sh (aO w),.sh (.lst (xs.map fr)),.sh (.str P),.sh (fr (sumF [])),.no,.no])
  (body:=(ao (cH (aa (aa (ae 5) (dC (.int 0)) aC) (ae 2) ij)
 (ao (aF 3 (aq (af (ae 3) (af (aa (ae 1) (ae 4) aC) (af (dC (.int 1)) ax))) bI))
 aj)
 aj)
 (ao (cH (aa (aa (ae 5) (dC (.int 1)) aC) (ae 2) ij)
 (ao (aF 3 (aq (af (ae 3) (af (aa (ae 1) (ae 4) aC) (af (aS (dC (.int 1)) jV) ax))) bI))
 aj)
 aj)
 aj)))
  (λk ρ=>∃x4 x5,ρ=[.sh (aO w),.sh (.lst (xs.map fr)),.sh (.str P),.sh (fr (sumF (parts P (w.ts.take k) (xs.take k)))),x4,x5]) (by
   rintro k d hd ρ ⟨x4,x5,rfl⟩;obtain⟨t,ht,rfl⟩:=gC hd;have hk:k<w.ts.length:=(Po.mp ht).1;have hxk:xs[k]?=some xs[k]:=Pd (by omega);have hpl:(parts P (w.ts.take k) (xs.take k)).length<=28:=Pu parts_len (by rw[Ru];omega);obtain⟨ρ2,h1,h2⟩:=zC (A:=aO w) (B:=.non) (p:=.str P) (P:=P) (t:=t) (acc:=parts P (w.ts.take k) (xs.take k)) (xs:=xs) rfl (parts_fin λx hx'=>hx x (UT hx')) (by omega) hxk (hx _ (Rb (by omega)));refine⟨_,ρ2,jN rfl,h1,.sh (.int (k:Int)),.sh (aZ t),?_⟩;rw[h2,qB ht hxk]) ⟨.no,.no,rfl⟩
 rw[cZ,Pg,R8,←hl,R8]at hf;have h0:fr (sumF [])=.tup [.int 0,.int 1]:=by
  show fr (cz 0 1)=_;have:cz 0 1=(0,1):=by decide
  rw[this];rfl
 rw[h0]at hf;rw[show aO w=.tup [.lst (w.ps.map D.str),.lst (w.ts.map aZ),.str w.fi,.str w.la] from rfl]at hf ⊢;open_line with[cL,gL,nk,mF,kq,hf]
def ip(P:Pq)(t:cO)(z:Int):Int:=(if t.a=P then z else 0)-(if t.b=P then z else 0)
def ips(P:Pq):List cO->List Int->Int
 |t::ts,z::zs=>ip P t z+ips P ts zs
 |_,_=>0
theorem xO{p:Pq}:∀{ts:List cO}{xs:List Int}{k:Nat}{t:cO}{x:Int},ts[k]?=some t->xs[k]?=some x->ips p (ts.take (k+1)) (xs.take (k+1))=ips p (ts.take k) (xs.take k)+ip p t x
 |t'::ts,x'::xs,0,t,x,h1,h2=>by
  cases h1;cases h2;show ip p t' x' + ips p [] []=0+ip p t' x';simp[ips]
 |t'::ts,x'::xs,k+1,t,x,h1,h2=>by
  show ip p t' x' + ips p (ts.take (k+1)) (xs.take (k+1))=(ip p t' x' + ips p (ts.take k) (xs.take k))+ip p t x;rw[xO (ts:=ts) (xs:=xs) h1 h2,Int.add_assoc]
 |[],_,_,_,_,h1,_=>by simp at h1
 |_::_,[],_,_,_,_,h2=>by simp at h2
theorem ips_parts{P:Pq}{b:Int}:∀(ts:List cO) (xs:List bT),ips P ts (xs.map λx=>x.1*(b / x.2))=tN ((parts P ts xs).map λx=>x.1*(b / x.2))
 |[],xs=>by simp[ips,parts,tN]
 |_::_,[]=>by simp[ips,parts,tN]
 |t::ts,x::xs=>by
  show ip P t (x.1*(b / x.2))+ips P ts (xs.map λx=>x.1*(b / x.2))=tN ((part P t x++parts P ts xs).map λx=>x.1*(b / x.2));rw[ips_parts ts xs,Qb,um]
  congr 1
  unfold ip part sg
  by_cases ha:t.a=P
  .by_cases hb:t.b=P
   .rw[if_pos ha,if_pos hb,if_pos ha,if_pos hb]
    show _=1*x.1*(b / x.2)+(-1*x.1*(b / x.2)+0);rw[T2,Int.neg_one_mul,UX];omega
   .rw[if_pos ha,if_neg hb,if_pos ha,if_neg hb]
    show _=1*x.1*(b / x.2)+0;rw[T2];omega
  .by_cases hb:t.b=P
   .rw[if_neg ha,if_pos hb,if_neg ha,if_pos hb]
    show _=-1*x.1*(b / x.2)+0;rw[Int.neg_one_mul,UX];omega
   .rw[if_neg ha,if_neg hb,if_neg ha,if_neg hb];rfl
def De(g:am)(ρ:Ev)(d:D):au (ac):=(g ρ).bind λe=>match d,e with
 |.lst ds,.lst es=>.ok (cK ds es)
 |_,_=>.stuck
def Hu{f g:am}{ρ:Ev}:Df f g ρ=(f ρ).bind (De g ρ):=rfl
def EZ{g:am}{ρ:Ev}{ds es:ac}(h:g ρ=.ok (.lst es)):De g ρ (.lst ds)=.ok (cK ds es):=by unfold De;rw[h];rfl
def BM{ts:List cO}{zs:List Int}{k:Nat}{d:D}(h:(cK (ts.map aZ) (zs.map D.int))[k]?=some d):∃t z,ts[k]?=some t/\zs[k]?=some z/\d=.tup [aZ t,.int z]:=by
 obtain⟨x,y,h1,h2,h3⟩:=lT _ _ _ _ h;rw[Pp]at h1 h2;cases e1:ts[k]? with
 |none=>rw[e1]at h1;cases h1
 |some t=>
  cases e2:zs[k]? with
  |none=>rw[e2]at h2;cases h2
  |some z=>
   rw[e1]at h1;rw[e2]at h2;cases h1;cases h2;exact⟨t,z,rfl,rfl,h3⟩
def Hm{w:gB}{P:Pq}{zs:List Int}(hl:zs.length=w.ts.length):m_goes_from [aO w,.lst (zs.map D.int),.str P]=.ok (.int (ips P w.ts zs)):=by
 obtain⟨ρ',hf,x4,x5,rfl⟩:=lj (ds:=cK (w.ts.map aZ) (zs.map D.int)) (tg:=cB [4,5]) (ρ:=[.sh (aO w),.sh (.lst (zs.map D.int)),.sh (.str P),.sh (.int 0),.no,.no])
  (body:=(ao (cH (aa (aa (ae 4) (dC (.int 0)) aC) (ae 2) ij)
 (ao (aF 3 (aa (ae 3) (ae 5) bc))
 aj)
 aj)
 (ao (cH (aa (aa (ae 4) (dC (.int 1)) aC) (ae 2) ij)
 (ao (aF 3 (aa (ae 3) (ae 5) gJ))
 aj)
 aj)
 aj)))
  (λk ρ=>∃x4 x5,ρ=[.sh (aO w),.sh (.lst (zs.map D.int)),.sh (.str P),.sh (.int (ips P (w.ts.take k) (zs.take k))),x4,x5]) (by
   rintro k d hd ρ ⟨x4,x5,rfl⟩;obtain⟨t,z,ht,hz,rfl⟩:=BM hd;have i0:aC (aZ t) (.int 0)=.ok (.str t.a):=rfl;have i1:aC (aZ t) (.int 1)=.ok (.str t.b):=rfl;refine⟨_,[.sh (aO w),.sh (.lst (zs.map D.int)),.sh (.str P),.sh (.int (ips P (w.ts.take (k+1)) (zs.take (k+1)))),.sh (aZ t),.sh (.int z)],jN rfl,?_,_,_,rfl⟩;rw[xO ht hz];unfold ip;show(ao _ _) [.sh (aO w),.sh (.lst (zs.map D.int)),.sh (.str P),.sh (.int (ips P (w.ts.take k) (zs.take k))),.sh (aZ t),.sh (.int z)]=_
   by_cases ha:t.a=P
   .by_cases hb:t.b=P
    .rw[if_pos ha,if_pos hb,show ips P (w.ts.take k) (zs.take k)+(z-z)=ips P (w.ts.take k) (zs.take k)+z-z by omega]
     open_line with[i0,i1,IH,decide_eq_true ha,decide_eq_true hb,gJ]
    .rw[if_pos ha,if_neg hb,Int.sub_zero]
     open_line with[i0,i1,IH,decide_eq_true ha,decide_eq_false hb,gJ]
   .by_cases hb:t.b=P
    .rw[if_neg ha,if_pos hb,show ips P (w.ts.take k) (zs.take k)+(0-z)=ips P (w.ts.take k) (zs.take k)-z by omega]
     open_line with[i0,i1,IH,decide_eq_false ha,decide_eq_true hb,gJ]
    .rw[if_neg ha,if_neg hb,show ips P (w.ts.take k) (zs.take k)+(0-0)=ips P (w.ts.take k) (zs.take k) by omega]
     open_line with[i0,i1,IH,decide_eq_false ha,decide_eq_false hb]) ⟨.no,.no,rfl⟩
 have hpl:(cK (w.ts.map aZ) (zs.map D.int)).length=w.ts.length:=by
  rw[jl,Pg,Pg];omega
 rw[hpl,R8,←hl,R8]at hf;rw[show aO w=.tup [.lst (w.ps.map D.str),.lst (w.ts.map aZ),.str w.fi,.str w.la] from rfl]at hf ⊢;open_line with[m_goes_from,iH,nk,Hu]
 rw[EZ (es:=zs.map D.int) rfl];open_line with[nj,hf]
def somes_some(xs:List bT):fV (xs.map some)=xs:=by unfold fV;rw[TB];simp
def amount_ok{w:gB}{xs:List bT}(W:cD w)(hl:xs.length=w.ts.length)(hx:∀x∈xs,bF x):eK [aO w,.lst (xs.map fr)]=.ok (fr (sumF (parts w.fi w.ts xs))):=by
 have h14:=W.t14;have hlook:=yR W;have hsc:=xa (os:=xs.map some) (by rw[Pg];omega) (λx h=>by
  obtain⟨y,hy,e⟩:=Pw.mp h;cases e;exact hx x hy)
 have e1:(xs.map some).map cq=xs.map fr:=by rw[Qd];rfl
 obtain⟨B,_,hdv⟩:=zP hx 1 0 ⟨by decide,by decide⟩;rw[somes_some,e1]at hsc;have hB:dw xs=xs.foldl fu 1:=rfl;have e2:(xs.map some).map (wI (dw xs))=(xs.map λx=>x.1*(dw xs / x.2)).map D.int:=by rw[Qd,Qd];rfl
 rw[e2]at hsc;have hg:=Hm (w:=w) (P:=w.fi) (zs:=xs.map λx=>x.1*(dw xs / x.2)) (by rw[Pg];exact hl);rw[ips_parts]at hg;have hpl:(parts w.fi w.ts xs).length<=28:=Pu parts_len (by omega);have hpf:=parts_fin (p:=w.fi) (ts:=w.ts) hx;have A:=kT (xs:=parts w.fi w.ts xs) (by omega) hpf;obtain⟨_,hSL⟩:=sum_acc (xs:=parts w.fi w.ts xs) (by omega) hpf;have hdvp:∀(ts:List cO) (xs':List bT),(∀x∈xs',x.2∣dw xs)->∀x∈parts w.fi ts xs',x.2∣dw xs:=by
  intro ts
  induction ts with
  |nil=>intro xs' _ x hx';simp[parts]at hx'
  |cons t ts ih=>
   intro xs' h x hx';cases xs' with
   |nil=>simp[parts]at hx'
   |cons y ys=>
    unfold parts at hx';rw[Pz]at hx';rcases hx' with hx'|hx'
    .have:x.2=y.2:=by
      unfold part at hx';rw[Pz]at hx';rcases hx' with h'|h'
      .split at h'
       .have:x=sg 1 y:=by simpa using h'
        rw[this];rfl
       .cases h'
      .split at h'
       .have:x=sg (-1) y:=by simpa using h'
        rw[this];rfl
       .cases h'
     rw[this];exact h y Pf
    .exact ih ys (λz hz=>h z (Pc _ hz)) x hx'
 have hts:=nX (b:=dw xs) (parts w.fi w.ts xs) (0,1) 0 (hdvp w.ts xs hdv) (by show(0:Int)*_=0*1;omega);rw[UG]at hts;change (lO (parts w.fi w.ts xs)).1*dw xs=tN ((parts w.fi w.ts xs).map λx=>x.1*(dw xs / x.2))*(lO (parts w.fi w.ts xs)).2 at hts;have hbp:0<dw xs:=B.pos;have hbb:(dw xs).natAbs<=2 ^ (200*14):=Pu B.bd (Qz (by decide) (by omega));have A1:(lO (parts w.fi w.ts xs)).1.natAbs<=2 ^ (201*28):=Pu A.b1 (Qz (by decide) (by omega));have Ap:=A.pos;have hr:=iA (a:=(lO (parts w.fi w.ts xs)).1) (b:=(lO (parts w.fi w.ts xs)).2);have hr2:=iA (a:=tN ((parts w.fi w.ts xs).map λx=>x.1*(dw xs / x.2))) (b:=dw xs);have hl2:=dA (a:=tN ((parts w.fi w.ts xs).map λx=>x.1*(dw xs / x.2))) hbp;unfold sumF at hSL ⊢;generalize tN ((parts w.fi w.ts xs).map λx=>x.1*(dw xs / x.2))=Z at *;generalize lO (parts w.fi w.ts xs)=T at *;generalize dw xs=b at *;have hZ:Z.natAbs<pK:=by
  have h1:Z.natAbs<=Z.natAbs*T.2.natAbs:=Nat.le_mul_of_pos_right _ (by omega);have h2:Z.natAbs*T.2.natAbs=T.1.natAbs*b.natAbs:=by rw[←Rz,←Rz,hts]
  have h3:T.1.natAbs*b.natAbs<=2 ^ (201*28)*2 ^ (200*14):=Sw A1 hbb;rw[←S4]at h3;refine PK (Pu h1 (h2▸h3)) ?_;rw[jJ];exact R5 (by decide) (by decide)
 have hb13:b.natAbs<pK:=PK hbb (by rw[jJ];exact R5 (by decide) (by decide));have hra:=qp (a:=Z) (b:=b) hbp hZ hb13;have heq:cz Z b=cz T.1 T.2:=by
  refine qO hl2 hSL ?_;generalize cz Z b=L at *;generalize cz T.1 T.2=S at *;have k:L.1*S.2*(b*T.2)=S.1*L.2*(b*T.2):=by
   have e1:L.1*S.2*(b*T.2)=(L.1*b)*S.2*T.2:=by grind
   have e2:S.1*L.2*(b*T.2)=(S.1*T.2)*L.2*b:=by grind
   have e3:T.1*S.2*L.2*b=(T.1*b)*S.2*L.2:=by grind
   rw[e1,e2,hr2,hr,e3,hts]
   grind
  exact QO (by have:=Su hbp Ap;omega) k
 rw[heq]at hra;rw[show aO w=.tup [.lst (w.ps.map D.str),.lst (w.ts.map aZ),.str w.fi,.str w.la] from rfl]at hlook hg ⊢;open_line with[eK,iI,hlook,hsc,hg,hra]
end K36
namespace K34
open PySem L2 DL Com
def Nf:aB=Cod.aB:=rfl
def Ow:bx=Cod.bx:=rfl
def KI:aA=Cod.aA:=rfl
def Ng:aJ=Cod.aJ:=rfl
def Nd:m_on_one_scale=Com.m_on_one_scale:=rfl
def N7:m_look_at_web=Com.m_look_at_web:=rfl
def Hi{n k:Nat}(h:k<n):xM n (k:Int)=some k:=by
 unfold xM;rw[if_pos (by omega),if_pos (by omega),QM]
def put_nat{ds:ac}{d:D}{k:Nat}(h:k<ds.length)(ρ:Ev)(i:Nat):DL.putAt ρ i ds d (.int (k:Int))=.ok (.nx (ρ.set i (.ow (.lst (ds.set k d))))):=E2 (Hi h)
def O3(x:bT):aC (fr x) (.int 0)=.ok (.int x.1):=rfl
end K34
namespace Flo
open PySem L2 DL Com
open K11 (eW)
open K54 (lh)
def cQ(as:List Int)(k:Nat):Int:=(as[k]?).getD 0
def dE(m:Int)(as:List Int)(t:Tn):List Int:=as.set t.n.toNat (cQ as t.n.toNat+t.sg*m)
abbrev sB:bi :=
 (ao (An 3 (aa (aa (ae 3) (aS (ae 4) (fj "number")) aC) (aa (aS (ae 4) (fj "sign")) (ae 2) aW) bc) (aS (ae 4) (fj "number")))
 aj)
def H0(N:Nat)(t:Tn):Prop:=(∃k:Nat,t.n=(k:Int)/\k<N)/\(t.sg=1∨t.sg=-1)
section
variable {as:List Int}{m:Int}{t:Tn}{p:List Tn}{A P:D}{N:Nat}
def kZ:(dE m as t).length=as.length:=by unfold dE;rw[List.length_set]
def vV{k:Nat}(h:k<as.length):aC (.lst (as.map D.int)) (.int (k:Int))=.ok (.int (cQ as k)):=fD (by
 unfold cQ;rw[Pp,Pd h];rfl)
def Jv(ht:H0 as.length t)(hm:m.natAbs<nU):sB [.sh A,.sh P,.sh (.int m),.ow (.lst (as.map D.int)),.sh (gu t)]=.ok (.nx [.sh A,.sh P,.sh (.int m),.ow (.lst ((dE m as t).map D.int)),.sh (gu t)]):=by
 obtain⟨⟨k,e1,e2⟩,e3⟩:=ht;have h1:=vV e2;have h2:aW (.int t.sg) (.int m)=.ok (.int (t.sg*m)):=if_pos (fA (by rcases e3 with z|z<;>rw[z]<;>exact Pm (show(1:Nat)<jX by decide) de) hm);have h3:dE m as t=as.set k (cQ as k+t.sg*m):=by unfold dE;rw[e1];rfl
 have h4:∀ρ:Ev,DL.putAt ρ 3 (as.map D.int) (.int (cQ as k+t.sg*m)) (.int (k:Int))=.ok (.nx (ρ.set 3 (.ow (.lst ((as.map D.int).set k (.int (cQ as k+t.sg*m))))))):=λρ=>K34.put_nat (by rw[Pg];exact e2) ρ 3;have fn:=N2 (t:=t);rw[e1]at fn;rw[h3,List.map_set];open_line with[fn,N1,h1,h2,E1 (show ko (.int (cQ as k+t.sg*m))=true from rfl),h4]
theorem Dn(hm:m.natAbs<nU):∀(p:List Tn) (as:List Int) (x4:Sl),(∀t∈p,H0 as.length t)->∃y4,bS (br 4) sB (p.map gu) [.sh A,.sh P,.sh (.int m),.ow (.lst (as.map D.int)),x4]=.ok (.nx [.sh A,.sh P,.sh (.int m),.ow (.lst ((p.foldl (dE m) as).map D.int)),y4])
 |[],as,x4,_=>⟨x4,rfl⟩
 |t::p,as,x4,h=>by
  obtain⟨y4,e⟩:=Dn hm p (dE m as t) (.sh (gu t)) λs hs=>by rw[kZ];exact h s (Pc _ hs)
  exact⟨y4,by rw[Pl,iF (ρ1:=[.sh A,.sh P,.sh (.int m),.ow (.lst (as.map D.int)),.sh (gu t)]) rfl (Jv (h t Pf) hm),e,QP]⟩
def Gd(hm:m.natAbs<nU)(hl:as.length<=800)(h:∀t∈p,H0 as.length t):K37.m_sent_along [.lst (as.map D.int),pD p,.int m]=.ok (.lst ((p.foldl (dE m) as).map D.int)):=by
 obtain⟨y4,e⟩:=Dn (A:=.lst (as.map D.int)) (P:=pD p) hm p as .no h;have h1:m1 sG [.lst (as.map D.int)]=.ok (.lst (as.map D.int)):=by
  show sG (.lst (as.map D.int))=_
  first|rfl|exact if_pos (by rw[Pg];exact Pu hl (by decide))
 unfold pD at e ⊢;open_line with[K37.m_sent_along,K37.b_sent_along,h1,e]
def eE:List Tn->Int
 |[]=>0
 |t::p=>p.foldl (λx s=>min x s.c) t.c
def B4:∀{p:List Tn}{t:Tn},t∈p->eE p<=t.c:=by
 have key:∀(p:List Tn) (x:Int),p.foldl (λx s=>min x s.c) x<=x/\∀t∈p,p.foldl (λx s=>min x s.c) x<=t.c:=by
  intro p
  induction p with
  |nil=>intro x;exact⟨Sv _,λt h=>nomatch h⟩
  |cons s p ih=>
   intro x;obtain⟨h1,h2⟩:=ih (min x s.c);rw[QP];refine⟨by omega,λt ht=>?_⟩;rcases Pr.mp ht with rfl|ht
   .omega
   .exact h2 t ht
 intro p t ht;cases p with
 |nil=>cases ht
 |cons s p=>
  obtain⟨h1,h2⟩:=key p s.c;rcases Pr.mp ht with rfl|ht
  .exact h1
  .exact h2 t ht
def zu:∀{p:List Tn},p≠[]->∃t∈p,eE p=t.c:=by
 have key:∀(p:List Tn) (x:Int),p.foldl (λx s=>min x s.c) x=x∨∃t∈p,p.foldl (λx s=>min x s.c) x=t.c:=by
  intro p
  induction p with
  |nil=>intro x;exact .inl rfl
  |cons s p ih=>
   intro x;rw[QP];rcases ih (min x s.c) with h|⟨t,h1,h2⟩
   .rw[h]
    by_cases c:x<=s.c
    .exact .inl (by omega)
    .exact .inr ⟨s,Pf,by omega⟩
   .exact .inr ⟨t,Pc _ h1,h2⟩
 intro p hp;cases p with
 |nil=>exact absurd rfl hp
 |cons s p=>
  rcases key p s.c with h|⟨t,h1,h2⟩
  .exact⟨s,Pf,h⟩
  .exact⟨t,Pc _ h1,h2⟩
end
theorem xB:∀(p:List Tn) (x:Int),pQ x (p.map (·.c))=p.foldl (λx s=>min x s.c) x
 |[],x=>rfl
 |t::p,x=>by
  rw[Pl,QP,←xB p];show pQ (if t.c<x then t.c else x) _=_
  congr 1
  show _=min x t.c;rw[Int.min_def];split<;>split<;>omega
def EI{p:List Tn}(hp:p≠[])(hl:p.length<=800):K37.m_least_room [pD p]=.ok (.int (eE p)):=by
 have hc:∀A,cC 1 [] (br 0) (aa (aS (ae 0) (fj "room")) (dC (.non)) kG) (aS (ae 0) (fj "room")) A (p.map gu)=.ok (.lst ((p.map (·.c)).map D.int)):=λA=>by
  rw[K51.comp_pick gu (λt=>some (.int t.c)) (by omega)]
  .rw[Qd,←RW];rfl
  .intro t ht
   have e:kG (.int t.c) .non=.ok (.bl true):=rfl;refine⟨[.sh (gu t)],rfl,.inr ⟨_,rfl,?_,?_⟩⟩
   .open_line with[Hs,e]
   .open_line with[Hs]
 have hm:uW (.lst ((p.map (·.c)).map D.int))=.ok (.int (eE p)):=by
  cases p with
  |nil=>exact absurd rfl hp
  |cons t p=>
   show(match fE (((t::p).map (·.c)).map D.int) with|some (n::ns)=>au.ok (D.int (pQ n ns))|_=>.stuck)=_;rw[qX];show au.ok (D.int (pQ t.c (p.map (·.c))))=_;rw[xB];rfl
 unfold pD;open_line with[K37.m_least_room,K37.b_least_room,hc,hm]
open K11 (eW)
open K54 (kn)
def kL(zs as:List Int)(k:Nat)(t:cO):Int:=if t.w="one" then cQ as k else cQ zs k+cQ as k
def iZ(zs as:List Int)(k:Nat)(t:cO):List Tn:=[⟨(k:Int),1,t.a,t.b,cQ zs k-cQ as k⟩,⟨(k:Int),-1,t.b,t.a,kL zs as k t⟩]
def lG(zs:List Int)(ks:ci)(as:List Int):Nat->List cO->List Tn
 |_,[]=>[]
 |k,t::r=>(if k∈ks then[] else iZ zs as k t)++lG zs ks as (k+1) r
theorem vi{zs:List Int}{ks:ci}{as:List Int}{t:cO}:∀{pre:List cO}{k:Nat},lG zs ks as k (pre++[t])=lG zs ks as k pre++(if k+pre.length∈ks then[] else iZ zs as (k+pre.length) t)
 |[],k=>by
  show(if k∈ks then[] else iZ zs as k t)++[]=[]++(if k+0∈ks then[] else iZ zs as (k+0) t);rw[QH,Q6,Sx]
 |s::pre,k=>by
  rw[Rg,lG,vi,lG,PL,RF,show k+1+pre.length=k+(pre.length+1) by omega]
theorem nN{zs:List Int}{ks:ci}{as:List Int}:∀{L:List cO}{k:Nat},(lG zs ks as k L).length<=2*L.length
 |[],k=>by simp[lG]
 |t::L,k=>by
  rw[lG,P9,PL];have:=nN (zs:=zs) (ks:=ks) (as:=as) (L:=L) (k:=k+1);split
  .simp;omega
  .simp[iZ];omega
theorem tE{zs:List Int}{ks:ci}{as:List Int}{s:Tn}:∀{L:List cO}{k:Nat},s∈lG zs ks as k L↔∃i t,L[i]?=some t/\k+i∉ks/\s∈iZ zs as (k+i) t
 |[],k=>by simp[lG]
 |t::L,k=>by
  rw[lG,Pz,tE];constructor
  .rintro(h|⟨i,u,h1,h2,h3⟩)
   .by_cases c:k∈ks
    .rw[if_pos c]at h;cases h
    .rw[if_neg c]at h;exact⟨0,t,rfl,c,h⟩
   .exact⟨i+1,u,h1,by rw[show k+(i+1)=k+1+i by omega];exact h2,by rw[show k+(i+1)=k+1+i by omega];exact h3⟩
  .rintro⟨i,u,h1,h2,h3⟩
   cases i with
   |zero=>
    simp at h1;subst h1;exact .inl (by rw[if_neg (by simpa using h2)];exact h3)
   |succ i=>exact .inr ⟨i,u,by simpa using h1,by rw[show k+1+i=k+(i+1) by omega];exact h2,by rw[show k+1+i=k+(i+1) by omega];exact h3⟩
noncomputable abbrev tB:bi :=
 (ao (cH (aa (ae 5) (ae 2) bA)
 (ao (aF 7 (KZ (aa (aa (ae 6) (dC (.int 2)) aC) (dC (.str "one")) ij) (aa (ae 3) (ae 5) aC) (aa (aa (ae 1) (ae 5) aC) (aa (ae 3) (ae 5) aC) bc)))
 (ao (bP 4 (aq (af (ae 5) (af (dC (.int 1)) (af (aa (ae 6) (dC (.int 0)) aC) (af (aa (ae 6) (dC (.int 1)) aC) (af (dC (.int 0)) (af (aa (aa (ae 1) (ae 5) aC) (aa (ae 3) (ae 5) aC) gJ) ax)))))) (zt "Turn" ["number","sign","here","there","cost","room"])))
 (ao (bP 4 (aq (af (ae 5) (af (aS (dC (.int 1)) jV) (af (aa (ae 6) (dC (.int 1)) aC) (af (aa (ae 6) (dC (.int 0)) aC) (af (dC (.int 0)) (af (ae 7) ax)))))) (zt "Turn" ["number","sign","here","there","cost","room"])))
 aj)))
 aj)
 aj)
def Im{n sg c:Int}{a b:Pq}:gu ⟨n,sg,a,b,c⟩=.ob (.ins "Turn" ["number","sign","here","there","cost","room"]) [.int n,.int sg,.str a,.str b,.int 0,.int c]:=rfl
section
variable {zs as:List Int}{ks:ci}{t:cO}{k:Nat}{W:D}{x7:Sl}{L:List Tn}
def Jj(hz:k<zs.length)(ha:k<as.length)(hL:L.length<=900):∃y7,tB [.sh W,.sh (.lst (zs.map D.int)),.sh (aN ks),.sh (.lst (as.map D.int)),.ow (.lst (L.map gu)),.sh (.int (k:Int)),.sh (aZ t),x7] =
  .ok (.nx [.sh W,.sh (.lst (zs.map D.int)),.sh (aN ks),.sh (.lst (as.map D.int)),.ow (.lst ((L++(if k∈ks then[] else iZ zs as k t)).map gu)),.sh (.int (k:Int)),.sh (aZ t),y7]):=by
 have hni:bA (.int (k:Int)) (aN ks)=.ok (.bl (!(decide (k∈ks)))):=K11.notIn_nums
 by_cases c:k∈ks
 .rw[decide_eq_true c]at hni
  refine⟨x7,?_⟩;rw[if_pos c,QH];open_line with[hni]
 .rw[decide_eq_false c]at hni
  have h1:=vV hz;have h2:=vV ha;have w0:aC (aZ t) (.int 0)=.ok (.str t.a):=rfl;have w1:aC (aZ t) (.int 1)=.ok (.str t.b):=rfl;have w2:aC (aZ t) (.int 2)=.ok (.str t.w):=rfl;have hs:gJ (.int (cQ zs k)) (.int (cQ as k))=.ok (.int (cQ zs k-cQ as k)):=rfl;have a1:decide ((L.map gu).length<=999)=true:=decide_eq_true (by rw[Pg];omega);have a2:∀d:D,decide ((L.map gu++[d]).length<=999)=true:=λd=>decide_eq_true (by rw[P9,Pg,RC];omega);have e9:(L++iZ zs as k t).map gu=(L.map gu++[gu ⟨(k:Int),1,t.a,t.b,cQ zs k-cQ as k⟩])++[gu ⟨(k:Int),-1,t.b,t.a,kL zs as k t⟩]:=by
   rw[Qb,RF];rfl
  rw[if_neg c,e9];refine⟨.sh (.int (kL zs as k t)),?_⟩
  by_cases ho:t.w="one"
  .have hb:kL zs as k t=cQ as k:=if_pos ho
   rw[hb];open_line with[hni,w0,w1,w2,eW,decide_eq_true ho,h1,h2,hs,cw a1,cw (a2 _),Im]
  .have hb:kL zs as k t=cQ zs k+cQ as k:=if_neg ho
   rw[hb];open_line with[hni,w0,w1,w2,eW,decide_eq_false ho,h1,h2,hs,cw a1,cw (a2 _),Im]
end
open K11 (eW)
open K54 (kn)
def bZ(w:gB)(zs:List Int)(ks:ci)(as:List Int):List Tn:=(lG zs ks as 0 w.ts).filter λt=>decide (0<t.c)
theorem qA:∀(L:List Tn),(L.filterMap λt=>if 0<t.c then some (gu t) else none)=(L.filter λt=>decide (0<t.c)).map gu
 |[]=>rfl
 |t::L=>by
  rw[QU,SI]
  by_cases h:0<t.c
  .simp only[if_pos h,decide_eq_true h,if_true,Pl,qA L]
  .simp only[if_neg h,decide_eq_false h,S1,if_false,qA L]
section
variable {w:gB}{zs as:List Int}{ks:ci}
def qS(W:cD w):(bZ w zs ks as).length<=28:=by
 have h1:=SF (λt:Tn=>decide (0<t.c)) (lG zs ks as 0 w.ts);have h2:=nN (zs:=zs) (ks:=ks) (as:=as) (L:=w.ts) (k:=0);have:=W.t14;unfold bZ;omega
def EH{s:Tn}(h:s∈bZ w zs ks as):∃k t,w.ts[k]?=some t/\k∉ks/\s∈iZ zs as k t/\0<s.c:=by
 unfold bZ at h;obtain⟨h1,h2⟩:=Ql.mp h;obtain⟨i,t,e1,e2,e3⟩:=tE.mp h1;rw[QL]at e2 e3;exact⟨i,t,e1,e2,e3,of_decide_eq_true h2⟩
def C0(W:cD w)(hz:zs.length=w.ts.length)(ha:as.length=w.ts.length):K37.m_turns_left [aO w,.lst (zs.map D.int),aN ks,.lst (as.map D.int)]=.ok (.lst ((bZ w zs ks as).map gu)):=by
 have t14:=W.t14;obtain⟨ρ',e,x5,x6,x7,rfl⟩:=kn (tg:=cB [5,6]) (body:=tB) aZ (L:=w.ts) (λpre ρ=>∃x5 x6 x7,ρ=[.sh (aO w),.sh (.lst (zs.map D.int)),.sh (aN ks),.sh (.lst (as.map D.int)),.ow (.lst ((lG zs ks as 0 pre).map gu)),x5,x6,x7])
  (λpre t post hL ρ z9=>by
   obtain⟨x5,x6,x7,er⟩:=z9;subst er;have hk:pre.length<w.ts.length:=by rw[hL];simp
   have hl:=nN (zs:=zs) (ks:=ks) (as:=as) (L:=pre) (k:=0);obtain⟨y7,eb⟩:=Jj (zs:=zs) (as:=as) (ks:=ks) (t:=t) (k:=pre.length) (W:=aO w) (x7:=x7) (L:=lG zs ks as 0 pre) (by omega) (by omega) (by omega);refine⟨_,_,rfl,eb,.sh (.int (pre.length:Int)),.sh (aZ t),y7,?_⟩;rw[vi,QL]) ⟨.no,.no,.no,rfl⟩
 have e:bS (cB [5,6]) tB (numbered 0 (w.ts.map aZ)) [.sh (aO w),.sh (.lst (zs.map D.int)),.sh (aN ks),.sh (.lst (as.map D.int)),.ow (.lst []),.no,.no,.no]=_:=e;have hi:aC (aO w) (.int 1)=.ok (.lst (w.ts.map aZ)):=rfl;have hc:∀A,cC 1 [] (br 0) (aa (aS (ae 0) (fj "room")) (dC (.int 0)) yO) (ae 0) A ((lG zs ks as 0 w.ts).map gu)=.ok (.lst ((bZ w zs ks as).map gu)):=λA=>by
  have hl:=nN (zs:=zs) (ks:=ks) (as:=as) (L:=w.ts) (k:=0);rw[K51.comp_pick gu (λt=>if 0<t.c then some (gu t) else none) (by omega)]
  .rw[qA];rfl
  .intro t ht
   have e:yO (.int t.c) (.int 0)=.ok (.bl (decide (t.c > 0))):=rfl
   by_cases h:0<t.c
   .rw[decide_eq_true h]at e
    refine⟨[.sh (gu t)],rfl,.inr ⟨gu t,if_pos h,?_,?_⟩⟩
    .open_line with[Hs,e]
    .open_line with[]
   .rw[decide_eq_false h]at e
    refine⟨[.sh (gu t)],rfl,.inl ⟨if_neg h,?_⟩⟩;open_line with[Hs,e]
 open_line with[K37.m_turns_left,K37.b_turns_left,hi,e,hc]
theorem dR{α:Type}{g:α->D}(h:∀a,iq (g a)=true):∀(L:List α),noFns (L.map g)=true
 |[]=>rfl
 |a::L=>by rw[Pl,noFns,h,dR h L];rfl
def Eu(t:cO):iq (aZ t)=true:=by
 cases e:t.o with|none|some x=>unfold aZ;rw[e];rfl
def Et:iq (aO w)=true:=by
 have h1:noFns (w.ps.map D.str)=true:=dR (λ_=>rfl) _;have h2:noFns (w.ts.map aZ)=true:=dR Eu _;show(noFns (w.ps.map D.str)&&(noFns (w.ts.map aZ)&&true))=true;rw[h1,h2];rfl
def vU{B:Int}(W:cD w)(hz:zs.length=w.ts.length)(ha:as.length=w.ts.length):K37.lt_filled (qT "most_flow") [aO w,aN ks,.tup [.lst (zs.map D.int),.int B]] [.lst (as.map D.int)]=.ok (.lst ((bZ w zs ks as).map gu)):=by
 have h:=C0 (ks:=ks) W hz ha;have h0:aC (.tup [.lst (zs.map D.int),.int B]) (.int 0)=.ok (.lst (zs.map D.int)):=rfl;have n1:noFns (as.map D.int)=true:=dR (λ_=>rfl) _;have n2:noFns (zs.map D.int)=true:=dR (λ_=>rfl) _;have n3:noFns (ks.map λ(k:Nat)=>D.int (k:Int))=true:=dR (λ_=>rfl) _;have n4:noFns [.lst (as.map D.int)]=true:=by show(noFns (as.map D.int)&&true)=true;rw[n1];rfl
 have n5:noFns [aO w,aN ks,.tup [.lst (zs.map D.int),.int B]]=true:=by
  show(iq (aO w)&&(noFns (ks.map λ(k:Nat)=>D.int (k:Int))&&((noFns (zs.map D.int)&&true)&&true)))=true;rw[Et,n2,n3];rfl
 have hb:K37.bl_most_flow [.sh (.lst (as.map D.int)),.sh (aO w),.sh (aN ks),.sh (.tup [.lst (zs.map D.int),.int B])]=.ok (.lst ((bZ w zs ks as).map gu)):=by
  open_line with[K37.bl_most_flow,h0,h]
 show B5 1 3 K37.bl_most_flow _ _=_;unfold B5;rw[if_pos ⟨rfl,rfl,n4,n5⟩];show(match K37.bl_most_flow [.sh (.lst (as.map D.int)),.sh (aO w),.sh (aN ks),.sh (.tup [.lst (zs.map D.int),.int B])] with|.ok d=>au.ok d|_=>.stuck)=_;rw[hb]
end
def ek(fi:Pq)(t:cO):Int:=(if t.a=fi then 1 else 0)-(if t.b=fi then 1 else 0)
def dD(fi:Pq):List cO->List Int->Int
 |t::ts,x::as=>x*ek fi t+dD fi ts as
 |_,_=>0
theorem AI{fi:Pq}{d:Int}:∀{ts:List cO}{as:List Int}{k:Nat}{t:cO},ts[k]?=some t->k<as.length->dD fi ts (as.set k (cQ as k+d))=dD fi ts as+d*ek fi t
 |[],_,_,_,h,_=>by simp at h
 |_::_,[],_,_,_,h=>by simp at h
 |u::ts,x::as,0,t,h,_=>by
  simp at h;subst h;show(x+d)*ek fi u+dD fi ts as=x*ek fi u+dD fi ts as+d*ek fi u;rw[T3];omega
 |u::ts,x::as,k+1,t,h,h2=>by
  have ih:=AI (fi:=fi) (d:=d) (ts:=ts) (as:=as) (k:=k) (t:=t) (by simpa using h) (by simpa using h2);show x*ek fi u+dD fi ts (as.set k (cQ as k+d))=x*ek fi u+dD fi ts as+d*ek fi t;rw[ih];omega
def yM(t:cO)(z x:Int):Prop:=x<=z/\(if t.w="one" then 0<=x else -z<=x)
def yM.abs{t:cO}{z x:Int}(h:yM t z x)(hz:0<=z):x.natAbs<=z.natAbs:=by
 obtain⟨h1,h2⟩:=h;split at h2<;>omega
def dy(w:gB)(zs as:List Int):Prop:=as.length=w.ts.length/\∀k t,w.ts[k]?=some t->yM t (cQ zs k) (cQ as k)
def KG{fi:Pq}{t:cO}(h:t.a≠t.b):(ek fi t).natAbs<=1:=by
 unfold ek;split<;>split<;>first|omega|decide
def nY(zs:List Int):Nat:=(zs.map Int.natAbs).sum
theorem vI{fi:Pq}:∀{ts:List cO}{zs as:List Int},(∀t∈ts,t.a≠t.b)->(∀k t,ts[k]?=some t->(cQ as k).natAbs<=(cQ zs k).natAbs)->zs.length=ts.length->dD fi ts as<=(nY zs:Int)
 |[],zs,as,_,_,_=>by
  have:dD fi [] as=0:=by cases as<;>rfl
  rw[this];omega
 |t::ts,zs,[],_,_,_=>by show(0:Int)<=_;omega
 |t::ts,[],x::as,_,_,h=>by simp at h
 |t::ts,z::zs,x::as,h1,h2,h3=>by
  have ih:=vI (fi:=fi) (ts:=ts) (zs:=zs) (as:=as) (λu hu=>h1 u (Pc _ hu)) (λk u hu=>h2 (k+1) u hu) (by simpa using h3);have hx:x.natAbs<=z.natAbs:=h2 0 t rfl;have he:=KG (fi:=fi) (h1 t Pf);show x*ek fi t+dD fi ts as<=_;have hs:nY (z::zs)=z.natAbs+nY zs:=by unfold nY;rw[Pl,Rh]
  rw[hs];have hm:(x*ek fi t).natAbs<=z.natAbs:=by
   rw[Rz];exact Pu (Sw hx he) (by omega)
  omega
theorem qI:∀{p:List Tn}{a k:Pq},Lk a p k->(a::p.map (·.b)).Nodup->(∀s∈p,∀u∈p,s.n=u.n->s.b=u.b∨(u.b=s.a/\s.b=u.a))->(p.map (·.n)).Nodup
 |[],_,_,_,_,_=>.nil
 |t::p,a,k,⟨h1,h2⟩,nd,op=>by
  rw[Pl]at nd ⊢;obtain⟨n1,n2⟩:=PZ.mp nd;refine PZ.mpr ⟨λz=>?_,qI h2 n2 λs hs u hu=>op s (Pc _ hs) u (Pc _ hu)⟩;obtain⟨s,hs,e⟩:=Pw.mp z;rcases op t Pf s (Pc _ hs) e.symm with q|⟨q,_⟩
  .exact(PZ.mp n2).1 (q▸Pw.mpr ⟨s,hs,rfl⟩)
  .exact n1 (Pc _ (Pw.mpr ⟨s,hs,by rw[q,h1]⟩))
def HU{as:List Int}{k j:Nat}{v:Int}(h:k<as.length):cQ (as.set k v) j=if j=k then v else cQ as j:=by
 unfold cQ
 by_cases e:j=k
 .subst e;rw[Qj h,if_pos rfl];rfl
 .rw[PB (QB e),if_neg e]
def qk{m:Int}{as:List Int}{s:Tn}{k j:Nat}(e:s.n=(k:Int))(h:k<as.length):cQ (dE m as s) j=if j=k then cQ as k+s.sg*m else cQ as j:=by
 unfold dE;rw[e,QM];exact HU h
theorem uC{w:gB}{zs:List Int}{m:Int}:∀{p:List Tn}{as:List Int},(p.map (·.n)).Nodup->dy w zs as->(∀s∈p,∃(k:Nat) (t:cO),s.n=(k:Int)/\w.ts[k]?=some t/\yM t (cQ zs k) (cQ as k+s.sg*m))->dy w zs (p.foldl (dE m) as)
 |[],as,_,h,_=>h
 |s::p,as,nd,h,hs=>by
  rw[Pl]at nd;obtain⟨n1,n2⟩:=PZ.mp nd;obtain⟨k,t,e1,e2,e3⟩:=hs s Pf;have hk:k<as.length:=by rw[h.1];exact(Po.mp e2).1
  rw[QP];refine uC n2 ⟨by rw[kZ];exact h.1,λj u hu=>?_⟩ λr hr=>?_
  .rw[qk e1 hk]
   by_cases c:j=k
   .subst c
    rw[e2]at hu;cases hu;rw[if_pos rfl];exact e3
   .rw[if_neg c];exact h.2 j u hu
  .obtain⟨j,u,f1,f2,f3⟩:=hs r (Pc _ hr)
   refine⟨j,u,f1,f2,?_⟩;rw[qk e1 hk,if_neg (λc=>n1 (by rw[e1,←c,←f1];exact Pw.mpr ⟨r,hr,rfl⟩))];exact f3
def FG(fi:Pq)(s:Tn):Int:=(if s.a=fi then 1 else 0)-(if s.b=fi then 1 else 0)
theorem n8{fi:Pq}{ts:List cO}{m:Int}:∀{p:List Tn}{as:List Int},as.length=ts.length->(∀s∈p,∃(k:Nat) (t:cO),s.n=(k:Int)/\ts[k]?=some t/\s.sg*ek fi t=FG fi s)->dD fi ts (p.foldl (dE m) as)=dD fi ts as+m*(p.map (FG fi)).sum
 |[],as,_,_=>by simp
 |s::p,as,hl,h=>by
  obtain⟨k,t,e1,e2,e3⟩:=h s Pf;have hk:k<as.length:=by rw[hl];exact(Po.mp e2).1
  rw[QP,n8 (by rw[kZ];exact hl) (λr hr=>h r (Pc _ hr)),Pl,Rh];have e:dE m as s=as.set k (cQ as k+s.sg*m):=by unfold dE;rw[e1,QM]
  rw[e,AI e2 hk,UY,←e3];have:s.sg*m*ek fi t=m*(s.sg*ek fi t):=by rw[Th s.sg m,Int.mul_assoc]
  omega
def HD{fi:Pq}{p:List Tn}{k:Pq}(h1:Lk fi p k)(h2:p≠[])(h3:∀s∈p,s.b≠fi)(h4:∀s∈p.tail,s.a≠fi):(p.map (FG fi)).sum=1:=by
 cases p with
 |nil=>exact absurd rfl h2
 |cons t p=>
  have z:∀(q:List Tn),(∀s∈q,s.a≠fi/\s.b≠fi)->(q.map (FG fi)).sum=0:=by
   intro q
   induction q with
   |nil=>intro _;rfl
   |cons s q ih=>
    intro h;rw[Pl,Rh,ih λu hu=>h u (Pc _ hu)];unfold FG;rw[if_neg (h s Pf).1,if_neg (h s Pf).2];rfl
  rw[Pl,Rh,z p λs hs=>⟨h4 s hs,h3 s (Pc _ hs)⟩];unfold FG;rw[if_pos h1.1,if_neg (h3 t Pf)];rfl
section
variable {w:gB}{zs as:List Int}{ks:ci}
def jj{s:Tn}(h:s∈bZ w zs ks as):∃(k:Nat) (t:cO),s.n=(k:Int)/\w.ts[k]?=some t/\k∉ks/\0<s.c/\((s.sg=1/\s.a=t.a/\s.b=t.b/\s.c=cQ zs k-cQ as k)∨(s.sg=-1/\s.a=t.b/\s.b=t.a/\s.c=kL zs as k t)):=by
 obtain⟨k,t,h1,h2,h3,h4⟩:=EH h;unfold iZ at h3;rcases Pr.mp h3 with rfl|h3
 .exact⟨k,t,rfl,h1,h2,h4,.inl ⟨rfl,rfl,rfl,rfl⟩⟩
 .obtain rfl:=PF.mp h3
  exact⟨k,t,rfl,h1,h2,h4,.inr ⟨rfl,rfl,rfl,rfl⟩⟩
def FY{s u:Tn}(hs:s∈bZ w zs ks as)(hu:u∈bZ w zs ks as)(e:s.n=u.n):s.b=u.b∨(u.b=s.a/\s.b=u.a):=by
 obtain⟨k,t,a1,a2,_,_,a3⟩:=jj hs;obtain⟨j,r,b1,b2,_,_,b3⟩:=jj hu;have:k=j:=by have:=a1.symm.trans (e.trans b1);omega
 subst this;rw[a2]at b2;cases b2;rcases a3 with⟨_,x1,x2,_⟩|⟨_,x1,x2,_⟩<;>rcases b3 with⟨_,y1,y2,_⟩|⟨_,y1,y2,_⟩
 .exact .inl (x2.trans y2.symm)
 .exact .inr ⟨y2.trans x1.symm,x2.trans y1.symm⟩
 .exact .inr ⟨y2.trans x1.symm,x2.trans y1.symm⟩
 .exact .inl (x2.trans y2.symm)
def wQ{fi:Pq}{s:Tn}(h:s∈bZ w zs ks as):∃(k:Nat) (t:cO),s.n=(k:Int)/\w.ts[k]?=some t/\s.sg*ek fi t=FG fi s:=by
 obtain⟨k,t,a1,a2,_,_,a3⟩:=jj h;refine⟨k,t,a1,a2,?_⟩;unfold ek FG;rcases a3 with⟨x0,x1,x2,_⟩|⟨x0,x1,x2,_⟩<;>rw[x0,x1,x2]<;>split<;>split<;>rfl
def C2{s:Tn}{m:Int}(A:dy w zs as)(h:s∈bZ w zs ks as)(m0:0<=m)(hm:m<=s.c):∃(k:Nat) (t:cO),s.n=(k:Int)/\w.ts[k]?=some t/\yM t (cQ zs k) (cQ as k+s.sg*m):=by
 obtain⟨k,t,a1,a2,_,_,a3⟩:=jj h;refine⟨k,t,a1,a2,?_⟩;obtain⟨f1,f2⟩:=A.2 k t a2;unfold yM;rcases a3 with⟨x0,_,_,x3⟩|⟨x0,_,_,x3⟩
 .rw[x0,T2]
  refine⟨by omega,?_⟩;split<;>rename_i c<;>(first|rw[if_pos c]at f2|rw[if_neg c]at f2)<;>omega
 .rw[x0]
  unfold kL at x3;refine⟨by omega,?_⟩;split<;>rename_i c<;>(first|rw[if_pos c]at x3|rw[if_neg c]at x3)<;>omega
end
structure Lo (w:gB) (zs:List Int):Prop where
 l:zs.length=w.ts.length
 nn:∀k,0<=cQ zs k
 bd:∀k,2*(cQ zs k).natAbs<nU
abbrev fT:am:=aa (ae 3) (ae 4) wk
noncomputable abbrev OW:bi :=
 (ao (aF 1 (aq (af (ae 1) (af (aa (ae 4) (ae 3) kH) (af (aq (af (aa (ae 4) (ae 3) kH) ax) K37.m_least_room) ax))) K37.m_sent_along))
 (ao (aF 4 (aq (af (oA K37.lt_filled 0 (af (ae 1) ax)) (af (ae 2) ax)) K37.m_fewest_turns))
 aj))
def yi{lt:LT}{fa:Ev->au (ac)}{q:Pq}{caps:ac}{r:Ev}:oA lt 0 fa (.sh (.ob (.fn q) caps)::r)=(fa (.sh (.ob (.fn q) caps)::r)).bind (lt q caps):=rfl
def xH(w:gB)(ks:ci)(zs:List Int)(B:Int):D:=.ob (.fn (qT "most_flow")) [aO w,aN ks,.tup [.lst (zs.map D.int),.int B]]
section
variable {w:gB}{zs as:List Int}{ks:ci}{G:List kR}{p:List Tn}{la fi:Pq}{B:Int}
def DH(W:cD w)(Z:Lo w zs)(A:dy w zs as)(H:Bf (bZ w zs ks as) fi G)(hp:cF G la=some p)(hne:fi≠la) :
  p≠[]/\p.length<=28/\0<eE p/\(eE p).natAbs<nU/\(∀s∈p,H0 as.length s)/\dy w zs (p.foldl (dE (eE p)) as)/\dD fi w.ts (p.foldl (dE (eE p)) as)=dD fi w.ts as+eE p:=by
 have hm:=ja hp;have lk:Lk fi p la:=H.lk _ hm;have hpn:p≠[]:=by
  rintro rfl;exact hne lk
 have hin:∀s∈p,s∈bZ w zs ks as:=λs hs=>(H.tk _ hm s hs).1;have hnb:∀s∈p,s.b≠fi:=λs hs=>(H.tk _ hm s hs).2.1;have hln:p.length<G.length:=H.ln _ hm;have hG:=H.len;have h28:=qS (zs:=zs) (as:=as) (ks:=ks) W;obtain⟨t,ht,et⟩:=zu hpn;obtain⟨k,u,_,a2,_,a4,a5⟩:=jj (hin t ht);have hf:=(A.2 k u a2).abs (Z.nn k);have hbd:=Z.bd k;have hnn:=Z.nn k;have hc:t.c.natAbs<=2*(cQ zs k).natAbs:=by
  rcases a5 with⟨_,_,_,e⟩|⟨_,_,_,e⟩
  .omega
  .unfold kL at e
   split at e<;>omega
 have nd:(p.map (·.n)).Nodup:=qI lk (PZ.mpr ⟨λz=>by
  obtain⟨s,hs,e⟩:=Pw.mp z;exact hnb s hs e,H.nb _ hm⟩) λs hs u hu e=>FY (hin s hs) (hin u hu) e
 refine⟨hpn,by omega,by rw[et];exact a4,by rw[et];omega,λs hs=>?_,uC nd A λs hs=>C2 A (hin s hs) (by rw[et];omega) (B4 hs),?_⟩
 .obtain⟨j,r,b1,b2,_,_,b5⟩:=jj (hin s hs)
  exact⟨⟨j,b1,by rw[A.1];exact(Po.mp b2).1⟩,b5.imp (λz=>z.1) λz=>z.1⟩
 .rw[n8 A.1 λs hs=>wQ (hin s hs),HD lk hpn hnb (H.fa _ hm),Int.mul_one]
def Kz(W:cD w)(Z:Lo w zs)(hne:fi≠la){Q:List Int->Prop}(hQ:∀(as:List Int) (G:List kR) (p:List Tn),dy w zs as->Bf (bZ w zs ks as) fi G->cF G la=some p->Q as->Q (p.foldl (dE (eE p)) as)):∀(f:Nat) (as:List Int) (G:List kR),Q as->dy w zs as->Bf (bZ w zs ks as) fi G->yH (bZ w zs ks as) G->(nY zs:Int)<dD fi w.ts as+f ->
  ∃as' G',Q as'/\dy w zs as'/\Bf (bZ w zs ks as') fi G'/\yH (bZ w zs ks as') G'/\cF G' la=none /\
   bY fT OW f [.sh (xH w ks zs B),.sh (.lst (as.map D.int)),.sh (.str fi),.sh (.str la),.sh (fB G)]=.ok (.nx [.sh (xH w ks zs B),.sh (.lst (as'.map D.int)),.sh (.str fi),.sh (.str la),.sh (fB G')]):=by
 have t14:=W.t14;intro f
 induction f with
 |zero=>
  intro as G _ A _ _ h;have:=vI (fi:=fi) (zs:=zs) (as:=as) (λt ht=>(W.ts t ht).ne) (λk t hk=>(A.2 k t hk).abs (Z.nn k)) Z.l;omega
 |succ f ih=>
  intro as G hq A H S h;cases hp:cF G la with
  |none=>
   refine⟨as,G,hq,A,H,S,hp,gO ?_⟩;have e:wk (.str la) (fB G)=.ok (.bl false):=by rw[Ks,hp];rfl
   open_line with[e]
  |some p=>
   obtain⟨r1,r2,r3,r4,r5,r6,r7⟩:=DH W Z A H hp hne;obtain⟨G1,q1,q2,q3⟩:=uT (ts:=bZ w zs ks (p.foldl (dE (eE p)) as)) (fi:=fi) (by have:=qS (zs:=zs) (as:=p.foldl (dE (eE p)) as) (ks:=ks) W;omega);obtain⟨as',G',z0,z1,z2,z3,z4,z5⟩:=ih _ G1 (hQ as G p A H hp hq) r6 q1 q2 (by rw[r7];omega);refine⟨as',G',z0,z1,z2,z3,z4,?_⟩;rw[←z5];refine jY ?_ ?_
   .have e:wk (.str la) (fB G)=.ok (.bl true):=by rw[Ks,hp];rfl
    open_line with[e]
   .have e1:=MG hp
    have e2:=EI r1 (by omega);have e3:=Gd r4 (by rw[A.1];omega) r5;have e4:=vU (B:=B) (ks:=ks) W Z.l r6.1;unfold xH;open_line with[e1,e2,e3,yi,e4,q3]
end
theorem Ad:∀(zs:List Int),Dc (zs.map D.int)=nY zs
 |[]=>rfl
 |z::zs=>by
  rw[Pl,Dc,Ad zs];unfold nY;rw[Pl,Rh]
def fm(n:Nat):List Int:=PY n 0
def ve{n k:Nat}:cQ (fm n) k=0:=by
 unfold cQ fm;rw[Qn];split<;>rfl
theorem oe{fi:Pq}:∀(ts:List cO) (n:Nat),dD fi ts (fm n)=0
 |[],n=>by cases n<;>rfl
 |_::_,0=>rfl
 |t::ts,n+1=>by
  show 0*ek fi t+dD fi ts (fm n)=0;rw[oe ts n,Int.zero_mul,UG]
section
variable {w:gB}{zs:List Int}{ks:ci}{la fi:Pq}{B:Int}
def ur(Z:Lo w zs):dy w zs (fm w.ts.length):=⟨RD ..,λk t _=>by
 rw[ve];have:=Z.nn k;unfold yM;split<;>omega⟩
def Ck(W:cD w)(Z:Lo w zs)(hne:fi≠la){Q:List Int->Prop}(hQ:∀(as:List Int) (G:List kR) (p:List Tn),dy w zs as->Bf (bZ w zs ks as) fi G->cF G la=some p->Q as->Q (p.foldl (dE (eE p)) as))(q0:Q (fm w.ts.length)):∃as' G',Q as'/\dy w zs as'/\Bf (bZ w zs ks as') fi G'/\yH (bZ w zs ks as') G'/\cF G' la=none /\
  K37.m_filled [xH w ks zs B,.lst ((fm w.ts.length).map D.int),.str fi,.str la]=.ok (.tup [.lst (as'.map D.int),fB G']):=by
 have h28:=qS (zs:=zs) (as:=fm w.ts.length) (ks:=ks) W;obtain⟨G,q1,q2,q3⟩:=uT (ts:=bZ w zs ks (fm w.ts.length)) (fi:=fi) (by omega);obtain⟨as',G',z0,z1,z2,z3,z4,z5⟩:=Kz (B:=B) (ks:=ks) W Z hne hQ (nY zs+1) (fm w.ts.length) G q0 (ur Z) q1 q2 (by rw[oe];omega);refine⟨as',G',z0,z1,z2,z3,z4,?_⟩;have e4:=vU (B:=B) (ks:=ks) W Z.l (ur Z).1;have hw:∀(c:am) (s:bi) (r:Ev),fw EU c s (.sh (xH w ks zs B)::r)=bY c s (nY zs+1) (.sh (xH w ks zs B)::r):=λc s r=>by
  show bY c s (Dc (zs.map D.int)+1) _=_;rw[Ad]
 unfold xH at z5 hw ⊢;open_line with[K37.m_filled,K37.b_filled,yi,e4,q3,hw,z5]
end
def G3(G:List kR):iq (fB G)=true:=by
 show noFns (G.map λe=>pD e.2)=true;refine dR (λe=>?_) G;show noFns (e.2.map gu)=true;exact dR (λ_=>rfl) _
def yA{w:gB}{zs:List Int}{ks:ci}{B:Int}{R:D}{x5 x6:Sl}(W:cD w)(Z:Lo w zs){Q:List Int->Prop}(hQ:∀(as:List Int) (G:List kR) (p:List Tn),dy w zs as->Bf (bZ w zs ks as) w.fi G->cF G w.la=some p->Q as->Q (p.foldl (dE (eE p)) as))(q0:Q (fm w.ts.length)):∃as' G',Q as'/\dy w zs as'/\Bf (bZ w zs ks as') w.fi G'/\yH (bZ w zs ks as') G'/\cF G' w.la=none /\
  sH (af (ae 4) (af (aa (ae 0) (dC (.int 2)) aC) (af (aa (ae 0) (dC (.int 3)) aC) ax))) 0 (qT "most_flow") [0,2,3] K37.m_filled [.sh (aO w),.sh R,.sh (aN ks),.sh (.tup [.lst (zs.map D.int),.int B]),.sh (.lst ((fm w.ts.length).map D.int)),x5,x6]=.ok (.tup [.lst (as'.map D.int),fB G']):=by
 obtain⟨as',G',h0,h1,h2,h3,h4,h5⟩:=Ck (B:=B) (ks:=ks) W Z W.ne hQ q0;refine⟨as',G',h0,h1,h2,h3,h4,?_⟩;have i2:aC (aO w) (.int 2)=.ok (.str w.fi):=rfl;have i3:aC (aO w) (.int 3)=.ok (.str w.la):=rfl;have ea:(af (ae 4) (af (aa (ae 0) (dC (.int 2)) aC) (af (aa (ae 0) (dC (.int 3)) aC) ax))) [.sh (aO w),.sh R,.sh (aN ks),.sh (.tup [.lst (zs.map D.int),.int B]),.sh (.lst ((fm w.ts.length).map D.int)),x5,x6]=.ok [.lst ((fm w.ts.length).map D.int),.str w.fi,.str w.la]:=by
  open_line with[i2,i3]
 have hn:iq (.tup [.lst (as'.map D.int),fB G'])=true:=by
  have n1:noFns (as'.map D.int)=true:=dR (λ_=>rfl) _;show(noFns (as'.map D.int)&&(iq (fB G')&&true))=true;rw[n1,G3];rfl
 unfold sH;rw[ea];show v7 (K37.m_filled [xH w ks zs B,.lst ((fm w.ts.length).map D.int),.str w.fi,.str w.la])=_;rw[h5];exact if_pos hn
structure CD (w:gB) (xs:List bT):Prop where
 l:xs.length=w.ts.length
 f:∀x∈xs,bF x/\0<=x.1
def zR(xs:List bT):List Int:=xs.map λx=>x.1*(dw xs / x.2)
section
variable {w:gB}{xs:List bT}(W:cD w) (R:CD w xs)
include W R
theorem Bg:0<dw xs/\(dw xs).natAbs<=2 ^ 2800/\∀x∈xs,x.2∣dw xs:=by
 have h:=zP (xs:=xs) (λx hx=>(R.f x hx).1) 1 0 ⟨by decide,by decide⟩;obtain⟨⟨h1,h2⟩,_,h3⟩:=h;refine⟨h1,?_,λx hx=>h3 _ hx⟩;refine Pu h2 (Qz (by decide) ?_);have:=W.t14;have:=R.l;omega
theorem CM:Lo w (zR xs):=by
 have hb:=Bg W R;have at_:∀k,cQ (zR xs) k=match xs[k]? with|some x=>x.1*(dw xs / x.2)|none=>0:=λk=>by
  unfold cQ zR;rw[Pp];cases xs[k]?<;>rfl
 refine⟨by unfold zR;rw[Pg];exact R.l,λk=>?_,λk=>?_⟩
 .rw[at_]
  cases e:xs[k]? with
  |none=>exact Sv _
  |some x=>
   obtain⟨h1,h2⟩:=R.f x (PN e);have:=h1.q1;exact Ug h2 (Sn (by have:=hb.1;omega) (by omega))
 .rw[at_]
  cases e:xs[k]? with
  |none=>show 2*(0:Int).natAbs<_;rw[oK];exact Tj (by decide)
  |some x=>
   obtain⟨h1,h2⟩:=R.f x (PN e);show 2*(x.1*(dw xs / x.2)).natAbs<_;have q1:x.1.natAbs<2 ^ 200:=Pm h1.pN (by decide);have q2:(dw xs / x.2).natAbs<=2 ^ 2800:=Pu (QR _ _) hb.2.1;rw[Rz];have q3:x.1.natAbs*(dw xs / x.2).natAbs<2 ^ 200*2 ^ 2800:=Ue q1 q2 (Tj (by decide));have q4:2*(2 ^ 200*2 ^ 2800)<=nU:=by
    rw[oK,←S4,show(2:Nat)*2 ^ (200+2800)=2 ^ (1+(200+2800)) by rw[S4 2 1]];exact Qz (by decide) (by decide)
   omega
theorem Gf:m_on_one_scale [.lst (xs.map fr)]=.ok (.tup [.lst ((zR xs).map D.int),.int (dw xs)]):=by
 have t14:=W.t14;have hs:=xa (os:=xs.map some) (by rw[Pg];have:=R.l;omega) (λx hx=>by
  obtain⟨y,hy,e⟩:=Pw.mp hx;cases e;exact(R.f x hy).1)
 rw[Pth.somes_some]at hs;rw[Qd,Qd]at hs;have e1:xs.map (cq∘some)=xs.map fr:=rfl;have e2:xs.map (wI (dw xs)∘some)=(zR xs).map D.int:=by unfold zR;rw[Qd];rfl
 rw[e1,e2]at hs;exact hs
end
theorem sY:∀ds:ac,fM (ds.map λ_=>.bl true)=some (ds.map λ_=>true)
 |[]=>rfl
 |d::ds=>by rw[Pl,fM,sY ds];rfl
def Fu{ds:ac}:sI (.lst (ds.map λ_=>.bl true))=.ok (.bl true):=by
 unfold sI;simp only[sY]
 congr 2
 rw[Qi];intro b hb;obtain⟨_,_,rfl⟩:=Pw.mp hb;rfl
def vg{α:Type}(L:List α):sI (.lst (L.map λ_=>D.bl true))=.ok (.bl true):=by
 have:=Fu (ds:=L.map λ_=>D.non);rw[Qd]at this;exact this
section
variable {w:gB}{xs:List bT}(W:cD w) (R:CD w xs)
include W R
theorem Kr:K51.m_has_lengths [aO w,.lst (xs.map fr)]=.ok (.bl true):=by
 have t14:=W.t14;have hl:=R.l;have hi:aC (aO w) (.int 1)=.ok (.lst (w.ts.map aZ)):=rfl;have hc:∀A,cC 1 [] (br 0) mYes (aq (af (ae 0) ax) Com.m_is_length) A (xs.map fr)=.ok (.lst (xs.map λ_=>D.bl true)):=λA=>by
  rw[K51.comp_pick fr (λ_=>some (.bl true)) (by omega)]
  .rw[←RW];rfl
  .intro x hx
   have e:=oU (R.f x hx).1.toLow (R.f x hx).2;refine⟨[.sh (fr x)],rfl,.inr ⟨_,rfl,rfl,?_⟩⟩;open_line with[e]
 have ha:sI (.lst (xs.map λ_=>D.bl true))=.ok (.bl true):=vg xs;have hn:jh (.int ((xs.length:Nat):Int)) (.int ((w.ts.length:Nat):Int))=.ok (.bl false):=by
  rw[hl];show au.ok (D.bl (!(_==_)))=_;rw[beq_self_eq_true];rfl
 open_line with[K51.m_has_lengths,K51.b_has_lengths,hi,Pg,hn,hc,ha]
end
def jK(w:gB)(G:List kR):ce:=w.ps.filter λk=>(cF G k).isSome
theorem oa{G:List kR}:∀(L:ce),(L.filterMap λk=>if(cF G k).isSome=true then some (D.str k) else none)=(L.filter λk=>(cF G k).isSome).map D.str
 |[]=>rfl
 |k::L=>by
  rw[QU,SI]
  by_cases h:(cF G k).isSome=true
  .simp only[if_pos h,Pl,oa L]
  .simp only[if_neg h,oa L]
theorem uq:∀(xs:List bT),(xs.filterMap λ_=>some (D.int 0))=(fm xs.length).map D.int
 |[]=>rfl
 |x::xs=>by rw[QU];simp only;rw[uq xs];rfl
section
variable {w:gB}{xs:List bT}{ks:ci}(W:cD w) (R:CD w xs) (T:K37.m_look_at_taking [aO w,aN ks]=.ok .non)
include W R in
theorem Lq(k:Nat):(cQ (zR xs) k).natAbs<2 ^ 200*2 ^ 2800:=by
 have hb:=Bg W R;unfold cQ zR;rw[Pp];cases e:xs[k]? with
 |none=>show(0:Int).natAbs<_;exact Nat.mul_pos (Tj (by decide)) (Tj (by decide))
 |some x=>
  have h1:=(R.f x (PN e)).1;show(x.1*(dw xs / x.2)).natAbs<_;have q1:x.1.natAbs<2 ^ 200:=Pm h1.pN (by decide);have q2:(dw xs / x.2).natAbs<=2 ^ 2800:=Pu (QR _ _) hb.2.1;rw[Rz];exact Ue q1 q2 (Tj (by decide))
end
end Flo
namespace Nwb
open PySem L2 DL Com
def O3{es:ac}:MU (.tup []) (.tup es)=.ok (.tup es):=rfl
end Nwb
namespace Flo
open PySem L2 DL Com
open K35 (ck)
def wF(g:cO->Int):List cO->List Int->Int
 |t::ts,x::as=>x*g t+wF g ts as
 |_,_=>0
theorem IA{q:Pq}:∀{ts:List cO}{as:List Int},dD q ts as=wF (ek q) ts as
 |[],as=>by cases as<;>rfl
 |t::ts,[]=>rfl
 |t::ts,x::as=>by show x*ek q t+dD q ts as=x*ek q t+wF (ek q) ts as;rw[IA]
theorem Il{f g h:cO->Int}(e:∀t,f t=g t+h t):∀{ts:List cO}{as:List Int},wF f ts as=wF g ts as+wF h ts as
 |[],as=>by cases as<;>rfl
 |t::ts,[]=>rfl
 |t::ts,x::as=>by
  show x*f t+wF f ts as=(x*g t+wF g ts as)+(x*h t+wF h ts as);rw[Il e,e,UY];omega
theorem CW{g:cO->Int}(e:∀t,g t=0):∀{ts:List cO}{as:List Int},wF g ts as=0
 |[],as=>by cases as<;>rfl
 |t::ts,[]=>rfl
 |t::ts,x::as=>by show x*g t+wF g ts as=0;rw[CW e,e];omega
def IE(L:ce)(s:Pq):Int:=if s∈L then 1 else 0
def cr(L:ce)(t:cO):Int:=IE L t.a-IE L t.b
def xQ{q s:Pq}{L:ce}(h:q∉L):IE (q::L) s=(if s=q then 1 else 0)+IE L s:=by
 unfold IE
 by_cases c:s=q
 .subst c;rw[if_pos Pf,if_pos rfl,if_neg h];rfl
 .rw[if_neg c]
  by_cases d:s∈L
  .rw[if_pos (Pc _ d),if_pos d];rfl
  .rw[if_neg (λz=>by rcases Pr.mp z with z|z;exact c z;exact d z),if_neg d];rfl
theorem vo{ts:List cO}{as:List Int}:∀{L:ce},L.Nodup->(L.map λq=>dD q ts as).sum=wF (cr L) ts as
 |[],_=>by rw[CW (λt=>by unfold cr IE;simp)];rfl
 |q::L,h=>by
  obtain⟨h1,h2⟩:=PZ.mp h;rw[Pl,Rh,vo h2,Il (f:=cr (q::L)) (g:=ek q) (h:=cr L) (λt=>by
   unfold cr ek;rw[xQ h1,xQ h1];omega),IA]
theorem vp{f:Pq->Int}{z:Pq}:∀{L:ce},L.Nodup->z∈L->(∀q∈L,q≠z->f q=0)->(L.map f).sum=f z
 |[],_,h,_=>by cases h
 |q::L,nd,h,h0=>by
  obtain⟨n1,n2⟩:=PZ.mp nd;rw[Pl,Rh];rcases Pr.mp h with rfl|h
  .have:∀(L:ce),(∀q∈L,f q=0)->(L.map f).sum=0:=by
    intro L
    induction L with
    |nil=>intro _;rfl
    |cons a L ih=>intro hL;rw[Pl,Rh,hL a Pf,ih λb hb=>hL b (Pc _ hb)];rfl
   rw[this L λa ha=>h0 a (Pc _ ha) (λe=>n1 (e▸ha))];omega
  .rw[h0 q Pf (λe=>n1 (e▸h)),vp n2 h λa ha=>h0 a (Pc _ ha)];omega
def cc(ks:ci)(L:ce):Nat->List cO->List Int->Int
 |j,t::ts,z::zs=>(if j∉ks/\ck L t=true then z else 0)+cc ks L (j+1) ts zs
 |_,_,_=>0
section
variable {ks:ci}{L:ce}{t:cO}{x z:Int}{j:Nat}
def xG(h:t.w="one"):ck L t=(decide (t.a∈L)&&!(decide (t.b∈L))):=by
 unfold ck;rw[if_neg (by rw[h];decide)]
def uL(h:t.w="both"):ck L t=(decide (t.a∈L) != decide (t.b∈L)):=by
 unfold ck;rw[if_pos h]
def JN(hw:t.w="one"∨t.w="both")(hf:yM t z x)(hz:0<=z)(ht:j∈ks->x=0):x*cr L t<=if j∉ks/\ck L t=true then z else 0:=by
 by_cases c:j∈ks
 .rw[ht c,if_neg (λh=>h.1 c)];omega
 .obtain⟨f1,f2⟩:=hf
  unfold cr IE;rcases hw with h|h
  .rw[xG h]
   rw[if_pos h]at f2
   by_cases a:t.a∈L<;>by_cases b:t.b∈L<;>simp[a,b,c]<;>omega
  .rw[uL h]
   rw[if_neg (by rw[h];decide)]at f2
   by_cases a:t.a∈L<;>by_cases b:t.b∈L<;>simp[a,b,c]<;>omega
def JO(hw:t.w="one"∨t.w="both")(ht:j∈ks->x=0)(h1:j∉ks->t.a∈L->t.b∉L->x=z)(h2:j∉ks->t.a∉L->t.b∈L->if t.w="one" then x=0 else x=-z):x*cr L t=if j∉ks/\ck L t=true then z else 0:=by
 by_cases c:j∈ks
 .rw[ht c,if_neg (λh=>h.1 c)];omega
 .unfold cr IE
  rcases hw with h|h
  .rw[xG h]
   rw[if_pos h]at h2
   by_cases a:t.a∈L<;>by_cases b:t.b∈L<;>simp[a,b,c]
   .exact h1 c a b
   .exact h2 c a b
  .rw[uL h]
   rw[if_neg (by rw[h];decide)]at h2
   by_cases a:t.a∈L<;>by_cases b:t.b∈L<;>simp[a,b,c]
   .exact h1 c a b
   .have:=h2 c a b;omega
def lz{y:Int}{as:List Int}{i:Nat}:cQ (y::as) (i+1)=cQ as i:=rfl
theorem Lv:∀{ts:List cO}{zs as:List Int}{j:Nat},zs.length=ts.length->as.length=ts.length->(∀i t,ts[i]?=some t->(cQ as i)*cr L t<=if j+i∉ks/\ck L t=true then cQ zs i else 0)->wF (cr L) ts as<=cc ks L j ts zs
 |[],zs,as,j,_,_,_=>by
  have h1:wF (cr L) [] as=0:=by cases as<;>rfl
  have h2:cc ks L j [] zs=0:=by cases zs<;>rfl
  omega
 |t::ts,[],as,j,h,_,_=>by simp at h
 |t::ts,z::zs,[],j,_,h,_=>by simp at h
 |t::ts,z::zs,x::as,j,h1,h2,h=>by
  have ih:=Lv (ts:=ts) (zs:=zs) (as:=as) (j:=j+1) (by simpa using h1) (by simpa using h2) (λi u hu=>by
   have:=h (i+1) u hu;rw[lz,lz,show j+(i+1)=j+1+i by omega]at this;exact this)
  have h0:x*cr L t<=if j∉ks/\ck L t=true then z else 0:=h 0 t rfl
  show x*cr L t+wF (cr L) ts as<=(if j∉ks/\ck L t=true then z else 0)+cc ks L (j+1) ts zs;omega
theorem Lw:∀{ts:List cO}{zs as:List Int}{j:Nat},zs.length=ts.length->as.length=ts.length->(∀i t,ts[i]?=some t->(cQ as i)*cr L t=if j+i∉ks/\ck L t=true then cQ zs i else 0)->wF (cr L) ts as=cc ks L j ts zs
 |[],zs,as,j,_,_,_=>by
  have h1:wF (cr L) [] as=0:=by cases as<;>rfl
  have h2:cc ks L j [] zs=0:=by cases zs<;>rfl
  omega
 |t::ts,[],as,j,h,_,_=>by simp at h
 |t::ts,z::zs,[],j,_,h,_=>by simp at h
 |t::ts,z::zs,x::as,j,h1,h2,h=>by
  have ih:=Lw (ts:=ts) (zs:=zs) (as:=as) (j:=j+1) (by simpa using h1) (by simpa using h2) (λi u hu=>by
   have:=h (i+1) u hu;rw[lz,lz,show j+(i+1)=j+1+i by omega]at this;exact this)
  have h0:x*cr L t=if j∉ks/\ck L t=true then z else 0:=h 0 t rfl
  show x*cr L t+wF (cr L) ts as=(if j∉ks/\ck L t=true then z else 0)+cc ks L (j+1) ts zs;omega
end
structure zZ (w:gB) (ks:ci) (as:List Int):Prop where
 tk:∀k∈ks,cQ as k=0
 bal:∀q,q≠w.fi->q≠w.la->dD q w.ts as=0
theorem A6{q:Pq}:∀{p:List Tn}{a k:Pq},Lk a p k->(p.map (FG q)).sum=(if a=q then 1 else 0)-(if k=q then 1 else 0)
 |[],a,k,h=>by obtain rfl:a=k:=h;simp
 |t::p,a,k,⟨h1,h2⟩=>by
  rw[Pl,Rh,A6 h2];unfold FG;rw[h1];omega
theorem w6{m:Int}{k:Nat}:∀{p:List Tn}{as:List Int},(∀s∈p,∃j:Nat,s.n=(j:Int)/\j<as.length/\j≠k)->cQ (p.foldl (dE m) as) k=cQ as k
 |[],as,_=>rfl
 |s::p,as,h=>by
  obtain⟨j,e1,e2,e3⟩:=h s Pf;rw[QP,w6 (λu hu=>by rw[kZ];exact h u (Pc _ hu)),qk e1 e2,if_neg (QB e3)]
section
variable {w:gB}{zs as:List Int}{ks:ci}{G:List kR}{p:List Tn}
def zw(A:dy w zs as)(H:Bf (bZ w zs ks as) w.fi G)(hp:cF G w.la=some p)(K:zZ w ks as):zZ w ks (p.foldl (dE (eE p)) as):=by
 have hm:=ja hp;have lk:Lk w.fi p w.la:=H.lk _ hm;have hin:∀s∈p,s∈bZ w zs ks as:=λs hs=>(H.tk _ hm s hs).1;refine⟨λk hk=>?_,λq q1 q2=>?_⟩
 .rw[w6 (λs hs=>?_)]
  .exact K.tk k hk
  .obtain⟨j,t,e1,e2,e3,_⟩:=jj (hin s hs)
   exact⟨j,e1,by rw[A.1];exact(Po.mp e2).1,λc=>e3 (c▸hk)⟩
 .rw[n8 A.1 (λs hs=>wQ (hin s hs)),A6 lk,if_neg (QB q1),if_neg (QB q2),K.bal q q1 q2];omega
def MA:zZ w ks (fm w.ts.length):=⟨λ_ _=>ve,λ_ _ _=>oe _ _⟩
def Lu(W:cD w)(hz:zs.length=w.ts.length)(nn:∀k,0<=cQ zs k)(A:dy w zs as)(K:zZ w ks as){L:ce}(nd:L.Nodup)(hf:w.fi∈L)(hl:w.la∉L):dD w.fi w.ts as<=cc ks L 0 w.ts zs:=by
 rw[←vp (f:=λq=>dD q w.ts as) nd hf (λq hq e=>K.bal q e (λc=>hl (c▸hq))),vo nd];refine Lv hz A.1 λi t ht=>?_;rw[QL];exact JN (W.ts t (PN ht)).w (A.2 i t ht) (nn i) (K.tk i)
def Io(W:cD w)(hz:zs.length=w.ts.length)(A:dy w zs as)(K:zZ w ks as)(S:yH (bZ w zs ks as) G){L:ce}(nd:L.Nodup)(hL:∀q∈w.ps,q∈L↔(cF G q).isSome=true)(hf:w.fi∈L)(hl:w.la∉L):dD w.fi w.ts as=cc ks L 0 w.ts zs:=by
 rw[←vp (f:=λq=>dD q w.ts as) nd hf (λq hq e=>K.bal q e (λc=>hl (c▸hq))),vo nd];refine Lw hz A.1 λi t ht=>?_;rw[QL];have T:=W.ts t (PN ht);have mem:∀s,s∈w.ps->(s∈L↔s∈G.map (·.1)):=λs hs=>by
  rw[hL s hs];cases e:cF G s with|none=>exact⟨λh=>(nomatch h),λh=>absurd h (gR.mp e)⟩|some p=>exact⟨λ_=>Pw.mpr ⟨_,ja e,rfl⟩,λ_=>rfl⟩
 have inl:∀s∈iZ zs as i t,i∉ks->0<s.c->s∈bZ w zs ks as:=λs hs hk hc=>by
  unfold bZ;refine Ql.mpr ⟨tE.mpr ⟨i,t,ht,?_,?_⟩,decide_eq_true hc⟩
  .rw[QL];exact hk
  .rw[QL];exact hs
 have Ky:=A.2 i t ht;refine JO T.w (K.tk i) (λhk ha hb=>?_) (λhk ha hb=>?_)
 .have h1:=Ky.1
  by_cases c:cQ as i<cQ zs i
  .have:=S _ (inl ⟨(i:Int),1,t.a,t.b,cQ zs i-cQ as i⟩ (by unfold iZ;exact Pf) hk (by show 0<cQ zs i-cQ as i;omega)) ((mem _ T.a).mp ha)
   exact absurd ((mem _ T.b).mpr this) hb
  .omega
 .have hb':¬0<kL zs as i t:=λc=>by
   have:=S _ (inl ⟨(i:Int),-1,t.b,t.a,kL zs as i t⟩ (by unfold iZ;exact Pc _ Pf) hk c) ((mem _ T.b).mp hb);exact absurd ((mem _ T.a).mpr this) ha
  have h2:=Ky.2;unfold kL at hb'
  by_cases c:t.w="one"
  .rw[if_pos c]at hb' h2;rw[if_pos c];omega
  .rw[if_neg c]at hb' h2;rw[if_neg c];omega
end
open K35 (ck jm fq)
theorem AV{P:Pq}:∀{ts:List cO}{as:List Int},K36.ips P ts as=dD P ts as
 |[],as=>by cases as<;>rfl
 |t::ts,[]=>rfl
 |t::ts,x::as=>by
  show K36.ip P t x+K36.ips P ts as=x*ek P t+dD P ts as;rw[AV];unfold K36.ip ek
  by_cases a:t.a=P<;>by_cases b:t.b=P<;>simp[a,b]
def vT{a b:Int}:(cz a b).2∣b:=⟨(Qf a b:Int),(SQ (Sz ..)).symm⟩
def EG{a b:Int}(hb:0<b):(cz a b).1*(b / (cz a b).2)=a:=by
 have h1:(cz a b).2*(Qf a b:Int)=b:=SQ (Sz ..);have h2:(cz a b).1*(Qf a b:Int)=a:=SQ (SK ..);have hp:=(dA (a:=a) hb).q1;generalize cz a b=L at *;have h3:b / L.2=(Qf a b:Int):=by
  conv=>lhs;rw[←h1]
  exact QJ _ (by omega)
 rw[h3,h2]
theorem uH{P:Pq}:∀{ts:List cO}{xs:List bT}{x:bT},x∈K36.parts P ts xs->∃y∈xs,x.2=y.2
 |[],xs,x,h=>by cases xs<;>simp[K36.parts]at h
 |t::ts,[],x,h=>by simp[K36.parts]at h
 |t::ts,y::ys,x,h=>by
  unfold K36.parts at h;rcases Pz.mp h with h|h
  .refine⟨y,Pf,?_⟩
   unfold K36.part at h;rcases Pz.mp h with h|h
   .split at h
    .rw[PF.mp h];rfl
    .cases h
   .split at h
    .rw[PF.mp h];rfl
    .cases h
  .obtain⟨z,hz,e⟩:=uH h
   exact⟨z,Pc _ hz,e⟩
def uz{P:List bT}{b:Int}(hd:∀x∈P,x.2∣b)(hp:0<(lO P).2):(cz (lO P).1 (lO P).2).1*b=tN (P.map λx=>x.1*(b / x.2))*(cz (lO P).1 (lO P).2).2:=by
 have h:=nX (b:=b) P (0,1) 0 hd (by show(0:Int)*_=0*1;omega);rw[UG]at h;change (lO P).1*b=_*(lO P).2 at h;have hr:=iA (a:=(lO P).1) (b:=(lO P).2);generalize cz (lO P).1 (lO P).2=L at *;generalize tN (P.map λx=>x.1*(b / x.2))=Z at *;generalize lO P=T at *;refine QO (a:=T.2) (by omega) ?_;have e1:L.1*b*T.2=(L.1*T.2)*b:=by grind
 have e2:Z*L.2*T.2=(Z*T.2)*L.2:=by grind
 rw[e1,e2,hr,←h];grind
section
variable {w:gB}{xs:List bT}{as:List Int}{ks:ci}{L:ce}{B:Int}
def CA(h14:w.ts.length<=14)(hb:0<B)(hf:∀a∈as,bF (cz a B)):Low (K36.sumF (K36.parts w.fi w.ts (as.map λa=>cz a B)))/\(K36.sumF (K36.parts w.fi w.ts (as.map λa=>cz a B))).1*B=dD w.fi w.ts as*(K36.sumF (K36.parts w.fi w.ts (as.map λa=>cz a B))).2:=by
 have hx:∀x∈as.map (λa=>cz a B),bF x:=λx hx=>by
  obtain⟨a,ha,rfl⟩:=Pw.mp hx;exact hf a ha
 have hpl:(K36.parts w.fi w.ts (as.map λa=>cz a B)).length<=28:=Pu K36.parts_len (by omega);have hpf:=K36.parts_fin (p:=w.fi) (ts:=w.ts) hx;have A:=kT (by omega) hpf;have hS:=K36.sum_acc (by omega) hpf;refine⟨hS.2,?_⟩;have e:=uz (b:=B) (P:=K36.parts w.fi w.ts (as.map λa=>cz a B)) (λx hx=>by
  obtain⟨y,hy,e⟩:=uH hx;obtain⟨a,_,rfl⟩:=Pw.mp hy;rw[e];exact vT) A.pos
 rw[←K36.ips_parts,AV,Qd]at e;have e2:as.map ((λx:bT=>x.1*(B / x.2))∘λa=>cz a B)=as:=by
  conv=>rhs;rw[←List.map_id as]
  exact Sf λa _=>EG hb
 rw[e2]at e;exact e
def zb(n:Nat):Qu (n+1)=0::(Qu n).map (· + 1):=by
 rw[Tg]
def Hn(ks:ci)(L:ce)(j:Nat)(ts:List cO)(k:Nat):Bool:=!(decide (j+k∈ks))&&(match ts[k]? with|some t=>ck L t|none=>false)
theorem A9:∀{ts:List cO}{zs:List Int}{j:Nat},zs.length=ts.length->cc ks L j ts zs=tN (((Qu ts.length).filter (Hn ks L j ts)).map (cQ zs))
 |[],zs,j,_=>by cases zs<;>rfl
 |t::ts,[],j,h=>by simp at h
 |t::ts,z::zs,j,h=>by
  have ih:=A9 (ts:=ts) (zs:=zs) (j:=j+1) (by simpa using h);show(if j∉ks/\ck L t=true then z else 0)+cc ks L (j+1) ts zs=_;rw[PL,zb,SI,T6];have e1:(Hn ks L j (t::ts)∘λk=>k+1)=Hn ks L (j+1) ts:=by
   funext k;show Hn ks L j (t::ts) (k+1)=_;unfold Hn;rw[show j+(k+1)=j+1+k by omega,Qo]
  have e0:Hn ks L j (t::ts) 0=(!(decide (j∈ks))&&ck L t):=rfl;have e2:∀(l:ci),(l.map (· + 1)).map (cQ (z::zs))=l.map (cQ zs):=λl=>by rw[Qd];rfl
  rw[e1,e0,ih]
  by_cases c:j∈ks
  .rw[if_neg (λq=>q.1 c),decide_eq_true c,SM,RA,if_neg (by decide),e2];omega
  .rw[decide_eq_false c,SD,RV]
   cases d:ck L t with
   |true=>rw[if_pos ⟨c,rfl⟩,if_pos rfl,Pl,e2];rfl
   |false=>rw[if_neg (λq=>(nomatch q.2)),if_neg (by decide),e2];omega
def Gk(h14:w.ts.length<=14)(hl:xs.length=w.ts.length)(hd:∀x∈xs,x.2∣B)(hf:∀x∈xs,bF x):Low (K35.sumF (fq ks L w.ts xs w.ts.length))/\(K35.sumF (fq ks L w.ts xs w.ts.length)).1*B=cc ks L 0 w.ts (xs.map λx=>x.1*(B / x.2))*(K35.sumF (fq ks L w.ts xs w.ts.length)).2:=by
 have hpl:(fq ks L w.ts xs w.ts.length).length<=14:=Pu K35.roomF_len h14;have hpf:=K35.roomF_fin (ks:=ks) (ss:=L) (ts:=w.ts) (n:=w.ts.length) hf;have A:=kT (by omega) hpf;have hS:=K35.sum_acc (by omega) hpf;refine⟨hS.2,?_⟩;have key:∀k∈jm ks L w.ts w.ts.length,k<xs.length:=λk hk=>by
  have:=Rk.mp (Ql.mp hk).1;omega
 have e:=uz (b:=B) (P:=fq ks L w.ts xs w.ts.length) (λx hx=>by
  obtain⟨k,hk,rfl⟩:=Pw.mp hx;have:=key k hk;rw[R6,Pd this];exact hd _ (Rb this)) A.pos
 have e2:(fq ks L w.ts xs w.ts.length).map (λx=>x.1*(B / x.2))=((Qu w.ts.length).filter (Hn ks L 0 w.ts)).map (cQ (xs.map λx=>x.1*(B / x.2))):=by
  unfold fq;rw[Qd];have e3:(Qu w.ts.length).filter (Hn ks L 0 w.ts)=jm ks L w.ts w.ts.length:=by
   unfold jm
   congr 1
   funext k;unfold Hn;rw[QL];first|done|rfl
  rw[e3];refine Sf λk hk=>?_;have:=key k hk;show(λx:bT=>x.1*(B / x.2)) (xs.getD k (0,1))=cQ _ k;unfold cQ;rw[R6,Pp,Pd this];rfl
 rw[e2,←A9 (by rw[Pg];exact hl)]at e;exact e
def wO{A R:bT}{V:Int}(hA:Low A)(hR:Low R)(hb:0<B)(a:A.1*B=V*A.2)(r:R.1*B=V*R.2):A=R:=by
 refine qO hA hR (QO (a:=B) (by omega) ?_);have e1:A.1*R.2*B=(A.1*B)*R.2:=by grind
 have e2:R.1*A.2*B=(R.1*B)*A.2:=by grind
 rw[e1,e2,a,r];grind
end
def MM:Int:=2329089562800
def dI(xs:List bT):List Int:=xs.map λx=>x.1*(MM / x.2)
def BG{x:bT}{M B:Int}(h1:x.2∣M)(h2:x.2∣B)(h0:x.2≠0):x.1*(M / x.2)*B=x.1*(B / x.2)*M:=by
 obtain⟨m,rfl⟩:=h1;obtain⟨b,rfl⟩:=h2;rw[QJ _ h0,QJ _ h0];grind
section
variable {ks ls:ci}{L:ce}{B:Int}
theorem oC:∀{ts:List cO}{xs:List bT}{j:Nat},(∀x∈xs,x.2∣MM/\x.2∣B/\x.2≠0)->cc ks L j ts (dI xs)*B=cc ks L j ts (xs.map λx=>x.1*(B / x.2))*MM
 |[],xs,j,_=>by
  have h:∀zs:List Int,cc ks L j [] zs=0:=λzs=>by cases zs<;>rfl
  rw[h,h];omega
 |t::ts,[],j,_=>by show(0:Int)*B=0*MM;omega
 |t::ts,x::xs,j,h=>by
  have ih:=oC (ts:=ts) (xs:=xs) (j:=j+1) λy hy=>h y (Pc _ hy);obtain⟨h1,h2,h3⟩:=h x Pf;have e:=BG h1 h2 h3;show((if j∉ks/\ck L t=true then x.1*(MM / x.2) else 0)+cc ks L (j+1) ts (dI xs))*B=((if j∉ks/\ck L t=true then x.1*(B / x.2) else 0)+cc ks L (j+1) ts (xs.map λx=>x.1*(B / x.2)))*MM;rw[T3,T3,ih]
  congr 1
  split
  .exact e
  .omega
theorem yu(hk:∀k∈ks,k∈ls):∀{ts:List cO}{zs:List Int}{j:Nat},(∀z∈zs,0<=z)->cc ls L j ts zs<=cc ks L j ts zs
 |[],zs,j,_=>by cases zs<;>exact Sv _
 |t::ts,[],j,_=>Sv _
 |t::ts,z::zs,j,h=>by
  have ih:=yu hk (ts:=ts) (zs:=zs) (j:=j+1) λy hy=>h y (Pc _ hy);have hz:=h z Pf;show(if j∉ls/\ck L t=true then z else 0)+cc ls L (j+1) ts zs<=(if j∉ks/\ck L t=true then z else 0)+cc ks L (j+1) ts zs;have:(if j∉ls/\ck L t=true then z else 0)<=(if j∉ks/\ck L t=true then z else 0):=by
   by_cases c:j∉ls/\ck L t=true
   .rw[if_pos c,if_pos ⟨λq=>c.1 (hk j q),c.2⟩];exact Sv _
   .rw[if_neg c];split<;>omega
  omega
theorem oB:∀{ts:List cO}{zs:List Int}{j:Nat},cc ks L j ts (zs.map (2 * ·))=2*cc ks L j ts zs
 |[],zs,j=>by cases zs<;>rfl
 |t::ts,[],j=>rfl
 |t::ts,z::zs,j=>by
  show(if j∉ks/\ck L t=true then 2*z else 0)+cc ks L (j+1) ts (zs.map (2 * ·))=2*((if j∉ks/\ck L t=true then z else 0)+cc ks L (j+1) ts zs);rw[oB,UY];split<;>omega
end
def fW(w:gB)(S:List (ce))(p:Pq):List (ce):=if p≠w.fi/\p≠w.la then S++S.map (·++[p]) else S
def gT(w:gB):List (ce):=w.ps.foldl (fW w) [[w.fi]]
section
variable {w:gB}
theorem qj:∀{qs:ce}{S:List (ce)},qs.Nodup->(∀L∈S,(L.Nodup/\w.fi∈L/\w.la∉L)/\∀q∈L,q≠w.fi->q∉qs)->∀L∈qs.foldl (fW w) S,L.Nodup/\w.fi∈L/\w.la∉L
 |[],S,_,h=>λL hL=>(h L hL).1
 |p::qs,S,nd,h=>by
  obtain⟨n1,n2⟩:=PZ.mp nd;rw[QP];refine qj n2 λL hL=>?_;unfold fW at hL;split at hL
  .rename_i c
   rcases Pz.mp hL with hL|hL
   .exact⟨(h L hL).1,λq hq e z=>(h L hL).2 q hq e (Pc _ z)⟩
   .obtain⟨M,hM,rfl⟩:=Pw.mp hL
    obtain⟨⟨g1,g2,g3⟩,g4⟩:=h M hM;have pn:p∉M:=λz=>g4 p z c.1 Pf;refine⟨⟨RE.mpr ⟨g1,by simp,λa ha b hb=>by rw[PF.mp hb];rintro rfl;exact pn ha⟩,Qk _ g2,λz=>?_⟩,λq hq e z=>?_⟩
    .rcases Pz.mp z with z|z
     .exact g3 z
     .exact c.2 (PF.mp z).symm
    .rcases Pz.mp hq with hq|hq
     .exact g4 q hq e (Pc _ z)
     .rw[PF.mp hq]at z;exact n1 z
  .exact⟨(h L hL).1,λq hq e z=>(h L hL).2 q hq e (Pc _ z)⟩
theorem kU(c:Pq->Bool):∀{qs:ce}{S:List (ce)}{L0:ce},qs.Nodup->L0∈S->(∀q∈L0,q≠w.fi->q∉qs)->∃L∈qs.foldl (fW w) S,(∀q∈qs,q≠w.fi->q≠w.la->(q∈L↔c q=true))/\(∀q,q∉qs->(q∈L↔q∈L0))
 |[],S,L0,_,h,_=>⟨L0,h,λq hq=>(nomatch hq),λq _=>T9⟩
 |p::qs,S,L0,nd,h,h0=>by
  obtain⟨n1,n2⟩:=PZ.mp nd;rw[QP]
  by_cases m:p≠w.fi/\p≠w.la
  .have pn:p∉L0:=λz=>h0 p z m.1 Pf
   have e:fW w S p=S++S.map (·++[p]):=if_pos m;rw[e]
   by_cases cp:c p=true
   .obtain⟨L,l1,l2,l3⟩:=kU c (qs:=qs) (S:=S++S.map (·++[p])) (L0:=L0++[p]) n2 (P4 _ (Pw.mpr ⟨L0,h,rfl⟩)) (λq hq e z=>by
     rcases Pz.mp hq with hq|hq
     .exact h0 q hq e (Pc _ z)
     .rw[PF.mp hq]at z;exact n1 z)
    refine⟨L,l1,λq hq=>?_,λq hq=>?_⟩
    .rcases Pr.mp hq with rfl|hq
     .intro _ _
      rw[l3 q n1];exact⟨λ_=>cp,λ_=>P4 _ (by simp)⟩
     .exact l2 q hq
    .rw[l3 q (λz=>hq (Pc _ z))]
     constructor
     .intro z
      rcases Pz.mp z with z|z
      .exact z
      .exact absurd (by rw[PF.mp z];exact Pf) hq
     .exact λz=>Qk _ z
   .obtain⟨L,l1,l2,l3⟩:=kU c (qs:=qs) (S:=S++S.map (·++[p])) (L0:=L0) n2 (Qk _ h) (λq hq e z=>h0 q hq e (Pc _ z))
    refine⟨L,l1,λq hq=>?_,λq hq=>l3 q (λz=>hq (Pc _ z))⟩;rcases Pr.mp hq with rfl|hq
    .intro _ _
     rw[l3 q n1];exact⟨λz=>absurd z pn,λz=>absurd z cp⟩
    .exact l2 q hq
  .have e:fW w S p=S:=if_neg m
   rw[e];obtain⟨L,l1,l2,l3⟩:=kU c (qs:=qs) (S:=S) (L0:=L0) n2 h (λq hq e z=>h0 q hq e (Pc _ z));refine⟨L,l1,λq hq a b=>?_,λq hq=>l3 q (λz=>hq (Pc _ z))⟩;rcases Pr.mp hq with rfl|hq
   .exact absurd ⟨a,b⟩ m
   .exact l2 q hq a b
structure IsL (w:gB) (ks:ci) (ns:List Int) (v:Int):Prop where
 at_:∃L∈gT w,v=cc ks L 0 w.ts ns
 le:∀L∈gT w,v<=cc ks L 0 w.ts ns
def n6(W:cD w){L:ce}(h:L∈gT w):L.Nodup/\w.fi∈L/\w.la∉L :=
 qj W.nm.nd (λL hL=>by
  obtain rfl:=PF.mp hL;exact⟨⟨by simp,by simp,λz=>W.ne (PF.mp z).symm⟩,λq hq e=>absurd (PF.mp hq) e⟩) L h
def Aj(W:cD w)(c:Pq->Bool)(h1:c w.fi=true)(h2:c w.la=false):∃L∈gT w,∀q∈w.ps,q∈L↔c q=true:=by
 obtain⟨L,l1,l2,l3⟩:=kU (w:=w) c (qs:=w.ps) (S:=[[w.fi]]) (L0:=[w.fi]) W.nm.nd (by simp) (λq hq e=>absurd (PF.mp hq) e);obtain⟨_,g2,g3⟩:=n6 W l1;refine⟨L,l1,λq hq=>?_⟩
 by_cases a:q=w.fi
 .rw[a];exact⟨λ_=>h1,λ_=>g2⟩
 .by_cases b:q=w.la
  .rw[b];exact⟨λz=>absurd z g3,λz=>by rw[h2]at z;cases z⟩
  .exact l2 q hq a b
def IsL.scale{ks:ci}{xs:List bT}{v V B:Int}(h:IsL w ks (dI xs) v)(hx:∀x∈xs,x.2∣MM/\x.2∣B/\x.2≠0)(hb:0<B)(h1:∀L∈gT w,V<=cc ks L 0 w.ts (xs.map λx=>x.1*(B / x.2)))(h2:∃L∈gT w,V=cc ks L 0 w.ts (xs.map λx=>x.1*(B / x.2))):v*B=V*MM:=by
 obtain⟨⟨L,l1,l2⟩,hle⟩:=h;obtain⟨M,m1,m2⟩:=h2;have a:=oC (ks:=ks) (L:=L) (ts:=w.ts) (j:=0) hx;have b:=oC (ks:=ks) (L:=M) (ts:=w.ts) (j:=0) hx;have c:=hle M m1;have d:=h1 L l1;have m0:(0:Int)<MM:=by decide
 have e1:v*B<=cc ks M 0 w.ts (dI xs)*B:=SJ c (by omega);have e2:V*MM<=cc ks L 0 w.ts (xs.map λx=>x.1*(B / x.2))*MM:=SJ d (by omega);rw[←l2]at a;rw[←m2]at b;omega
def IsL.mono{ks ls:ci}{ns:List Int}{u v:Int}(h:IsL w ks ns u)(g:IsL w ls ns v)(hk:∀k∈ks,k∈ls)(hn:∀z∈ns,0<=z):v<=u:=by
 obtain⟨L,l1,l2⟩:=h.at_;have:=g.le L l1;have:=yu (L:=L) hk (ts:=w.ts) (j:=0) hn;omega
def IsL.twice{ks:ci}{ns:List Int}{u:Int}(h:IsL w ks ns u):IsL w ks (ns.map (2 * ·)) (2*u):=by
 obtain⟨L,l1,l2⟩:=h.at_;refine⟨⟨L,l1,by rw[oB,l2]⟩,λM m=>?_⟩;have:=h.le M m;rw[oB];omega
end
end Flo
namespace K40
open PySem L2 DL Com Flo
open K35 (ck jm fq)
def Cv{b M:Int}{x:bT}(hb:0<b)(hx:0<x.2)(h1:b∣M)(h2:x.2∣M):fu b x∣M:=by
 have h:(Int.lcm b x.2:Int)∣M:=Int.coe_lcm_dvd h1 h2;have e:fu b x=(Int.lcm b x.2:Int):=by
  unfold fu;obtain⟨n,rfl⟩:=Qw (show 0<=b by omega);obtain⟨m,hm⟩:=Qw (show 0<=x.2 by omega);rw[hm];show((n:Int) / ((Nat.gcd n m:Nat):Int))*(m:Int)=((Nat.lcm n m:Nat):Int);unfold Nat.lcm;rw[UB n m,Nat.mul_div_assoc _ (Nat.gcd_dvd_left n m),UB m]
  push_cast
  rfl
 rw[e];exact h
theorem Bd{M:Int}:∀(xs:List bT) (b:Int),0<b->b∣M->(∀x∈xs,bF x/\x.2∣M)->xs.foldl fu b∣M
 |[],b,_,h,_=>h
 |x::xs,b,hb,h,hx=>by
  rw[QP];obtain⟨f,d⟩:=hx x Pf;have hp:=f.q1;have e:=Cv hb (x:=x) (by omega) h d;refine Bd xs _ ?_ e λy hy=>hx y (Pc _ hy);unfold fu;have hg:0<(Qf b x.2:Int):=by
   have:=Int.gcd_pos_of_ne_zero_left x.2 (show b≠0 by omega);omega
  exact Su (Uh hb (by omega) (SK ..)) (by omega)
structure Ib (w:gB) (xs:List bT):Prop where
 r:CD w xs
 d:∀x∈xs,x.2∣MM
 s:∀x∈xs,x.1<=2000000000000000000
section
variable {w:gB}{xs:List bT}{ks:ci}(W:cD w) (X:Ib w xs)
include W X
theorem bX:0<dw xs/\dw xs∣MM/\dw xs<=MM/\∀x∈xs,x.2∣dw xs:=by
 have hb:=Bg W X.r;have hd:dw xs∣MM:=Bd xs 1 (by decide) (Int.one_dvd _) λx hx=>⟨(X.r.f x hx).1,X.d x hx⟩
 exact⟨hb.1,hd,Int.le_of_dvd (by decide) hd,hb.2.2⟩
theorem zX(k:Nat):cQ (zR xs) k<=2000000000000000000*MM:=by
 obtain⟨h1,_,h3,h4⟩:=bX W X;unfold cQ zR;rw[Pp];cases e:xs[k]? with
 |none=>show(0:Int)<=_;decide
 |some x=>
  have hx:=PN e;have a:=X.s x hx;have p:=(X.r.f x hx).1.q1;have n:=(X.r.f x hx).2;show x.1*(dw xs / x.2)<=_;have q0:0<=dw xs / x.2:=Sn (by omega) (by omega);have q1:dw xs / x.2<=MM:=Int.le_trans (TV _ (by omega)) h3;exact Int.mul_le_mul a q1 q0 (by decide)
theorem N3{as:List Int}(A:dy w (zR xs) as):∀a∈as,bF (cz a (dw xs)):=by
 obtain⟨h1,_,h3,_⟩:=bX W X;intro a ha;obtain⟨k,hk,e⟩:=To.mp ha;have ea:cQ as k=a:=by unfold cQ;rw[Pd hk,e];rfl
 have hkt:k<w.ts.length:=by rw[←A.1];exact hk
 have Z:=CM W X.r;have f:=(A.2 k _ (Pd hkt)).abs (Z.nn k);rw[ea]at f;have g:=zX W X k;have n:=Z.nn k;have m1:(2000000000000000000*MM).natAbs<jX:=by decide
 have m2:MM.natAbs<jX:=by decide
 refine⟨dA h1,PK iD ?_,PK iC ?_⟩<;>omega
end
section
variable {w:gB}{xs:List bT}{ks:ci}(W:cD w) (R:CD w xs) (T:iL w ks)
include W R
theorem DJ:dh [aO w,.lst (xs.map fr)]=.ok .non:=by
 have h1:=yR W;have h2:=Kr W R;open_line with[dh,jR,h1,h2]
include T
theorem Mv:∃as' G',zZ w ks as'/\dy w (zR xs) as'/\Bf (bZ w (zR xs) ks as') w.fi G'/\yH (bZ w (zR xs) ks as') G'/\cF G' w.la=none /\
  iz [aO w,.lst (xs.map fr),aN ks]=.ok (.tup [.lst ((as'.map λa=>cz a (dw xs)).map fr),.lst ((jK w G').map D.str)]):=by
 have t14:=W.t14;have n7:=W.n7;have hl:=R.l;have Z:=CM W R;have hb:=Bg W R;obtain⟨as',G',h0,h1,h2,h3,h4,h5⟩:=yA (B:=dw xs) (ks:=ks) (R:=.lst (xs.map fr)) (x5:=.no) (x6:=.no) W Z (Q:=zZ w ks) (λas G p A H hp K=>zw A H hp K) MA;refine⟨as',G',h0,h1,h2,h3,h4,?_⟩;have r1:=DJ W R;have r2:=ux W T;have r3:=Gf W R;have i0:aC (aO w) (.int 0)=.ok (.lst (w.ps.map D.str)):=rfl;have hn:∀A,cC 1 [] (br 0) mYes (dC (.int 0)) A (xs.map fr)=.ok (.lst ((fm w.ts.length).map D.int)):=λA=>by
  rw[K51.comp_pick fr (λ_=>some (.int 0)) (by omega)]
  .rw[←hl,uq]
  .intro x hx
   exact⟨[.sh (fr x)],rfl,.inr ⟨_,rfl,rfl,rfl⟩⟩
 have j0:∀d e:D,aC (.tup [d,e]) (.int 0)=.ok d:=λ_ _=>rfl;have j1:∀d e:D,aC (.tup [d,e]) (.int 1)=.ok e:=λ_ _=>rfl;have hs:∀a b c d e x,cC 1 [5] (br 0) (aa (ae 0) (aa (ae 1) (dC (.int 1)) aC) wk) (ae 0) [a,b,c,d,e,.sh (.tup [.lst (as'.map D.int),fB G']),x] (w.ps.map D.str)=.ok (.lst ((jK w G').map D.str)):=λa b c d e x=>by
  rw[K51.comp_pick D.str (λk=>if(cF G' k).isSome=true then some (D.str k) else none) (by omega)]
  .rw[oa];rfl
  .intro k hk
   have q:=Ks (F:=G') (k:=k)
   by_cases h:(cF G' k).isSome=true
   .rw[h]at q
    refine⟨[.sh (.str k),.sh (.tup [.lst (as'.map D.int),fB G'])],rfl,.inr ⟨_,if_pos h,?_,rfl⟩⟩;open_line with[j1,q]
   .rw[show(cF G' k).isSome=false by simpa using h]at q
    refine⟨[.sh (.str k),.sh (.tup [.lst (as'.map D.int),fB G'])],rfl,.inl ⟨if_neg h,?_⟩⟩;open_line with[j1,q]
 have hr:∀a b c e f x,cC 1 [3] (br 0) mYes (aq (af (ae 0) (af (aa (ae 1) (dC (.int 1)) aC) ax)) m_ratio) [a,b,c,.sh (.tup [.lst ((zR xs).map D.int),.int (dw xs)]),e,f,x] (as'.map D.int)=.ok (.lst ((as'.map λa=>cz a (dw xs)).map fr)):=λa b c e f x=>by
  rw[K51.comp_pick D.int (λa=>some (fr (cz a (dw xs)))) (by have:=h1.1;omega)]
  .rw[Qd,←RW];rfl
  .intro y hy
   have q:m_ratio [.int y,.int (dw xs)]=.ok (fr (cz y (dw xs))):=by
    obtain⟨k,hk,ek⟩:=To.mp hy;have hka:cQ as' k=y:=by unfold cQ;rw[Pd hk,ek];rfl
    have hkt:k<w.ts.length:=by rw[←h1.1];exact hk
    have f:=(h1.2 k _ (Pd hkt)).abs (Z.nn k);rw[hka]at f;have g:=Lq W R k;have b13:2 ^ 200*2 ^ 2800<=pK:=by rw[jJ,←S4];exact Qz (by decide) (by decide)
    have b14:2 ^ 2800<pK:=by rw[jJ];exact R5 (by decide) (by decide)
    exact qp hb.1 (PK f (Pm g b13)) (PK hb.2.1 b14)
   refine⟨[.sh (.int y),.sh (.tup [.lst ((zR xs).map D.int),.int (dw xs)])],rfl,.inr ⟨_,rfl,rfl,?_⟩⟩;open_line with[j1,q]
 have hM:m_filled=K37.m_filled:=rfl;open_line with[iz,o9,r1,r2,r3,hn,hM,h5,j0,hs,i0,hr]
end
section
variable {w:gB}(W:cD w)
include W
theorem LV{ss:ce}(hs:ss=w.ps.filter (λk=>decide (k∈ss)))(hf:w.fi∈ss)(hl:w.la∉ss):dJ [aO w,.lst (ss.map D.str)]=.ok .non:=by
 have n7:=W.n7;have sub:∀s∈ss,s∈w.ps:=λs h=>by rw[hs]at h;exact(Ql.mp h).1
 have sl:ss.length<=7:=by rw[hs];exact Pu (SF _ _) n7
 have i0:aC (aO w) (.int 0)=.ok (.lst (w.ps.map D.str)):=rfl;have i2:aC (aO w) (.int 2)=.ok (.str w.fi):=rfl;have i3:aC (aO w) (.int 3)=.ok (.str w.la):=rfl;have il:jy "list" (.lst (ss.map D.str))=.ok (.bl true):=rfl;have c1:∀a,cC 1 [0] (br 0) mYes (aq (af (ae 0) (af (aa (ae 1) (dC (.int 0)) aC) ax)) Com.m_is_place) [.sh (aO w),a] (ss.map D.str)=.ok (.lst (ss.map λ_=>.bl true)):=λa=>by
  rw[K51.comp_pick D.str (λ_=>some (.bl true)) (by omega)]
  .rw[←RW];rfl
  .intro k hk
   have pt:=lS (W.nm.nm k (sub k hk)) (sub k hk);refine⟨[.sh (.str k),.sh (aO w)],rfl,.inr ⟨_,rfl,rfl,?_⟩⟩;open_line with[i0,pt]
 have c2:cC 1 [1] (br 0) (aa (ae 0) (ae 1) pG) (ae 0) [.sh (aO w),.sh (.lst (ss.map D.str))] (w.ps.map D.str)=.ok (.lst (ss.map D.str)):=by
  rw[K51.comp_pick D.str (λk=>if k∈ss then some (.str k) else none) (by omega)]
  .congr 1
   conv=>rhs;rw[hs]
   congr 1
   generalize w.ps=L
   induction L with
   |nil=>rfl
   |cons s L ih=>
    rw[QU,SI]
    by_cases c:s∈ss
    .simp only[if_pos c,decide_eq_true c,if_true,Pl,ih]
    .simp only[if_neg c,decide_eq_false c,S1,if_false,ih]
  .intro k hk
   by_cases c:k∈ss
   .refine⟨[.sh (.str k),.sh (.lst (ss.map D.str))],rfl,.inr ⟨_,if_pos c,?_,rfl⟩⟩
    open_line with[eU,decide_eq_true c]
   .refine⟨[.sh (.str k),.sh (.lst (ss.map D.str))],rfl,.inl ⟨if_neg c,?_⟩⟩
    open_line with[eU,decide_eq_false c]
 have al:sI (.lst (ss.map λ_=>.bl true))=.ok (.bl true):=vg ss;have ne:jh (.lst (ss.map D.str)) (.lst (ss.map D.str))=.ok (.bl (!(decide (ss=ss)))):=K35.ne_strl;rw[decide_eq_true rfl]at ne;have q1:bA (.str w.fi) (.lst (ss.map D.str))=.ok (.bl (!(decide (w.fi∈ss)))):=jq;have q2:pG (.str w.la) (.lst (ss.map D.str))=.ok (.bl (decide (w.la∈ss))):=eU;rw[decide_eq_true hf]at q1;rw[decide_eq_false hl]at q2;have ep:m_is_place=Com.m_is_place:=rfl;open_line with[dJ,kP,il,ep,c1,al,i0,c2,ne,i2,q1,i3,q2]
theorem LZ{xs:List bT}{ks:ci}{ss:ce}(R:CD w xs)(T:iL w ks)(h:dJ [aO w,.lst (ss.map D.str)]=.ok .non):k9 [aO w,.lst (xs.map fr),aN ks,.lst (ss.map D.str)]=.ok (fr (K35.sumF (fq ks ss w.ts xs w.ts.length))):=by
 have h14:=W.t14;have hl:=R.l;have h1:=DJ W R;have h2:=ux W T;have h3:m_numbers_out [aO w,aN ks,.lst (ss.map D.str)]=.ok (aN (jm ks ss w.ts w.ts.length)):=K35.out_ok W (ks:=ks) (ss:=ss);have hs:=Bz (xs:=fq ks ss w.ts xs w.ts.length) (by have:=K35.roomF_len (ks:=ks) (ss:=ss) (ts:=w.ts) (xs:=xs) (n:=w.ts.length);omega) (K35.roomF_fin λx hm=>(R.f x hm).1);have hc:∀A B C:Sl,cC 1 [1] (br 0) mYes (aa (ae 1) (ae 0) aC) [A,.sh (.lst (xs.map fr)),B,C] ((jm ks ss w.ts w.ts.length).map λ(k:Nat)=>D.int (k:Int))=.ok (.lst ((fq ks ss w.ts xs w.ts.length).map fr)):=λA B C=>by
  have ho:(jm ks ss w.ts w.ts.length).length<=14:=by unfold jm;exact Pu (SF _ _) (by simp;omega)
  rw[K51.comp_pick (λ(k:Nat)=>D.int (k:Int)) (λk=>some (fr (xs.getD k (0,1)))) (by omega)]
  .unfold fq;rw[Qd,←RW];rfl
  .intro k hk
   have hk':k<xs.length:=by
    have:=Rk.mp (Ql.mp hk).1;omega
   refine⟨[.sh (.int (k:Int)),.sh (.lst (xs.map fr))],rfl,.inr ⟨_,rfl,rfl,?_⟩⟩;have hix:aC (.lst (xs.map fr)) (.int (k:Int))=.ok (fr (xs.getD k (0,1))):=fD (by
    rw[Pp,Pd hk',R6,Pd hk'];rfl)
   open_line with[hix]
 have hsrc:uB (aN (jm ks ss w.ts w.ts.length))=.ok ((jm ks ss w.ts w.ts.length).map λ(k:Nat)=>D.int (k:Int)):=rfl;generalize D.lst (xs.map fr)=X at *;generalize D.lst (ss.map D.str)=S at *;open_line with[k9,vb,h1,h2,h,h3,hsrc,hc,hs]
 rfl
end
open K35 (ck jm fq)
open K54 (lh kn)
section
variable {w:gB}{xs:List bT}{ks:ci}(W:cD w) (X:Ib w xs) (T:iL w ks)
include W X T
theorem xA:∃A:bT,dM [aO w,.lst (xs.map fr),aN ks]=.ok (fr A)/\Low A/\A.1.natAbs<nU/\A.2.natAbs<nU/\∀v,IsL w ks (dI xs) v->A.1*MM=v*A.2:=by
 have t14:=W.t14;have R:=X.r;obtain⟨as',G',K,A',H,S,hla,hm⟩:=Mv W R T;obtain⟨b0,_,bM,bd⟩:=bX W X;have hfi:(cF G' w.fi).isSome=true:=by
  rw[H.get H.rt];rfl
 have hss:jK w G'=w.ps.filter (λk=>decide (k∈jK w G')):=by
  show w.ps.filter (λk=>(cF G' k).isSome)=_;refine List.filter_congr λk hk=>?_
  by_cases c:(cF G' k).isSome=true
  .rw[c,decide_eq_true (show k∈jK w G' from Ql.mpr ⟨hk,c⟩)]
  .rw[decide_eq_false (show ¬k∈jK w G' from λz=>c (Ql.mp z).2)]
   simpa using c
 have mfi:w.fi∈jK w G':=Ql.mpr ⟨W.fi,hfi⟩;have mla:w.la∉jK w G':=λz=>by have:=(Ql.mp z).2;rw[hla]at this;cases this
 have nds:(jK w G').Nodup:=UW _ W.nm.nd;have hsd:=LV W hss mfi mla;have hrm:=LZ W R T hsd;have hfin:=N3 W X A';have hln:(as'.map λa=>cz a (dw xs)).length=w.ts.length:=by rw[Pg];exact A'.1
 have hfl:∀x∈as'.map (λa=>cz a (dw xs)),bF x:=λx hx=>by
  obtain⟨a,ha,rfl⟩:=Pw.mp hx;exact hfin a ha
 have ham:eK [aO w,.lst ((as'.map λa=>cz a (dw xs)).map fr)]=_:=K36.amount_ok W hln hfl;have hgo:cL [aO w,.lst ((as'.map λa=>cz a (dw xs)).map fr),.str w.fi]=_:=K36.going_ok (P:=w.fi) t14 hln hfl;obtain⟨lA,eA⟩:=CA (w:=w) t14 b0 hfin;obtain⟨lR,eR⟩:=Gk (w:=w) (ks:=ks) (L:=jK w G') (B:=dw xs) t14 R.l bd λx hx=>(R.f x hx).1;have ez:(xs.map λx=>x.1*(dw xs / x.2))=zR xs:=rfl;have hz:(zR xs).length=w.ts.length:=by unfold zR;rw[Pg];exact R.l
 have Z:=CM W R;have hti:=Io W hz A' K S (L:=jK w G') nds (λq hq=>⟨λz=>(Ql.mp z).2,λz=>Ql.mpr ⟨hq,z⟩⟩) mfi mla;rw[ez,←hti]at eR;have eAR:=wO lR lA b0 eR eA;rw[eAR]at hrm;have hs:=K36.sum_acc (xs:=K36.parts w.fi w.ts (as'.map λa=>cz a (dw xs))) (Pu K36.parts_len (by omega)) (K36.parts_fin hfl);have hV:(dD w.fi w.ts as').natAbs<jX/\(dw xs).natAbs<jX:=by
  have h1:=Lu W hz Z.nn A' K (L:=jK w G') nds mfi mla;have h2:nY (zR xs)<=14*(2000000000000000000*MM.natAbs):=by
   have:∀(L:List Int) (M:Nat),(∀z∈L,z.natAbs<=M)->nY L<=L.length*M:=by
    intro L M
    induction L with
    |nil=>intro _;exact R4 _
    |cons z L ih=>
     intro h;have:=ih λy hy=>h y (Pc _ hy);have h0:=h z Pf;show((z::L).map Int.natAbs).sum<=_;rw[Pl,Rh,PL,Nat.add_mul];unfold nY at this;omega
   refine Pu (this (zR xs) (2000000000000000000*MM.natAbs) λz hz=>?_) (Nat.mul_le_mul_right _ (by omega));obtain⟨k,hk,e⟩:=To.mp hz;have ea:cQ (zR xs) k=z:=by unfold cQ;rw[Pd hk,e];rfl
   have g:=zX W X k;have n:=Z.nn k;rw[ea]at g n;have m0:(2000000000000000000*MM.natAbs:Nat)=(2000000000000000000*MM).toNat:=by decide
   omega
  have hle:=vI (fi:=w.fi) (zs:=zR xs) (as:=as') (λt ht=>(W.ts t ht).ne) (λk t hk=>(A'.2 k t hk).abs (Z.nn k)) hz;have hge:-(nY (zR xs):Int)<=dD w.fi w.ts as':=by
   have hneg:∀(ts:List cO) (as:List Int),dD w.fi ts (as.map λx=>-x)=- dD w.fi ts as:=by
    intro ts
    induction ts with
    |nil=>intro as;cases as<;>rfl
    |cons t ts ih=>
     intro as;cases as with
     |nil=>rfl
     |cons x as=>
      show -x*ek w.fi t+dD w.fi ts (as.map λx=>-x)=-(x*ek w.fi t+dD w.fi ts as);rw[ih,UX];omega
   have:=vI (fi:=w.fi) (zs:=zR xs) (as:=as'.map λx=>-x) (λt ht=>(W.ts t ht).ne) (λk t hk=>by
    have e:cQ (as'.map λx=>-x) k=- cQ as' k:=by
     unfold cQ;rw[Pp];cases as'[k]?<;>rfl
    rw[e,Int.natAbs_neg];exact(A'.2 k t hk).abs (Z.nn k)) hz
   rw[hneg]at this;omega
  have m1:14*(2000000000000000000*MM.natAbs)<jX:=by decide
  have m2:MM.natAbs<jX:=by decide
  omega
 have hAl:K36.sumF (K36.parts w.fi w.ts (as'.map λa=>cz a (dw xs)))=cz (dD w.fi w.ts as') (dw xs):=wO lA (dA b0) b0 eA iA;have b1:(K36.sumF (K36.parts w.fi w.ts (as'.map λa=>cz a (dw xs)))).1.natAbs<nU:=by
  rw[hAl];exact PK iD (Pm hV.1 de)
 have b2:(K36.sumF (K36.parts w.fi w.ts (as'.map λa=>cz a (dw xs)))).2.natAbs<nU:=by
  rw[hAl];exact PK iC (Pm hV.2 de)
 refine⟨_,?_,lA,b1,b2,λv hv=>?_⟩
 .have i2:aC (aO w) (.int 2)=.ok (.str w.fi):=rfl
  have nf:=Mt (x:=K36.sumF (K36.parts w.fi w.ts (as'.map λa=>cz a (dw xs))));generalize K36.sumF (K36.parts w.fi w.ts (as'.map λa=>cz a (dw xs)))=AA at *;generalize (as'.map λa=>cz a (dw xs)).map fr=FF at *;open_line with[dM,pd,hm,ham,i2,hgo,nf,hrm]
 .have hsc:=hv.scale (V:=dD w.fi w.ts as') (B:=dw xs) (λx hx=>⟨X.d x hx,bd x hx,by have:=(R.f x hx).1.q1;omega⟩) b0 (λL hL=>by
   obtain⟨g1,g2,g3⟩:=n6 W hL;exact Lu W hz Z.nn A' K g1 g2 g3) (by obtain⟨L,l1,l2⟩:=Aj W (λk=>(cF G' k).isSome) hfi (by rw[hla];rfl);obtain⟨g1,g2,g3⟩:=n6 W l1;exact⟨L,l1,Io W hz A' K S g1 l2 g2 g3⟩)
  generalize K36.sumF (K36.parts w.fi w.ts (as'.map λa=>cz a (dw xs)))=AA at *;refine QO (a:=dw xs) (by omega) ?_;have e1:AA.1*MM*dw xs=(AA.1*dw xs)*MM:=by grind
  have e2:v*AA.2*dw xs=(v*dw xs)*AA.2:=by grind
  rw[e1,e2,eA,hsc];grind
end
theorem mC{α β:Type}{f:α->β}:∀{l:List α},(l.filterMap λa=>some (f a))=l.map f
 |[]=>rfl
 |a::l=>by rw[QU,Pl];simp only;rw[mC]
def BB(S:List (ce)):D:=.lst (S.map λL=>.lst (L.map D.str))
noncomputable abbrev NG:bi:=(ao (cH (aa (ae 2) (aq (af (aa (ae 0) (dC (.int 2)) aC) (af (aa (ae 0) (dC (.int 3)) aC) ax)) eT) bA)
 (ao (aF 1 (aa (ae 1) (bK 1 [2] (ff (ae 1)) (br 0) mYes (aa (ae 0) (aq (af (ae 1) ax) bO) bc)) bc))
 aj)
 aj)
 aj)
section
variable {w:gB}
def BY{x y z:Pq}:bA (.str x) (.tup [.str y,.str z])=.ok (.bl (decide (x≠y/\x≠z))):=by
 have h:bA (.str x) (.tup [.str y,.str z])=.ok (.bl (!((y==x)||((z==x)||false)))):=rfl;rw[h]
 congr 2
 by_cases a:x=y
 .subst a;simp
 .by_cases b:x=z
  .subst b;simp
  .have a':(y==x)=false:=beq_eq_false_iff_ne.mpr (QB a)
   have b':(z==x)=false:=beq_eq_false_iff_ne.mpr (QB b);rw[a',b',decide_eq_true ⟨a,b⟩];rfl
def Ge{S:List (ce)}{p:Pq}(hS:S.length<=400)(hL:∀L∈S,L.length<=400):NG [.sh (aO w),.sh (BB S),.sh (.str p)]=.ok (.nx [.sh (aO w),.sh (BB (fW w S p)),.sh (.str p)]):=by
 have i2:aC (aO w) (.int 2)=.ok (.str w.fi):=rfl;have i3:aC (aO w) (.int 3)=.ok (.str w.la):=rfl;have hn:=BY (x:=p) (y:=w.fi) (z:=w.la);unfold fW
 by_cases c:p≠w.fi/\p≠w.la
 .rw[decide_eq_true c]at hn
  rw[if_pos c];have hc:∀a b,cC 1 [2] (br 0) mYes (aa (ae 0) (aq (af (ae 1) ax) bO) bc) [a,b,.sh (.str p)] (S.map λL=>.lst (L.map D.str))=.ok (BB (S.map (·++[p]))):=λa b=>by
   rw[K51.comp_pick (λL:ce=>.lst (L.map D.str)) (λL=>some (.lst ((L++[p]).map D.str))) (by omega)]
   .rw[mC];unfold BB;rw[Qd];rfl
   .intro L hL'
    refine⟨[.sh (.lst (L.map D.str)),.sh (.str p)],rfl,.inr ⟨_,rfl,rfl,?_⟩⟩;have ha:=fI (ds:=L.map D.str) (es:=[.str p]) (decide_eq_true (by rw[Pg];have:=hL L hL';simp;omega));rw[Qb];open_line with[ha]
  have ha:=fI (ds:=S.map λL=>.lst (L.map D.str)) (es:=(S.map (·++[p])).map λL=>.lst (L.map D.str)) (decide_eq_true (by rw[Pg,Pg,Pg];omega));have hsrc:uB (BB S)=.ok (S.map λL=>.lst (L.map D.str)):=rfl;have e9:BB (S++S.map (·++[p]))=.lst ((S.map λL=>.lst (L.map D.str))++(S.map (·++[p])).map λL=>.lst (L.map D.str)):=by unfold BB;rw[Qb]
  have ha':bc (BB S) (BB (S.map (·++[p])))=.ok (BB (S++S.map (·++[p]))):=by rw[e9];exact ha
  open_line with[i2,i3,hn,hsrc,hc,ha']
 .rw[decide_eq_false c]at hn
  rw[if_neg c];open_line with[i2,i3,hn]
def Di{S:List (ce)}{p:Pq}{n m:Nat}(hS:S.length<=n)(hL:∀L∈S,L.length<=m):(fW w S p).length<=2*n/\∀L∈fW w S p,L.length<=m+1:=by
 unfold fW;split
 .refine⟨by rw[P9,Pg];omega,λL h=>?_⟩
  rcases Pz.mp h with h|h
  .have:=hL L h;omega
  .obtain⟨M,hM,rfl⟩:=Pw.mp h
   have:=hL M hM;simp;omega
 .exact⟨by omega,λL h=>by have:=hL L h;omega⟩
theorem Al:∀(qs:ce) (S:List (ce)) (n m:Nat),S.length<=n->(∀L∈S,L.length<=m)->(qs.foldl (fW w) S).length<=2 ^ qs.length*n/\∀L∈qs.foldl (fW w) S,L.length<=m+qs.length
 |[],S,n,m,h,g=>⟨by simpa using h,λL hL=>g L hL⟩
 |p::qs,S,n,m,h,g=>by
  obtain⟨a,b⟩:=Di (w:=w) (p:=p) h g;obtain⟨c,d⟩:=Al qs (fW w S p) (2*n) (m+1) a b;rw[QP,PL];refine⟨by rw[Nat.pow_succ,Nat.mul_assoc];exact c,λL hL=>?_⟩;have:=d L hL;omega
def Dh(W:cD w):gE [aO w]=.ok (BB (gT w))/\(gT w).length<=128:=by
 have n7:=W.n7;have key:∀pre:ce,pre.length<=7->(pre.foldl (fW w) [[w.fi]]).length<=128/\∀L∈pre.foldl (fW w) [[w.fi]],L.length<=8:=λpre hp=>by
  obtain⟨a,b⟩:=Al (w:=w) pre [[w.fi]] 1 1 (by simp) (λL hL=>by rw[PF.mp hL];simp);have:2 ^ pre.length<=2 ^ 7:=Qz (by decide) hp;exact⟨by omega,λL hL=>by have:=b L hL;omega⟩
 refine⟨?_,(key w.ps n7).1⟩;obtain⟨ρ',e,x2,rfl⟩:=lh (tg:=br 2) (body:=NG) D.str (L:=w.ps) (λpre ρ=>∃x2,ρ=[.sh (aO w),.sh (BB (pre.foldl (fW w) [[w.fi]])),x2]) (λpre p post hL ρ z9=>by
  obtain⟨x2,er⟩:=z9;subst er;have hp:pre.length<=7:=by have:=congrArg S5 hL;simp at this;omega
  obtain⟨a,b⟩:=key pre hp;refine⟨_,_,rfl,Ge (w:=w) (p:=p) (by omega) (λL h=>by have:=b L h;omega),.sh (.str p),?_⟩;rw[List.foldl_append];rfl) ⟨.no,rfl⟩
 have e:bS (br 2) NG (w.ps.map D.str) [.sh (aO w),.sh (.lst [.lst [.str w.fi]]),.no]=_:=e;have i0:aC (aO w) (.int 0)=.ok (.lst (w.ps.map D.str)):=rfl;have i2:aC (aO w) (.int 2)=.ok (.str w.fi):=rfl;open_line with[gE,nH,i2,i0,e]
 rfl
end
theorem EC:∀(l:List Int) (x:Int),(pQ x l=x∨pQ x l∈l)/\pQ x l<=x/\∀y∈l,pQ x l<=y
 |[],x=>⟨.inl rfl,Sv _,λ_ h=>nomatch h⟩
 |z::l,x=>by
  obtain⟨h1,h2,h3⟩:=EC l (if z<x then z else x);have e:pQ x (z::l)=pQ (if z<x then z else x) l:=rfl;rw[e];generalize pQ (if z<x then z else x) l=m at *;refine⟨?_,?_,λy hy=>?_⟩
  .rcases h1 with h1|h1
   .split at h1
    .exact .inr (by rw[h1];exact Pf)
    .exact .inl h1
   .exact .inr (Pc _ h1)
  .split at h2<;>omega
  .rcases Pr.mp hy with rfl|hy
   .split at h2<;>omega
   .exact h3 y hy
def J9{l:List Int}(h:l≠[]):∃v,uW (.lst (l.map D.int))=.ok (.int v)/\v∈l/\∀y∈l,v<=y:=by
 cases l with
 |nil=>exact absurd rfl h
 |cons x l=>
  obtain⟨h1,h2,h3⟩:=EC l x;refine⟨pQ x l,?_,?_,λy hy=>?_⟩
  .show(match fE ((x::l).map D.int) with|some (n::ns)=>au.ok (D.int (pQ n ns))|_=>.stuck)=_
   rw[qX]
  .rcases h1 with h1|h1
   .rw[h1];exact Pf
   .exact Pc _ h1
  .rcases Pr.mp hy with rfl|hy
   .exact h2
   .exact h3 y hy
abbrev NQ:bi:=(ao (cH (gq (aa (ae 6) (ae 2) bA) (aq (af (ae 7) (af (ae 4) ax)) bu))
 (ao (aF 5 (aa (ae 5) (aa (ae 1) (ae 6) aC) bc))
 aj)
 aj)
 aj)
abbrev NR:bi:=(ao (aF 5 (dC (.int 0)))
 (ao (gz (lP (aa (ae 0) (dC (.int 1)) aC)) (cB [6,7]) NQ)
 (ao (bP 3 (ae 5))
 aj)))
theorem yt{ks:ci}{L:ce}{t:cO}:∀{pre:List cO}{zs:List Int}{j:Nat},pre.length<zs.length->cc ks L j (pre++[t]) zs=cc ks L j pre zs+(if j+pre.length∉ks/\ck L t=true then cQ zs pre.length else 0)
 |[],[],j,h=>by simp at h
 |[],z::zs,j,h=>by
  show(if j∉ks/\ck L t=true then z else 0)+cc ks L (j+1) [] zs=0+(if j+0∉ks/\ck L t=true then z else 0);have:cc ks L (j+1) [] zs=0:=by cases zs<;>rfl
  rw[this,Sx];omega
 |s::pre,[],j,h=>by simp at h
 |s::pre,z::zs,j,h=>by
  have ih:=yt (ks:=ks) (L:=L) (t:=t) (pre:=pre) (zs:=zs) (j:=j+1) (by simpa using h);show(if j∉ks/\ck L s=true then z else 0)+cc ks L (j+1) (pre++[t]) zs=(if j∉ks/\ck L s=true then z else 0)+cc ks L (j+1) pre zs+(if j+(pre.length+1)∉ks/\ck L t=true then cQ zs pre.length else 0);rw[ih,show j+1+pre.length=j+(pre.length+1) by omega];omega
section
variable {w:gB}{ns:List Int}{ks:ci}(W:cD w) (hn:ns.length=w.ts.length)
include W hn
theorem G8{L:ce}{vs:List Int}(hv:vs.length<=900){x5 x6 x7:Sl}:∃y5 y6 y7,NR [.sh (aO w),.sh (.lst (ns.map D.int)),.sh (aN ks),.ow (.lst (vs.map D.int)),.sh (.lst (L.map D.str)),x5,x6,x7]=.ok (.nx [.sh (aO w),.sh (.lst (ns.map D.int)),.sh (aN ks),.ow (.lst ((vs++[cc ks L 0 w.ts ns]).map D.int)),.sh (.lst (L.map D.str)),y5,y6,y7]):=by
 obtain⟨ρ',e,y6,y7,rfl⟩:=kn (tg:=cB [6,7]) (body:=NQ) aZ (L:=w.ts) (λpre ρ=>∃y6 y7,ρ=[.sh (aO w),.sh (.lst (ns.map D.int)),.sh (aN ks),.ow (.lst (vs.map D.int)),.sh (.lst (L.map D.str)),.sh (.int (cc ks L 0 pre ns)),y6,y7]) (λpre t post hL ρ z9=>by
  obtain⟨y6,y7,er⟩:=z9;subst er;have ht:t∈w.ts:=by rw[hL];simp
  have hk:pre.length<ns.length:=by rw[hn,hL];simp
  have e1:=K35.notin_nums (k:=pre.length) (ks:=ks);have e2:bu [aZ t,.lst (L.map D.str)]=.ok (.bl (ck L t)):=K35.leads_ok (W.ts t ht);have e3:=vV hk;have hcs:=yt (ks:=ks) (L:=L) (t:=t) (j:=0) hk;rw[QL]at hcs;refine⟨_,[.sh (aO w),.sh (.lst (ns.map D.int)),.sh (aN ks),.ow (.lst (vs.map D.int)),.sh (.lst (L.map D.str)),.sh (.int (cc ks L 0 (pre++[t]) ns)),.sh (.int (pre.length:Int)),.sh (aZ t)],rfl,?_,_,_,rfl⟩;rw[hcs]
  by_cases a:pre.length∈ks
  .rw[decide_eq_true a]at e1
   rw[if_neg (λq=>q.1 a),UI];open_line with[e1]
  .rw[decide_eq_false a]at e1
   cases b:ck L t with
   |true=>
    rw[b]at e2;rw[if_pos ⟨a,rfl⟩];open_line with[e1,e2,e3]
   |false=>
    rw[b]at e2;rw[if_neg (λq=>(nomatch q.2)),UI];open_line with[e1,e2]) ⟨x6,x7,rfl⟩
 have hc0:cc ks L 0 [] ns=0:=by cases ns<;>rfl
 rw[hc0]at e;have e:bS (cB [6,7]) NQ (numbered 0 (w.ts.map aZ)) _=_:=e;have i1:aC (aO w) (.int 1)=.ok (.lst (w.ts.map aZ)):=rfl;have a1:=cw (i:=3) (ds:=vs.map D.int) (d:=.int (cc ks L 0 w.ts ns)) (ρ:=[.sh (aO w),.sh (.lst (ns.map D.int)),.sh (aN ks),.ow (.lst (vs.map D.int)),.sh (.lst (L.map D.str)),.sh (.int (cc ks L 0 w.ts ns)),y6,y7]) (decide_eq_true (by rw[Pg];omega));refine⟨.sh (.int (cc ks L 0 w.ts ns)),y6,y7,?_⟩;rw[Qb];open_line with[i1,e,a1]
theorem B3:∃v,dz [aO w,.lst (ns.map D.int),aN ks]=.ok (.int v)/\IsL w ks ns v:=by
 obtain⟨hs,hs2⟩:=Dh W;obtain⟨ρ',e,y4,y5,y6,y7,rfl⟩:=lh (tg:=br 4) (body:=NR) (λL:ce=>.lst (L.map D.str)) (L:=gT w) (λpre ρ=>∃y4 y5 y6 y7,ρ=[.sh (aO w),.sh (.lst (ns.map D.int)),.sh (aN ks),.ow (.lst ((pre.map λL=>cc ks L 0 w.ts ns).map D.int)),y4,y5,y6,y7]) (λpre L post hL ρ z9=>by
  obtain⟨y4,y5,y6,y7,er⟩:=z9;subst er;have hp:pre.length<=128:=by have:=congrArg S5 hL;simp at this;omega
  obtain⟨z5,z6,z7,eb⟩:=G8 (ks:=ks) W hn (L:=L) (vs:=pre.map λL=>cc ks L 0 w.ts ns) (by rw[Pg];omega) (x5:=y5) (x6:=y6) (x7:=y7);refine⟨_,_,rfl,eb,.sh (.lst (L.map D.str)),z5,z6,z7,?_⟩;simp only[Qb,Pl,Rq]) ⟨.no,.no,.no,.no,rfl⟩
 have ne:(gT w).map (λL=>cc ks L 0 w.ts ns)≠[]:=by
  obtain⟨L,h1,_⟩:=Aj W (λk=>decide (k=w.fi)) (decide_eq_true rfl) (decide_eq_false (QB W.ne));intro z;rw[List.map_eq_nil_iff]at z;rw[z]at h1;cases h1
 obtain⟨v,m1,m2,m3⟩:=J9 ne;refine⟨v,?_,?_⟩
 .have e:bS (br 4) NR ((gT w).map λL=>.lst (L.map D.str)) [.sh (aO w),.sh (.lst (ns.map D.int)),.sh (aN ks),.ow (.lst []),.no,.no,.no,.no]=_:=e
  unfold BB at hs;open_line with[dz,iK,hs,e,m1]
 .obtain⟨L,h1,h2⟩:=Pw.mp m2
  exact⟨⟨L,h1,h2.symm⟩,λM hM=>m3 _ (Pw.mpr ⟨M,hM,rfl⟩)⟩
end
section
variable {w:gB}{xs:List bT}{ks:ci}(W:cD w) (X:Ib w xs) (T:iL w ks)
include W X T
theorem uE(hc:∀v,IsL w ks (dI xs) v->v.natAbs<nU):∃v,bR [aO w,.lst (xs.map fr),.lst ((dI xs).map D.int),aN ks]=.ok (.int v)/\IsL w ks (dI xs) v:=by
 obtain⟨A,h1,lA,b1,b2,h2⟩:=xA W X T;obtain⟨v,h3,h4⟩:=B3 (ks:=ks) W (ns:=dI xs) (by unfold dI;rw[Pg];exact X.r.l);refine⟨v,?_,h4⟩;have e:=h2 v h4;have bv:=hc v h4;have i0:aC (fr A) (.int 0)=.ok (.int A.1):=rfl;have i1:aC (fr A) (.int 1)=.ok (.int A.2):=rfl;have m1:aW (.int A.1) (.int 2329089562800)=.ok (.int (A.1*MM)):=if_pos (fA b1 (Pm (show(2329089562800:Int).natAbs<jX by decide) de));have m2:aW (.int v) (.int A.2)=.ok (.int (v*A.2)):=if_pos (fA bv b2);have n1:ia (fr A) .non=.ok (.bl false):=rfl;have ne:(A.1*MM==v*A.2)=true:=by rw[e];exact beq_self_eq_true _
 open_line with[bR,nJ,h1,n1,h3,i0,i1,m1,m2,ne]
end
end K40
namespace DL
open PySem PySem.Spec PyProof.Rows L2
def Iq(o:Obj):Option Pk:=match o.data with
 |.func fd=>match fd.code with
  |.ref c=>some c
  |_=>none
 |_=>none
def C7(K:Ph):List (Option Pk×Pk×Array Pb):=K.filterMap λp=>(vn K p.2).map λq=>(Iq p.2,q)
def Bw{K:Ph}{P:Pk}{d:Array Pb}(h:(P,d)∈gw K):∃c,(c,P,d)∈C7 K:=by
 obtain⟨p,hp,e⟩:=Ry.mp h;exact⟨Iq p.2,Ry.mpr ⟨p,hp,by rw[e];rfl⟩⟩
theorem mz{P:Pk}{d:Array Pb}:∀{l:List (Pk×Array Pb)},(l.map (·.1)).Nodup->(P,d)∈l->l.lookup P=some d
 |[],_,h=>by cases h
 |(Q,e)::r,nd,h=>by
  rw[Pl]at nd;obtain⟨n1,n2⟩:=PZ.mp nd;rw[QI];rcases Pr.mp h with h2|h2
  .cases h2;rw[beq_self_eq_true]
  .have ne:(P==Q)=false:=by
    rw[beq_eq_false_iff_ne];rintro rfl;exact n1 (Ro (f:=(·.1)) h2)
   rw[ne];exact mz n2 h2
def C6(K:Ph)(ts:List Pk):Bool:=(C7 K).all λq=>(match q.1 with
 |some c=>Uc K c q.2.1
 |none=>false)&&(K.lookup q.2.1).isNone&&ts.contains q.2.1
def tabsStart_mk{K:Ph}{h:PR}{ts:List Pk}(kin:K.In h)(tabs:∀P∈ts,h.get? P=some (W.tabObj #[]))(e:C6 K ts=true)(nd:decide ((gw K).map (·.1)).Nodup=true):L2.TabsStart K h:=λP d hm=>by
 obtain⟨c,hc⟩:=Bw hm;have q:=Qi.mp e _ hc;rw[PM,PM]at q;obtain⟨⟨q1,q2⟩,q3⟩:=q;refine⟨?_,tabs P (by simpa using q3),by simpa using q2,mz (of_decide_eq_true nd) hm⟩;cases c with|none=>cases q1|some c=>exact⟨c,W.codeHd_of_K kin q1⟩
noncomputable def EM(K:Ph) (a:Pk) (q:Pq) (l c:Int):Bool:=match K.lookup a with
 |some ⟨_,_,.func fd,_⟩=>match fd.code with
  |.ref c0=>(C7 K).any λr=>r.1==some c0&&Uc K c0 r.2.1&&(match r.2.2.toList with
   |[.int l' 0,.int c' 0,.str q' 0]=>l'==l&&c'==c&&q'==q
   |_=>false)
  |_=>false
 |_=>false
def lamAt_mk{K:Ph}{a:Pk}{q:Pq}{F:gN}(e:EM K a q F.pos.line F.pos.col=true)(l:(uM K).lookup q=some F):Fy K a q F:=by
 unfold EM at e;split at e
 .rename_i oc od fd sl hk
  split at e
  .rename_i c0 hc
   obtain⟨⟨co,P,d⟩,hr,e⟩:=List.any_eq_true.mp e;rw[PM,PM]at e;obtain⟨⟨_,e2⟩,e3⟩:=e;obtain⟨p,hp,e4⟩:=Ry.mp hr;have hm:(P,d)∈gw K:=by
    refine Ry.mpr ⟨p,hp,?_⟩;cases z:vn K p.2 with|none=>rw[z]at e4;cases e4|some r=>rw[z]at e4;cases e4;rfl
   split at e3
   .rename_i l' c' q' hd
    rw[PM,PM]at e3;obtain⟨⟨z1,z2⟩,z3⟩:=e3;have z1:=eq_of_beq z1;have z2:=eq_of_beq z2;have z3:=eq_of_beq z3;rw[z1,z2,z3]at hd;have hd:d=#[rawInt F.pos.line,rawInt F.pos.col,.str q 0]:=by
     cases d;exact congrArg Array.mk hd
    rw[hd]at hm;exact⟨oc,od,fd,sl,c0,P,hk,hc,e2,hm,l⟩
   .cases e3
  .cases e
 .cases e
end DL
namespace K40
open PySem L2 DL Com Flo
open K35 (ck jm fq)
def OQ:∀q:Nat,q<31->0<q->(q:Int)∣MM:=by decide
def Rd(x:bT):Prop:=bF x/\0<=x.1/\x.2∣MM/\x.1<=1000000000000000000
def Ku{w a b:Int}(hw:0<=w/\w<5)(ha:0<=a/\a<1000000000000000000)(hb:0<=b/\b<30):∃x:bT,Cod.aA [.lst [.int w,.int a,.int b]]=.ok (fr x)/\Rd x:=by
 have hN:(1000000000000000000000:Int)<(jX:Int):=by decide
 have f7:=dN (a:=a) (b:=7) (by decide);have f60:=dN (a:=a) (b:=60) (by decide);have f1000:=dN (a:=a) (b:=1000) (by decide);have f4:=dN (a:=b) (b:=4) (by decide);obtain⟨p,q,hp,hq,i1,i2⟩:∃p q:Int,(0<=p/\p<1000000000000000000)/\(1<=q/\q<31)/\aC (.lst [.int 0,.int (a.fmod 7),.int (a.fmod 60),.int a,.int (a.fmod 1000)]) (.int w)=.ok (.int p)/\aC (.lst [.int 1,.int 1,.int (1+b),.int 1,.int (1+b.fmod 4)]) (.int w)=.ok (.int q):=by
  have:w=0∨w=1∨w=2∨w=3∨w=4:=by omega
  rcases this with rfl|rfl|rfl|rfl|rfl
  .exact⟨0,1,by decide,by decide,rfl,rfl⟩
  .exact⟨a.fmod 7,1,by omega,by decide,rfl,rfl⟩
  .exact⟨a.fmod 60,1+b,by omega,by omega,rfl,rfl⟩
  .exact⟨a,1,by omega,by decide,rfl,rfl⟩
  .exact⟨a.fmod 1000,1+b.fmod 4,by omega,by omega,rfl,rfl⟩
 have hlo:=Cod.low_ok (a:=p) (b:=q) (by omega) (G7 (by omega) (by omega)) (G7 (by omega) (by omega));have h1:(cz p q).1.natAbs<=p.natAbs:=iD;have h2:(cz p q).2.natAbs<=q.natAbs:=iC;have h3:=lV (a:=p) (b:=q) (by omega) (by omega);have h4:=dA (a:=p) (b:=q) (by omega);have h5:=h4.q1;refine⟨cz p q,?_,⟨h4,?_,?_⟩,h3,?_,?_⟩
 .open_line with[Cod.aA,Cod.dj,i1,i2,hlo]
 .omega
 .omega
 .obtain⟨n,hn⟩:=Qw (show 0<=(cz p q).2 by omega)
  rw[hn];exact OQ n (by omega) (by omega)
 .omega
def Gj{ns:List Int}{c1 c2:List Int}(hc:Cod.aJ [.lst (ns.map D.int)]=.ok (.tup [.lst (c1.map D.int),.lst (c2.map D.int)]))(h14:c1.length<=14):∃xs:List bT,bG [.lst (ns.map D.int)]=.ok (.lst (xs.map fr))/\xs.length=c1.length/\∀x∈xs,Rd x:=by
 have key:∀c:Int,∃x:bT,(∀ρ:Ev,ρ[0]?=some (.sh (.int c))->ρ[1]?=some (.sh (.lst [.int 420,.int 60,.int 2,.int 5,.int 1000000000000000000,.int 30,.int 6,.int 5,.int 1000000000000000000,.int 30,.int 3,.int 5,.int 1000000000000000000,.int 30]))->(aq (af (gm (aq (af (ae 0) (af (ae 1) ax)) Cod.aB) (cj (dC (.int 11))) eJ) ax) Cod.aA) ρ=.ok (fr x))/\Rd x:=λc=>by
  obtain⟨vs,hd,V⟩:=Cod.draws_ok c [420,60,2,5,1000000000000000000,30,6,5,1000000000000000000,30,3,5,1000000000000000000,30] (by decide) (by decide);have hvl:vs.length=14:=V.len;obtain⟨v11,g11,b11,_⟩:=V.ix 11 11 rfl rfl;obtain⟨v12,g12,b12,_⟩:=V.ix 12 12 rfl rfl;obtain⟨v13,g13,b13,_⟩:=V.ix 13 13 rfl rfl;obtain⟨x,hx,fx⟩:=Ku (w:=v11) (a:=v12) (b:=v13) b11 b12 b13;refine⟨x,λρ h0 h1=>?_,fx⟩;have hcut:lD (vs.map D.int) (some 11) none=[.int v11,.int v12,.int v13]:=by
   rw[jB,HT.sIx_none,show(11:Int)=((11:Nat):Int) from rfl,HT.sIx_nat,hvl];have:=C5 (i:=11) g11 g12 g13;show((vs.drop 11).take 3).map D.int=_;rw[this];rfl
  have hd':Cod.aB [.int c,.lst [.int 420,.int 60,.int 2,.int 5,.int 1000000000000000000,.int 30,.int 6,.int 5,.int 1000000000000000000,.int 30,.int 3,.int 5,.int 1000000000000000000,.int 30]]=.ok (.lst (vs.map D.int)):=hd;generalize vs.map D.int=Q at *;open_line with[h0,h1,hd',hcut,hx]
 obtain⟨g,hg⟩:=Classical.axiomOfChoice key;refine⟨c1.map g,?_,by simp,λx hx=>?_⟩
 .have hcomp:cC 1 [1] (br 0) mYes (aq (af (gm (aq (af (ae 0) (af (ae 1) ax)) Cod.aB) (cj (dC (.int 11))) eJ) ax) Cod.aA) [.sh (.lst (ns.map D.int)),.sh (.lst [.int 420,.int 60,.int 2,.int 5,.int 1000000000000000000,.int 30,.int 6,.int 5,.int 1000000000000000000,.int 30,.int 3,.int 5,.int 1000000000000000000,.int 30])] (c1.map D.int)=.ok (.lst ((c1.map g).map fr)):=by
   rw[K51.comp_pick D.int (λv=>some (fr (g v))) (by omega)]
   .rw[mC,Qd];rfl
   .intro c _
    exact⟨[.sh (.int c),.sh (.lst [.int 420,.int 60,.int 2,.int 5,.int 1000000000000000000,.int 30,.int 6,.int 5,.int 1000000000000000000,.int 30,.int 3,.int 5,.int 1000000000000000000,.int 30])],rfl,.inr ⟨_,rfl,rfl,(hg c).1 _ rfl rfl⟩⟩
  have p18:jU (.int 10) (.int 18)=.ok (.int 1000000000000000000):=rfl;have er:bG=K34.bG:=rfl;have ed:K34.aB=Cod.aB:=rfl;have ef:K34.aA=Cod.aA:=rfl;have ec:K34.aJ=Cod.aJ:=rfl;rw[er];open_line with[K34.bG,K34.da,p18,ed,ef,ec,hc,hcomp]
 .obtain⟨c,_,rfl⟩:=Pw.mp hx
  exact(hg c).2
def Br{a q:Int}(hq:0<q)(hd:q∣MM):(cz (2*a) q).1*(MM / (cz (2*a) q).2)=2*(a*(MM / q)):=by
 have hr:=iA (a:=2*a) (b:=q);have hl:=(dA (a:=2*a) hq).q1;have hd2:(cz (2*a) q).2∣MM:=Ts vT hd;generalize cz (2*a) q=L at *;obtain⟨m,hm⟩:=hd;obtain⟨n,hn⟩:=hd2;have e1:MM / q=m:=by rw[hm];exact QJ _ (by omega)
 have e2:MM / L.2=n:=by rw[hn];exact QJ _ (by omega)
 rw[e1,e2];have hp:L.2*q≠0:=by have:=Su (show 0<L.2 by omega) hq;omega
 refine QO hp ?_;have a1:L.1*n*(L.2*q)=(L.1*q)*(L.2*n):=by grind
 have a2:2*(a*m)*(L.2*q)=2*a*L.2*(q*m):=by grind
 rw[a1,a2,hr,←hn,←hm]
section
variable {w:gB}{xs:List bT}{ks:ci}
def Jz(hl:xs.length=w.ts.length)(h:∀x∈xs,Rd x):Ib w xs:=⟨⟨hl,λx hx=>⟨(h x hx).1,(h x hx).2.1⟩⟩,λx hx=>(h x hx).2.2.1,λx hx=>by have:=(h x hx).2.2.2;omega⟩
def Jy(hl:xs.length=w.ts.length)(h:∀x∈xs,Rd x):Ib w (xs.map λx=>cz (2*x.1) x.2):=by
 have key:∀x∈xs,(bF (cz (2*x.1) x.2)/\0<=(cz (2*x.1) x.2).1)/\(cz (2*x.1) x.2).2∣MM/\(cz (2*x.1) x.2).1<=2000000000000000000:=λx hx=>by
  obtain⟨h1,h2,h3,h4⟩:=h x hx;have p:=h1.q1;have hN:(1000000000000000000000:Int)<(jX:Int):=by decide
  have l1:(cz (2*x.1) x.2).1.natAbs<=(2*x.1).natAbs:=iD;have l2:(cz (2*x.1) x.2).2.natAbs<=x.2.natAbs:=iC;have q:=h1.qN;exact⟨⟨⟨dA (by omega),by omega,by omega⟩,lV (by omega) (by omega)⟩,Ts vT h3,by omega⟩
 refine⟨⟨by rw[Pg];exact hl,λx hx=>?_⟩,λx hx=>?_,λx hx=>?_⟩
 .obtain⟨y,hy,rfl⟩:=Pw.mp hx;exact(key y hy).1
 .obtain⟨y,hy,rfl⟩:=Pw.mp hx;exact(key y hy).2.1
 .obtain⟨y,hy,rfl⟩:=Pw.mp hx;exact(key y hy).2.2
def AM(h:∀x∈xs,Rd x):dI (xs.map λx=>cz (2*x.1) x.2)=(dI xs).map (2 * ·):=by
 unfold dI;rw[Qd,Qd];exact Sf λx hx=>Br (by have:=(h x hx).1.q1;omega) (h x hx).2.2.1
def Ep(X:Ib w xs):∀z∈dI xs,0<=z/\z<=2000000000000000000*MM:=λz hz=>by
 obtain⟨x,hx,rfl⟩:=Pw.mp hz;have a:=X.s x hx;have p:=(X.r.f x hx).1.q1;have n:=(X.r.f x hx).2;have q0:0<=MM / x.2:=Sn (by decide) (by omega);have q1:MM / x.2<=MM:=TV _ (by decide);exact⟨Ug n q0,Int.mul_le_mul a q1 q0 (by decide)⟩
theorem Fh{L:ce}{M:Int}:∀{ts:List cO}{zs:List Int}{j:Nat},0<=M->(∀z∈zs,0<=z/\z<=M)->0<=cc ks L j ts zs/\cc ks L j ts zs<=ts.length*M
 |[],zs,j,_,_=>by
  have h:cc ks L j [] zs=0:=by cases zs<;>rfl
  rw[h];simp
 |t::ts,[],j,h,_=>⟨Sv _,Ug (by omega) h⟩
 |t::ts,z::zs,j,h0,h=>by
  obtain⟨a,b⟩:=Fh (L:=L) (ts:=ts) (zs:=zs) (j:=j+1) h0 λy hy=>h y (Pc _ hy);obtain⟨c,d⟩:=h z Pf;show 0<=(if j∉ks/\ck L t=true then z else 0)+cc ks L (j+1) ts zs/\(if j∉ks/\ck L t=true then z else 0)+cc ks L (j+1) ts zs<=((ts.length+1:Nat):Int)*M;have e:((ts.length+1:Nat):Int)*M=ts.length*M+M:=by rw[Int.natCast_add,T3];simp
  rw[e];split<;>omega
def vX(W:cD w)(X:Ib w xs)(v:Int)(h:IsL w ks (dI xs) v):v.natAbs<jX:=by
 obtain⟨L,_,e⟩:=h.at_;have t14:=W.t14;obtain⟨a,b⟩:=Fh (ks:=ks) (L:=L) (ts:=w.ts) (j:=0) (M:=2000000000000000000*MM) (by decide) (Ep X);have c:(w.ts.length:Int)*(2000000000000000000*MM)<=14*(2000000000000000000*MM):=SJ (by omega) (by decide);have d:(14*(2000000000000000000*MM)).natAbs<jX:=by decide
 omega
def Ac(T:iL w ks)(p:Nat->Bool):iL w (ks.filter p):=⟨UW _ T.up,λk hk=>T.wo k (Ql.mp hk).1⟩
end
theorem k7{p:Nat->Bool}:∀(ks:ci),(ks.filterMap λk=>if p k=true then some (D.int (k:Int)) else none)=(ks.filter p).map λ(k:Nat)=>D.int (k:Int)
 |[]=>rfl
 |k::ks=>by
  rw[QU,SI]
  by_cases h:p k=true
  .simp only[if_pos h,Pl,k7 ks]
  .simp only[if_neg h,k7 ks]
section
variable {ks:ci}{ds:ac}{s0 s1 s2 s3 s4 s5 s6 s8 s9 s10 s11:Sl}
def K4{v:Int}(hl:ks.length<=14)(i2:aC (.lst ds) (.int 2)=.ok (.int v)):cC 1 [7] (br 0) (aa (aa (aa (aa (ae 1) (dC (.int 2)) aC) (ae 0) yq) (dC (.int 1)) oX) (dC (.int 1)) ij) (ae 0) [s0,s1,s2,s3,s4,s5,s6,.sh (.lst ds),s8,s9,s10,s11] (ks.map λ(k:Nat)=>D.int (k:Int))=.ok (aN (ks.filter λk=>QV (v / 2 ^ k) 1==1)):=by
 rw[K51.comp_pick (λ(k:Nat)=>D.int (k:Int)) (λk=>if(QV (v / 2 ^ k) 1==1)=true then some (D.int (k:Int)) else none) (by omega)]
 .rw[k7];rfl
 .intro k hk
  have hs:yq (.int v) (.int (k:Int))=.ok (.int (v / 2 ^ k)):=by
   show(if decide (0<=(k:Int))=true then au.ok (D.int (v / 2 ^ (k:Int).toNat)) else .stuck)=_;rw[if_pos (decide_eq_true (by omega)),QM]
  have hb:oX (.int (v / 2 ^ k)) (.int 1)=.ok (.int (QV (v / 2 ^ k) 1)):=rfl;cases e:(QV (v / 2 ^ k) 1==1) with
  |true=>
   refine⟨[.sh (.int (k:Int)),.sh (.lst ds)],rfl,.inr ⟨_,if_pos rfl,?_,rfl⟩⟩;open_line with[i2,hs,hb,e]
  |false=>
   refine⟨[.sh (.int (k:Int)),.sh (.lst ds)],rfl,.inl ⟨if_neg (by decide),?_⟩⟩;open_line with[i2,hs,hb,e]
def G9{v:Int}(hl:ks.length<=14)(i3:aC (.lst ds) (.int 3)=.ok (.int v)):∃p:Nat->Bool,cC 1 [8,7] (br 0) (aa (ae 0) (aa (ae 1) (aa (aa (ae 2) (dC (.int 3)) aC) (aq (af (ae 1) ax) (m1 fg)) cn) aC) jh) (ae 0) [s0,s1,s2,s3,s4,s5,s6,.sh (.lst ds),.sh (aN ks),s9,s10,s11] (ks.map λ(k:Nat)=>D.int (k:Int))=.ok (aN (ks.filter p)):=by
 by_cases h0:ks=[]
 .subst h0
  refine⟨λ_=>true,?_⟩;rw[K51.comp_pick (λ(k:Nat)=>D.int (k:Int)) (λk=>if(true:Bool)=true then some (D.int (k:Int)) else none) (by show(0:Nat)<=_;omega)]
  .rfl
  .intro k hk;cases hk
 .have hp:0<ks.length:=List.length_pos_iff.mpr h0
  have f:=dN (a:=v) (b:=(ks.length:Int)) (by omega);have hm:cn (.int v) (.int (ks.length:Int))=.ok (.int (v.fmod (ks.length:Int))):=oo (beq_eq_false_iff_ne.mpr (by omega));obtain⟨m,em⟩:=Qw f.1;rw[em]at hm f;have hmk:m<ks.length:=by omega
  have hx:aC (aN ks) (.int (m:Int))=.ok (.int (ks[m]:Int)):=fD (by rw[Pp,Pd hmk];rfl);refine⟨λk=>!((k:Int)==(ks[m]:Int)),?_⟩;rw[K51.comp_pick (λ(k:Nat)=>D.int (k:Int)) (λk=>if(!((k:Int)==(ks[m]:Int)))=true then some (D.int (k:Int)) else none) (by omega)]
  .rw[k7];rfl
  .intro k hk
   have hle:fg (aN ks)=.ok (.int (ks.length:Int)):=by
    show au.ok (D.int ((ks.map λ(k:Nat)=>D.int (k:Int)).length:Nat))=_;rw[Pg]
   have hl1:m1 fg [aN ks]=.ok (.int (ks.length:Int)):=hle;cases e:((k:Int)==(ks[m]:Int)) with
   |true=>
    refine⟨[.sh (.int (k:Int)),.sh (aN ks),.sh (.lst ds)],rfl,.inl ⟨if_neg (by decide),?_⟩⟩;generalize aN ks=N at *;open_line with[i3,hl1,hle,hm,hx,e]
   |false=>
    refine⟨[.sh (.int (k:Int)),.sh (aN ks),.sh (.lst ds)],rfl,.inr ⟨_,if_pos rfl,?_,rfl⟩⟩;generalize aN ks=N at *;open_line with[i3,hl1,hle,hm,hx,e]
end
noncomputable def RB:bi:=(ao (aF 9 (aq (af (ae 1) (af (ae 2) (af (ae 3) (af (ae 8) ax)))) bR))
 (ao (cH (jP (aa (ae 9) (dC (.non)) ia) (aa (ae 9) (ae 4) yO))
 (ao (aT (dC (.bl false)))
 aj)
 aj)
 (ao (aF 10 (bK 1 [8,7] (ff (ae 8)) (br 0) (aa (ae 0) (aa (ae 1) (aa (aa (ae 2) (dC (.int 3)) aC) (aq (af (ae 1) ax) (m1 fg)) cn) aC) jh) (ae 0)))
 (ao (aF 11 (aq (af (ae 1) (af (ae 2) (af (ae 3) (af (ae 10) ax)))) bR))
 (ao (cH (jP (aa (ae 11) (dC (.non)) ia) (aa (ae 11) (ae 9) KY))
 (ao (aT (dC (.bl false)))
 aj)
 aj)
 aj)))))
noncomputable def LB:bi:=(ao (aF 7 (aq (af (ae 6) (af (aq (af (dC (.int 16384)) (af (dC (.int 3)) (af (dC (.int 16384)) (af (dC (.int 14)) ax)))) bO) ax)) aB))
 (ao (aF 8 (aq (af (ae 1) (af (aa (ae 7) (dC (.int 0)) aC) ax)) cW))
 (ao (cH (aa (aa (ae 7) (dC (.int 1)) aC) (dC (.int 0)) yO)
 (ao (aF 8 (bK 1 [7] (ff (ae 8)) (br 0) (aa (aa (aa (aa (ae 1) (dC (.int 2)) aC) (ae 0) yq) (dC (.int 1)) oX) (dC (.int 1)) ij) (ae 0)))
 aj)
 aj)
 RB)))
section
variable {w:gB}{xs:List bT}(W:cD w) (X:Ib w xs)
include W X
theorem FZ{S t:D}{v0 c:Int}(h0:IsL w [] (dI xs) v0){s7 s8 s9 s10 s11:Sl}:∃t7 t8 t9 t10 t11:Sl,LB [.sh S,.sh (aO w),.sh (.lst (xs.map fr)),.sh (.lst ((dI xs).map D.int)),.sh (.int v0),.sh t,.sh (.int c),s7,s8,s9,s10,s11]=.ok (.nx [.sh S,.sh (aO w),.sh (.lst (xs.map fr)),.sh (.lst ((dI xs).map D.int)),.sh (.int v0),.sh t,.sh (.int c),t7,t8,t9,t10,t11]):=by
 obtain⟨vs,hv,V⟩:=Cod.draws_ok c [16384,3,16384,14] (by decide) (by decide);have hv':aB [.int c,.lst [.int 16384,.int 3,.int 16384,.int 14]]=.ok (.lst (vs.map D.int)):=hv;obtain⟨a,_,_,i0⟩:=V.ix 0 0 rfl rfl;obtain⟨v1,_,_,i1⟩:=V.ix 1 1 rfl rfl;obtain⟨v2,_,_,i2⟩:=V.ix 2 2 rfl rfl;obtain⟨v3,_,_,i3⟩:=V.ix 3 3 rfl rfl;obtain⟨k0,hb,T0⟩:=K35.bits_ok W a;have hb':cW [aO w,.int a]=.ok (aN k0):=hb;have tl:∀{ks:ci},iL w ks->ks.length<=14:=λ{ks} T=>by
  have t14:=W.t14;have:ks.length<=(Qu w.ts.length).length:=Cod.nodup_le (T.up.imp λh=>Qh h) λk hk=>by
   obtain⟨t,_,h,_⟩:=T.wo k hk;exact Rk.mpr (Po.mp h).1
  rw[List.length_range]at this;omega
 generalize hds:vs.map D.int=ds at *;have fuel:∀{ks:ci},iL w ks->∃v,bR [aO w,.lst (xs.map fr),.lst ((dI xs).map D.int),aN ks]=.ok (.int v)/\IsL w ks (dI xs) v:=λ{ks} T=>uE W X T λv h=>Pm (vX W X v h) de;have nn:∀z∈dI xs,0<=z:=λz hz=>(Ep X z hz).1;have src:∀ks:ci,uB (aN ks)=.ok (ks.map λ(k:Nat)=>D.int (k:Int)):=λ_=>rfl;have fin:∀(ks:ci),iL w ks->∀s8:Sl,∃t9 t10 t11:Sl,RB [.sh S,.sh (aO w),.sh (.lst (xs.map fr)),.sh (.lst ((dI xs).map D.int)),.sh (.int v0),.sh t,.sh (.int c),.sh (.lst ds),.sh (aN ks),s9,s10,s11]=.ok (.nx [.sh S,.sh (aO w),.sh (.lst (xs.map fr)),.sh (.lst ((dI xs).map D.int)),.sh (.int v0),.sh t,.sh (.int c),.sh (.lst ds),.sh (aN ks),t9,t10,t11]):=λks T s8=>by
  obtain⟨v,r1,r2⟩:=fuel T;obtain⟨p,hp⟩:=G9 (s0:=.sh S) (s1:=.sh (aO w)) (s2:=.sh (.lst (xs.map fr))) (s3:=.sh (.lst ((dI xs).map D.int))) (s4:=.sh (.int v0)) (s5:=.sh t) (s6:=.sh (.int c)) (s9:=.sh (.int v)) (s10:=s10) (s11:=s11) (tl T) i3;obtain⟨u,q1,q2⟩:=fuel (Ac T p);have m1:=h0.mono r2 (λk hk=>nomatch hk) nn;have m2:=q2.mono r2 (λk hk=>(Ql.mp hk).1) nn;have n1:∀z:Int,ia (.int z) .non=.ok (.bl false):=λ_=>rfl;have g1:yO (.int v) (.int v0)=.ok (.bl false):=by
   show au.ok (D.bl (decide (v > v0)))=_;rw[decide_eq_false (by omega)]
  have g2:KY (.int u) (.int v)=.ok (.bl false):=by
   show au.ok (D.bl (decide (u<v)))=_;rw[decide_eq_false (by omega)]
  refine⟨.sh (.int v),.sh (aN (ks.filter p)),.sh (.int u),?_⟩;have hs:=src ks;generalize D.lst ((dI xs).map D.int)=NI at *;generalize D.lst (xs.map fr)=XF at *;generalize aO w=WD at *;generalize aN (ks.filter p)=KF at *;generalize aN ks=KS at *;open_line with[RB,r1,n1,g1,hs,hp,q1,g2]
 by_cases g:v1 > 0
 .have gt:yO (.int v1) (.int 0)=.ok (.bl true):=by
   show au.ok (D.bl (decide (v1 > 0)))=_;rw[decide_eq_true g]
  have hbit:=K4 (s0:=.sh S) (s1:=.sh (aO w)) (s2:=.sh (.lst (xs.map fr))) (s3:=.sh (.lst ((dI xs).map D.int))) (s4:=.sh (.int v0)) (s5:=.sh t) (s6:=.sh (.int c)) (s8:=.sh (aN k0)) (s9:=s9) (s10:=s10) (s11:=s11) (tl T0) i2;obtain⟨t9,t10,t11,hf⟩:=fin _ (Ac T0 λk=>QV (v2 / 2 ^ k) 1==1) s8;refine⟨.sh (.lst ds),.sh (aN (k0.filter λk=>QV (v2 / 2 ^ k) 1==1)),t9,t10,t11,?_⟩
  .have hs:=src k0
   generalize D.lst ((dI xs).map D.int)=NI at *;generalize D.lst (xs.map fr)=XF at *;generalize aO w=WD at *;generalize aN (k0.filter λk=>QV (v2 / 2 ^ k) 1==1)=KF at *;generalize aN k0=KS at *;unfold LB;refine Eq.trans ?_ hf;open_line with[hv',i0,hb',i1,gt,hs,hbit]
 .have gt:yO (.int v1) (.int 0)=.ok (.bl false):=by
   show au.ok (D.bl (decide (v1 > 0)))=_;rw[decide_eq_false g]
  obtain⟨t9,t10,t11,hf⟩:=fin _ T0 s8;refine⟨.sh (.lst ds),.sh (aN k0),t9,t10,t11,?_⟩;generalize D.lst ((dI xs).map D.int)=NI at *;generalize D.lst (xs.map fr)=XF at *;generalize aO w=WD at *;generalize aN k0=KS at *;unfold LB;refine Eq.trans ?_ hf;open_line with[hv',i0,hb',i1,gt]
end
def Ka:IM=(ao (aF 1 (aq (af (ae 0) ax) c6))
 (ao (aF 2 (aq (af (ae 0) ax) bG))
 (ao (aF 3 (aq (af (ae 2) ax) f9))
 (ao (aF 4 (aq (af (ae 1) (af (ae 2) (af (ae 3) (af (aq ax bO) ax)))) bR))
 (ao (cH (aa (ae 4) (dC (.non)) ia)
 (ao (aT (dC (.bl false)))
 aj)
 aj)
 (ao (aF 5 (aq (af (ae 1) (af (bK 1 [] (ff (ae 2)) (br 0) mYes (aq (af (aa (dC (.int 2)) (aa (ae 0) (dC (.int 0)) aC) aW) (af (aa (ae 0) (dC (.int 1)) aC) ax)) bx)) (af (aq ax bO) ax))) dM))
 (ao (cH (jP (aa (ae 5) (dC (.non)) ia) (aa (aa (aa (ae 5) (dC (.int 0)) aC) (dC (.int 2329089562800)) aW) (aa (aa (dC (.int 2)) (ae 4) aW) (aa (ae 5) (dC (.int 1)) aC) aW) jh))
 (ao (aT (dC (.bl false)))
 aj)
 aj)
 (ao (iR (aa (aq (af (ae 0) ax) aJ) (dC (.int 1)) aC) (br 6) LB)
 (ao (aT (dC (.bl true)))
 aj))))))))):=rfl
def Ey{i j:Int}(hi:i.natAbs<nU)(hj:j.natAbs<nU):aW (.int i) (.int j)=.ok (.int (i*j)):=if_pos (fA hi hj)
def G5{i:Int}(h:i.natAbs<jX):i.natAbs<nU:=Pm h de
def Hk{w:gB}{xs:List bT}(W:cD w)(X:Ib w xs):f9 [.lst (xs.map fr)]=.ok (.lst ((dI xs).map D.int)):=by
 have t14:=W.t14;have hl:=X.r.l;have hc:∀a,cC 2 [1] (cB [0,1]) mYes (aa (ae 0) (aa (ae 2) (ae 1) jz) aW) [a,.sh (.int 2329089562800)] (xs.map fr)=.ok (.lst ((dI xs).map D.int)):=λa=>by
  rw[K51.comp_pick fr (λx=>some (.int (x.1*(MM / x.2)))) (by omega)]
  .rw[mC];unfold dI;rw[Qd];rfl
  .intro x hx
   obtain⟨f,n⟩:=X.r.f x hx;have p:=f.q1;have hd:jz (.int 2329089562800) (.int x.2)=.ok (.int (MM / x.2)):=by
    have e:Int.fdiv MM x.2=MM / x.2:=S0 _ (by omega);rw[←e];exact zI (a:=2329089562800) (ot (by omega) (Pm (show(2329089562800:Int).natAbs<jX by decide) p0))
   have q1:MM / x.2<=MM:=TV _ (by decide);have q0:0<=MM / x.2:=Sn (by decide) (by omega);have m0:MM.natAbs<jX:=by decide
   have hm:=Ey (i:=x.1) (j:=MM / x.2) (G5 f.pN) (G5 (by omega));refine⟨[.sh (.int x.1),.sh (.int x.2),.sh (.int 2329089562800)],rfl,.inr ⟨_,rfl,rfl,?_⟩⟩;open_line with[hd,hm]
 open_line with[f9,pe,hc]
def EJ(ns:List Int)(hn:ns.length<=63):m_law [.lst (ns.map D.int)]=.ok (.bl true):=by
 obtain⟨w,k1,k2,hc,hl,h3,hw,W⟩:=Cod.web_cells hn;have t14:=W.t14;obtain⟨xs,hr,r2,r3⟩:=Gj hc (by omega);have hxl:xs.length=w.ts.length:=by omega
 have X:=Jz hxl r3;have X2:=Jy hxl r3;have T0:iL w []:=⟨RU.nil,λk hk=>(nomatch hk)⟩
 have hi:=Hk W X;obtain⟨v,hv,I0⟩:=uE W X T0 λv h=>G5 (vX W X v h);have hv:bR [aO w,.lst (xs.map fr),.lst ((dI xs).map D.int),.lst []]=.ok (.int v):=hv;obtain⟨A,hA,lA,b1,b2,eA⟩:=xA W X2 T0;have hA:dM [aO w,.lst ((xs.map λx=>cz (2*x.1) x.2).map fr),.lst []]=.ok (fr A):=hA;have e2:=eA (2*v) (by rw[AM r3];exact I0.twice);have bv:=vX W X v I0;have b2v:(2*v).natAbs<nU:=by
  have h:=vX W X2 (2*v) (by rw[AM r3];exact I0.twice);exact G5 h
 have c2:∀B,cC 1 [] (br 0) mYes (aq (af (aa (dC (.int 2)) (aa (ae 0) (dC (.int 0)) aC) aW) (af (aa (ae 0) (dC (.int 1)) aC) ax)) bx) B (xs.map fr)=.ok (.lst ((xs.map λx=>cz (2*x.1) x.2).map fr)):=λB=>by
  rw[K51.comp_pick fr (λx=>some (fr (cz (2*x.1) x.2))) (by omega)]
  .rw[mC,Qd];rfl
  .intro x hx
   obtain⟨f,n,_,s⟩:=r3 x hx;have p:=f.q1;have q:=f.qN;have hN:(1000000000000000000000:Int)<(jX:Int):=by decide
   have hm:=Ey (i:=2) (j:=x.1) (G5 (by omega)) (G5 f.pN);have hlo:bx [.int (2*x.1),.int x.2]=_:=Cod.low_ok (a:=2*x.1) (b:=x.2) (by omega) (Pm (show(2*x.1).natAbs<jX by omega) p0) (Pm q p0);have j0:aC (fr x) (.int 0)=.ok (.int x.1):=rfl;have j1:aC (fr x) (.int 1)=.ok (.int x.2):=rfl;refine⟨[.sh (fr x)],rfl,.inr ⟨_,rfl,rfl,?_⟩⟩;open_line with[j0,j1,hm,hlo]
 have ew:c6=Cod.c6:=rfl;have ec:aJ=Cod.aJ:=rfl;have i1:aC (.tup [.lst (k1.map D.int),.lst (k2.map D.int)]) (.int 1)=.ok (.lst (k2.map D.int)):=rfl;have j0:aC (fr A) (.int 0)=.ok (.int A.1):=rfl;have j1:aC (fr A) (.int 1)=.ok (.int A.2):=rfl;have n1:ia (.int v) .non=.ok (.bl false):=rfl;have n2:ia (fr A) .non=.ok (.bl false):=rfl;have m1:aW (.int A.1) (.int 2329089562800)=.ok (.int (A.1*MM)):=Ey (j:=MM) b1 (G5 (by decide));have m2:aW (.int 2) (.int v)=.ok (.int (2*v)):=Ey (G5 (by decide)) (G5 bv);have m3:aW (.int (2*v)) (.int A.2)=.ok (.int (2*v*A.2)):=Ey b2v b2;have q:(A.1*MM==2*v*A.2)=true:=by rw[e2];exact beq_self_eq_true _
 obtain⟨ρ',hf,t6,t7,t8,t9,t10,t11,rfl⟩:=A2 (tg:=br 6) (body:=LB) (ds:=k2.map D.int) (λρ=>∃t6 t7 t8 t9 t10 t11,ρ=[.sh (.lst (ns.map D.int)),.sh (aO w),.sh (.lst (xs.map fr)),.sh (.lst ((dI xs).map D.int)),.sh (.int v),.sh (fr A),t6,t7,t8,t9,t10,t11]) (by
  rintro d hd ρ ⟨t6,t7,t8,t9,t10,t11,rfl⟩;obtain⟨c,_,rfl⟩:=Pw.mp hd;obtain⟨u7,u8,u9,u10,u11,h⟩:=FZ W X (S:=.lst (ns.map D.int)) (t:=fr A) (c:=c) I0 (s7:=t7) (s8:=t8) (s9:=t9) (s10:=t10) (s11:=t11);exact⟨_,_,rfl,h,_,_,_,_,_,_,rfl⟩) [.sh (.lst (ns.map D.int)),.sh (aO w),.sh (.lst (xs.map fr)),.sh (.lst ((dI xs).map D.int)),.sh (.int v),.sh (fr A),.no,.no,.no,.no,.no,.no] ⟨_,_,_,_,_,_,rfl⟩
 unfold m_law;rw[Ka];have sx:uB (.lst (xs.map fr))=.ok (xs.map fr):=rfl;generalize D.lst ((dI xs).map D.int)=NI at *;generalize aO w=WD at *;open_line with[ew,ec,hw,hr,hi,hv,n1,c2,sx,hA,n2,j0,j1,m1,m2,m3,q,hc,i1,hf]
end K40
namespace K40
open PySem L2 DL
def sp_law(K:Ph)(H:Hp)(a:Pk)(ns:List Int)(hl:ns.length<=63)(hS:fk K H a (ns.map V.int)):spD K 1 m_law [.ref a] H (λv _=>v=.bl true) λ_ _ _=>False:=by
 refine⟨rfl,H,[.lst (ns.map D.int)],aD.refl _,Reps.cons (aE.mpr ⟨a,_,rfl,hS,vj ns⟩) Reps.nil,?_⟩;rw[EJ ns hl];exact λv H' Ha' _ r=>aH.mp r
end K40
structure PySem.W.Fast:Prop where(tw5859399483147083928 tw14998441596031783659 tw14010472391769489108 tw13299499805140770225 tw2708128876639653604 tw6103119453891546427 tw1188335507622242152 tw3906183934590027482 tw9400186728224928340 tw4892142741705697709 tw7575168338612146343 tw3111406032045433844 tw8883381870726849687 tw16209738938217071686 tw5668651349846149767 tw13581044098647169772 tw5367111326556032069 tw8993445518850056447 tw4265119890850405851 tw8650853217492078984 tw1490175565908402987 tw10259770371275628322 tw862037143504098909 tw14915567033579663783 tw2052610870800152245 tw6510763389740949310 tw6547958013056481490 tw8340746957743803611 tw1208509876181429608 tw7827552921837160980 tw8534309252735725652 tw1510107646848090904 tw5919827400641265742 tw14077121222610708238 tw2293569316125172330 tw9574877751708193162 tw5355084608175219876 tw16855728775999574456 tw17085505614839834941 tw12241011664146527745 tw14561000159433160374 tw3537113152200763728 tw3741248989570536814 tw2841865082868616225 tw14380424332504495203 tw17035475340208586276 tw4230259684231414983 tw11983042024398454661 tw7879835357282280416 tw2685210369393679130 tw16164850126261950591 tw6116874905385007302 tw14194324410624862827 tw3823489259583113488 tw13720848204220398060 tw15946748317113260410 tw17197041321468031659 tw12147999754124412177 tw5760507731752753658 tw2141714170403307755 tw10951207724764100755 tw7919703521260197394 tw2832327857897332053 tw17851835309553408107 tw7137111351150558896 tw15242703961110139323 tw8770757785931878413 tw832566411116083482 tw2897535065080887405 tw885166515168684220 tw15762923926906149862 tw11262595283570702089 tw3386438441658380825 tw7538658002156692140 tw4825603017289618738 tw9789223050676385272 tw8228903601150074125 tw11936447498795648698 tw16884152694423764603 tw5428073774562077709 tw6102057327980362493 tw1381033285563069657 tw965140083891135939 tw13129960132425298614 tw17726291609758481128 tw3979820216415839657 tw12471120921252147122 tw4442168373747134800 tw12657896548716651347 tw11046715325769254472 tw16106909586518666378 tw1578109226190866160 tw6157421649793547733 tw6844164068011324599 tw16310999642754237247 tw4843525481441861427 tw7731911503523029617 tw15553630191543169669 tw9548350887331105555 tw3711485781449028681 tw8256527313583510791 tw8485599638738792405 tw10834667419146850901 tw14549626690939511427 tw1062704063037571716 tw1248618643850948586 tw11537143298865100488 tw15042941852651012802 tw11570497399441462114 tw14977604220094298881 tw1516376351455316333 tw18322783573300829364 tw9192126462446443382 tw3324845317107712508 tw6680562198669506796 tw6979184023291289367 tw16614787374877124438 tw3826312862660391472 tw15453228776613324293 tw16322826976254167245 tw17745832206861122402 tw6337560205144670458 tw1604503042319947072 tw9858003565674212407 tw10306290172992985345 tw9842828679929302994 tw17061114336145616433 tw16665139706239670420 tw15204785497883510639 tw17987095144855119387 tw9350758851192736413 tw10414926142251689062 tw12358343045386043143 tw5262682398118688264:True)
open PySem PySem.W PyProof.Rows
set_option maxRecDepth 100000 in
set_option maxHeartbeats 0 in
theorem PySem.Challenge.cw_farthestcut_k40_whole_most_by_all_sides_holds : PySem.Challenge.rw_farthestcut_k40_whole_most_by_all_sides.Holds := by
 w_on;o_law;k_head;(case hw=>w_witness2)
 k_fill
 refine L2.walk_ofK (l:=PySem.Challenge.rw_farthestcut_k40_whole_most_by_all_sides) (n:=63) (k:=11) (x:="_law_script") (CX:=L2.CX0) (sp:=fun K=>DL.spD K 1 K40.m_law) ?I rfl (by decide) rfl ⟨rfl,by decide,by decide,rfl⟩ (fun w h Y=>W.km_in_of Y) (fun w h Y=>DL.tabsStart_mk (W.km_in_of Y) (W.km_tabs_of Y) (by kernel_rfl) (by kernel_rfl)) ?F ?S ?C
 case S=>exact fun K H a ns hl _ hS=>K40.sp_law K H a ns hl hS
 case C=>exact fun _ _ _ _ h=>h
 case I=>rfl
 case F =>
  intro w mg fa h KX G hmg;have T:∃ t:K40.Adr,K40.Txt (L2.KOf KX) mg t/\mg "law"=some (.ref (t.A 51))/\∃ kV doc pm an cdv ct,t.Q 51=Sd "law" "law" (L2.defArgs (K40.top 86)) (L2.defBody (K40.top 86)) (L2.defScope (K40.top 86)) .none kV doc pm an cdv ct:=by
   dsimp only[L2.KOf];refine' K40.txt_wr (K40.txt_mk KX G ?QS ?_ ?_ ?_ ?_ ?_ ?_ ?_ ?_ ?_ ?_ ?_ ?_ ?_ ?_ ?_ ?_ ?_ ?_ ?_ ?_ ?_ ?_ ?_ ?_ ?_ ?_ ?_ ?_ ?_ ?lx_most_flow ?_ ?_ ?_ ?_ ?_ ?_ ?_ ?_ ?_ ?_ ?_ ?_ ?_ ?_ ?_ ?_ ?_ ?_ ?_ ?_ ?_ ?_ ?_ ?_ ?_ ?_ ?_ ?_ ?_ ?_ ?_ ?_ ?_)
   case' QS=>iterate 52 refine DL.QAs.cons ⟨by k_is,by k_is,_,_,_,_,_,_,_,_,_,by k_is,by k_is⟩ ?_
   case QS=>trivial
   case lx_most_flow=>exact DL.lamAt_mk (by kernel_rfl) (by kernel_rfl)
   all_goals try first |k_is |k_exc |rfl
   exact⟨_,_,_,_,[.int 0,.int 1],rfl,.cons ⟨_,rfl⟩ (.cons ⟨_,rfl⟩ (.nil)),by decide,fun H=>DL.Reps.cons (DL.ri _) (DL.Reps.cons (DL.ri _) (DL.Reps.nil))⟩;exact⟨_,_,_,_,[.str "one",.str "both"],rfl,.cons ⟨_,rfl⟩ (.cons ⟨_,rfl⟩ (.nil)),by decide,fun H=>DL.Reps.cons (DL.Rep.str_iff.mpr rfl) (DL.Reps.cons (DL.Rep.str_iff.mpr rfl) (DL.Reps.nil))⟩
  obtain⟨t,T,e0,kV,doc,pm,an,cdv,ct,ed⟩:=T;have e1:=hmg.symm.trans e0;cases e1;refine⟨t.Q 51,fun s u=>?_,fun base kb nb=>(K40.ok_law T).F⟩;rw[ed];exact .of_eq rfl
