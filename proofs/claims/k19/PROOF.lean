import PyProof.Rows.All
import Wide.All
import OpenK.AllK
import Wide.FinOn
import PyProof.EqAt
import PyProof.EqKinds
import PyProof.NeKinds
import PyProof.TupleCall
import PyProof.StrWalks
import PyProof.EnumMake
import PyProof.WalksEnum
import PyProof.ZipIter
import PyProof.Rows.ZipGen
import PyProof.Rows.SortWalk
import KE.KSortedM
import PyProof.StrLawsIdx
import PyProof.StrLawsNeg
import PyProof.ExcInit
import PyProof.InstStoreFacts
import PyProof.AttrMissHeap
import PyProof.FactsAll.enumerate
import PyProof.FactsAll.dict_1
import KE.KDictOf
import KE.KItemsList
import PyProof.ReprRoads
import PyProof.TupleIter
import PyProof.WalksMore
import PyProof.ExcClass2
import PyProof.Rows.MatchSeqLen
import PyProof.AttrMissSeq
import PyProof.FactsAll.zip_1
import KE.LcSums
import KE.KRevIter
import PyProof.DictWalks
import PyProof.DictItemsLoops
import KE.KPairComp
import KE.KDictText
import PyProof.FitsInt
import PySem.Challenge.RW_farthestcut_k19_values_at_once
open PySem renaming Value->Pw,Addr->Py,Shared->PF,starEach->PM,wpAny_bind->PX,Str->PY,mainGlobals->P8,Expr->Qc,model->Ql,Heap->Qo,wpAny->Qq,wpAny_pure->Qr,Program->Qw,compareOp->Qz,FuncData->QI,World->QK,PyData->QQ,Around->QV,swapsWith->QY,backTo->QZ,Stmt->Q1,sysModules->Q4,wpAny_truthy_bool->Q8,NameKind->Rc,wpAny_mono->Ro,mem_of_lookup->Rr,Env->Ru,wpAny_holding->RB,Keyword->RH,cLine->RI,keywordEach->RS,attributeBase->R4,codeAny->Ss,Scope->SH,holding->SN,backToKw->SS,ofString_length->Tp,ReadsAll->Ts,typeLookup->Tz,wpAny_loadPart_at->TL,Result->T8,intBits_le_iff->US,Reads->UT
open PySem.W renaming Frag->Px,mg_none_of->Q2,nsIn->Q9,kia_one->Rg,mg_of->R7,fnOf->Sq,keepIn->Td,kitx_dict->TX,methodObj->UM,kitx_list->UN,findIn->UO,codeIn->UP
open List renaming length_map->Pz,getElem?_set_ne->PB,getElem?_eq_some_iff->PH,getElem?_eq_getElem->PL,getElem?_map->PN,map_cons->PQ,mem_of_getElem?->PU,mem_cons_of_mem->PV,getElem?_set_self->PZ,getElem?_append_left->P0,getElem?_append_right->P6,all_eq_true->P7,mem_cons->P9,getElem?_replicate->Qb,replicate->Qd,mem_cons_self->Qf,size_toArray->Qi,length_cons->Qj,mem_map->Qp,length_append->Qs,length_replicate->Qy,map_append->QB,append_nil->QC,mem_append_right->QE,drop_eq_getElem_cons->QG,map_map->QH,mem_append->QJ,length_take->QO,mem_singleton->QP,getElem?_cons_succ->QU,nil_append->QX,map_nil->Q3,range->Q5,getElem?_set_self'->Q6,mem_append_left->Rl,nodup_cons->Rq,nodup_append->Rz,Nodup->RG,length_eq_zero_iff->RN,getElem?_cons_zero->RO,range_succ_eq_map->RW,length_set->RZ,any_cons->R5,drop_zero->R9,getElem_mem->Sb,drop_length->Sd,cons_append->Se,mem_or_eq_of_mem_set->Sf,map_congr_left->Sh,all_cons->Si,find?_cons->Sn,zip_cons_cons->Sr,length_singleton->Sy,mem_nil_iff->SA,sum_cons->SG,length_nil->SJ,getElem?_range->SK,nodup_iff_pairwise_ne->SU,length_range->SY,length->S0,append_assoc->S8,replicate_zero->Tt,replicate_succ->Tu,filterMap_cons->Tv,set_cons_zero->TF,set_cons_succ->TH,ext_getElem?->TN,lookup_cons->TU,range_succ->T3,of_mem_zip->T4,nodup_nil->Ua,mem_range->Ub,getElem?_take_of_lt->Uk,eq_of_mem_replicate->Ul,Pairwise->Um,filter_cons_of_pos->Uv,filter_cons_of_neg->Uw,find?_cons_of_pos->UC,find?_cons_of_neg->UD,filterMap_eq_map'->UE,all_map->UG,mem_of_mem_take->UZ
open Nat renaming lt_of_lt_of_le->PK,le_refl->P4,le_trans->Qh,lt_of_le_of_lt->Qu,ne_of_lt->QD,pow_le_pow_right->QW,lt_irrefl->RE,lt_succ_self->RM,zero_le->R8,zero_add->Te,sub_zero->Tf,lt_trans->Tg,le_of_lt->Th,not_lt_zero->Tn,pow_add->TY,add_zero->UB,repr->UU,pow_pos->UW,pow_lt_pow_right->UX,log2_lt->UY
open Or renaming inl->PR,inr->T9
open PySem.Heap renaming get?_push_of_some->P5,lt_size->Qk,get?_push_size->QR,SameBut->Tj,get?_update_other->UJ
open PySem.SeqAt renaming RcNeAt->Qa,EqAt->Qe,RcAt->Qm,ne_of_list_tuple->Ux
open Bool renaming and_eq_true->Qg,false_ne_true->Rk,not_false->RQ,not_true->R6,false_and->Sa,and_eq_false_iff->Sz,true_and->Tc,or_eq_true->T5,and_false->Ug,or_false->Up,false_or->Uq,and_self->Ur
open Int renaming gcd->Qn,fmod_eq_emod_of_nonneg->Q0,eq_ofNat_of_zero_le->Q7,natAbs_ediv_le_natAbs->Rh,mul_le_mul_of_nonneg_right->Rj,le_refl->RA,le_trans->RX,fmod_nonneg_of_pos->Sv,gcd_dvd_left->SD,mul_pos->SI,ediv_pos_of_pos_of_dvd->SV,toNat_natCast->S9,mul_ediv_cancel_left->Tb,mul_comm->Ti,ediv_nonneg->To,natCast_nonneg->TJ,fmod_lt_of_pos->TK,gcd_dvd_right->TQ,emod_eq_of_lt->TR,dvd_gcd_mul_iff_dvd_mul->T6,natAbs_mul->Uc,mul_assoc->Uo,gcd_comm->UH,one_mul->U0
open PySem.PassesOwn renaming never->Qt
open Ne renaming symm->Qx
open Option renaming some->QF,map_some->Rx,isSome_map->Ry,isSome_some->RU,isSome_none->RV,none->SX,isSome_iff_exists->Ta
open Sum renaming inr->QL,inl->SE
open PySem.Value renaming ref->QM,bool->Ra,none->Ri,str->Rm,int->Rn,builtin->Tx
open Option.some renaming inj->QN,injEq->Rb
open Rat renaming intCast_mul->QT,intCast_lt_intCast->Su,mul_lt_mul_right->Tr,intCast_add->T1
open PySem.NameKind renaming free->Rt
open PySem.PyData renaming shownAll->Rv,showable->Sk,shown->SQ,depth->SR,depthAll->T2
open PySem.F renaming type_list_append->RC,slot_list_append->RD,plainAttrs_list->RK,slot_dict_get->Tq,args_tuple_add_2->Ui,entry_tuple_add->Ut,args_dict_get_2->Uu,slot_tuple_add->Uy,entry_dict_get->Uz,typeOf_object_class->UL
open PySem.Builtin.Str renaming occurrences->RP
open True renaming intro->RT
open False renaming elim->RY
open PySem.Builtin renaming divisionGoesByPylong->R3
open PySem.Builtin.Slice renaming slicePlaces->Sg,sliceAdjust->SW,sliceApplied->Ue
open PySem.Builtin.Tuple renaming tupleExact->Sj
open ForInStep renaming yield->So
open PyProof.Rows renaming slot_tuple_getitem->Sx,callWith_type1->SO
open Array renaming length_toList->Tw,mem_toList_iff->U2
open PySem.SeqAt.EqAt renaming of_refs->TB,same->TZ
open PySem.Obj renaming mapSeq->TC
open PySem.Txt renaming slice_le->TM,join->T7,slice->Us
open PySem.Calls renaming Name_function_global->Ud,callWith_builtin->UK,evalArgs_plain->U1
open PySem.SeqAt.RcAt renaming lists_lengths->Uh
open PySem.Paired renaming length->Uj
open Nat.succ renaming inj->UA
open Iff renaming rfl->UI
open Sum.inr renaming inj->UQ
open String renaming length_append->UR
set_option compiler.extract_closed false
set_option bootstrap.genMatcherCode false
set_option Elab.async false
set_option linter.all false
set_option maxRecDepth 100000
set_option maxHeartbeats 4000000
noncomputable section
abbrev bi:=List PY
abbrev bm:=List Nat
namespace L2
open PySem PySem.Spec PyProof.Rows
abbrev dI:=Sum Int PY
def pH:dI->Pw->Bool
 |.inl k,v=>Value.isInt k v
 |.inr x,v=>Value.isStrOf x v
def N1(w:QK):dI->Int
 |.inl k=>hashInt k
 |.inr x=>hashStr w x
theorem cE:∀{k:dI}{v:Pw},pH k v=true->(∃i t,k=SE i/\v=Rn i t)∨(∃x t,k=QL x/\v=Rm x t)
 |.inl i,v,h=>by
  obtain⟨t,e⟩:=Value.isInt_shape (k:=i) (v:=v) h;exact .inl ⟨i,t,rfl,e⟩
 |.inr x,v,h=>by
  obtain⟨t,e⟩:=Value.isStrOf_shape (x:=x) (v:=v) h;exact .inr ⟨x,t,rfl,e⟩
def AB(i:Int)(t:Tok):pH (.inl i) (.int i t)=true:=by simp[pH,Value.isInt]
def AA(x:PY)(t:Tok):pH (.inr x) (.str x t)=true:=by simp[pH,Value.isStrOf]
def Jt(a b:Int):decide ((SE a:dI)=SE b)=(a==b):=by
 by_cases e:a=b
 .subst e;simp
 .have h:¬(SE a:dI)=SE b:=λq=>e (SE.inj q)
  rw[decide_eq_false h];exact(beq_eq_false_iff_ne.mpr e).symm
def Jq(a b:PY):decide ((QL a:dI)=QL b)=decide (a=b):=by
 by_cases e:a=b
 .subst e;simp
 .have h:¬(QL a:dI)=QL b:=λq=>e (UQ q)
  rw[decide_eq_false h,decide_eq_false e]
def Js(a:Int)(b:PY):decide ((SE a:dI)=QL b)=false:=decide_eq_false (λq=>nomatch q)
def Jr(a:PY)(b:Int):decide ((QL a:dI)=SE b)=false:=decide_eq_false (λq=>nomatch q)
noncomputable def cI(prog:Qw) (w:QK):PySem.KeyKind prog w dI where
 is:=pH
 hash:=N1 w
 inj:=λv a b ha hb=>by
  rcases cE ha with⟨i,t,rfl,rfl⟩|⟨x,t,rfl,rfl⟩
  .rcases cE hb with⟨j,u,rfl,e⟩|⟨y,u,rfl,e⟩
   .injection e with e1 _;rw[e1]
   .exact nomatch e
  .rcases cE hb with⟨j,u,rfl,e⟩|⟨y,u,rfl,e⟩
   .exact nomatch e
   .injection e with e1 _;rw[e1]
 byValue:=λk v h=>by
  rcases cE h with⟨i,t,rfl,rfl⟩|⟨x,t,rfl,rfl⟩<;>rfl
 pyHash:=λhv h=>by
  rcases cE hv with⟨i,t,rfl,rfl⟩|⟨x,t,rfl,rfl⟩
  .exact wpAny_pyHash_int h
  .exact wpAny_pyHash_str h
 eqBool:=λhu hv h=>by
  rcases cE hu with⟨i,t,rfl,rfl⟩|⟨x,t,rfl,rfl⟩
  .rcases cE hv with⟨j,u,rfl,rfl⟩|⟨y,u,rfl,rfl⟩
   .rw[Jt]at h;exact wpAny_eqBool_int h
   .rw[Js]at h;exact Qe.int_str i t y u _ _ _ _ h
  .rcases cE hv with⟨j,u,rfl,rfl⟩|⟨y,u,rfl,rfl⟩
   .rw[Jr]at h;exact Qe.str_int x t j u _ _ _ _ h
   .rw[Jq]at h;exact wpAny_eqBool_str h
 «strs»:=λk x t v h=>by
  rcases cE h with⟨i,u,rfl,e⟩|⟨y,u,rfl,e⟩
  .exact nomatch e
  .injection e with e1 _
   subst e1;cases v<;>rfl
def vK(prog:Qw)(w:QK)(i:Int)(t:Tok):(cI prog w).is (.inl i) (.int i t)=true:=AB i t
def vJ(prog:Qw)(w:QK)(x:PY)(t:Tok):(cI prog w).is (.inr x) (.str x t)=true:=AA x t
inductive V where
 |non|bl (b:Bool)|int (i:Int)|str (x:PY)|byt (b:Array UInt8)|flt (b:UInt64)|ref (a:Py)|ty (n:String)
 deriving DecidableEq
abbrev ad:=List V
noncomputable def bo:V->Pw->Prop
 |.non,u=>u=Ri
 |.bl b,u=>u=Ra b
 |.int i,u=>∃t,u=Rn i t
 |.str x,u=>∃t,u=Rm x t
 |.byt b,u=>∃t,u=Value.bytes b t
 |.flt b,u=>∃t,u=Value.float b t
 |.ref a,u=>u=QM a
 |.ty n,u=>u=Value.type n
abbrev bG:ad->List Pw->Prop:=Paired bo
def bG.length{xs:ad}{us:List Pw}(r:bG xs us):xs.length=us.length:=Uj r
theorem bG.get:∀{xs:ad}{us:List Pw}{i:Nat}{x:V},bG xs us->xs[i]?=some x->∃u,us[i]?=some u/\bo x u
 |_,_,_,_,.nil,e=>by simp at e
 |_,_,0,_,.cons r _,e=>by simp at e;subst e;exact⟨_,rfl,r⟩
 |_,_,i+1,x,.cons _ t,e=>by
  obtain⟨u,h1,h2⟩:=bG.get (i:=i) (x:=x) t (by simpa using e);exact⟨u,by simpa using h1,h2⟩
theorem bG.set{x:V}{u:Pw}(r:bo x u):∀{xs:ad}{us:List Pw}(i:Nat),bG xs us->bG (xs.set i x) (us.set i u)
 |_,_,_,.nil=>.nil
 |_,_,0,.cons _ t=>.cons r t
 |_,_,i+1,.cons q t=>.cons q (bG.set r i t)
theorem bG.append:∀{xs ys:ad}{us ws:List Pw},bG xs us->bG ys ws->bG (xs++ys) (us++ws)
 |_,_,_,_,.nil,s=>s
 |_,_,_,_,.cons r t,s=>.cons r (bG.append t s)
theorem bG.take:∀{xs:ad}{us:List Pw}(n:Nat),bG xs us->bG (xs.take n) (us.take n)
 |_,_,0,_=>.nil
 |_,_,_+1,.nil=>.nil
 |_,_,n+1,.cons r t=>.cons r (bG.take n t)
theorem bG.drop:∀{xs:ad}{us:List Pw}(n:Nat),bG xs us->bG (xs.drop n) (us.drop n)
 |_,_,0,r=>r
 |_,_,_+1,.nil=>.nil
 |_,_,n+1,.cons _ t=>bG.drop n t
def rN:Option V->Option Pw->Prop
 |some v,some u=>bo v u
 |none,none=>True
 |_,_=>False
def KV{κ:Type}:List (κ×V)->List (κ×Pw)->Prop:=Paired λ(p:κ×V) (q:κ×Pw)=>p.1=q.1/\bo p.2 q.2
def kV:dI->V
 |.inl i=>.int i
 |.inr x=>.str x
inductive HO where
 |lst (xs:ad)
 |tup (xs:ad)
 |dK (kvs:List (dI×V))|dT (kvs:List (List dI×V))
 |set (S:Int->Bool) (n:Nat)
 |ins (C dx:Py) (fs:List (PY×V))
 |own (x:Py)
 |xd (fs:List (PY×V))
 |met (f x:Py)
 |rng (lo hi:Int)
 |frz (o:Obj) (u:HO)
 |tbl (ps:Array Pw)
 |ext (φ:Qo->Prop)
abbrev Hp:=Py->Option HO
def upd(H:Hp)(a:Py)(o:HO):Hp:=λb=>if b=a then some o else H b
def aG{H:Hp}{a:Py}{o:HO}:upd H a o a=some o:=by unfold upd;rw[if_pos rfl]
def au{H:Hp}{a b:Py}{o:HO}(h:b≠a):upd H a o b=H b:=by unfold upd;rw[if_neg h]
def Mf{H:Hp}{a b:Py}{o u:HO}(h:H a=some o)(h':H b=some u)(d:o≠u):a≠b:=by
 intro e;subst e;rw[h]at h';exact d (QN h')
def bB{H:Hp}{a b:Py}{o:HO}(h:H a=some o)(h':H b=none):a≠b:=by
 intro e;subst e;rw[h]at h';cases h'
section
variable (P:Qw) (w:QK)
noncomputable def cv(H:Hp) (h:Qo) (a:Py):HO->Prop
 |.lst xs=>xs.length<=sizeLine/\∃(its:List Pw) (n:Nat),bG xs its/\h.get? a=some { cls:=.type "list",data:=.seq its.toArray n }
 |.tup xs=>xs.length<=sizeLine/\∃its:List Pw,bG xs its/\IsTup h a its.toArray
 |.dK kvs=>kvs.length<=sizeLine/\(a==Q4)=false/\∃vs,KV kvs vs/\h.DictOf (cI P w) a vs
 |.dT kvs=>kvs.length<=sizeLine/\(a==Q4)=false/\∃xs:List (List dI×Py×Pw),
   Paired (λ(p:List dI×V) (q:List dI×Py×Pw)=>p.1=q.1/\H q.2.1=some (.tup (p.1.map kV))/\bo p.2 q.2.2) kvs xs /\
   ∃o es ep,h.get? a=some o/\o.ExactDict/\o.data=.dict es ep/\es.toList=xs.map (entryOfKey (tupleKind (cI P w)))/\(xs.map (·.1)).Nodup
 |.set S n=>h.SetOf (intKind P w) a S n
 |.ins C dx fs=>H dx=some (.own a)/\fs.length<=1000/\dx≠a/\h.get? a=some (W.instObj C dx) /\
   ∃mA,h.Ns1 dx mA/\(∀f,rN (fs.lookup f) (mA f))/\PySem.Within mA (fs.map (·.1))
 |.own _=>∃o,h.get? a=some o
 |.xd fs=>∃mA,h.Ns1 a mA/\∀f,rN (fs.lookup f) (mA f)
 |.rng lo hi=>∃t u v,h.get? a=some { cls:=.type "range",data:=.fields #[.int lo t,.int hi u,.int 1 v] }
 |.frz o u=>h.get? a=some o/\cv H h a u
 |.tbl ps=>h.get? a=some { cls:=.none,data:=.fields ps }
 |.met f x=>h.get? a=some (UM (.ref f) (.ref x))
 |.ext φ=>φ h/\(∃o,h.get? a=some o)/\∀h1 h2:Qo,φ h1->(∀o,h1.get? a=some o->h2.get? a=some o)->φ h2
def lj(H:Hp)(h:Qo):Prop:=∀a o,H a=some o->cv P w H h a o
end
section
variable {P:Qw}{w:QK}{H H':Hp}{h h':Qo}{a:Py}{o:HO}
def cv.lt(x:cv P w H h a o):a<h.objs.size:=by
 cases o with|lst xs=>obtain⟨_,_,_,_,e⟩:=x;exact Qk e|tup xs=>obtain⟨_,_,_,p⟩:=x;exact p.lt|dK kvs|dT kvs=>obtain⟨_,_,_,_,o,_,_,e,_⟩:=x;exact Qk e|set S n=>obtain⟨o,_,_,_,e,_⟩:=x;exact Qk e|ins C dx fs=>obtain⟨_,_,_,e,_⟩:=x;exact Qk e|own y=>obtain⟨_,e⟩:=x;exact Qk e|xd fs=>obtain⟨_,⟨_,_,_,e,_⟩,_⟩:=x;exact Qk e|rng lo hi=>obtain⟨_,_,_,e⟩:=x;exact Qk e|frz ob u=>obtain⟨e,_⟩:=x;exact Qk e|tbl ps|met f y=>exact Qk (show h.get? a=some _ from x)|ext φ=>obtain⟨_,⟨_,e⟩,_⟩:=x;exact Qk e
theorem jM{α β:Type}{F G:α->β->Prop}:∀{lf:List α}{lh:List β},Paired F lf lh->(∀a b,F a b->G a b)->Paired G lf lh
 |_,_,.nil,_=>.nil
 |_,_,.cons r t,f=>.cons (f _ _ r) (jM t f)
def cv.stay(x:cv P w H h a o)(k:∀b u,(b=a∨H b=some (.own a))->h.get? b=some u->h'.get? b=some u)
  (ho:∀b,H b=some (.own a)->H' b=some (.own a))(ht:∀b xs,H b=some (.tup xs)->H' b=some (.tup xs)):cv P w H' h' a o:=by
 induction o with
 |lst xs=>obtain⟨z,its,n,r,e⟩:=x;exact⟨z,its,n,r,k _ _ (.inl rfl) e⟩|tup xs=>obtain⟨z,its,r,ob,e,c⟩:=x;exact⟨z,its,r,ob,k _ _ (.inl rfl) e,c⟩|dK kvs=>obtain⟨z,y,vs,r,ob,es,ep,e,c⟩:=x;exact⟨z,y,vs,r,ob,es,ep,k _ _ (.inl rfl) e,c⟩
 |dT kvs=>
  obtain⟨z,y,xs,r,ob,es,ep,e,c⟩:=x;exact⟨z,y,xs,jM r λp q z=>⟨z.1,ht _ _ z.2.1,z.2.2⟩,ob,es,ep,k _ _ (.inl rfl) e,c⟩
 |set S n=>obtain⟨ob,es,ep,t,e,c⟩:=x;exact⟨ob,es,ep,t,k _ _ (.inl rfl) e,c⟩
 |ins C dx fs=>
  obtain⟨d,z,ne,e,mA,⟨od,es,ep,e2,c⟩,r⟩:=x;exact⟨ho _ d,z,ne,k _ _ (.inl rfl) e,mA,⟨od,es,ep,k _ _ (.inr d) e2,c⟩,r⟩
 |own y=>obtain⟨ob,e⟩:=x;exact⟨ob,k _ _ (.inl rfl) e⟩|xd fs=>obtain⟨mA,⟨od,es,ep,e,c⟩,r⟩:=x;exact⟨mA,⟨od,es,ep,k _ _ (.inl rfl) e,c⟩,r⟩|rng lo hi=>obtain⟨t,u,v,e⟩:=x;exact⟨t,u,v,k _ _ (.inl rfl) e⟩|frz ob u ih=>obtain⟨e,q⟩:=x;exact⟨k _ _ (.inl rfl) e,ih q⟩
 |tbl ps=>
  have e:h.get? a=some { cls:=.none,data:=.fields ps }:=x;show h'.get? a=some { cls:=.none,data:=.fields ps };exact k a _ (.inl rfl) e
 |met f y=>
  have e:h.get? a=some (UM (.ref f) (.ref y)):=x;show h'.get? a=some (UM (.ref f) (.ref y));exact k a _ (.inl rfl) e
 |ext φ=>obtain⟨p,⟨o,e⟩,st⟩:=x;exact⟨st _ _ p λo q=>k _ _ (.inl rfl) q,⟨o,k _ _ (.inl rfl) e⟩,st⟩
def lj.lt(x:lj P w H h)(e:H a=some o):a<h.objs.size:=(x a o e).lt
def lj.fresh(x:lj P w H h)(e:h.objs.size<=a):H a=none:=by
 cases q:H a with|none=>rfl|some u=>exact absurd (PK (x.lt q) e) (RE _)
def lj.kept(x:lj P w H h)(k:∀b u,h.get? b=some u->h'.get? b=some u):lj P w H h':=λa o e=>
 (x a o e).stay (λb u _ q=>k b u q) (λ_ q=>q) λ_ _ q=>q
def lj.laid(x:lj P w H h)(k:∀b u,h.get? b=some u->h'.get? b=some u)(hp:h.objs.size<=a)(new:cv P w (upd H a o) h' a o):lj P w (upd H a o) h':=λb u e=>by
 have hn:=x.fresh hp
 by_cases hb:b=a
 .subst hb;rw[aG]at e;cases e;exact new
 .rw[au hb]at e
  exact(x b u e).stay (λc v _ q=>k c v q) (λc q=>by rw[au (bB q hn)];exact q) λc xs q=>by rw[au (bB q hn)];exact q
end
def Rd(H:Hp)(a:Py)(u:HO):Prop:=H a=some u∨∃o,H a=some (.frz o u)
def Rd.ok{P:Qw}{w:QK}{H:Hp}{h:Qo}{a:Py}{u:HO}(r:Rd H a u)(x:lj P w H h):cv P w H h a u:=by
 rcases r with r|⟨o,r⟩
 .exact x a u r
 .obtain⟨_,q⟩:=x a _ r
  exact q
def Ng:Option HO->Prop
 |some (.lst _)=>True
 |some (.dK _)=>True
 |some (.dT _)=>True
 |some (.set _ _)=>True
 |some (.ins _ _ _)=>True
 |some (.ext _)=>True
 |_=>False
section
variable {P:Qw}{w:QK}{H:Hp}{h h':Qo}{x e:Py}{o':HO}
def lj.write(ok:lj P w H h)(mu:Ng (H x))(he:e=x∨H e=some (.own x))(k:∀b u,b≠e->h.get? b=some u->h'.get? b=some u)(heo:∃u,h'.get? e=some u)
  (new:cv P w (upd H x o') h' x o'):lj P w (upd H x o') h':=λb u q=>by
 have nown:∀c y,H c=some (.own y)->c≠x:=λc y r z=>by subst z;rw[r]at mu;exact mu
 have ntup:∀c xs,H c=some (.tup xs)->c≠x:=λc xs r z=>by subst z;rw[r]at mu;exact mu
 by_cases hb:b=x
 .subst hb;rw[aG]at q;cases q;exact new
 .rw[au hb]at q
  by_cases hbe:b=e
  .have q':H b=some (.own x):=by
    rcases he with z|z
    .exact absurd (hbe.trans z) hb
    .rw[hbe];exact z
   rw[q]at q';cases q';obtain⟨v,hv⟩:=heo;exact⟨v,by rw[hbe];exact hv⟩
  .refine(ok b u q).stay (λc v hc r=>k c v ?_ r) (λc r=>by rw[au (nown c b r)];exact r) λc xs r=>by rw[au (ntup c xs r)];exact r
   rcases hc with rfl|hc
   .exact hbe
   .rintro rfl
    rcases he with z|z
    .exact nown c b hc z
    .rw[hc]at z;cases z;exact hb rfl
end
structure Un (fs ex:List Py) (H H':Hp) (h h':Qo):Prop where
 keep:∀b o,h.get? b=some o->H b=none->b∉fs->b∉ex->h'.get? b=some o
 slot:∀b o,h.get? b=some o->H b=none->b∈fs->b∉ex->∃sl,h'.get? b=some { o with slots:=sl }
 free:∀b o,h.get? b=some o->H b=none->b∉ex->H' b=none
 there:∀b o,h.get? b=some o->b∉ex->∃o',h'.get? b=some o'
 tups:∀b xs,H b=some (.tup xs)->H' b=some (.tup xs)
 frzs:∀b o u,H b=some (.frz o u)->H' b=some (.frz o u)
 tbls:∀b ps,H b=some (.tbl ps)->∃more,H' b=some (.tbl (ps++more))
section
variable {fs fs' ex ex':List Py}{H H1 H2:Hp}{h h1 h2 h':Qo}{a x e:Py}{o:HO}
def Un.any(u:Un fs ex H H1 h h1){b:Py}{ob:Obj}(q:h.get? b=some ob)(n:H b=none)(hx:b∉ex):∃sl,h1.get? b=some { ob with slots:=sl }:=by
 by_cases hb:b∈fs
 .exact u.slot b ob q n hb hx
 .exact⟨ob.slots,u.keep b ob q n hb hx⟩
def Un.kept(k:∀b u,h.get? b=some u->h'.get? b=some u):Un fs ex H H h h' :=
 ⟨λb ob q _ _ _=>k b ob q,λb ob q _ _ _=>⟨ob.slots,k b ob q⟩,λ_ _ _ n _=>n,λb ob q _=>⟨ob,k b ob q⟩,λ_ _ q=>q,λ_ _ _ q=>q,λ_ ps q=>⟨#[],by rw[q];simp⟩⟩
def Un.refl:Un fs ex H H h h:=Un.kept λ_ _ q=>q
def Un.laid(k:∀b u,h.get? b=some u->h'.get? b=some u)(hp:h.objs.size<=a)(hn:H a=none):Un fs ex H (upd H a o) h h' where
 keep:=λb u q _ _ _=>k b u q
 slot:=λb u q _ _ _=>⟨u.slots,k b u q⟩
 free:=λb u q n _=>by rw[au (QD (PK (Qk q) hp))];exact n
 there:=λb u q _=>⟨u,k b u q⟩
 tups:=λb xs q=>by rw[au (bB q hn)];exact q
 frzs:=λb u xs q=>by rw[au (bB q hn)];exact q
 tbls:=λb ps q=>⟨#[],by rw[au (bB q hn),q];simp⟩
def Un.write(mu:Ng (H x))(he:e=x∨H e=some (.own x))(k:∀b u,b≠e->h.get? b=some u->h'.get? b=some u)(heo:∃u,h'.get? e=some u):Un fs ex H (upd H x o) h h':=by
 have hx:∀b,H b=none->b≠x:=λb n z=>by subst z;rw[n]at mu;exact mu
 have hb:∀b,H b=none->b≠e:=λb n z=>by
  subst z;rcases he with r|r
  .exact hx b n r
  .rw[n]at r;cases r
 have hm:∀b u,H b=some u->¬Ng (some u)->b≠x:=λb u q nm z=>by subst z;rw[q]at mu;exact nm mu
 refine⟨λb u q n _ _=>k b u (hb b n) q,λb u q n _ _=>⟨u.slots,k b u (hb b n) q⟩,λb u q n _=>by rw[au (hx b n)];exact n,λb u q _=>?_,
  λb xs q=>by rw[au (hm b _ q λz=>z)];exact q,λb u xs q=>by rw[au (hm b _ q λz=>z)];exact q,λb ps q=>⟨#[],by rw[au (hm b _ q λz=>z),q];simp⟩⟩
 by_cases hbe:b=e
 .subst hbe;exact heo
 .exact⟨u,k b u hbe q⟩
end
def Nn(h:Qo)(H:Hp):List Py:=(Q5 h.objs.size).filter λa=>(H a).isSome
def ur(h:Qo)(H:Hp):Qo:=W.hideAll h (Nn h H)
def AG(h:Qo)(H:Hp):(ur h H).objs.size=h.objs.size:=W.hideAll_size _ _
def C2{h:Qo}{H:Hp}{b:Py}{o:Obj}(e:h.get? b=some o)(n:H b=none):(ur h H).get? b=some o :=
 W.hideAll_get _ e λhm=>by
  have q:(H b).isSome=true:=(List.mem_filter.mp hm).2;rw[n]at q;simp at q
def Fq{h:Qo}{H:Hp}{b:Py}{o:Obj}(e:(ur h H).get? b=some o):h.get? b=some o/\H b=none:=by
 have e':h.get? b=some o:=W.of_hideAll (Nn h H) e;refine⟨e',?_⟩;cases q:H b with
 |none=>rfl
 |some x=>
  have hm:b∈Nn h H:=List.mem_filter.mpr ⟨Ub.mpr (Qk e'),by simp[q]⟩;have z:(ur h H).get? b=none:=W.hideAll_none (Nn h H) hm;rw[z]at e;cases e
structure Mod (K:Px) (mg:PY->Option Pw) (base:Qo):Prop where
 kin:K.In base
 glob:base.Ns P8 mg
 blt:∃mb,base.Ns builtinsNs mb/\∀x:PY,x≠"__name__"->mb x=bootBuiltins x
 nolimit:base.NoLimit
 sm:∃mm,base.Ns Q4 mm
structure Cx where
 prog:Qw
 w:QK
 K:Px
 mg:PY->Option Pw
 base:Qo
 A:QV
 N:bi
 sf:PF
 Ha:Hp
 env:Env
 outer:List Env
 stack:List Env
 ex:List Py
 fn:PY->Bool
 calm:Bool
 pn:List (Py×Obj)
 xe:Pw->PF->Prop
def A6(l:List Env):List Py:=l.filterMap (·.frame)
abbrev Cx.fs(X:Cx):List Py:=A6 X.outer
def wJ(sc:SH)(x:PY):Prop:=sc.names.lookup x=some .local ∨ sc.names.lookup x=some .cell∨sc.names.lookup x=some .free
def wM(sc:SH)(x:PY):Prop:=sc.names.lookup x=some .local ∨ sc.names.lookup x=some .cell
def Ou(env:Env)(h:Qo)(m:PY->Option Pw)(x:PY)(u:Pw):Prop :=
 (env.kindOf x=some .local /\ m x=some u)∨((env.kindOf x=some .cell∨env.kindOf x=some .free)/\∃c,env.cells.lookup x=some c/\h.IsCell c (some u))
structure Cx.Ok (X:Cx):Prop where
 mod:Mod X.K X.mg X.base
 kind:X.env.scope.kind=.function
 glob:X.env.globals=P8
 blt:X.env.builtins=builtinsNs
 above:X.sf.heap.objs.size<=X.env.locals
 inj:∀x y c,X.env.cells.lookup x=some c->X.env.cells.lookup y=some c->x=y
 has:∀x,(X.env.kindOf x=some .cell∨X.env.kindOf x=some .free)->∃c,X.env.cells.lookup x=some c
 cab:∀x c,X.fn x=true->X.env.cells.lookup x=some c->X.sf.heap.objs.size<=c
 hd:X.calm=true->X.A.handled=none
 frames:X.A.frames=some X.stack
 stk:X.stack=X.outer∨(X.stack=X.env::X.outer/\X.env.frame=some X.env.locals)
 exf:∀b∈X.ex,b≠X.env.locals/\∀x c,X.env.cells.lookup x=some c->c≠b
 bs:∀b o,X.base.get? b=some o->X.sf.heap.get? b=some o/\X.Ha b=none
 bsz:X.base.objs.size<=X.sf.heap.objs.size
 noex:∀b o,X.base.get? b=some o->b∉X.ex
 exfs:∀b∈X.ex,b∉X.fs
 funs:X.sf.heap.FunFrames X.base X.outer
 frf:∀b∈X.fs,X.Ha b=none
structure Inv (X:Cx) (π:List (Py×Obj)) (σ:List (Option V)) (H:Hp) (s:PF):Prop where
 ok:X.Ok
 os:s.os=X.sf.os
 bare:AllBare s.gens
 base:Un X.fs X.ex X.Ha H X.sf.heap s.heap
 loc:∃m,s.heap.Ns X.env.locals m/\∀(i:Nat) (x:PY) (v:V),X.N[i]?=some x->σ[i]?=some (some v)->wJ X.env.scope x->∃u,bo v u/\Ou X.env s.heap m x u
 cell:∀x c,X.env.cells.lookup x=some c->∃v,s.heap.IsCell c v
 free:H X.env.locals=none
 freeC:∀x c,X.env.cells.lookup x=some c->H c=none
 pin:∀p∈X.pn++π,s.heap.get? p.1=some p.2/\H p.1=none/\p.1≠X.env.locals/\p.1∉X.fs/\∀v,p.2.data≠.cell v
 hok:lj X.prog X.w H s.heap
 len:σ.length=X.N.length
section
variable {X:Cx}{π:List (Py×Obj)}{σ:List (Option V)}{H H':Hp}{s:PF}{h':Qo}
def Cx.Ok.nofr(ok:X.Ok){b:Py}{o:Obj}(e:X.base.get? b=some o):b∉X.fs:=λhb=>by
 have:=(ok.funs.mem hb).1;rw[e]at this;cases this
def Inv.bs(I:Inv X π σ H s):∀b o,X.base.get? b=some o->s.heap.get? b=some o/\H b=none:=λb o e=>
 ⟨I.base.keep b o (I.ok.bs b o e).1 (I.ok.bs b o e).2 (I.ok.nofr e) (I.ok.noex b o e),I.base.free b o (I.ok.bs b o e).1 (I.ok.bs b o e).2 (I.ok.noex b o e)⟩
def Inv.bk(I:Inv X π σ H s):∀b o,X.base.get? b=some o->s.heap.get? b=some o:=λb o e=>(I.bs b o e).1
def Inv.mod(I:Inv X π σ H s):Mod X.K X.mg X.base:=I.ok.mod
def Inv.kIn(I:Inv X π σ H s):X.K.In s.heap:=I.ok.mod.kin.keeps I.bk
def Inv.lt(I:Inv X π σ H s):X.env.locals<s.heap.objs.size:=let ⟨_,hn,_⟩:=I.loc;hn.lt
def Inv.sz(I:Inv X π σ H s):X.sf.heap.objs.size<=s.heap.objs.size:=Qh I.ok.above (Th I.lt)
def Inv.nofs(I:Inv X π σ H s){a:Py}(h:s.heap.objs.size<=a):a∉X.fs:=λhb=>by
 obtain⟨_,o,ho,_⟩:=I.ok.funs.mem hb;exact absurd (PK (Qk ho) (Qh I.sz h)) (RE _)
def Inv.cne(I:Inv X π σ H s):∀x c,X.env.cells.lookup x=some c->c≠X.env.locals:=λx c e z=>by
 obtain⟨v,o,ho,hd⟩:=I.cell x c e;obtain⟨m,⟨o',es,ep,ho',hd',_⟩,_⟩:=I.loc;rw[z,ho']at ho;cases ho;rw[hd']at hd;cases hd
def Inv.funs(I:Inv X π σ H s):s.heap.FunFrames X.base X.outer:=by
 have all:∀(l:List Env),(∀b∈A6 l,b∈X.fs)->X.sf.heap.FunFrames X.base l->s.heap.FunFrames X.base l:=by
  intro l
  induction l with
  |nil=>intro _ _;trivial
  |cons env r ih=>
   intro hs hl;obtain⟨hk,⟨L,o,hf,hn,ho,hd⟩,hr⟩:=hl;have hL:L∈X.fs:=hs L (by unfold A6;rw[Tv,hf];exact Qf);obtain⟨sl,e⟩:=I.base.slot L o ho (I.ok.frf L hL) hL λz=>I.ok.exfs L z hL;exact⟨hk,⟨L,_,hf,hn,e,hd⟩,ih (λb hb=>hs b (by unfold A6;rw[Tv,hf];exact PV _ hb)) hr⟩
 exact all X.outer (λ_ hb=>hb) I.ok.funs
def Inv.stack(I:Inv X π σ H s):s.heap.FunFrames X.base X.stack:=by
 rcases I.ok.stk with e|⟨e,hf⟩
 .rw[e];exact I.funs
 .rw[e]
  obtain⟨m,hn,_⟩:=I.loc;refine .cons (by rw[I.ok.kind];decide) hf hn ?_ I.funs;exact Heap.get?_none_of_le (Qh I.ok.bsz I.ok.above)
def Inv.stkSub(I:Inv X π σ H s):∀b∈A6 X.stack,b∈X.env.locals::X.fs:=λb hb=>by
 rcases I.ok.stk with e|⟨e,hf⟩
 .rw[e]at hb;exact PV _ hb
 .rw[e]at hb
  unfold A6 at hb;rw[Tv,hf]at hb;exact hb
def Inv.stkFree(I:Inv X π σ H s):∀b∈A6 X.stack,H b=none:=λb hb=>by
 rcases P9.mp (I.stkSub b hb) with e|hb
 .rw[e];exact I.free
 .obtain⟨_,o,ho,_⟩:=I.ok.funs.mem hb
  exact I.base.free b o ho (I.ok.frf b hb) λz=>I.ok.exfs b z hb
def Inv.step{g':Array GenState}{t':Nat}{d':Drawn}{ch:List Py}(I:Inv X π σ H s)
  (hch:∀b∈ch,(b∈X.ex∨X.sf.heap.objs.size<=b)/\b≠X.env.locals/\(∀x c,X.env.cells.lookup x=some c->c≠b)/\∀p∈X.pn++π,p.1≠b)
  (keep:∀b o,b≠X.env.locals->b∉X.fs->b∉ch->s.heap.get? b=some o->H b=none->h'.get? b=some o)
  (slot:∀b o,b≠X.env.locals->b∈X.fs->b∉ch->s.heap.get? b=some o->H b=none->∃sl,h'.get? b=some { o with slots:=sl })(free:∀b o,b∉ch->s.heap.get? b=some o->H b=none->H' b=none)
  (there:∀b o,b∉ch->s.heap.get? b=some o->∃o',h'.get? b=some o')
  (tups:∀b xs,H b=some (.tup xs)->H' b=some (.tup xs))(frzs:∀b o u,H b=some (.frz o u)->H' b=some (.frz o u))(tbls:∀b ps,H b=some (.tbl ps)->∃more,H' b=some (.tbl (ps++more)))
  (ns:∀m,s.heap.Ns X.env.locals m->h'.Ns X.env.locals m)(hok:lj X.prog X.w H' h')(hg:AllBare g') :
  Inv X π σ H' { s with heap:=h',gens:=g',drawn:=d',toks:=t' }:=by
 have neL:∀b o,X.sf.heap.get? b=some o->b≠X.env.locals:=λb o e=>QD (PK (Qk e) I.ok.above);have neC:∀b o,X.sf.heap.get? b=some o->b∉X.ex->b∉ch:=λb o e hx hb=>by
  rcases(hch b hb).1 with z|z
  .exact hx z
  .exact absurd (PK (Qk e) z) (RE _)
 have cellK:∀x c,X.env.cells.lookup x=some c->∀v,s.heap.IsCell c v->h'.IsCell c v:=λx c e v z9=>by
  obtain⟨o,ho,hd⟩:=z9;have nch:c∉ch:=λz=>(hch c z).2.2.1 x c e rfl
  by_cases hc:c∈X.fs
  .obtain⟨sl,q⟩:=slot c o (I.cne x c e) hc nch ho (I.freeC x c e)
   exact⟨_,q,hd⟩
  .exact⟨o,keep c o (I.cne x c e) hc nch ho (I.freeC x c e),hd⟩
 refine⟨I.ok,I.os,hg,⟨λb o e n hb hx=>?_,λb o e n hb hx=>?_,λb o e n hx=>?_,λb o e hx=>?_,λb xs e=>tups b xs (I.base.tups b xs e),λb o xs e=>frzs b o xs (I.base.frzs b o xs e),λb ps e=>?_⟩,?_,λx c e=>?_,?_,λx c e=>?_,λp hp=>?_,hok,I.len⟩
 .exact keep b o (neL b o e) hb (neC b o e hx) (I.base.keep b o e n hb hx) (I.base.free b o e n hx)
 .obtain⟨sl,e1⟩:=I.base.slot b o e n hb hx
  obtain⟨sl',e2⟩:=slot b _ (neL b o e) hb (neC b o e hx) e1 (I.base.free b o e n hx);exact⟨sl',e2⟩
 .obtain⟨o',e1⟩:=I.base.there b o e hx
  exact free b o' (neC b o e hx) e1 (I.base.free b o e n hx)
 .obtain⟨o',e1⟩:=I.base.there b o e hx
  exact there b o' (neC b o e hx) e1
 .obtain⟨m1,e1⟩:=I.base.tbls b ps e
  obtain⟨m2,e2⟩:=tbls b _ e1;exact⟨m1++m2,by rw[e2,Array.append_assoc]⟩
 .obtain⟨m,hn,hl⟩:=I.loc
  refine⟨m,ns m hn,λi x v e1 e2 e3=>?_⟩;obtain⟨u,r,l⟩:=hl i x v e1 e2 e3;refine⟨u,r,?_⟩;rcases l with l|⟨k,c,e,z⟩
  .exact .inl l
  .exact .inr ⟨k,c,e,cellK x c e _ z⟩
 .obtain⟨v,z⟩:=I.cell x c e
  exact⟨v,cellK x c e v z⟩
 .obtain⟨m,⟨o,_,_,ho,_⟩,_⟩:=I.loc
  exact free _ o (λz=>(hch _ z).2.1 rfl) ho I.free
 .obtain⟨v,o,ho,hd⟩:=I.cell x c e
  exact free c o (λz=>(hch c z).2.2.1 x c e rfl) ho (I.freeC x c e)
 .obtain⟨e,n,ne,nf,d⟩:=I.pin p hp
  have nch:p.1∉ch:=λz=>(hch p.1 z).2.2.2 p hp rfl;exact⟨keep p.1 p.2 ne nf nch e n,free p.1 p.2 nch e n,ne,nf,d⟩
def Inv.un{t':Nat}(I:Inv X π σ H s)(u:Un X.fs [] H H' s.heap h')(hok:lj X.prog X.w H' h'):Inv X π σ H' { s with heap:=h',toks:=t' }:=by
 obtain⟨m,⟨o,es,ep,ho,r⟩,_⟩:=id I.loc;obtain⟨sl,hL⟩:=u.any ho I.free (by simp);exact I.step (g':=s.gens) (d':=s.drawn) (ch:=[]) (λ_ z=>nomatch z) (λb o _ hb _ e n=>u.keep b o e n hb (by simp)) (λb o _ hb _ e n=>u.slot b o e n hb (by simp)) (λb o _ e n=>u.free b o e n (by simp)) (λb o _ e=>u.there b o e (by simp)) u.tups u.frzs u.tbls (λm' hm=>by
  obtain⟨o',es',ep',ho',r'⟩:=hm;rw[ho]at ho';cases ho';exact⟨_,es',ep',hL,r'⟩) hok I.bare
def Inv.call{g':Array GenState}{t':Nat}{d':Drawn}{ch:List Py}(I:Inv X π σ H s)(u:Un (A6 X.stack) ch H H' s.heap h')(hok:lj X.prog X.w H' h')(hg:AllBare g')
  (hch:∀b∈ch,(b∈X.ex∨X.sf.heap.objs.size<=b)/\b≠X.env.locals/\(∀x c,X.env.cells.lookup x=some c->c≠b)/\∀p∈X.pn++π,p.1≠b) :
  Inv X π σ H' { s with heap:=h',gens:=g',drawn:=d',toks:=t' }:=by
 obtain⟨m,⟨o,es,ep,ho,r⟩,_⟩:=id I.loc;obtain⟨sl,hL⟩:=u.any ho I.free λz=>(hch _ z).2.1 rfl;exact I.step (ch:=ch) hch (λb o hL hb hc e n=>u.keep b o e n (λz=>(P9.mp (I.stkSub b z)).elim hL hb) hc) (λb o _ _ hc e n=>u.any e n hc) (λb o hc e n=>u.free b o e n hc) (λb o hc e=>u.there b o e hc) u.tups u.frzs u.tbls (λm' hm=>by
  obtain⟨o',es',ep',ho',r'⟩:=hm;rw[ho]at ho';cases ho';exact⟨_,es',ep',hL,r'⟩) hok hg
def Inv.turned{t':Nat}{it:Py}(I:Inv X π σ H s)(k:∀b o,b≠it->s.heap.get? b=some o->h'.get? b=some o)(hn:H it=none)(hL:it≠X.env.locals)
  (h1:it∈X.ex∨X.sf.heap.objs.size<=it)(h2:∀x c,X.env.cells.lookup x=some c->c≠it)(h3:∀p∈X.pn++π,p.1≠it):Inv X π σ H { s with heap:=h',toks:=t' }:=by
 have nit:∀b u,H b=some u->b≠it:=λb u e z=>by rw[z,hn]at e;cases e
 refine I.step (g':=s.gens) (d':=s.drawn) (ch:=[it]) (λb hb=>?_) (λb o _ _ hc e _=>k b o (λz=>hc (by simp[z])) e) (λb o _ _ hc e _=>⟨o.slots,k b o (λz=>hc (by simp[z])) e⟩) (λ_ _ _ _ n=>n)
  (λb o hc e=>⟨o,k b o (λz=>hc (by simp[z])) e⟩) (λ_ _ e=>e) (λ_ _ _ e=>e) (λb ps e=>⟨#[],by rw[e];simp⟩) (λm hm=>?_) (λb u e=>?_) I.bare
 .have e:b=it:=by simpa using hb
  subst e;exact⟨h1,hL,h2,h3⟩
 .obtain⟨o,es,ep,ho,r⟩:=hm
  exact⟨o,es,ep,k _ o (Qx hL) ho,r⟩
 .refine(I.hok b u e).stay (λc v hc q=>k c v ?_ q) (λ_ q=>q) λ_ _ q=>q
  rcases hc with z|z
  .rw[z];exact nit b u e
  .exact nit c _ z
def Inv.tok(I:Inv X π σ H s)(t:Nat):Inv X π σ H { s with toks:=t }:=I.un (h':=s.heap) (t':=t) Un.refl I.hok
def Inv.kept{t':Nat}(I:Inv X π σ H s)(k:∀b u,s.heap.get? b=some u->h'.get? b=some u):Inv X π σ H { s with heap:=h',toks:=t' }:=I.un (Un.kept k) (I.hok.kept k)
def Inv.laid{a:Py}{o:HO}{t':Nat}(I:Inv X π σ H s)(k:∀b u,s.heap.get? b=some u->h'.get? b=some u)(hp:s.heap.objs.size<=a)(new:cv X.prog X.w (upd H a o) h' a o) :
  Inv X π σ (upd H a o) { s with heap:=h',toks:=t' }:=I.un (Un.laid k hp (I.hok.fresh hp)) (I.hok.laid k hp new)
def Inv.write{x e:Py}{o:HO}{t':Nat}(I:Inv X π σ H s)(mu:Ng (H x))(he:e=x∨H e=some (.own x))(k:∀b u,b≠e->s.heap.get? b=some u->h'.get? b=some u)(heo:∃u,h'.get? e=some u)
  (new:cv X.prog X.w (upd H x o) h' x o):Inv X π σ (upd H x o) { s with heap:=h',toks:=t' }:=I.un (Un.write mu he k heo) (I.hok.write mu he k heo new)
def Inv.pins_of{pins':List (Py×Obj)}(I:Inv X π σ H s)(h:∀p∈pins',s.heap.get? p.1=some p.2/\H p.1=none/\p.1≠X.env.locals/\p.1∉X.fs/\∀v,p.2.data≠.cell v):Inv X pins' σ H s :=
 ⟨I.ok,I.os,I.bare,I.base,I.loc,I.cell,I.free,I.freeC,λp hp=>(QJ.mp hp).elim (λz=>I.pin p (Rl _ z)) (h p),I.hok,I.len⟩
def vH{N:bi}(hN:N.Nodup){i j:Nat}{x:PY}(a:N[i]?=some x)(b:N[j]?=some x):i=j:=by
 obtain⟨h1,e1⟩:=PH.mp a;obtain⟨h2,e2⟩:=PH.mp b;exact(List.getElem_inj hN).mp (e1.trans e2.symm)
def mr{M:Model}{A:QV}{E:Pw->PF->Prop}{i:Nat}{x:PY}{v:V}{u:Pw}{Q:Unit->PF->Prop}(I:Inv X π σ H s)(hN:X.N.Nodup)(hi:X.N[i]?=some x)(hx:wM X.env.scope x)(r:bo v u)
  (h:∀s',Inv X π (σ.set i (some v)) H s'->(∃a,Tj a s.heap s'.heap/\(a=X.env.locals∨X.env.cells.lookup x=some a))->Q () s')(hf:X.fn x=true∨X.env.scope.names.lookup x=some .local := by first|exact .inl rfl|exact .inr rfl|assumption):Qq M A (storeName X.env x u) Q E s:=by
 obtain⟨m,hn,hl⟩:=id I.loc;have hcls:(X.env.scope.kind==.class||(X.env.scope.kind==.module&&X.env.locals != X.env.globals))=false:=by rw[I.ok.kind];rfl
 have hiσ:i<σ.length:=by rw[I.len];exact(PH.mp hi).1
 have cne:=I.cne;have tracked:∀{a:Py}{h':Qo},(∃o,s.heap.get? a=some o/\H a=none)->Tj a s.heap h'->lj X.prog X.w H h':=λ{a h'} ha hs b ob e=>by
  obtain⟨_,_,hfree⟩:=ha;refine(I.hok b ob e).stay (λc w' hc q=>(hs.2 c ?_).trans q) (λ_ q=>q) λ_ _ q=>q;rintro rfl;rcases hc with rfl|hc
  .rw[hfree]at e;cases e
  .rw[hfree]at hc;cases hc
 rcases hx with hk|hk
 .refine wpAny_storeName_local hk hn (λh' hn' hs=>?_) hcls
  obtain⟨oL,_,_,hoL,_⟩:=id hn;refine h _ ⟨I.ok,I.os,I.bare,⟨λb o e n hb hx=>?_,λb o e n hb hx=>?_,I.base.free,λb o e hx=>?_,I.base.tups,I.base.frzs,I.base.tbls⟩,⟨_,hn',λj y v' e1 e2 e3=>?_⟩,λy c e=>?_,I.free,I.freeC,λp hp=>?_,tracked ⟨oL,hoL,I.free⟩ hs,by simpa using I.len⟩ ⟨_,hs,.inl rfl⟩
  .exact(hs.2 b (QD (PK (Qk e) I.ok.above))).trans (I.base.keep b o e n hb hx)
  .obtain⟨sl,e1⟩:=I.base.slot b o e n hb hx
   exact⟨sl,(hs.2 b (QD (PK (Qk e) I.ok.above))).trans e1⟩
  .obtain⟨o',e1⟩:=I.base.there b o e hx
   exact⟨o',(hs.2 b (QD (PK (Qk e) I.ok.above))).trans e1⟩
  .by_cases hj:j=i
   .subst hj
    rw[hi]at e1;cases e1;rw[PZ hiσ]at e2;cases e2;exact⟨u,r,.inl ⟨hk,by simp⟩⟩
   .rw[PB (Qx hj)]at e2
    obtain⟨u',r',q⟩:=hl j y v' e1 e2 e3;refine⟨u',r',?_⟩;rcases q with⟨k,e⟩|⟨k,c,e,z⟩
    .refine .inl ⟨k,?_⟩
     have:y≠x:=λe=>hj (vH hN e1 (e▸hi));simp[this,e]
    .exact .inr ⟨k,c,e,z.sameBut hs (cne y c e)⟩
  .obtain⟨w',z⟩:=I.cell y c e
   exact⟨w',z.sameBut hs (cne y c e)⟩
  .obtain⟨e,n,ne,nf,d⟩:=I.pin p hp
   exact⟨(hs.2 p.1 ne).trans e,n,ne,nf,d⟩
 .have hfn:X.fn x=true:=by
   rcases hf with z|z
   .exact z
   .rw[z]at hk;cases hk
  obtain⟨c,hc⟩:=I.ok.has x (.inl hk);obtain⟨w',z⟩:=I.cell x c hc;refine wpAny_storeName_cell I.ok.kind hk hc z (λh' hc' hs=>?_);obtain⟨oc,hoc,hocd⟩:=id z;refine h { s with heap:=h' } ⟨I.ok,I.os,I.bare,⟨λb o e n hb hx=>?_,λb o e n hb hx=>?_,I.base.free,λb o e hx=>?_,I.base.tups,I.base.frzs,I.base.tbls⟩,⟨m,hn.sameBut hs (Qx (cne x c hc)),λj y v' e1 e2 e3=>?_⟩,λy c' e=>?_,I.free,I.freeC,λp hp=>?_,tracked ⟨oc,hoc,I.freeC x c hc⟩ hs,by simpa using I.len⟩ ⟨c,hs,.inr hc⟩
  .exact(hs.2 b (QD (PK (Qk e) (I.ok.cab x c hfn hc)))).trans (I.base.keep b o e n hb hx)
  .obtain⟨sl,e1⟩:=I.base.slot b o e n hb hx
   exact⟨sl,(hs.2 b (QD (PK (Qk e) (I.ok.cab x c hfn hc)))).trans e1⟩
  .obtain⟨o',e1⟩:=I.base.there b o e hx
   exact⟨o',(hs.2 b (QD (PK (Qk e) (I.ok.cab x c hfn hc)))).trans e1⟩
  .by_cases hj:j=i
   .subst hj
    rw[hi]at e1;cases e1;rw[PZ hiσ]at e2;cases e2;exact⟨u,r,.inr ⟨.inl hk,c,hc,hc'⟩⟩
   .rw[PB (Qx hj)]at e2
    obtain⟨u',r',q⟩:=hl j y v' e1 e2 e3;refine⟨u',r',?_⟩;rcases q with q|⟨k,c',e,z'⟩
    .exact .inl q
    .refine .inr ⟨k,c',e,z'.sameBut hs ?_⟩
     rintro rfl;exact hj (vH hN e1 (I.ok.inj _ _ _ e hc▸hi))
  .by_cases hcc:c'=c
   .subst hcc;exact⟨_,hc'⟩
   .obtain⟨w2,z2⟩:=I.cell y c' e
    exact⟨w2,z2.sameBut hs hcc⟩
  .obtain⟨e,n,ne,nf,d⟩:=I.pin p hp
   refine⟨(hs.2 p.1 ?_).trans e,n,ne,nf,d⟩;intro q;rw[q,hoc]at e;have q':oc=p.2:=QN e;exact d w' (by rw[←q'];exact hocd)
def lp{M:Model}{A:QV}{E:Pw->PF->Prop}{i:Nat}{x:PY}{v:V}{u:Pw}{Q:Unit->PF->Prop}(I:Inv X π σ H s)(hN:X.N.Nodup)(hi:X.N[i]?=some x)(hx:wM X.env.scope x)(r:bo v u)
  (h:∀s',Inv X π (σ.set i (some v)) H s'->Q () s')(hf:X.fn x=true∨X.env.scope.names.lookup x=some .local := by first|exact .inl rfl|exact .inr rfl|assumption):Qq M A (storeName X.env x u) Q E s :=
 mr I hN hi hx r (λs' I' _=>h s' I') hf
def Inv.call'{s':PF}{ch:List Py}(I:Inv X π σ H s)(ho:s'.os=s.os)(u:Un (A6 X.stack) ch H H' s.heap s'.heap)(hok:lj X.prog X.w H' s'.heap)(hg:AllBare s'.gens)
  (hch:∀b∈ch,(b∈X.ex∨X.sf.heap.objs.size<=b)/\b≠X.env.locals/\(∀x c,X.env.cells.lookup x=some c->c≠b)/\∀p∈X.pn++π,p.1≠b):Inv X π σ H' s':=by
 obtain⟨h',g',d',t',o'⟩:=s';have e:o'=s.os:=ho;subst e;exact I.call (g':=g') (t':=t') (d':=d') u hok hg hch
end
abbrev XK:=Pw->Option Py->Hp->Prop
abbrev St:=List (Option V)
abbrev VK:=V->Hp->Prop
abbrev TE:=St->Hp->VK->Prop
abbrev TT:=St->Hp->(Bool->Hp->Prop)->Prop
abbrev TA:=St->Hp->(ad->Hp->Prop)->Prop
structure eV where
 nx:St->Hp->Prop
 rt:VK
 bk:St->Hp->Prop:=λ_ _=>False
 ct:St->Hp->Prop:=λ_ _=>False
abbrev TS:=eV->St->Hp->Prop
def EP(X:Cx)(π:List (Py×Obj))(σ:St)(Q:VK)(u:Pw)(s':PF):Prop:=∃v H',Inv X π σ H' s'/\bo v u/\Q v H'
def TP(X:Cx)(π:List (Py×Obj))(σ:St)(Q:Bool->Hp->Prop)(b:Bool)(s':PF):Prop:=∃H',Inv X π σ H' s'/\Q b H'
def AP(X:Cx)(π:List (Py×Obj))(σ:St)(Q:ad->Hp->Prop)(us:List Pw)(s':PF):Prop:=∃vs H',Inv X π σ H' s'/\bG vs us/\Q vs H'
noncomputable def SP(X:Cx) (π:List (Py×Obj)) (D:eV) (f:Flow) (s':PF):Prop :=
 match f with
 |.next=>∃σ' H',Inv X π σ' H' s'/\D.nx σ' H'
 |.brk=>∃σ' H',Inv X π σ' H' s'/\D.bk σ' H'
 |.cont=>∃σ' H',Inv X π σ' H' s'/\D.ct σ' H'
 |.ret u=>∃v σ' H',Inv X π σ' H' s'/\bo v u/\D.rt v H'
def PE(X:Cx)(e:Qc)(t:TE):Prop :=
 ∀(π:List (Py×Obj)) (s:PF) (σ:St) (H:Hp) (Q:VK),Inv X π σ H s->t σ H Q->Qq (Ql X.prog X.w) X.A (eval e X.env) (EP X π σ Q) X.xe s
def PT(X:Cx)(e:Qc)(t:TT):Prop :=
 ∀(π:List (Py×Obj)) (s:PF) (σ:St) (H:Hp) (Q:Bool->Hp->Prop),Inv X π σ H s->t σ H Q->Qq (Ql X.prog X.w) X.A (isTrue e X.env (eval e X.env)) (TP X π σ Q) X.xe s
def PW(X:Cx)(e:Qc)(t:TT):Prop :=
 ∀(whole:Sem Pw) (π:List (Py×Obj)) (s:PF) (σ:St) (H:Hp) (Q:Bool->Hp->Prop),Inv X π σ H s->t σ H Q->Qq (Ql X.prog X.w) X.A (isTrue e X.env whole) (TP X π σ Q) X.xe s
def PW.pt{X:Cx}{e:Qc}{t:TT}(h:PW X e t):PT X e t:=h _
def PA(X:Cx)(es:List Qc)(t:TA):Prop :=
 ∀(pos:Pos) (π:List (Py×Obj)) (s:PF) (σ:St) (H:Hp) (Q:ad->Hp->Prop),Inv X π σ H s->t σ H Q->Qq (Ql X.prog X.w) X.A (spliced (QZ pos (PM es X.env))) (AP X π σ Q) X.xe s
def PS(X:Cx)(st:Q1)(t:TS):Prop :=
 ∀(π:List (Py×Obj)) (s:PF) (σ:St) (H:Hp) (D:eV),Inv X π σ H s->t D σ H->Qq (Ql X.prog X.w) X.A (exec st X.env) (SP X π D) X.xe s
def qL(X:Cx)(st:List Q1)(t:TS):Prop :=
 ∀(π:List (Py×Obj)) (s:PF) (σ:St) (H:Hp) (D:eV),Inv X π σ H s->t D σ H->Qq (Ql X.prog X.w) X.A (execs st X.env) (SP X π D) X.xe s
def cT{α:Type}{t:Sem α}{Q Q':α->PF->Prop}{M:Model}{A:QV}{E:Pw->PF->Prop}{s:PF}(h:Qq M A t Q E s)(hQ:∀a s,Q a s->Q' a s):Qq M A t Q' E s:=Ro h hQ λ_ _ x=>x
section
variable {X:Cx}
def tJ(i:Nat):TE:=λσ H Q=>∃v,σ[i]?=some (some v)/\Q v H
def tC(v:V):TE:=λ_ H Q=>Q v H
def eA{i:Nat}{x:PY}{pos:Pos}(hN:X.N[i]?=some x)(hv:wJ X.env.scope x)(hd:(x==("__debug__" : PY))=false:=by decide)(hcd:(x==("__classdict__" : PY))=false:=by decide):PE X (.Name x pos) (tJ i):=by
 intro π s σ H Q I h;obtain⟨v,e,h⟩:=h;obtain⟨m,hn,hl⟩:=I.loc;obtain⟨u,r,l⟩:=hl i x v hN e hv;have fin:EP X π σ Q u s:=⟨v,H,I,r,h⟩
 rcases l with⟨hk,hm⟩|⟨hk,c,hc,hcell⟩
 .exact wpAny_Name (wpAny_loadName_local I.ok.kind hk hn hm fin) hd
 .rcases hk with hk|hk
  .exact wpAny_Name (wpAny_loadName_cell I.ok.kind hk hc hcell fin) hd
  .exact wpAny_Name (wpAny_loadName_free I.ok.kind hk hc hcell fin hcd) hd
def xq{i j pos}:PE X (.Constant (.int i) j pos) (tC (.int i)):=λ_ _ _ H _ I h=>wpAny_Constant_int ⟨.int i,H,I.tok _,⟨_,rfl⟩,h⟩
def L3{b j pos}:PE X (.Constant (.bool b) j pos) (tC (.bl b)):=λ_ _ _ H _ I h=>Constant_bool ⟨.bl b,H,I,rfl,h⟩
def Cs{j pos}:PE X (.Constant .none j pos) (tC .non):=λ_ _ _ H _ I h=>Constant_none ⟨.non,H,I,rfl,h⟩
def Jb{x j pos}:PE X (.Constant (.str x) j pos) (tC (.str x)):=λ_ _ _ H _ I h=>Calls.Constant_str ⟨.str x,H,I.tok _,⟨_,rfl⟩,h⟩
def Gl(X:Cx)(x:PY):Prop:=X.env.kindOf x=some .globalImplicit
def zk{E:Pw->PF->Prop}{π:List (Py×Obj)}{s:PF}{σ:St}{H:Hp}{x:PY}{u:Pw}{pos:Pos}{Q:Pw->PF->Prop}(I:Inv X π σ H s)(hg:Gl X x)(hm:X.mg x=some u)(h:Q u s)
  (hd:(x==("__debug__" : PY))=false:=by decide):Qq (Ql X.prog X.w) X.A (eval (.Name x pos) X.env) Q E s :=
 Ud I.ok.kind hg (Calls.loadGlobal_global (by rw[I.ok.glob];exact I.mod.glob.keeps I.bk) hm h) hd
def pG{E:Pw->PF->Prop}{π:List (Py×Obj)}{s:PF}{σ:St}{H:Hp}{x:PY}{u:Pw}{pos:Pos}{Q:Pw->PF->Prop}(I:Inv X π σ H s)(hg:Gl X x)(hm:X.mg x=none)(hv:bootBuiltins x=some u)(h:Q u s)
  (hn:x≠"__name__":=by decide)(hd:(x==("__debug__" : PY))=false:=by decide):Qq (Ql X.prog X.w) X.A (eval (.Name x pos) X.env) Q E s:=by
 obtain⟨mb,h1,h2⟩:=I.mod.blt;exact Ud I.ok.kind hg (Calls.loadGlobal_builtin (by rw[I.ok.glob];exact I.mod.glob.keeps I.bk) hm (by rw[I.ok.blt];exact h1.keeps I.bk) ((h2 x hn).trans hv) h) hd
def Fg{x:PY}{v:V}{u:Pw}{pos:Pos}(hg:Gl X x)(hm:X.mg x=some u)(r:bo v u)(hd:(x==("__debug__" : PY))=false:=by decide):PE X (.Name x pos) (tC v) :=
 λ_ _ _ H _ I h=>zk I hg hm ⟨v,H,I,r,h⟩ hd
def Fj{x:PY}{v:V}{u:Pw}{pos:Pos}(hg:Gl X x)(hm:X.mg x=none)(hv:bootBuiltins x=some u)(r:bo v u)(hn:x≠"__name__":=by decide)(hd:(x==("__debug__" : PY))=false:=by decide):PE X (.Name x pos) (tC v) :=
 λ_ _ _ H _ I h=>pG I hg hm hv ⟨v,H,I,r,h⟩ hn hd
variable {a b:Qc}{ta tb:TE}{pos:Pos}
noncomputable def PC(X:Cx) (op:CmpOp) (a b:Qc) (t:TE):Prop :=
 ∀(π:List (Py×Obj)) (s:PF) (σ:St) (H:Hp) (Q:VK),Inv X π σ H s->t σ H Q ->
  Qq (Ql X.prog X.w) X.A (eval a X.env) (λv sg=>Qq (Ql X.prog X.w) X.A (eval b X.env) (λu si=>Qq (Ql X.prog X.w) X.A (Qz op v u) (EP X π σ Q) X.xe si) X.xe sg) X.xe s
def CG(b:Qc){op:CmpOp}(h:op≠.In)(h2:op≠.NotIn):behindInMarks op b=false:=by
 have e1:(op==CmpOp.In)=false:=by cases op<;>first|rfl|exact absurd rfl h
 have e2:(op==CmpOp.NotIn)=false:=by cases op<;>first|rfl|exact absurd rfl h2
 cases b<;>simp[behindInMarks,e1,e2]
def tB(t:TE):TT:=λσ H Q=>t σ H λx H1=>∃c,x=.bl c/\Q c H1
def IT{e:Qc}{t:TE}(h:PE X e t)(he:∀whole,isTrue e X.env whole=(do let v ←whole;standAt e.pos;SN [v] (truthy v)):=by intro _;rfl):PT X e (tB t):=by
 intro π s σ H Q I hw;refine isTrue_plain (cT (h π s σ H _ I hw) λv s1 z9=>?_) (he _);obtain⟨x,H1,I1,r1,q1⟩:=z9;obtain⟨d,rfl,q⟩:=q1;cases r1;exact Q8 ⟨H1,I1,q⟩
variable {tA tB':TT}{rest:List Qc}
def NR(t u:TT):TT:=λσ H Q=>t σ H λc H1=>if c=true then u σ H1 Q else Q false H1
def O8(t u:TT):TT:=λσ H Q=>t σ H λc H1=>if c=true then Q true H1 else u σ H1 Q
def NL(t:TT):TT:=λσ H Q=>t σ H λc H1=>Q (!c) H1
def E5(ha:PT X a tA):PW X (.BoolOp .And [a] pos) tA:=by
 intro wh π s σ H Q I h;refine isTrue_and (cT (ha π s σ H Q I h) λc s1 e=>?_);cases c with|true=>exact isTrue_and_nil e|false=>exact e
def IQ(ha:PT X a tA):PW X (.BoolOp .Or [a] pos) tA:=by
 intro wh π s σ H Q I h;refine isTrue_or (cT (ha π s σ H Q I h) λc s1 e=>?_);cases c with|false=>exact isTrue_or_nil e|true=>exact e
def IS(ha:PT X a tA)(hb:PW X (.BoolOp .And (b::rest) pos) tB'):PW X (.BoolOp .And (a::b::rest) pos) (NR tA tB'):=by
 intro wh π s σ H Q I h;refine isTrue_and (cT (ha π s σ H _ I h) λc s1 z9=>?_);obtain⟨H1,I1,q1⟩:=z9;cases c with|true=>exact hb wh π s1 σ H1 Q I1 q1|false=>exact⟨H1,I1,q1⟩
def LR(ha:PT X a tA)(hb:PW X (.BoolOp .Or (b::rest) pos) tB'):PW X (.BoolOp .Or (a::b::rest) pos) (O8 tA tB'):=by
 intro wh π s σ H Q I h;refine isTrue_or (cT (ha π s σ H _ I h) λc s1 z9=>?_);obtain⟨H1,I1,q1⟩:=z9;cases c with|true=>exact⟨H1,I1,q1⟩|false=>exact hb wh π s1 σ H1 Q I1 q1
def IU(ha:PT X a tA):PT X (.UnaryOp .Not a pos) (NL tA):=by
 intro π s σ H Q I h;exact isTrue_not (ha π s σ H (λc H1=>Q (!c) H1) I h)
def LB(ta tb:TE):TE:=λσ H Q=>ta σ H λx H1=>∃c,x=.bl c/\if c=true then tb σ H1 Q else Q (.bl false) H1
def NK(ta tb:TE):TE:=λσ H Q=>ta σ H λx H1=>∃c,x=.bl c/\if c=true then Q (.bl true) H1 else tb σ H1 Q
def Lv(ta:TE):TE:=λσ H Q=>ta σ H λx H1=>∃c,x=.bl c/\Q (.bl (!c)) H1
def Jc{op}{t:TE}(h:PE X a t):PE X (.BoolOp op [a] pos) t:=λπ s σ H Q I hw=>BoolOp_one (h π s σ H Q I hw)
def Je(ha:PE X a ta)(hb:PE X (.BoolOp .And (b::rest) pos) tb):PE X (.BoolOp .And (a::b::rest) pos) (LB ta tb):=by
 intro π s σ H Q I h;refine BoolOp_and (cT (ha π s σ H _ I h) λv s1 ⟨x,H1,I1,r1,q1⟩=>?_);obtain⟨c,rfl,q1⟩:=q1;cases r1;refine Q8 ?_;cases c with|true=>exact hb π s1 σ H1 Q I1 q1|false=>exact⟨.bl false,H1,I1,rfl,q1⟩
def LZ(ha:PE X a ta)(hb:PE X (.BoolOp .Or (b::rest) pos) tb):PE X (.BoolOp .Or (a::b::rest) pos) (NK ta tb):=by
 intro π s σ H Q I h;refine BoolOp_or (cT (ha π s σ H _ I h) λv s1 ⟨x,H1,I1,r1,q1⟩=>?_);obtain⟨c,rfl,q1⟩:=q1;cases r1;refine Q8 ?_;cases c with|false=>exact hb π s1 σ H1 Q I1 q1|true=>exact⟨.bl true,H1,I1,rfl,q1⟩
def Jd(ha:PE X a ta):PE X (.UnaryOp .Not a pos) (Lv ta):=by
 intro π s σ H Q I h;refine UnaryOp_ (cT (ha π s σ H _ I h) λv s1 z9=>?_);obtain⟨x,H1,I1,r1,q1⟩:=z9;obtain⟨c,rfl,q1⟩:=q1;cases r1;exact not_of (Q8 ⟨.bl (!c),H1,I1,rfl,q1⟩)
def Pc(t:TT)(ta tb:TE):TE:=λσ H Q=>t σ H λc H1=>if c=true then ta σ H1 Q else tb σ H1 Q
def Cv{c:Qc}(hc:PT X c tA)(ha:PE X a ta)(hb:PE X b tb):PE X (.IfExp c a b pos) (Pc tA ta tb):=by
 intro π s σ H Q I h;refine wpAny_IfExp (cT (hc π s σ H _ I h) λd s1 z9=>?_);obtain⟨H1,I1,q1⟩:=z9;cases d with|true=>exact ha π s1 σ H1 Q I1 q1|false=>exact hb π s1 σ H1 Q I1 q1
end
def dR(K:Px)(H:Hp)(a:Py)(xs:ad):Prop :=
 Rd H a (.lst xs) ∨
  ∃(o:Obj) (its:Array Pw) (n:Nat),K.lookup a=some o/\o.cls=.type "list"/\o.dict=none/\o.data=.seq its n/\its.size<=sizeLine/\bG xs its.toList
def jd(K:Px)(H:Hp)(a:Py)(xs:ad):Prop :=
 Rd H a (.tup xs) ∨
  ∃(o:Obj) (its:Array Pw) (n:Nat),K.lookup a=some o/\o.cls=.type "tuple"/\o.data=.seq its n/\its.size<=sizeLine/\bG xs its.toList
def Om:Pw->Option V
 |.none=>some .non
 |.bool b=>some (.bl b)
 |.int i _=>some (.int i)
 |.str x _=>some (.str x)
 |.bytes b _=>some (.byt b)
 |.float b _=>some (.flt b)
 |.ref a=>some (.ref a)
 |.type n=>some (.ty n)
 |_=>none
def bo.abs{x:V}{u:Pw}(r:bo x u):Om u=some x:=by
 cases x with|non|bl _=>cases r;rfl|int _|str _|byt _|flt _=>obtain⟨t,rfl⟩:=r;rfl|ref _|ty _=>cases r;rfl
def bo.inj{x y:V}{u:Pw}(r:bo x u)(q:bo y u):x=y:=QN (r.abs.symm.trans q.abs)
theorem bG.inj:∀{xs ys:ad}{us:List Pw},bG xs us->bG ys us->xs=ys
 |_,_,_,.nil,.nil=>rfl
 |_,_,_,.cons r t,.cons r' t'=>by rw[r.inj r',bG.inj t t']
section
variable {X:Cx}{π:List (Py×Obj)}{σ:St}{H:Hp}{s:PF}{a:Py}{xs ys:ad}
def dR.of{K:Px}(h:H a=some (.lst xs)):dR K H a xs:=.inl (.inl h)
def jd.of{K:Px}(h:H a=some (.tup xs)):jd K H a xs:=.inl (.inl h)
def Inv.list(I:Inv X π σ H s)(h:dR X.K H a xs):∃its:List Pw,bG xs its/\PlainL s.heap a its.toArray/\xs.length<=sizeLine:=by
 rcases h with h|⟨o,its,n,hk,hc,hd,hs,hz,r⟩
 .obtain⟨z,its,n,r,e⟩:=h.ok I.hok
  exact⟨its,r,⟨_,n,e,rfl,rfl,rfl⟩,z⟩
 .refine⟨its.toList,r,⟨o,n,I.kIn a o hk,hc,hd,by simpa using hs⟩,?_⟩
  have e:=r.length;simp only[Tw]at e;omega
def Inv.tuple(I:Inv X π σ H s)(h:jd X.K H a xs):∃its:List Pw,bG xs its/\IsTup s.heap a its.toArray/\xs.length<=sizeLine:=by
 rcases h with h|⟨o,its,n,hk,hc,hs,hz,r⟩
 .obtain⟨z,its,r,p⟩:=h.ok I.hok
  exact⟨its,r,p,z⟩
 .refine⟨its.toList,r,⟨o,I.kIn a o hk,hc,n,by simpa using hs⟩,?_⟩
  have e:=r.length;simp only[Tw]at e;omega
def Inv.list_inj(I:Inv X π σ H s)(h:dR X.K H a xs)(h':dR X.K H a ys):xs=ys:=by
 obtain⟨its,r,⟨o,n,e,_,_,d⟩,_⟩:=I.list h;obtain⟨its',r',⟨o',n',e',_,_,d'⟩,_⟩:=I.list h';rw[e]at e';cases e';rw[d]at d';injection d' with d1 _;have:its=its':=by simpa using congrArg Array.toList d1
 subst this;exact r.inj r'
def Inv.tuple_inj(I:Inv X π σ H s)(h:jd X.K H a xs)(h':jd X.K H a ys):xs=ys:=by
 obtain⟨its,r,⟨o,e,_,n,d⟩,_⟩:=I.tuple h;obtain⟨its',r',⟨o',e',_,n',d'⟩,_⟩:=I.tuple h';rw[e]at e';cases e';rw[d]at d';injection d' with d1 _;have:its=its':=by simpa using congrArg Array.toList d1
 subst this;exact r.inj r'
end
abbrev Cx.wish(X:Cx)(E:Pw->PF->Prop):Cx:={ X with xe:=E }
abbrev Cx.nox(X:Cx):Cx:=X.wish λ_ _=>False
def Cx.Ok.wish{X:Cx}(ok:X.Ok)(E:Pw->PF->Prop):(X.wish E).Ok :=
 ⟨ok.mod,ok.kind,ok.glob,ok.blt,ok.above,ok.inj,ok.has,ok.cab,ok.hd,ok.frames,ok.stk,ok.exf,ok.bs,ok.bsz,ok.noex,ok.exfs,ok.funs,ok.frf⟩
def Cx.Ok.unwish{X:Cx}{E:Pw->PF->Prop}(ok:(X.wish E).Ok):X.Ok :=
 ⟨ok.mod,ok.kind,ok.glob,ok.blt,ok.above,ok.inj,ok.has,ok.cab,ok.hd,ok.frames,ok.stk,ok.exf,ok.bs,ok.bsz,ok.noex,ok.exfs,ok.funs,ok.frf⟩
section
variable {X:Cx}{π:List (Py×Obj)}{σ:St}{H:Hp}{s:PF}{E:Pw->PF->Prop}
def Inv.wish(I:Inv X π σ H s)(E:Pw->PF->Prop):Inv (X.wish E) π σ H s:=⟨I.ok.wish E,I.os,I.bare,I.base,I.loc,I.cell,I.free,I.freeC,I.pin,I.hok,I.len⟩
def Inv.unwish(I:Inv (X.wish E) π σ H s):Inv X π σ H s:=⟨I.ok.unwish,I.os,I.bare,I.base,I.loc,I.cell,I.free,I.freeC,I.pin,I.hok,I.len⟩
def SP.unwish{D:eV}{f:Flow}{s':PF}(h:SP (X.wish E) π D f s'):SP X π D f s':=by
 cases f with|next|brk|cont=>obtain⟨σ',H',I,q⟩:=h;exact⟨σ',H',I.unwish,q⟩|ret u=>obtain⟨v,σ',H',I,r,q⟩:=h;exact⟨v,σ',H',I.unwish,r,q⟩
def qL.nox{st:List Q1}{t:TS}(h:qL X.nox st t):qL X st t:=λπ s σ H D I hw=>
 Ro (h π s σ H D (I.wish _) hw) (λ_ _ q=>q.unwish) λ_ _ z=>RY z
end
section
variable {X:Cx}{st:Q1}{rest:List Q1}{t u:TS}{e:Qc}{te:TE}{pos:Pos}
def nc:TS:=λD σ H=>D.nx σ H
def tK(t u:TS):TS:=λD σ H=>t { D with nx:=u D } σ H
def fj:qL X [] nc:=λ_ _ σ H _ I h=>wpAny_execs_nil ⟨σ,H,I,h⟩
def bV(h1:PS X st t)(h2:qL X rest u):qL X (st::rest) (tK t u):=by
 intro π s σ H D I h;refine wpAny_execs_cons (cT (h1 π s σ H { D with nx:=u D } I h) λf s1 q=>?_);cases f with
 |next=>
  obtain⟨σ',H',I',q⟩:=q;exact h2 π s1 σ' H' D I' q
 |ret v|brk|cont=>exact q
def Inv.quiet{π:List (Py×Obj)}{σ:St}{H:Hp}{s:PF}(I:Inv X π σ H s):interactive X.env=false:=by simp[interactive,I.ok.kind]
def uZ(te:TE):TS:=λD σ H=>te σ H λ_ H1=>D.nx σ H1
def jS(he:PE X e te)(hs:QY e none pos.line X.env=pure false:=by rfl):PS X (.Expr e pos) (uZ te):=by
 intro π s σ H D I h;exact wpAny_Expr_any (cT (he π s σ H _ I h) λv s1 ⟨x,H1,I1,r1,q1⟩=>⟨σ,H1,I1,q1⟩) I.quiet hs
def Ls(te:TE):TS:=λD σ H=>te σ H D.rt
def my(he:PE X e te):PS X (.Return (some e) pos) (Ls te):=by
 intro π s σ H D I h;exact wpAny_Return_some (cT (he π s σ H _ I h) λv s1 ⟨x,H1,I1,r1,q1⟩=>⟨x,σ,H1,I1,r1,q1⟩)
def Lw(c:TT)(t u:TS):TS:=λD σ H=>c σ H λb H1=>if b=true then t D σ H1 else u D σ H1
def yO{c:Qc}{a b:List Q1}{tc:TT}(hc:PT X c tc)(ha:qL X a t)(hb:qL X b u):PS X (.If c a b pos) (Lw tc t u):=by
 intro π s σ H D I h;refine wpAny_If (cT (hc π s σ H _ I h) λd s1 z9=>?_);obtain⟨H1,I1,q1⟩:=z9;cases d with|true=>exact ha π s1 σ H1 D I1 q1|false=>exact hb π s1 σ H1 D I1 q1
def Iq:TS:=λ_ _ _=>False
def Cg:PS X st Iq:=λ_ _ _ _ _ _ h=>h.elim
end
abbrev TG:=V->St->Hp->(St->Hp->Prop)->Prop
abbrev Ef:=ad->St->Hp->(St->Hp->Prop)->Prop
noncomputable def PG(X:Cx) (target:Qc) (t:TG):Prop :=
 ∀(π:List (Py×Obj)) (s:PF) (σ:St) (H:Hp) (v:V) (u:Pw) (Q:St->Hp->Prop),Inv X π σ H s->bo v u->t v σ H Q ->
  Qq (Ql X.prog X.w) X.A (assign target X.env u) (λ_ s'=>∃σ' H',Inv X π σ' H' s'/\Q σ' H') X.xe s
noncomputable def A3(X:Cx) (ts:List Qc) (t:Ef):Prop :=
 ∀(π:List (Py×Obj)) (s:PF) (σ:St) (H:Hp) (vs:ad) (us:List Pw) (Q:St->Hp->Prop),Inv X π σ H s->bG vs us->t vs σ H Q ->
  Qq (Ql X.prog X.w) X.A (assignInOrder ((assignEach ts X.env).map (·.2)) us) (λ_ s'=>∃σ' H',Inv X π σ' H' s'/\Q σ' H') X.xe s
abbrev K5:=V->V->V->Hp->(Hp->Prop)->Prop
noncomputable def Nd(X:Cx) (t:K5):Prop :=
 ∀(π:List (Py×Obj)) (s:PF) (σ:St) (H:Hp) (o i v:V) (ov iv u:Pw) (Q:Hp->Prop),Inv X π σ H s->bo o ov->bo i iv->bo v u->t o i v H Q ->
  Qq (Ql X.prog X.w) X.A (setItem ov iv u) (λ_ s'=>∃H',Inv X π σ H' s'/\Q H') X.xe s
section
variable {X:Cx}{pos:Pos}
def pO(i:Nat):TG:=λv σ H Q=>Q (σ.set i (some v)) H
def t8{i:Nat}{x:PY}(hN:X.N.Nodup)(hi:X.N[i]?=some x)(hx:wM X.env.scope x)(hf:X.fn x=true∨X.env.scope.names.lookup x=some .local := by first|exact .inl rfl|exact .inr rfl|assumption):PG X (.Name x pos) (pO i):=by
 intro π s σ H v u Q I r h;exact wpAny_assign_Name (lp I hN hi hx r (λs' I'=>⟨_,H,I',h⟩) hf)
def N8:Ef:=λvs σ H Q=>vs=[]/\Q σ H
def Mt(t:TG)(u:Ef):Ef:=λvs σ H Q=>∃v r,vs=v::r/\t v σ H λσ' H'=>u r σ' H' Q
def Fe:A3 X [] N8:=by
 intro π s σ H vs us Q I r h;obtain⟨e,h⟩:=h;subst e;cases r;exact assignInOrder_nil ⟨σ,H,I,h⟩
def Co{e:Qc}{es:List Qc}{t:TG}{u:Ef}(h1:PG X e t)(h2:A3 X es u)
  (hs:(assignEach (e::es) X.env).map (·.2)=assign e X.env::(assignEach es X.env).map (·.2):=by rfl):A3 X (e::es) (Mt t u):=by
 intro π s σ H vs us Q I r h;obtain⟨v,vr,e1,h⟩:=h;subst e1;cases r with
 |cons r rr=>
  rw[hs];refine assignInOrder_cons (cT (h1 π s σ H _ _ _ I r h) λ_ s1 z9=>?_);obtain⟨σ1,H1,I1,q1⟩:=z9;exact h2 π s1 σ1 H1 _ _ Q I1 rr q1
def N6(K:Px)(n:Nat)(t:Ef):TG:=λv σ H Q=>∃a xs,v=.ref a/\jd K H a xs/\xs.length=n/\t xs σ H Q
def Ja{es:List Qc}{k:Nat}{t:Ef}{n:Nat}(hc:X.calm=true)(h:A3 X es t)
  (hn:(assignEach es X.env).length=n:=by rfl)(hst:(assignEach es X.env).findIdx? (·.1)=none:=by rfl):PG X (.Tuple es k pos) (N6 X.K n t):=by
 intro π s σ H v u Q I r hw;obtain⟨a,xs,e1,hq,hl,hw⟩:=hw;subst e1;cases r;obtain⟨its,rv,ht,hz⟩:=I.tuple hq;refine assign_Tuple_tuple (I.ok.hd hc) ht (by simp[hn,←hl,rv.length]) hst λh' hx=>?_;have I1:Inv X π σ H { s with heap:=h' }:=I.kept (t':=s.toks) λb o e=>hx b o (QD (Qk e)) e;exact h π _ σ H xs _ Q I1 (by simpa using rv) hw
def N7(to ti:TE)(t:K5):TG:=λv σ H Q=>to σ H λo H1=>ti σ H1 λi H2=>t o i v H2 λH3=>Q σ H3
def Cp{o i:Qc}{to ti:TE}{t:K5}(ho:PE X o to)(hi:PE X i ti)(hs:Nd X t)
  (ha:∀v,assign (.Subscript o i pos) X.env v=(do
   let ov ←SN [v] (eval o X.env)
   let iv ←SN [v,ov] (eval i X.env)
   standAt pos
   SN [v,ov,iv] (setItem ov iv v)
   release [v,ov,iv] []):=by intro _;rfl):PG X (.Subscript o i pos) (N7 to ti t):=by
 intro π s σ H v u Q I r h;rw[ha];refine PX (RB (cT (ho π s σ H _ I h) λov s1 ⟨x,H1,I1,r1,q1⟩=>?_));refine PX (RB (cT (hi π s1 σ H1 _ I1 q1) λiv s2 ⟨y,H2,I2,r2,q2⟩=>?_));refine PX (wpAny_standAt (PX (RB (cT (hs π s2 σ H2 x y v ov iv u _ I2 r1 r2 r q2) λ_ s3 z9=>?_))));obtain⟨H3,I3,q3⟩:=z9;exact wpAny_release ⟨σ,H3,I3,q3⟩
def Ac(te:TE)(g:TG):TS:=λD σ H=>te σ H λx H1=>g x σ H1 D.nx
def Ci{tg e:Qc}{te:TE}{g:TG}(he:PE X e te)(hg:PG X tg g)(hs:swapsWithSole [tg] e pos.line X.env=pure false:=by rfl)(hw:swappedStores [tg] e X.env=pure none:=by rfl)
  (h1:(assignEach [tg] X.env).map (·.2)=[assign tg X.env]:=by rfl):PS X (.Assign [tg] e pos) (Ac te g):=by
 intro π s σ H D I h;refine wpAny_Assign_stores (cT (he π s σ H _ I h) λv s1 z9=>?_) hs hw;obtain⟨x,H1,I1,r1,q1⟩:=z9;rw[h1];exact cT (hg π s1 σ H1 x v _ I1 r1 q1) λ_ s2 q=>q
def iE{i:Nat}{x:PY}{e:Qc}{te:TE}{pos':Pos}(hN:X.N.Nodup)(hi:X.N[i]?=some x)(hx:wM X.env.scope x)(he:PE X e te)(hs:QY e (some (.Name x pos')) pos.line X.env=pure false:=by rfl)(hf:X.fn x=true∨X.env.scope.names.lookup x=some .local := by first|exact .inl rfl|exact .inr rfl|assumption) :
  PS X (.Assign [.Name x pos'] e pos) (Ac te (pO i)):=by
 intro π s σ H D I h;refine wpAny_Assign_Name (cT (he π s σ H _ I h) λv s1 z9=>?_) hs;obtain⟨y,H1,I1,r1,q1⟩:=z9;exact lp I1 hN hi hx r1 (λs2 I2=>⟨_,H1,I2,q1⟩) hf
def NJ(i j:Nat)(ta:TA):TS:=λD σ H=>ta σ H λvs H1=>∃v w,vs=[v,w]/\D.nx ((σ.set i (some v)).set j (some w)) H1
def IV{i j:Nat}{x y:PY}{a b:Qc}{ta:TA}{px py pt:Pos}{kt k2 pt2}(hc:X.calm=true)(hN:X.N.Nodup)(hi:X.N[i]?=some x)(hj:X.N[j]?=some y)(hij:i≠j)
  (hx:X.env.scope.names.lookup x=some .local)(hy:X.env.scope.names.lookup y=some .local)(ha:PA X [a,b] ta)
  (hw:swappedStores [.Tuple [.Name x px,.Name y py] kt pt] (.Tuple [a,b] k2 pt2) X.env=pure (some [x,y]))
  (hs:swapsWithSole [.Tuple [.Name x px,.Name y py] kt pt] (.Tuple [a,b] k2 pt2) pos.line X.env=pure false:=by rfl) :
  PS X (.Assign [.Tuple [.Name x px,.Name y py] kt pt] (.Tuple [a,b] k2 pt2) pos) (NJ i j ta):=by
 intro π s σ H D I h;rw[exec_Assign_arm];refine PX (wpAny_standAt ?_);rw[hs];refine PX (Qr ?_);rw[if_neg (by decide)];refine PX (Tuple_ (cT (ha _ π s σ H _ I h) λus s1 z9=>?_));obtain⟨vs,H1,I1,r1,q1⟩:=z9;obtain⟨v,w,e1,q1⟩:=q1;subst e1;obtain⟨u1,u2,rfl,rv,rw'⟩:∃u1 u2,us=[u1,u2]/\bo v u1/\bo w u2:=by
  cases r1 with
  |cons p q=>
   cases q with
   |cons p' q'=>
    cases q';exact⟨_,_,rfl,p,p'⟩
 refine wpAny_newObj_type ?_ (by show 2<=sizeLine;decide);have I2:Inv X π σ H1 { s1 with heap:=s1.heap.push { cls:=.type "tuple",data:=.seq [u1,u2].toArray } }:=I1.kept (t':=s1.toks) λb o e=>P5 _ e;rw[hw];refine PX (Qr ?_);show Qq (Ql X.prog X.w) X.A (do rule "assign.swapped-stores";let items ←unpackItems (.ref s1.heap.objs.size) 2 none;assignInOrder [λv=>bindName X.env y v,λv=>bindName X.env x v] items.reverse;pure Flow.next) _ _ _;refine PX (wpAny_rule (PX (unpackItems_tuple (items:=#[u1,u2]) (I.ok.hd hc) (IsTup.new s1.heap _) λh' hx'=>?_)));have I3:=I2.kept (h':=h') (t':=s1.toks) λb o e=>hx' b o (QD (Qk e)) e;show Qq _ _ (assignInOrder [λv=>bindName X.env y v,λv=>bindName X.env x v] [u2,u1] >>= λ_=>pure Flow.next) _ _ _;refine PX (assignInOrder_cons (wpAny_bindName (lp I3 hN hj (.inl hy) rw' (λs2 I4=>?_) (.inr hy))));refine assignInOrder_cons (wpAny_bindName (lp I4 hN hi (.inl hx) rv (λs3 I5=>assignInOrder_nil (Qr ?_)) (.inr hx)));rw[List.set_comm _ _ (Qx hij)]at I5;exact⟨_,H1,I5,q1⟩
end
section
variable {X:Cx}{pos:Pos}
def Ip(c:TT)(tb:TS):TS:=λD σ H=>∃W:Nat->St->Hp->Prop,(∃m,W m σ H)/\∀m σ H,W m σ H ->
 c σ H λb H1=>if b=true then ∃N:St->Hp->Prop,(∀σ' H',N σ' H'->∃m',m' < m/\W m' σ' H')/\tb { D with nx:=N,ct:=N,bk:=D.nx } σ H1 else D.nx σ H1
def Cf{c:Qc}{body:List Q1}{tc:TT}{tb:TS}(hp:PassesOwn (Ql X.prog X.w) X.A X.env X.xe)(hc:PT X c tc)(hb:qL X body tb):PS X (.While c body [] pos) (Ip tc tb):=by
 intro π s σ H D I h;obtain⟨W,⟨m0,w0⟩,turn⟩:=h;refine wpAny_While (codeAny_whileLoop (λn s'=>∃σ' H',Inv X π σ' H' s'/\W n σ' H') ?_ m0 ⟨σ,H,I,w0⟩);rintro n s1 ⟨σ1,H1,I1,w1⟩;refine wpAny_passesOwn hp (cT (hc π s1 σ1 H1 _ I1 (turn n σ1 H1 w1)) λb s2 z9=>?_);obtain⟨H2,I2,q2⟩:=z9;cases b with
 |true=>
  obtain⟨N,hN,q2⟩:=q2;rw[if_pos rfl];refine wpAny_passesOwn hp (cT (hb π s2 σ1 H2 _ I2 q2) λf s3 q3=>?_);cases f with
  |next=>
   obtain⟨σ3,H3,I3,n3⟩:=q3;obtain⟨m',hm,w3⟩:=hN σ3 H3 n3;exact⟨m',hm,σ3,H3,I3,w3⟩
  |cont=>
   obtain⟨σ3,H3,I3,n3⟩:=q3;obtain⟨m',hm,w3⟩:=hN σ3 H3 n3;exact⟨m',hm,σ3,H3,I3,w3⟩
  |brk|ret v=>exact q3
 |false=>
  rw[if_neg Rk];exact wpAny_execs_nil ⟨σ1,H2,I2,q2⟩
end
structure It where
 go:Nat->Hp->Prop
 yld:Nat->Hp->V->Hp->Prop
 stop:Nat->Hp->Prop
def mj(X:Cx)(π:List (Py×Obj))(H:Hp)(b:Py):Prop :=
 H b=none/\b≠X.env.locals/\b∉X.fs/\(b∈X.ex∨X.sf.heap.objs.size<=b)/\(∀x c,X.env.cells.lookup x=some c->c≠b)/\∀p∈X.pn++π,p.1≠b
def Inv.fpOk{X:Cx}{π:List (Py×Obj)}{σ:St}{H H':Hp}{s:PF}{b:Py}(I:Inv X π σ H s)(hb:s.heap.objs.size<=b)(hn:H' b=none):mj X π H' b:=by
 refine⟨hn,Nat.ne_of_gt (PK I.lt hb),I.nofs hb,.inr (Qh I.sz hb),λx c e z=>?_,λp hp z=>?_⟩
 .obtain⟨v,q⟩:=I.cell x c e
  exact absurd (PK q.lt (by rw[z];exact hb)) (RE _)
 .exact absurd (PK (Qk (I.pin p hp).1) (by rw[z];exact hb)) (RE _)
structure yj (P:Qw) (w:QK) (K:Px) (tg:Qc) (J:It) (fp:List Py) (it:Py) (tn:Nat->Qo->Prop):Prop where
 mem:it∈fp
 obj:∀i h,tn i h->∀b∈fp,∃o,h.get? b=some o/\∀v,o.data≠.cell v
 keep:∀i h h',tn i h->(∀b∈fp,∀o,h.get? b=some o->h'.get? b=some o)->tn i h'
 item:∀(X:Cx),X.prog=P->X.w=w->X.K=K->X.calm=true->∀(i:Nat) (π:List (Py×Obj)) (s:PF) (σ:St) (H:Hp) (E:Pw->PF->Prop),Inv X π σ H s->(∀b∈fp,mj X π H b)->tn i s.heap->J.go i H ->
  Qq (Ql P w) X.A (pyNext (.ref it)) (λr s1=>∃u,r=some u /\
   Qq (Ql P w) X.A (letOwnedTupleGo tg (.ref it) u) (λ_ s2=>∃x H',Inv X π σ H' s2/\bo x u/\J.yld i H x H'/\tn (i+1) s2.heap/\∀b∈fp,H' b=none) E s1) E s
 done:∀(X:Cx),X.prog=P->X.w=w->X.K=K->X.calm=true->∀(i:Nat) (π:List (Py×Obj)) (s:PF) (σ:St) (H:Hp) (E:Pw->PF->Prop),Inv X π σ H s->(∀b∈fp,mj X π H b)->tn i s.heap->J.stop i H ->
  Qq (Ql P w) X.A (pyNext (.ref it)) (λr s1=>r=none/\Inv X π σ H s1) E s
 self:∀(A:QV) (i:Nat) (s:PF) (Q:Pw->PF->Prop) (E:Pw->PF->Prop),tn i s.heap->Q (.ref it) s->Qq (Ql P w) A (pyIter (.ref it)) Q E s
abbrev TI:=St->Hp->(It->Hp->Prop)->Prop
noncomputable def Oq(X:Cx) (π:List (Py×Obj)) (σ:St) (tg:Qc) (R:It->Hp->Prop) (itv:Pw) (s2:PF):Prop :=
 ∃(it:Py) (fp:List Py) (tn:Nat->Qo->Prop) (J:It) (H':Hp),itv=.ref it/\Inv X π σ H' s2/\yj X.prog X.w X.K tg J fp it tn/\tn 0 s2.heap/\(∀b∈fp,mj X π H' b)/\R J H'
noncomputable def PI(X:Cx) (tg iter:Qc) (wi:TI):Prop :=
 ∀(π:List (Py×Obj)) (s:PF) (σ:St) (H:Hp) (R:It->Hp->Prop),Inv X π σ H s->wi σ H R ->
  Qq (Ql X.prog X.w) X.A (eval iter X.env) (λv s1=>Qq (Ql X.prog X.w) X.A (pyIter v) (Oq X π σ tg R) X.xe s1) X.xe s
def vX{M:Model}{A:QV}{E:Pw->PF->Prop}{s:PF}{tg:Qc}{it:Py}{u:Pw}{o:Obj}{n:String}{vs:Array Pw}{Q:Unit->PF->Prop}(ho:s.heap.get? it=some o)(hc:o.cls=.type n)(hd:o.data=.fields vs)
  (hn:["enumerate","zip","dict_itemiterator","dict_reverseitemiterator","odict_iterator","itertools.zip_longest","itertools.pairwise"].contains n=false)(hQ:Q () s):Qq M A (letOwnedTupleGo tg (.ref it) u) Q E s:=by
 unfold letOwnedTupleGo;cases tg<;>first
  |exact Qr hQ
  |(cases u<;>first
    |exact Qr hQ
    |(refine PX (wpAny_load ho ?_);rw[hc,hd];show Qq M A (if(["enumerate","zip","dict_itemiterator","dict_reverseitemiterator","odict_iterator","itertools.zip_longest","itertools.pairwise"].contains n&&vs[0]?==some (rawInt _))=true then _ else _) Q E s;rw[if_neg (by intro h;rw[hn,Sa]at h;cases h)];exact Qr hQ))
def Nj(K:Px)(a:Py):It :=
 ⟨λi H=>∃xs x,dR K H a xs/\xs[i]?=some x,λi H x H'=>H'=H/\∀xs,dR K H a xs->xs[i]?=some x,λi H=>∃xs,dR K H a xs/\xs.length<=i⟩
def OY(K:Px)(a:Py):It :=
 ⟨λi H=>∃xs x,jd K H a xs/\xs[i]?=some x,λi H x H'=>H'=H/\∀xs,jd K H a xs->xs[i]?=some x,λi H=>∃xs,jd K H a xs/\xs.length<=i⟩
def La(lo:Int)(n:Nat):It:=⟨λi _=>i<n,λi H x H'=>H'=H/\x=.int (lo+i),λi _=>n<=i⟩
def zZ{P:Qw}{w:QK}{K:Px}{tg:Qc}(a it:Py):yj P w K tg (Nj K a) [it] it (λi h=>h.IsListIter it a i) where
 mem:=by simp
 obj:=λi h st b hb=>by
  have e:b=it:=by simpa using hb
  subst e;obtain⟨o,e,c,d⟩:=st;exact⟨o,e,λv z=>by rw[d]at z;cases z⟩
 keep:=λi h h' st k=>st.at λo e=>k it (by simp) o e
 item:=by
  intro X hP hw hK hc i π s σ H E I hf st hg;subst hP hw hK;obtain⟨xs,x,hq,hx⟩:=hg;obtain⟨its,rv,p,hz⟩:=I.list hq;obtain⟨u,hu,ru⟩:=rv.get hx;obtain⟨f0,f1,f2,f3,f4,f5⟩:=hf it (by simp);refine wpAny_pyNext_list_item st p.isList (x:=u) (by simpa using hu) λh' st' sb=>?_;have I1:Inv X π σ H { s with heap:=h' }:=I.turned (t':=s.toks) (λb o hb e=>(sb.2 b hb).trans e) f0 f1 f3 f4 f5;obtain⟨o,e,c,d⟩:=id st';exact⟨u,rfl,vX (s:={ s with heap:=h' }) e c d (by decide) ⟨x,H,I1,ru,⟨rfl,λys hy=>by rw[I.list_inj hy hq];exact hx⟩,st',λb hb=>(hf b hb).1⟩⟩
 done:=by
  intro X hP hw hK hc i π s σ H E I hf st hg;subst hP hw hK;obtain⟨xs,hq,hx⟩:=hg;obtain⟨its,rv,p,hz⟩:=I.list hq;obtain⟨f0,f1,f2,f3,f4,f5⟩:=hf it (by simp);have hl:=rv.length;exact wpAny_pyNext_list_end (I.ok.hd hc) st p.isList (by simp;omega) λh' eb=>⟨rfl,I.turned (t':=s.toks) (λb o hb e=>eb b o hb e) f0 f1 f3 f4 f5⟩
 self:=λ_ _ _ _ _ st h=>wpAny_pyIter_listiter st h
def wR{P:Qw}{w:QK}{K:Px}{tg:Qc}(a it:Py):yj P w K tg (OY K a) [it] it (λi h=>h.IsTupleIter it a i) where
 mem:=by simp
 obj:=λi h st b hb=>by
  have e:b=it:=by simpa using hb
  subst e;obtain⟨o,e,c,d⟩:=st;exact⟨o,e,λv z=>by rw[d]at z;cases z⟩
 keep:=λi h h' st k=>st.at λo e=>k it (by simp) o e
 item:=by
  intro X hP hw hK hc i π s σ H E I hf st hg;subst hP hw hK;obtain⟨xs,x,hq,hx⟩:=hg;obtain⟨its,rv,p,hz⟩:=I.tuple hq;obtain⟨u,hu,ru⟩:=rv.get hx;obtain⟨f0,f1,f2,f3,f4,f5⟩:=hf it (by simp);refine wpAny_pyNext_tuple_item st (show s.heap.IsTuple a its.toArray from p) (x:=u) (by simpa using hu) λh' st' sb=>?_;have I1:Inv X π σ H { s with heap:=h' }:=I.turned (t':=s.toks) (λb o hb e=>(sb.2 b hb).trans e) f0 f1 f3 f4 f5;obtain⟨o,e,c,d⟩:=id st';exact⟨u,rfl,vX (s:={ s with heap:=h' }) e c d (by decide) ⟨x,H,I1,ru,⟨rfl,λys hy=>by rw[I.tuple_inj hy hq];exact hx⟩,st',λb hb=>(hf b hb).1⟩⟩
 done:=by
  intro X hP hw hK hc i π s σ H E I hf st hg;subst hP hw hK;obtain⟨xs,hq,hx⟩:=hg;obtain⟨its,rv,p,hz⟩:=I.tuple hq;obtain⟨f0,f1,f2,f3,f4,f5⟩:=hf it (by simp);have hl:=rv.length;exact wpAny_pyNext_tuple_end (I.ok.hd hc) st (show s.heap.IsTuple a its.toArray from p) (by simp;omega) λh' eb=>⟨rfl,I.turned (t':=s.toks) (λb o hb e=>eb b o hb e) f0 f1 f3 f4 f5⟩
 self:=λ_ _ _ _ _ st h=>wpAny_pyIter_tupleiter st h
def wU{P:Qw}{w:QK}{K:Px}{tg:Qc}(it:Py)(lo:Int)(n:Nat):yj P w K tg (La lo n) [it] it (λi h=>IsRangeIter h it (lo+(i:Nat)*1) ((n:Int)-(i:Nat)) 1) where
 mem:=by simp
 obj:=λi h st b hb=>by
  have e:b=it:=by simpa using hb
  subst e;exact⟨_,st,λv z=>by
   have z':Data.fields _=Data.cell v:=z;cases z'⟩
 keep:=λi h h' st k=>k it (by simp) _ st
 item:=by
  intro X hP hw hK hc i π s σ H E I hf st hg;subst hP hw hK;obtain⟨f0,f1,f2,f3,f4,f5⟩:=hf it (by simp);have W:=Walks.range (prog:=X.prog) (w:=X.w) (I.ok.hd hc) it lo 1 n;refine W.item i s _ _ hg st λv h' tk hv st' kk=>?_;obtain⟨t,rfl⟩:=hv;have I1:Inv X π σ H { s with heap:=h',toks:=tk }:=I.turned (λb o hb e=>kk b o (by simpa using hb) e) f0 f1 f3 f4 f5;refine⟨_,rfl,vX (s:={ s with heap:=h',toks:=tk }) (n:="range_iterator") st' rfl rfl (by decide) ⟨.int (lo+i),H,I1,⟨t,?_⟩,⟨rfl,rfl⟩,st',λb hb=>(hf b hb).1⟩⟩;rw[Int.mul_one]
 done:=by
  intro X hP hw hK hc i π s σ H E I hf st hg;subst hP hw hK;obtain⟨f0,f1,f2,f3,f4,f5⟩:=hf it (by simp);exact wpAny_pyNext_range_end (I.ok.hd hc) st (by have:n<=i:=hg;omega) λh' eb=>⟨rfl,I.turned (t':=s.toks) (λb o hb e=>eb b o hb e) f0 f1 f3 f4 f5⟩
 self:=λ_ _ _ _ _ st h=>wpAny_pyIter_rangeiter st h
section
variable {X:Cx}{tg:Qc}
def Mq(K:Px)(tl:TE):TI:=λσ H R=>tl σ H λx H1=>∃a,x=.ref a/\(∃xs,dR K H1 a xs)/\R (Nj K a) H1
def N3(K:Px)(tl:TE):TI:=λσ H R=>tl σ H λx H1=>∃a,x=.ref a/\(∃xs,jd K H1 a xs)/\R (OY K a) H1
def tY{l:Qc}{tl:TE}(hl:PE X l tl):PI X tg l (Mq X.K tl):=by
 intro π s σ H R I h;refine cT (hl π s σ H _ I h) λv s1 ⟨x,H1,I1,r1,q1⟩=>?_;obtain⟨a,e,⟨xs,hq⟩,q⟩:=q1;subst e;cases r1;obtain⟨its,rv,p,hz⟩:=I1.list hq;refine wpAny_pyIter_list p.isList ?_;refine⟨s1.heap.objs.size,[s1.heap.objs.size],_,_,H1,rfl,I1.kept (t':=s1.toks) λb o e=>P5 _ e,zZ a _,⟨_,QR _ rfl,rfl,rfl⟩,λb hb=>?_,q⟩;have e:b=s1.heap.objs.size:=by simpa using hb
 subst e;exact I1.fpOk (P4 _) (I1.hok.fresh (P4 _))
def IZ{l:Qc}{tl:TE}(hl:PE X l tl):PI X tg l (N3 X.K tl):=by
 intro π s σ H R I h;refine cT (hl π s σ H _ I h) λv s1 ⟨x,H1,I1,r1,q1⟩=>?_;obtain⟨a,e,⟨xs,hq⟩,q⟩:=q1;subst e;cases r1;obtain⟨its,rv,p,hz⟩:=I1.tuple hq;refine wpAny_pyIter_tuple (show s1.heap.IsTuple a its.toArray from p) ?_;refine⟨s1.heap.objs.size,[s1.heap.objs.size],_,_,H1,rfl,I1.kept (t':=s1.toks) λb o e=>P5 _ e,wR a _,⟨_,QR _ rfl,rfl,rfl⟩,λb hb=>?_,q⟩;have e:b=s1.heap.objs.size:=by simpa using hb
 subst e;exact I1.fpOk (P4 _) (I1.hok.fresh (P4 _))
def B5{π:List (Py×Obj)}{σ:St}{H:Hp}{s:PF}{R:It->Hp->Prop}{E:Pw->PF->Prop}{lo hi:Int}{t u v:Tok}{tk:Nat}(I:Inv X π σ H s)(h1:-(2 ^ 62)<=lo)(h2:lo<2 ^ 62)(h3:-(2 ^ 62)<=hi)(h4:hi<2 ^ 62)
  (q:R (La lo (hi-lo).toNat) H):Qq (Ql X.prog X.w) X.A (pyIter (.ref s.heap.objs.size)) (Oq X π σ tg R) E { s with heap:=s.heap.push { cls:=.type "range",data:=.fields #[.int lo t,.int hi u,.int 1 v] },toks:=tk }:=by
 refine wpAny_pyIter_range (IsRange.new ..) (small_one h1 h2 h3 h4) ?_;have I1:Inv X π σ H { s with heap:=s.heap.push { cls:=.type "range",data:=.fields #[.int lo t,.int hi u,.int 1 v] },toks:=tk }:=I.kept λb o e=>P5 _ e;refine⟨(s.heap.push { cls:=.type "range",data:=.fields #[.int lo t,.int hi u,.int 1 v] }).objs.size,[(s.heap.push { cls:=.type "range",data:=.fields #[.int lo t,.int hi u,.int 1 v] }).objs.size],_,_,H,rfl,
  I1.kept (t':=tk) λb o e=>P5 _ e,wU _ lo (hi-lo).toNat,?_,λb hb=>?_,q⟩
 .have e1:lo+((0:Nat):Int)*1=lo:=by simp
  have e2:(((hi-lo).toNat:Nat):Int)-((0:Nat):Int)=Builtin.Range.rangeSize lo hi 1:=by rw[rangeSize_one];split<;>omega
  show IsRangeIter _ _ (lo+((0:Nat):Int)*1) ((((hi-lo).toNat:Nat):Int)-((0:Nat):Int)) 1;rw[e1,e2];exact QR _ rfl
 .have e:b=(s.heap.push { cls:=.type "range",data:=.fields #[.int lo t,.int hi u,.int 1 v] }).objs.size:=by simpa using hb
  subst e;exact I1.fpOk (P4 _) (I1.hok.fresh (P4 _))
def Mp(ta:TA):TI:=λσ H R=>ta σ H λvs H1=>∃j:Int,vs=[.int j]/\-(2 ^ 62)<=j/\j<2 ^ 62/\R (La 0 j.toNat) H1
def jT{a:Qc}{ta:TA}{p pos:Pos}(hg:Gl X "range")(hm:X.mg "range"=none)(ha:PA X [a] ta)(hs:PM [a] X.env=[(false,eval a X.env)]:=by rfl):PI X tg (.Call (.Name "range" p) [a] [] pos) (Mp ta):=by
 intro π s σ H R I h;refine Call_ (pG I hg hm boot_range (SO (cT (ha pos π s σ H _ I h) λus s1 z9=>?_) hs rfl));obtain⟨vs,H1,I1,r1,q1⟩:=z9;obtain⟨j,e,q1,q2,q⟩:=q1;subst e;cases r1 with
 |cons r rr=>
  cases rr;obtain⟨t,rfl⟩:=r;exact call_range_1 (B5 I1 (by omega) (by omega) q1 q2 (by simpa using q))
noncomputable def NP(wi:TI) (g:TG) (tb:TS):TS:=λD σ H=>wi σ H λJ H1=>∃W:Nat->Nat->St->Hp->Prop,(∃m,W 0 m σ H1)/\∀i m σ H,W i m σ H ->
 (J.stop i H/\D.nx σ H)∨(J.go i H/\∃N:St->Hp->Prop,(∀σ' H',N σ' H'->∃m',m' < m/\W (i+1) m' σ' H')/\∀x H',J.yld i H x H'->g x σ H' λσ2 H2=>tb { D with nx:=N,ct:=N,bk:=D.nx } σ2 H2)
def o8(fp:List Py)(h:Qo):List (Py×Obj):=fp.filterMap λb=>(h.get? b).map λo=>(b,o)
def iJ{fp:List Py}{h:Qo}{b:Py}{o:Obj}(hb:b∈fp)(e:h.get? b=some o):(b,o)∈o8 fp h:=List.mem_filterMap.mpr ⟨b,hb,by rw[e];rfl⟩
def Au{fp:List Py}{h:Qo}{p:Py×Obj}(hp:p∈o8 fp h):p.1∈fp/\h.get? p.1=some p.2:=by
 obtain⟨b,hb,e⟩:=List.mem_filterMap.mp hp;cases q:h.get? b with
 |none=>rw[q]at e;cases e
 |some o=>
  rw[q]at e;have e':(b,o)=p:=QN e;subst e';exact⟨hb,q⟩
def Inv.pinned{π:List (Py×Obj)}{σ:St}{H:Hp}{s:PF}{fp:List Py}(I:Inv X π σ H s)(hf:∀b∈fp,mj X π H b)(ho:∀b∈fp,∃o,s.heap.get? b=some o/\∀v,o.data≠.cell v):Inv X (π++o8 fp s.heap) σ H s :=
 I.pins_of λp hp=>(QJ.mp hp).elim (λz=>I.pin p (QE _ z)) λz=>by
  obtain⟨hb,e⟩:=Au z;obtain⟨f0,f1,f2,_⟩:=hf p.1 hb;obtain⟨o,e',d⟩:=ho p.1 hb;rw[e]at e';cases e';exact⟨e,f0,f1,f2,d⟩
def Inv.unpinned{π pl:List (Py×Obj)}{σ:St}{H:Hp}{s:PF}(I:Inv X (π++pl) σ H s):Inv X π σ H s:=I.pins_of λp hp=>I.pin p (QE _ (Rl _ hp))
def mz{iter:Qc}{body:List Q1}{wi:TI}{g:TG}{tb:TS}{pos:Pos}(hp:PassesOwn (Ql X.prog X.w) X.A X.env X.xe)(hc:X.calm=true)(hi:PI X tg iter wi)(hg:PG X tg g)(hb:qL X body tb)
  (hs:∀x,foldedSetIterable iter X.env x=pure x:=by intro _;rfl):PS X (.For tg iter body [] pos) (NP wi g tb):=by
 intro π s σ H D I h;refine wpAny_For (cT (hi π s σ H _ I h) λv s1 h1=>cT h1 λitv s2 h2=>?_) hs;obtain⟨it,fp,tn,J,H2,e,I2,T,st2,f2,W,⟨m0,w0⟩,turn⟩:=h2;subst e;have stat:∀{H':Hp},(∀b∈fp,H' b=none)->∀b∈fp,mj X π H' b:=λhn b hb=>⟨hn b hb,(f2 b hb).2⟩
 refine codeAny_forLoop_any (λn s'=>∃i σ' H',Inv X π σ' H' s'/\tn i s'.heap/\(∀b∈fp,H' b=none)/\W i n σ' H') ?_ m0 ⟨0,σ,H2,I2,st2,λb hb=>(f2 b hb).1,w0⟩;rintro n s3 ⟨i,σ3,H3,I3,st3,fr3,w3⟩;rcases turn i n σ3 H3 w3 with⟨stop,qn⟩|⟨go,N,hN,step⟩
 .refine wpAny_passesOwn hp (cT (T.done X rfl rfl rfl hc i π s3 σ3 H3 X.xe I3 (stat fr3) st3 stop) λr s4 ⟨hr,I4⟩=>?_)
  subst hr;exact wpAny_execs_nil ⟨σ3,H3,I4,qn⟩
 .refine wpAny_passesOwn hp (cT (T.item X rfl rfl rfl hc i π s3 σ3 H3 X.xe I3 (stat fr3) st3 go) λr s4 ⟨u,hr,h4⟩=>?_)
  subst hr;refine wpAny_passesOwn hp (cT h4 λ_ s5 ⟨x,H5,I5,r5,y5,st5,fr5⟩=>?_);have I5':=I5.pinned (stat fr5) (T.obj _ _ st5);refine wpAny_passesOwn hp (cT (hg _ s5 σ3 H5 x u _ I5' r5 (step x H5 y5)) λ_ s6 ⟨σ6,H6,I6,q6⟩=>?_);refine wpAny_passesOwn hp (cT (hb _ s6 σ6 H6 _ I6 q6) λf s7 q7=>?_);have again:∀{σ7:St}{H7:Hp},Inv X (π++o8 fp s5.heap) σ7 H7 s7->N σ7 H7->∃m,m<n/\∃i σ' H',Inv X π σ' H' s7/\tn i s7.heap/\(∀b∈fp,H' b=none)/\W i m σ' H':=λ{σ7 H7} I7 n7=>by
   obtain⟨m',hm,w7⟩:=hN σ7 H7 n7;refine⟨m',hm,i+1,σ7,H7,I7.unpinned,T.keep _ _ _ st5 λb hb o e=>(I7.pin (b,o) (QE _ (QE _ (iJ hb e)))).1,λb hb=>?_,w7⟩;obtain⟨o,e,d⟩:=T.obj _ _ st5 b hb;exact(I7.pin (b,o) (QE _ (QE _ (iJ hb e)))).2.1
  cases f with|next|cont=>obtain⟨σ7,H7,I7,n7⟩:=q7;exact again I7 n7|brk=>obtain⟨σ7,H7,I7,q7⟩:=q7;exact⟨σ7,H7,I7.unpinned,q7⟩|ret v=>obtain⟨x7,σ7,H7,I7,r7,q7⟩:=q7;exact⟨x7,σ7,H7,I7.unpinned,r7,q7⟩
end
def vZ{K:Px}{a:Py}{xs:ad}{g:TG}{tb:TS}{D:eV}{σ:St}{H:Hp}(Pv:Nat->St->Hp->Prop)(h0:Pv 0 σ H)(hl:∀i σ H,i<=xs.length->Pv i σ H->dR K H a xs)
  (hs:∀i x σ H,xs[i]?=some x->Pv i σ H->g x σ H λσ2 H2=>tb { D with nx:=Pv (i+1),ct:=Pv (i+1),bk:=D.nx } σ2 H2)(hd:∀σ H,Pv xs.length σ H->D.nx σ H) :
  ∃W:Nat->Nat->St->Hp->Prop,(∃m,W 0 m σ H)/\∀i m σ H,W i m σ H ->
   ((Nj K a).stop i H/\D.nx σ H)∨((Nj K a).go i H/\∃N:St->Hp->Prop,(∀σ' H',N σ' H'->∃m',m' < m/\W (i+1) m' σ' H')/\∀x H',(Nj K a).yld i H x H'->g x σ H' λσ2 H2=>tb { D with nx:=N,ct:=N,bk:=D.nx } σ2 H2):=by
 refine⟨λi m σ H=>m=xs.length-i/\i<=xs.length/\Pv i σ H,⟨xs.length,by simp,R8 _,h0⟩,?_⟩;rintro i m σ H ⟨rfl,hi,p⟩;have q:=hl i σ H hi p
 by_cases hlt:i<xs.length
 .refine .inr ⟨⟨xs,xs[i],q,by simp[hlt]⟩,Pv (i+1),λσ' H' p'=>⟨xs.length-(i+1),by omega,rfl,hlt,p'⟩,λx H' y=>?_⟩
  obtain⟨e,y⟩:=y;subst e;exact hs i x σ _ (y xs q) p
 .have e:i=xs.length:=by omega
  subst e;exact .inl ⟨⟨xs,q,P4 _⟩,hd σ H p⟩
def sD{lo:Int}{n:Nat}{g:TG}{tb:TS}{D:eV}{σ:St}{H:Hp}(Pv:Nat->St->Hp->Prop)(h0:Pv 0 σ H)
  (hs:∀i σ H,i<n->Pv i σ H->g (.int (lo+i)) σ H λσ2 H2=>tb { D with nx:=Pv (i+1),ct:=Pv (i+1),bk:=D.nx } σ2 H2)(hd:∀σ H,Pv n σ H->D.nx σ H) :
  ∃W:Nat->Nat->St->Hp->Prop,(∃m,W 0 m σ H)/\∀i m σ H,W i m σ H ->
   ((La lo n).stop i H/\D.nx σ H)∨((La lo n).go i H/\∃N:St->Hp->Prop,(∀σ' H',N σ' H'->∃m',m' < m/\W (i+1) m' σ' H')/\∀x H',(La lo n).yld i H x H'->g x σ H' λσ2 H2=>tb { D with nx:=N,ct:=N,bk:=D.nx } σ2 H2):=by
 refine⟨λi m σ H=>m=n-i/\i<=n/\Pv i σ H,⟨n,by simp,R8 _,h0⟩,?_⟩;rintro i m σ H ⟨rfl,hi,p⟩
 by_cases hlt:i<n
 .refine .inr ⟨hlt,Pv (i+1),λσ' H' p'=>⟨n-(i+1),by omega,rfl,hlt,p'⟩,λx H' y=>?_⟩
  obtain⟨e,y⟩:=y;subst e y;exact hs i σ _ hlt p
 .have e:i=n:=by omega
  subst e;exact .inl ⟨P4 _,hd σ H p⟩
abbrev R2:=V->V->Hp->VK->Prop
def eT(X:Cx)(f:Pw->Pw->Sem Pw)(r:R2):Prop :=
 ∀(π:List (Py×Obj)) (s:PF) (σ:St) (H:Hp) (x y:V) (v u:Pw) (Q:VK),Inv X π σ H s->bo x v->bo y u->r x y H Q ->
  Qq (Ql X.prog X.w) X.A (f v u) (EP X π σ Q) X.xe s
def Nz(X:Cx)(f:Pw->Sem Pw)(r:V->Hp->VK->Prop):Prop :=
 ∀(π:List (Py×Obj)) (s:PF) (σ:St) (H:Hp) (x:V) (v:Pw) (Q:VK),Inv X π σ H s->bo x v->r x H Q ->
  Qq (Ql X.prog X.w) X.A (f v) (EP X π σ Q) X.xe s
def jO(X:Cx)(f:Pw)(r:ad->Hp->VK->Prop):Prop :=
 ∀(π:List (Py×Obj)) (s:PF) (σ:St) (H:Hp) (xs:ad) (us:List Pw) (Q:VK),Inv X π σ H s->bG xs us->r xs H Q ->
  Qq (Ql X.prog X.w) X.A (call f us) (EP X π σ Q) X.xe s
def Pt(X:Cx)(r:V->Hp->(Bool->Hp->Prop)->Prop):Prop :=
 ∀(π:List (Py×Obj)) (s:PF) (σ:St) (H:Hp) (x:V) (v:Pw) (Q:Bool->Hp->Prop),Inv X π σ H s->bo x v->r x H Q ->
  Qq (Ql X.prog X.w) X.A (truthy v) (TP X π σ Q) X.xe s
def EM(r:R2)(ta tb:TE):TE:=λσ H Q=>ta σ H λx H1=>tb σ H1 λy H2=>r x y H2 Q
def O5(r:V->Hp->VK->Prop)(ta:TE):TE:=λσ H Q=>ta σ H λx H1=>r x H1 Q
def rI(C:Int->Int->Prop)(g:Int->Int->V):R2:=λx y H Q=>∃i j,x=.int i/\y=.int j/\C i j/\Q (g i j) H
def Eb(g:Int->Int->V):R2:=λx y H Q=>∃i j,x=.int i/\y=.int j/\Q (g i j) H
def rU(g:Int->V):V->Hp->VK->Prop:=λx H Q=>∃i,x=.int i/\Q (g i) H
section
variable {X:Cx}{a b c:Qc}{ta tb tc:TE}{pos:Pos}
def KR(ha:PE X a ta)(hb:PE X b tb){π:List (Py×Obj)}{s:PF}{σ:St}{H:Hp}{R:V->V->Hp->Prop}(I:Inv X π σ H s)
  (h:ta σ H λx H1=>tb σ H1 λy H2=>R x y H2){Q:Pw->PF->Prop}{f:Pw->Pw->Sem Pw}
  (hf:∀v u s2 x y H2,Inv X π σ H2 s2->bo x v->bo y u->R x y H2->Qq (Ql X.prog X.w) X.A (f v u) Q X.xe s2) :
  Qq (Ql X.prog X.w) X.A (eval a X.env) (λv sg=>Qq (Ql X.prog X.w) X.A (eval b X.env) (λu si=>Qq (Ql X.prog X.w) X.A (f v u) Q X.xe si) X.xe sg) X.xe s:=by
 refine cT (ha π s σ H _ I h) λv s1 ⟨x,H1,I1,r1,q1⟩=>?_;refine cT (hb π s1 σ H1 _ I1 q1) λu s2 ⟨y,H2,I2,r2,q2⟩=>?_;exact hf v u s2 x y H2 I2 r1 r2 q2
def HE{op:Operator}{r:R2}(ho:eT X (binaryOp op) r)(ha:PE X a ta)(hb:PE X b tb):PE X (.BinOp a op b pos) (EM r ta tb):=by
 intro π s σ H Q I h;exact wpAny_BinOp (KR ha hb I h λv u s2 x y H2 I2 rx ry q=>ho π s2 σ H2 x y v u Q I2 rx ry q)
def LY{op:UnaryOp}{r:V->Hp->VK->Prop}(ho:Nz X (unaryOp op) r)(ha:PE X a ta):PE X (.UnaryOp op a pos) (O5 r ta):=by
 intro π s σ H Q I h;exact UnaryOp_ (cT (ha π s σ H _ I h) λv s1 ⟨x,H1,I1,r1,q1⟩=>ho π s1 σ H1 x v Q I1 r1 q1)
def Nr{f:Pw->Pw->Sem Pw}{C:Int->Int->Prop}{g:Int->Int->Int}
  (rule:∀(i j:Int) (t u:Tok) (s:PF) (Q:Pw->PF->Prop) (E:Pw->PF->Prop),C i j->Q (.int (g i j) s.toks) { s with toks:=s.toks+1 }->Qq (Ql X.prog X.w) X.A (f (.int i t) (.int j u)) Q E s) :
  eT X f (rI C λi j=>.int (g i j)):=by
 intro π s σ H x y v u Q I rx ry h;obtain⟨i,j,rfl,rfl,hc,q⟩:=h;obtain⟨t,rfl⟩:=rx;obtain⟨t',rfl⟩:=ry;exact rule i j t t' s _ _ hc ⟨.int (g i j),H,I.tok _,⟨_,rfl⟩,q⟩
def L9{f:Pw->Pw->Sem Pw}{g:Int->Int->Int}
  (rule:∀(i j:Int) (t u:Tok) (s:PF) (Q:Pw->PF->Prop) (E:Pw->PF->Prop),Q (.int (g i j) s.toks) { s with toks:=s.toks+1 }->Qq (Ql X.prog X.w) X.A (f (.int i t) (.int j u)) Q E s) :
  eT X f (Eb λi j=>.int (g i j)):=by
 intro π s σ H x y v u Q I rx ry h;obtain⟨i,j,rfl,rfl,q⟩:=h;obtain⟨t,rfl⟩:=rx;obtain⟨t',rfl⟩:=ry;exact rule i j t t' s _ _ ⟨.int (g i j),H,I.tok _,⟨_,rfl⟩,q⟩
def Fp{f:Pw->Pw->Sem Pw}{g:Int->Int->Bool}
  (rule:∀(i j:Int) (t u:Tok) (s:PF) (Q:Pw->PF->Prop) (E:Pw->PF->Prop),Q (.bool (g i j)) s->Qq (Ql X.prog X.w) X.A (f (.int i t) (.int j u)) Q E s) :
  eT X f (Eb λi j=>.bl (g i j)):=by
 intro π s σ H x y v u Q I rx ry h;obtain⟨i,j,rfl,rfl,q⟩:=h;obtain⟨t,rfl⟩:=rx;obtain⟨t',rfl⟩:=ry;exact rule i j t t' s _ _ ⟨.bl (g i j),H,I,rfl,q⟩
def Oy(i j:Int):Prop:=0<=j/\j<=1000000/\i.natAbs<2 ^ 64
def Nm(i j:Int):Prop:=(-(2 ^ 64)<i/\i<2 ^ 64)∨(-(2 ^ 64)<j/\j<2 ^ 64)
def Nm.ok{i j:Int}(h:Nm i j):IntMulOk i j:=by
 rcases h with⟨h1,h2⟩|⟨h1,h2⟩
 .exact .of_left (intBits_le_64 h1 h2)
 .exact .of_right (intBits_le_64 h1 h2)
def CD:eT X (binaryOp .Add) (Eb λi j=>.int (i+j)):=L9 λ_ _ _ _ _ _ _ q=>add_int q
def Jg:eT X (binaryOp .Sub) (Eb λi j=>.int (i-j)):=L9 λ_ _ _ _ _ _ _ q=>sub_int q
def yW:eT X (binaryOp .Mod) (rI (λ_ j=>j≠0) λi j=>.int (i.fmod j)):=Nr λ_ _ _ _ _ _ _ hc q=>mod_int' hc q
def Jh:eT X (binaryOp .Pow) (rI Oy λi j=>.int (i ^ j.toNat)):=Nr λ_ _ _ _ _ _ _ hc q=>pow_int_small hc.1 hc.2.1 hc.2.2 q
def O4{f:Pw->Sem Pw}{g:Int->Int}
  (rule:∀(i:Int) (t:Tok) (s:PF) (Q:Pw->PF->Prop) (E:Pw->PF->Prop),Q (.int (g i) s.toks) { s with toks:=s.toks+1 }->Qq (Ql X.prog X.w) X.A (f (.int i t)) Q E s) :
  Nz X f (rU λi=>.int (g i)):=by
 intro π s σ H x v Q I rx h;obtain⟨i,rfl,q⟩:=h;obtain⟨t,rfl⟩:=rx;exact rule i t s _ _ ⟨.int (g i),H,I.tok _,⟨_,rfl⟩,q⟩
def HZ:Nz X (unaryOp .USub) (rU λi=>.int (-i)):=O4 λ_ _ _ _ _ q=>neg_int q
end
section
variable {X:Cx}{a b c:Qc}{ta tb tc:TE}{pos:Pos}
def xR{π:List (Py×Obj)}{σ:St}{H:Hp}{s:PF}{Q:VK}{k k':Bool}(I:Inv X π σ H s)(q:Q (.bl k) H)(e:k=k'):EP X π σ Q (.bool k') s:=by
 subst e;exact⟨.bl k,H,I,rfl,q⟩
def vt:eT X (Qz .Lt) (Eb λi j=>.bl (decide (i<j))):=Fp λ_ _ _ _ _ _ _ q=>lt_int q
def vv:eT X (Qz .LtE) (Eb λi j=>.bl (decide (i<=j))):=Fp λ_ _ _ _ _ _ _ q=>le_int q
def yY:eT X (Qz .Gt) (Eb λi j=>.bl (decide (j<i))):=Fp λ_ _ _ _ _ _ _ q=>gt_int q
def CC:eT X (Qz .GtE) (Eb λi j=>.bl (decide (j<=i))):=Fp λ_ _ _ _ _ _ _ q=>ge_int q
def Ar:eT X (Qz .In) (λx y H Q=>∃i j,x=.str i/\y=.str j/\Q (.bl (!(RP j i 0 j.length 1).isEmpty)) H):=by
 intro π s σ H x y v u Q I rx ry h;obtain⟨i,j,rfl,rfl,q⟩:=h;obtain⟨t,rfl⟩:=rx;obtain⟨t',rfl⟩:=ry;exact in_str (xR I q rfl)
def eD:eT X (Qz .Is) (λx y H Q=>y=.non/\Q (.bl (decide (x=.non))) H):=by
 intro π s σ H x y v u Q I rx ry h;obtain⟨rfl,q⟩:=h;cases ry;refine is_none_gen (xR I q ?_);cases x<;>first
  |(cases rx;rfl)
  |(obtain⟨t,rfl⟩:=rx;rfl)
def og:eT X (Qz .IsNot) (λx y H Q=>y=.non/\Q (.bl (!decide (x=.non))) H):=by
 intro π s σ H x y v u Q I rx ry h;obtain⟨rfl,q⟩:=h;cases ry;refine isnot_none_gen (xR I q ?_);cases x<;>first
  |(cases rx;rfl)
  |(obtain⟨t,rfl⟩:=rx;rfl)
def eT.or{f:Pw->Pw->Sem Pw}{r r':R2}(h:eT X f r)(h':eT X f r'):eT X f (λx y H Q=>r x y H Q∨r' x y H Q):=by
 intro π s σ H x y v u Q I rx ry q;rcases q with q|q
 .exact h π s σ H x y v u Q I rx ry q
 .exact h' π s σ H x y v u Q I rx ry q
def yS{op:CmpOp}{r:R2}(ho:eT X (Qz op) r)(ha:PE X a ta)(hb:PE X b tb)(hm:behindInMarks op b=false):PE X (.Compare a [op] [b] pos) (EM r ta tb):=by
 intro π s σ H Q I h;exact wpAny_Compare1 (KR ha hb I h λv u s2 x y H2 I2 rx ry q=>ho π s2 σ H2 x y v u Q I2 rx ry q) hm
def Hv(t:TE):TT:=λσ H Q=>t σ H λx H'=>∃k,x=.bl k/\Q k H'
def yN{op:CmpOp}{r:R2}(ho:eT X (Qz op) r)(ha:PE X a ta)(hb:PE X b tb)(hm:behindInMarks op b=false):PT X (.Compare a [op] [b] pos) (Hv (EM r ta tb)):=by
 intro π s σ H Q I h;refine wpAny_isTrue_Compare1 (cT (ha π s σ H _ I h) λv s1 ⟨x,H1,I1,r1,q1⟩=>cT (hb π s1 σ H1 _ I1 q1) λu s2 ⟨y,H2,I2,r2,q2⟩ =>
  cT (ho π s2 σ H2 x y v u _ I2 r1 r2 q2) λc s3 ⟨z,H3,I3,r3,k,e,q3⟩=>?_) hm
 subst e;cases r3;exact Q8 ⟨H3,I3,q3⟩
def wY(r r':R2)(ta tb tc:TE):TE:=λσ H Q=>ta σ H λx H1=>tb σ H1 λy H2=>r x y H2 λz H3=>∃k,z=.bl k /\
 (if k=true then tc σ H3 λw' H4=>r' y w' H4 Q else Q (.bl false) H3)
def Cz{op op':CmpOp}{r r':R2}(ho:eT X (Qz op) r)(ho':eT X (Qz op') r')(ha:PE X a ta)(hb:PE X b tb)(hc:PE X c tc)
  (hm:lastMarks [op,op'] [b,c]=false:=by with_unfolding_all rfl):PE X (.Compare a [op,op'] [b,c] pos) (wY r r' ta tb tc):=by
 intro π s σ H Q I h;refine Compare_chain (cT (ha π s σ H _ I h) λv s1 ⟨x,H1,I1,r1,q1⟩=>chain_link (cT (hb π s1 σ H1 _ I1 q1) λu s2 ⟨y,H2,I2,r2,q2⟩ =>
  cT (ho π s2 σ H2 x y v u _ I2 r1 r2 q2) λd s3 ⟨z,H3,I3,r3,k,e,q3⟩=>?_)) hm
 subst e;cases r3;refine Q8 ?_;cases k with|false=>exact ite_ff ⟨.bl false,H3,I3,rfl,q3⟩|true=>exact ite_tt (chain_last (cT (hc π s3 σ H3 _ I3 q3) λw' s4 ⟨z',H4,I4,r4,q4⟩=>ho' π s4 σ H4 y z' u w' Q I4 r2 r4 q4))
def Cd{op op':CmpOp}{r r':R2}(ho:eT X (Qz op) r)(ho':eT X (Qz op') r')(ha:PE X a ta)(hb:PE X b tb)(hc:PE X c tc)
  (hm:lastMarks [op,op'] [b,c]=false:=by with_unfolding_all rfl):PT X (.Compare a [op,op'] [b,c] pos) (Hv (wY r r' ta tb tc)):=by
 intro π s σ H Q I h;refine isTrue_chain (cT (ha π s σ H _ I h) λv s1 ⟨x,H1,I1,r1,q1⟩=>test_link (cT (hb π s1 σ H1 _ I1 q1) λu s2 ⟨y,H2,I2,r2,q2⟩ =>
  cT (ho π s2 σ H2 x y v u _ I2 r1 r2 q2) λd s3 ⟨z,H3,I3,r3,k,e,q3⟩=>?_)) hm
 subst e;cases r3;refine Q8 ?_;cases k with
 |false=>
  obtain⟨k',e',q'⟩:=q3;cases e';exact ite_ff ⟨H3,I3,q'⟩
 |true=>
  refine ite_tt (test_last (cT (hc π s3 σ H3 _ I3 q3) λw' s4 ⟨z',H4,I4,r4,q4⟩=>cT (ho' π s4 σ H4 y z' u w' _ I4 r2 r4 q4) λd' s5 z9=>?_));obtain⟨z2,H5,I5,r5,k2,e2,q5⟩:=z9;subst e2;cases r5;exact Q8 ⟨H5,I5,q5⟩
noncomputable def Pr(K:Px) (x:V) (H:Hp) (k:Bool):Prop :=
 match x with
 |.non=>k=false
 |.bl b=>k=b
 |.int i=>k=(i != 0)
 |.str y=>y.length<=sizeLine/\k=((y.length:Int) != 0)
 |.byt y=>y.size<=sizeLine/\k=((y.size:Int) != 0)
 |.ref p=>(∃xs,dR K H p xs/\k=!xs.isEmpty)∨(∃xs,jd K H p xs/\k=!xs.isEmpty)∨∃kvs,H p=some (.dK kvs)/\k=!kvs.isEmpty
 |_=>False
def Jw{κ:Type}{kvs:List (κ×V)}{vs:List (κ×Pw)}(r:KV kvs vs):(!vs.isEmpty)=!kvs.isEmpty:=by
 cases r<;>rfl
def Jv{xs:ad}{its:List Pw}(r:bG xs its):(!its.toArray.isEmpty)=!xs.isEmpty:=by
 cases r<;>simp
def pE:(sizeLine:Nat)<2 ^ 63:=by rw[sizeLine_eq];decide
def o9:eT X (binaryOp .Add) (λx y H Q=>∃i j,x=.str i/\y=.str j/\i.length+j.length<=sizeLine/\Q (.str (i++j)) H):=by
 intro π s σ H x y v u Q I rx ry h;obtain⟨i,j,rfl,rfl,hz,q⟩:=h;obtain⟨t,rfl⟩:=rx;obtain⟨t',rfl⟩:=ry;exact add_str (λt' tk=>⟨.str (i++j),H,I.tok _,⟨_,rfl⟩,q⟩) hz
def rQ{x:V}{us:List Pw}(r:bG [x] us):∃u,us=[u]/\bo x u:=by
 cases r with|cons r1 r2=>cases r2;exact⟨_,rfl,r1⟩
def Hs{x y:V}{us:List Pw}(r:bG [x,y] us):∃u w',us=[u,w']/\bo x u/\bo y w':=by
 cases r with
 |cons r1 r2=>
  cases r2 with|cons r3 r4=>cases r4;exact⟨_,_,rfl,r1,r3⟩
def qk:jO X (.builtin "abs") (λxs H Q=>∃i,xs=[.int i]/\Q (.int (if i<0 then -i else i)) H):=by
 intro π s σ H xs us Q I r h;obtain⟨i,rfl,q⟩:=h;obtain⟨u,rfl,t,rfl⟩:=rQ r;exact call_abs_int λu tk=>⟨.int (if i<0 then -i else i),H,I.tok _,⟨_,rfl⟩,q⟩
def AX(hc:X.calm=true):jO X (.builtin "max") (λxs H Q=>∃i j,xs=[.int i,.int j]/\Q (.int (if j > i then j else i)) H):=by
 intro π s σ H xs us Q I r h;obtain⟨i,j,rfl,q⟩:=h;obtain⟨u,w',rfl,⟨t,rfl⟩,⟨t',rfl⟩⟩:=Hs r;refine max_two_ints (I.ok.hd hc) λh' tk k=>⟨_,H,I.kept k,?_,q⟩
 by_cases hj:j > i
 .rw[if_pos hj,if_pos hj];exact⟨_,rfl⟩
 .rw[if_neg hj,if_neg hj];exact⟨_,rfl⟩
def AW(hc:X.calm=true):jO X (.builtin "min") (λxs H Q=>∃i j,xs=[.int i,.int j]/\Q (.int (if j<i then j else i)) H):=by
 intro π s σ H xs us Q I r h;obtain⟨i,j,rfl,q⟩:=h;obtain⟨u,w',rfl,⟨t,rfl⟩,⟨t',rfl⟩⟩:=Hs r;refine min_two_ints (I.ok.hd hc) λh' tk k=>⟨_,H,I.kept k,?_,q⟩
 by_cases hj:j<i
 .rw[if_pos hj,if_pos hj];exact⟨_,rfl⟩
 .rw[if_neg hj,if_neg hj];exact⟨_,rfl⟩
def AY:jO X (.type "int") (λxs H Q=>(∃i,xs=[.int i]/\Q (.int i) H)∨∃k,xs=[.bl k]/\Q (.int (if k then 1 else 0)) H):=by
 intro π s σ H xs us Q I r h;rcases h with⟨i,rfl,q⟩|⟨k,rfl,q⟩
 .obtain⟨u,rfl,t,rfl⟩:=rQ r
  exact call_int_int ⟨.int i,H,I,⟨_,rfl⟩,q⟩
 .obtain⟨u,rfl,r1⟩:=rQ r
  cases r1;exact call_int_bool ⟨.int (if k then 1 else 0),H,I.tok _,⟨_,rfl⟩,q⟩
def Ni(K:Px)(x:V)(H:Hp)(n:Nat):Prop :=
 match x with
 |.str y=>y.length<=sizeLine/\n=y.length
 |.byt y=>y.size<=sizeLine/\n=y.size
 |.ref p=>(∃xs,dR K H p xs/\n=xs.length)∨∃xs,jd K H p xs/\n=xs.length
 |_=>False
def bz:jO X (.builtin "len") (λxs H Q=>∃x n,xs=[x]/\Ni X.K x H n/\Q (.int n) H):=by
 intro π s σ H xs us Q I r h;obtain⟨x,n,rfl,e,q⟩:=h;obtain⟨u,rfl,rx⟩:=rQ r;have hl:=pE;have hs:sizeLine=16777216:=sizeLine_eq;cases x with
 |str y=>
  obtain⟨t,rfl⟩:=rx;obtain⟨hy,e'⟩:y.length<=sizeLine/\n=y.length:=e;subst e';exact len_str (by omega) ⟨.int _,H,I.tok _,⟨_,rfl⟩,q⟩
 |byt y=>
  obtain⟨t,rfl⟩:=rx;obtain⟨hy,e'⟩:y.size<=sizeLine/\n=y.size:=e;subst e';exact W.len_bytes (by omega) ⟨.int _,H,I.tok _,⟨_,rfl⟩,q⟩
 |ref p=>
  cases rx;have e':(∃xs,dR X.K H p xs/\n=xs.length)∨∃xs,jd X.K H p xs/\n=xs.length:=e;rcases e' with⟨xs,hx,e'⟩|⟨xs,hx,e'⟩
  .subst e'
   obtain⟨its,r',pl,hz⟩:=I.list hx;have hlen:=r'.length;exact Calls.call_len_list pl.isList (by simp only[Qi];omega) ⟨.int xs.length,H,I.tok _,⟨_,by simp only[Qi];rw[hlen]⟩,q⟩
  .subst e'
   obtain⟨its,r',pl,hz⟩:=I.tuple hx;have hlen:=r'.length;exact len_tuple pl (by simp only[Qi];omega) ⟨.int xs.length,H,I.tok _,⟨_,by simp only[Qi];rw[hlen]⟩,q⟩
 |_=>exact(show False from e).elim
end
structure K6 (h:Qo) (x dx C:Py) (mA:PY->Option Pw):Prop where
 obj:h.get? x=some (W.instObj C dx)
 ns:h.Ns1 dx mA
 ne:dx≠x
def Ay{h:Qo}{dx:Py}{mA:PY->Option Pw}(n:h.Ns1 dx mA):∃od,h.get? dx=some od/\∀name,W.lookIn name od=some (mA name):=by
 obtain⟨o,es,ep,ho,hd,hk,_,hm⟩:=n;refine⟨o,ho,λname=>?_⟩;have e:=hm name;unfold nsFind findBy at e;rw[←Array.find?_toList]at e;unfold W.lookIn;rw[hd];dsimp only;split
 .rename_i y q
  rw[q]at e;exact congrArg some e
 .rename_i q
  rw[q]at e;have a:es.toList.any (·.refKey)=false:=by
   rw[List.any_eq_false];intro y hy;obtain⟨z,t,hkey⟩:=hk y (U2.mp hy);simp[DictEntry.refKey,hkey]
  have a':¬es.toList.any (·.refKey)=true:=by rw[a];exact Rk
  rw[if_neg a'];exact congrArg some e
def K6.look{h:Qo}{x dx C:Py}{mA:PY->Option Pw}(I:K6 h x dx C mA):∃od,W.InstAt h x (W.instObj C dx) C (some od)/\∀name,W.lookIn name od=some (mA name) :=
 let ⟨od,ho,hl⟩:=Ay I.ns
 ⟨od,⟨I.obj,rfl,rfl,ho⟩,hl⟩
def me{v:V}{o:Option Pw}(r:rN (some v) o):∃u,o=some u/\bo v u:=by
 cases o with|none=>exact(show False from r).elim|some u=>exact⟨u,rfl,r⟩
section
variable {P:Qw}{w:QK}{H H':Hp}{h h':Qo}{a C dx:Py}{fs fs':List (PY×V)}
def zr(hok:lj P w H h)(e:H a=some (.ins C dx fs)):∃mA,K6 h a dx C mA/\(∀f,rN (fs.lookup f) (mA f))/\PySem.Within mA (fs.map (·.1))/\fs.length<=1000/\H dx=some (.own a):=by
 obtain⟨d,z,ne,ob,mA,n,r,q⟩:=(show cv P w H h a (.ins C dx fs) from hok a _ e)
 exact⟨mA,⟨ob,n,ne⟩,r,q,z,d⟩
end
structure NH (K:Px) (C:Py):Prop where
 pg:W.plainGet K C Str.empty=true
 hd:W.hasDictIn K C=true
 po:W.plainOver K C=true
 sa:UO K (.ref C) "__setattr__"=some (some (.builtin "object.__setattr__"))
def NH.get{K:Px}{C:Py}(c:NH K C)(f:PY):W.plainGet K C f=true:=c.pg
def K8(K:Px)(C:Py)(f:PY):Prop:=UO K (.ref C) f=some none
section
variable {X:Cx}{π:List (Py×Obj)}{σ:St}{H:Hp}{s:PF}{A:QV}{E:Pw->PF->Prop}{Q:Pw->PF->Prop}{c:Pw}{b:Bool}
inductive n6 (K:Px) (H:Hp):V->Pw->Prop where
 |non:n6 K H .non (.type "NoneType")
 |bl (x:Bool):n6 K H (.bl x) (.type "bool")
 |int (i:Int):n6 K H (.int i) (.type "int")
 |str (x:PY):n6 K H (.str x) (.type "str")
 |flt (x:UInt64):n6 K H (.flt x) (.type "float")
 |lst {a:Py}{xs:ad}(e:H a=some (.lst xs)):n6 K H (.ref a) (.type "list")
 |frz {a:Py}{o:Obj}{xs:ad}(e:H a=some (.frz o (.lst xs))):n6 K H (.ref a) (.type "list")
 |tup {a:Py}{xs:ad}(e:H a=some (.tup xs)):n6 K H (.ref a) (.type "tuple")
 |dK {a:Py}{kvs:List (dI×V)}(e:H a=some (.dK kvs)):n6 K H (.ref a) (.type "dict")
 |dT {a:Py}{kvs:List (List dI×V)}(e:H a=some (.dT kvs)):n6 K H (.ref a) (.type "dict")
 |ins {a C dx:Py}{fs:List (PY×V)}(e:H a=some (.ins C dx fs)) (cl:NH K C) (ha:UO K (.ref C) "__class__"=some (some (.builtin "object.__class__")))
   (hn:W.specialIn K (.builtin "object.__class__") "__get__"=some (some (.builtin "getset_descriptor.__get__"))) (htk:W.takesIn K (.builtin "object.__class__")=some true)
   (hm:W.mroIn K C (.type "object")=some true):n6 K H (.ref a) (.ref C)
def ib{x:V}{u t:Pw}(I:Inv X π σ H s)(rx:bo x u)(ty:n6 X.K H x t)(e:W.kitOne X.K t c=some b)(h:∀tk,Q (.bool b) { s with toks:=tk }) :
  Qq (Ql X.prog X.w) A (call (.builtin "isinstance") [u,c]) Q E s:=by
 cases ty with
 |non=>cases (show u=Ri from rx);exact Rg W.kitx_none I.kIn RT e (λz=>nomatch z) h|bl y=>cases (show u=Ra y from rx);exact Rg W.kitx_bool I.kIn RT e (λz=>nomatch z) h|int i=>obtain⟨t,q⟩:=(show ∃t,u=Rn i t from rx);cases q;exact Rg W.kitx_int I.kIn RT e (λz=>nomatch z) h|str y=>obtain⟨t,q⟩:=(show ∃t,u=Rm y t from rx);cases q;exact Rg W.kitx_str I.kIn RT e (λz=>nomatch z) h|flt y=>obtain⟨t,q⟩:=(show ∃t,u=Value.float y t from rx);cases q;exact Rg W.kitx_float I.kIn RT e (λz=>nomatch z) h
 |@lst a xs ea=>
  cases (show u=QM a from rx);obtain⟨_,_,n,_,h1⟩:=(show cv X.prog X.w H s.heap a (.lst xs) from I.hok a _ ea)
  exact Rg UN I.kIn ⟨_,h1,rfl⟩ e (λz=>nomatch z) h
 |@frz a ob xs ea=>
  cases (show u=QM a from rx);obtain⟨_,_,_,n,_,h1⟩:=(show cv X.prog X.w H s.heap a (.frz ob (.lst xs)) from I.hok a _ ea)
  exact Rg UN I.kIn ⟨_,h1,rfl⟩ e (λz=>nomatch z) h
 |@tup a xs ea=>
  cases (show u=QM a from rx);obtain⟨_,_,_,p⟩:=(show cv X.prog X.w H s.heap a (.tup xs) from I.hok a _ ea)
  obtain⟨o,h1,h2,_⟩:=p;exact Rg W.kitx_tuple I.kIn ⟨o,h1,h2⟩ e (λz=>nomatch z) h
 |@dK a kvs ea=>
  cases (show u=QM a from rx);obtain⟨_,_,vs,_,p⟩:=(show cv X.prog X.w H s.heap a (.dK kvs) from I.hok a _ ea)
  obtain⟨o,es,ep,h1,h2,_⟩:=p;exact Rg TX I.kIn ⟨o,h1,h2.1⟩ e (λz=>nomatch z) h
 |@dT a kvs ea=>
  cases (show u=QM a from rx);obtain⟨_,_,xs,_,o,es,ep,h1,h2,_⟩:=(show cv X.prog X.w H s.heap a (.dT kvs) from I.hok a _ ea)
  exact Rg TX I.kIn ⟨o,h1,h2.1⟩ e (λz=>nomatch z) h
 |@ins a C dx fs ea cl ha hn htk hm=>
  cases (show u=QM a from rx);obtain⟨mA,O,_⟩:=zr I.hok ea;obtain⟨od,J,_⟩:=O.look;exact Rg (W.kitx_own (cl.get _) cl.hd ha hn htk hm) I.kIn J e (λz=>nomatch z) h
end
structure da (k:Nat) (A:QV):Prop where
 hd:A.handled=none
 dp:A.depth+3*k+5<recursionLimit
 un:A.units+16*k+200<RI
 gd:A.guards=some []
def da.mono{j k:Nat}{A:QV}(r:da k A)(h:j<=k):da j A:=⟨r.hd,by have:=r.dp;omega,by have:=r.un;omega,r.gd⟩
def da.deeper{k:Nat}{A:QV}(r:da (k+1) A)(env:Env):da k (A.deeper env) :=
 ⟨r.hd,by have:=r.dp;show A.depth+1+3*k+5<_;omega,by have:=r.un;show A.units+3+16*k+200<_;omega,r.gd⟩
def da.depth{k:Nat}{A:QV}(r:da k A):A.depth<recursionLimit:=by have:=r.dp;omega
def da.units{k:Nat}{A:QV}(r:da k A):A.units+64<RI:=by have:=r.un;omega
def uY:TA:=λ_ H Q=>Q [] H
def jh(ta:TE)(tr:TA):TA:=λσ H Q=>ta σ H λx H1=>tr σ H1 λxs H2=>Q (x::xs) H2
section
variable {X:Cx}{e:Qc}{es:List Qc}{te:TE}{t:TA}{pos:Pos}
def eC:PA X [] uY:=λ_ _ _ _ H Q I h=>Calls.spliced_nil ⟨[],H,I,.nil,h⟩
def cO(ha:PE X e te)(hr:PA X es t)(hs:PM (e::es) X.env=(false,eval e X.env)::PM es X.env:=by rfl):PA X (e::es) (jh te t):=by
 intro pos π s σ H Q I h;rw[hs];show Qq _ _ (spliced ((false,eval e X.env)::QZ pos (PM es X.env))) _ _ s;refine Calls.spliced_cons (cT (ha π s σ H _ I h) λu s1 ⟨x,H1,I1,r1,q1⟩=>?_);exact cT (hr pos π s1 σ H1 _ I1 q1) λus s2 ⟨xs,H2,I2,r2,q2⟩=>⟨x::xs,H2,I2,.cons r1 r2,q2⟩
def EL(t:TA):TE:=λσ H Q=>t σ H λxs H1=>xs.length<=sizeLine/\∀p,H1 p=none->Q (.ref p) (upd H1 p (.tup xs))
def NN(t:TA):TE:=λσ H Q=>t σ H λxs H1=>xs.length<=sizeLine/\∀p,H1 p=none->Q (.ref p) (upd H1 p (.lst xs))
def Cr{x1}(h:PA X es t):PE X (.Tuple es x1 pos) (EL t):=by
 intro π s σ H Q I hq;refine wpAny_Tuple_spliced (cT (h pos π s σ H _ I hq) λus s1 ⟨xs,H1,I1,r,z,q⟩=>⟨by rw[←r.length];exact z,?_⟩);have hf:H1 s1.heap.objs.size=none:=I1.hok.fresh (P4 _);refine⟨.ref s1.heap.objs.size,upd H1 s1.heap.objs.size (.tup xs),I1.laid (t':=s1.toks) (λb u e=>P5 _ e) (P4 _) ?_,rfl,q _ hf⟩;exact⟨z,us,r,⟨_,QR _ rfl,rfl,_,rfl⟩⟩
def Ct(h:PA X es t):PE X (.List es pos) (NN t):=by
 intro π s σ H Q I hq;refine wpAny_List_spliced (cT (h pos π s σ H _ I hq) λus s1 ⟨xs,H1,I1,r,z,q⟩=>⟨by rw[←r.length];exact z,?_⟩);have hf:H1 s1.heap.objs.size=none:=I1.hok.fresh (P4 _);refine⟨.ref s1.heap.objs.size,upd H1 s1.heap.objs.size (.lst xs),I1.laid (t':=s1.toks) (λb u e=>P5 _ e) (P4 _) ?_,rfl,q _ hf⟩;exact⟨z,us,0,r,QR _ rfl⟩
end
abbrev Sp:=ad->Hp->VK->XK->Prop
abbrev qK:=List Env->Hp->PF->XK->Pw->PF->Prop
structure D8 (P:Qw) (w:QK) (K:Px) (mg:PY->Option Pw) (base:Qo) (A:QV) (outer:List Env) (s:PF) (H:Hp):Prop where
 frames:A.frames=some outer
 mod:Mod K mg base
 bs:∀b o,base.get? b=some o->s.heap.get? b=some o/\H b=none
 bsz:base.objs.size<=s.heap.objs.size
 funs:s.heap.FunFrames base outer
 frf:∀b∈A6 outer,H b=none
 hok:lj P w H s.heap
 bare:AllBare s.gens
def CE(outer:List Env)(P:Qw)(w:QK)(H:Hp)(s:PF)(Q:VK)(u:Pw)(s':PF):Prop :=
 ∃v H',s'.os=s.os/\AllBare s'.gens/\Un (A6 outer) [] H H' s.heap s'.heap/\lj P w H' s'.heap/\bo v u/\Q v H'
def CR(CX:qK)(outer:List Env)(P:Qw)(w:QK)(H:Hp)(s:PF)(Q:VK)(E:XK)(r:T8)(s':PF):Prop :=
 match r with
 |.ok (.ret u)=>CE outer P w H s Q u s'
 |.ok _=>False
 |.error e=>CX outer H s E e s'
structure gp (P:Qw) (w:QK) (K:Px) (mg:PY->Option Pw) (base:Qo) (CX:qK) (k:Nat) (f:Py) (fd:QI) (ps:bi) (sp:Sp):Prop where
 len:∀vs H Q E,sp vs H Q E->vs.length=ps.length
 run:∀(A:QV) (outer:List Env) (s:PF) (H:Hp) (args:Args) (us:List Pw) (vs:ad) (Q:VK) (E:XK),da k A->D8 P w K mg base A outer s H->BindsTo s fd args (ps.zip us)->bG vs us->sp vs H Q E ->
  Ss (Ql P w) A (.call (.ref f) args) (CR CX outer P w H s Q E) s
def gp.mono{P:Qw}{w:QK}{K:Px}{mg:PY->Option Pw}{base:Qo}{CX:qK}{j k:Nat}{f:Py}{fd:QI}{ps:bi}{sp:Sp}(F:gp P w K mg base CX j f fd ps sp)(h:j<=k) :
  gp P w K mg base CX k f fd ps sp:=⟨F.len,λA outer s H args us vs Q E hr=>F.run A outer s H args us vs Q E (hr.mono h)⟩
def gp.imp{P:Qw}{w:QK}{K:Px}{mg:PY->Option Pw}{base:Qo}{CX:qK}{k:Nat}{f:Py}{fd:QI}{ps:bi}{sp sp':Sp}(F:gp P w K mg base CX k f fd ps sp)
  (h:∀vs H Q E,sp' vs H Q E->sp vs H Q E):gp P w K mg base CX k f fd ps sp' :=
 ⟨λvs H Q E q=>F.len vs H Q E (h _ _ _ _ q),λA outer s H args us vs Q E hr he hb hv hs=>F.run A outer s H args us vs Q E hr he hb hv (h _ _ _ _ hs)⟩
section
variable {X:Cx}{π:List (Py×Obj)}{σ:St}{H:Hp}{s s':PF}
def Inv.env0(I:Inv X π σ H s):D8 X.prog X.w X.K X.mg X.base X.A X.stack s H :=
 ⟨I.ok.frames,I.ok.mod,I.bs,Qh I.ok.bsz I.sz,I.stack,I.stkFree,I.hok,I.bare⟩
def Inv.after{Q:VK}{u:Pw}(I:Inv X π σ H s)(h:CE X.stack X.prog X.w H s Q u s'):EP X π σ Q u s':=by
 obtain⟨v,H',os,bare,un,hok,r,q⟩:=h;obtain⟨hh,g,d,t,os'⟩:=s';obtain rfl:os'=s.os:=os;exact⟨v,H',I.call (h':=hh) (g':=g) (d':=d) (t':=t) (ch:=[]) un hok bare (λb z=>absurd z (by simp)),r,q⟩
end
def Lz(sp:Sp)(dvs:ad)(E:XK)(t:TA):TE:=λσ H Q=>t σ H λvs H1=>sp (vs++dvs) H1 Q E
def kF(K:Px)(fd:QI)(ps:bi)(ds:List Pw):Prop :=
 ∀(s:PF) (us:List Pw),K.In s.heap->(us++ds).length=ps.length->BindsTo s fd ⟨us,[]⟩ (ps.zip (us++ds))
def kF.all{K:Px}{fd:QI}{ps:bi}(h:∀us:List Pw,us.length=ps.length->bindArgs fd ⟨us,[]⟩=pure (ps.zip us)):kF K fd ps []:=λs us _ hl=>by
 rw[QC]at hl ⊢;exact .of_eq (h us hl)
def fK(CX:qK)(X:Cx)(E:XK):Prop:=∀(π:List (Py×Obj)) (σ:St) (H:Hp) (s:PF) (e:Pw) (s':PF),Inv X π σ H s->CX X.stack H s E e s'->X.xe e s'
section
variable {X:Cx}{CX:qK}{k:Nat}{f C:Py}{fd:QI}{ps:bi}{sp:Sp}{dvs:ad}{ds:List Pw}{E:XK}{x m:PY}{p pos apos:Pos}{e o:Qc}{es:List Qc}{ta:TE}{t:TA}
def IG{π:List (Py×Obj)}{σ:St}{H:Hp}{s:PF}{Q:VK}{us:List Pw}{vs:ad}(F:gp X.prog X.w X.K X.mg X.base CX k f fd ps sp)(hr:da k X.A)(hb:kF X.K fd ps ds)(hd:bG dvs ds)(hx:fK CX X E)
  (I:Inv X π σ H s)(r:bG vs us)(h:sp (vs++dvs) H Q E):Qq (Ql X.prog X.w) X.A (call (.ref f) us) (EP X π σ Q) X.xe s:=by
 have r2:bG (vs++dvs) (us++ds):=r.append hd;have hl:(us++ds).length=ps.length:=by rw[←r2.length];exact F.len _ _ _ _ h
 refine wpAny_call (codeAny_mono (F.run X.A X.stack s H ⟨us,[]⟩ (us++ds) (vs++dvs) Q E hr I.env0 (hb s us I.kIn hl) r2 h) λr s' hq=>?_);cases r with
 |error e=>exact hx π σ H s e s' I hq
 |ok fl=>
  cases fl with|ret u=>exact I.after hq|next|brk|cont=>exact RY hq
def lG(F:gp X.prog X.w X.K X.mg X.base CX k f fd ps sp)(hr:da k X.A)(hg:Gl X x)(hm:X.mg x=some (.ref f))(hk:Td X.K (.ref f)=true)(hb:kF X.K fd ps ds)(hd:bG dvs ds)(hx:fK CX X E)
  (ha:PA X (e::es) t)(hdb:(x==("__debug__" : PY))=false:=by decide)(he:PM (e::es) X.env=(false,eval e X.env)::PM es X.env:=by rfl)(hpl:(QZ pos (PM es X.env)).any (·.1)=false:=by rfl) :
  PE X (.Call (.Name x p) (e::es) [] pos) (Lz sp dvs E t):=by
 intro π s σ H Q I h;refine wpAny_Call_Name_kw (zk I hg hm ?_ hdb);refine W.callWith_K (h₀:=X.base) I.ok.mod.kin hk (cT (ha pos π s σ H _ I h) λus s1 z9=>?_) he hpl;obtain⟨vs,H1,I1,r,q⟩:=z9;refine⟨I1.kIn,?_⟩;exact IG F hr hb hd hx I1 r q
end
structure fS (N P:bi) (sc:SH):Prop where
 kind:sc.kind=.function
 co:sc.isCoroutine=false
 gen:sc.isGenerator=false
 nd:N.Nodup
 pre:N.take P.length=P
 par:∀x∈P,sc.names.lookup x=some .local ∨ sc.names.lookup x=some .cell
 nofree:∀y∈sc.names,y.2≠.free
theorem sW{kindOf:PY->Option Rc}{x:PY}:∀{binds:List (PY×Pw)}{m:PY->Option Pw},(∀v,(x,v)∉binds)->bindL kindOf binds m x=m x
 |[],_,_=>rfl
 |(n,v)::r,m,h=>by
  unfold bindL;rw[sW λw hw=>h w (PV _ hw)];split
  .have:x≠n:=by rintro rfl;exact h v Qf
   simp[this]
  .rfl
theorem sY{kindOf:PY->Option Rc}{x:PY}:∀{binds:List (PY×Pw)}{m:PY->Option Pw},(∀v,(x,v)∉binds)->bindC kindOf binds m x=m x
 |[],_,_=>rfl
 |(n,v)::r,m,h=>by
  unfold bindC;rw[sY λw hw=>h w (PV _ hw)];split
  .rfl
  .have:x≠n:=by rintro rfl;exact h v Qf
   simp[this]
theorem sX{kindOf:PY->Option Rc}{x:PY}{v:Pw}:∀{P:bi}{vs:List Pw}{i:Nat}{m:PY->Option Pw},P.Nodup->P[i]?=some x->vs[i]?=some v->kindOf x=some .local ->
  bindL kindOf (P.zip vs) m x=some v
 |[],_,_,_,_,h,_,_=>by simp at h
 |_::_,[],_,_,_,_,h,_=>by simp at h
 |p::P,w::vs,0,m,nd,h1,h2,hk=>by
  simp at h1 h2;subst h1;subst h2;show bindL kindOf ((p,w)::P.zip vs) m p=_;unfold bindL;rw[sW λv hv=>(Rq.mp nd).1 (T4 hv).1,if_pos hk];simp
 |p::P,w::vs,i+1,m,nd,h1,h2,hk=>by
  show bindL kindOf ((p,w)::P.zip vs) m x=_;unfold bindL;exact sX (i:=i) (Rq.mp nd).2 (by simpa using h1) (by simpa using h2) hk
theorem sZ{kindOf:PY->Option Rc}{x:PY}{v:Pw}:∀{P:bi}{vs:List Pw}{i:Nat}{m:PY->Option Pw},P.Nodup->P[i]?=some x->vs[i]?=some v->kindOf x≠some .local ->
  bindC kindOf (P.zip vs) m x=some v
 |[],_,_,_,_,h,_,_=>by simp at h
 |_::_,[],_,_,_,_,h,_=>by simp at h
 |p::P,w::vs,0,m,nd,h1,h2,hk=>by
  simp at h1 h2;subst h1;subst h2;show bindC kindOf ((p,w)::P.zip vs) m p=_;unfold bindC;rw[sY λv hv=>(Rq.mp nd).1 (T4 hv).1,if_neg hk];simp
 |p::P,w::vs,i+1,m,nd,h1,h2,hk=>by
  show bindC kindOf ((p,w)::P.zip vs) m x=_;unfold bindC;exact sZ (i:=i) (Rq.mp nd).2 (by simpa using h1) (by simpa using h2) hk
def start(N:bi)(vs:ad):St:=vs.map some++Qd (N.length-vs.length) none
noncomputable def l3(CX:qK) (P:Qw) (w:QK) (K:Px) (mg:PY->Option Pw) (base:Qo) (N:bi) (qual:PY) (scope:SH) (f:Py) (cd:Pw) (A:QV) (outer:List Env) (s:PF) (H:Hp) (E:XK):Cx where
 prog:=P
 w:=w
 K:=K
 mg:=mg
 base:=base
 A:=A.deeper (envOfC qual scope s.heap.objs.size f cd)
 N:=N
 sf:=s
 Ha:=H
 env:=envOfC qual scope s.heap.objs.size f cd
 outer:=outer
 stack:=envOfC qual scope s.heap.objs.size f cd::outer
 ex:=[]
 calm:=true
 fn:=λ_=>true
 pn:=[]
 xe:=λe s'=>Qq (Ql P w) (A.deeper (envOfC qual scope s.heap.objs.size f cd)) (leaving (envOfC qual scope s.heap.objs.size f cd) e) (λ_ s''=>CX outer H s E e s'') (λe' s''=>CX outer H s E e' s'') s'
def wC{sc:SH}{n:Nat}{x:PY}(h:sc.names.lookup x=some .cell):∃c,(cellsFrom n sc.names []).lookup x=some c:=by
 have q:=W.cellsFrom_some sc.names n [] (.inl h);exact Ta.mp q
def AF{CX:qK}{P:Qw}{w:QK}{K:Px}{mg:PY->Option Pw}{base:Qo}{N ps:bi}{qual:PY}{scope:SH}{f:Py}{cd:Pw}{A:QV}{outer:List Env}{s s1:PF}{H:Hp}{E:XK}{us:List Pw}{vs:ad}
  (S:fS N ps scope)(hd:A.handled=none)(e0:D8 P w K mg base A outer s H)(hl:vs.length=ps.length)(r:bG vs us)
  (x:InCallC s s.heap.objs.size (bindL (envOfC qual scope s.heap.objs.size f cd).kindOf (ps.zip us) λ_=>none) (cellsFrom (s.heap.objs.size+1) scope.names []) (bindC (envOfC qual scope s.heap.objs.size f cd).kindOf (ps.zip us) λ_=>none) s1) :
  Inv (l3 CX P w K mg base N qual scope f cd A outer s H E) [] (start N vs) H s1:=by
 have hpl:ps.length<=N.length:=by have:=congrArg S0 S.pre;rw[QO]at this;omega
 obtain⟨h1,tk,rfl,hk⟩:=x.done;have noA:∀b:Py,b∉(l3 CX P w K mg base N qual scope f cd A outer s H E).ex:=λb z=>absurd (show b∈([]:List Py) from z) (by simp);refine⟨⟨e0.mod,S.kind,rfl,rfl,P4 _,λy z c h1 h2=>?_,λy hy=>?_,λy c _ h=>?_,λ_=>hd,Around.frames_deeper e0.frames,.inr ⟨rfl,rfl⟩,λb z=>absurd z (noA b),e0.bs,e0.bsz,λb _ _=>noA b,λb z=>absurd z (noA b),e0.funs,e0.frf⟩,
  rfl,e0.bare,Un.kept hk,⟨_,x.toInCall.ns,λi y v h1 h2 h3=>?_⟩,λy c h=>⟨_,x.cell y c h⟩,e0.hok.fresh (P4 _),λy c h=>?_,λp hp=>absurd (show p∈([]:List (Py×Obj)) from hp) (by simp),e0.hok.kept hk,?_⟩
 .exact name_of_addr x.apart (Rr h1) (Rr h2)
 .have hy:scope.names.lookup y=some .cell∨scope.names.lookup y=some .free:=hy
  rcases hy with hy|hy
  .exact wC hy
  .exact absurd rfl (S.nofree _ (Rr hy))
 .exact Th (x.above y c (Rr h))
 .have hi:i<vs.length:=by
   unfold start at h2
   by_cases hi:i<vs.length
   .exact hi
   .rw[P6 (by simpa using hi)]at h2
    rw[Qb]at h2;split at h2<;>cases h2
  have ha:vs[i]?=some v:=by
   unfold start at h2;rw[P0 (by simpa using hi),PN]at h2;cases e:vs[i]? with|none=>rw[e]at h2;cases h2|some a=>rw[e]at h2;cases h2;rfl
  obtain⟨u,hu,rv⟩:=r.get ha;have hp:ps[i]?=some y:=by
   rw[←S.pre,Uk (by omega)];exact h1
  have ndP:ps.Nodup:=by rw[←S.pre];exact S.nd.sublist (List.take_sublist _ _)
  refine⟨u,rv,?_⟩;rcases S.par y (PU hp) with k|k
  .exact .inl ⟨k,sX ndP hp hu k⟩
  .obtain⟨c,e⟩:=wC (n:=s.heap.objs.size+1) k
   refine .inr ⟨.inl k,c,e,?_⟩;have q:=x.cell y c e;rw[sZ ndP hp hu (by show scope.names.lookup y≠_;rw[k];decide)]at q;exact q
 .exact e0.hok.fresh (Th (x.above y c (Rr h)))
 .unfold start
  show _=N.length;rw[Qs,Pz,Qy];omega
def Mw{CX:qK}{P:Qw}{w:QK}{K:Px}{mg:PY->Option Pw}{base:Qo}{k:Nat}{f:Py}{name qual:PY}{params:Arguments}{body:List Q1}{scope:SH}{dV kV doc pm cdv ct oc:Pw}{an od:Option Py}
  {osl:Array (Option Pw)}{N ps:bi}{sp:Sp}(lk:K.lookup f=some ⟨oc,od,.func (Sq name qual params body scope dV kV doc pm an cdv ct),osl⟩) (hcd:UP K cdv qual=true) (S:fS N ps scope)
  (len:∀vs H Q E,sp vs H Q E->vs.length=ps.length)
  (hbody:∀(A:QV) (outer:List Env) (s:PF) (H:Hp) (vs:ad) (Q:VK) (E:XK),da k (A.deeper (envOfC qual scope s.heap.objs.size f cdv))->sp vs H Q E ->
   ∃t,qL (l3 CX P w K mg base N qual scope f cdv A outer s H E) body t/\t { nx:=λ_ H'=>Q .non H',rt:=Q } (start N vs) H) :
  gp P w K mg base CX (k+1) f (Sq name qual params body scope dV kV doc pm an cdv ct) ps sp:=by
 refine⟨len,λA outer s H args us vs Q E hr e0 hb r hsp=>?_⟩;have hl:=len _ _ _ _ hsp;have KX:K.In s.heap:=e0.mod.kin.keeps λb o e=>(e0.bs b o e).1;have lim:s.heap.NoLimit:=e0.mod.nolimit.keeps λb o e=>(e0.bs b o e).1;have hkind:∀y∈ps.zip us,scope.names.lookup y.1=some .local ∨ (scope.names.lookup y.1=some .cell/\((cellsFrom (s.heap.objs.size+1) scope.names []).lookup y.1).isSome=true):=λ⟨n,v⟩ hy=>by
  rcases S.par n (T4 hy).1 with q|q
  .exact .inl q
  .exact .inr ⟨q,W.cellsFrom_some _ _ _ (.inl q)⟩
 refine codeAny_call_function hr.depth (KX _ _ lk) rfl S.co S.gen rfl (W.codeRec_of KX hcd) (hb _ _ _ _ ?_);refine wpAny_newFunctionEnv_cells S.kind hkind λenv he s1 x=>?_;subst he;refine⟨lim.keeps x.toInCall.keep,codeAny_func ?_⟩;obtain⟨t,ht,hq⟩:=hbody A outer s H vs Q E (hr.deeper _) hsp;have I:Inv (l3 CX P w K mg base N qual scope f cdv A outer s H E) [] (start N vs) H s1:=AF S hr.hd e0 hl r x;refine Ro (ht [] s1 (start N vs) H _ I hq) (λfl s' hs=>?_) λe s' hs=>hs;have fin:∀{σ':St}{H':Hp}{v:V}{u:Pw},Inv (l3 CX P w K mg base N qual scope f cdv A outer s H E) [] σ' H' s'->bo v u->Q v H'->CE outer P w H s Q u s' :=
  λ{σ' H' v u} J rv q=>⟨v,H',J.os,J.bare,J.base,J.hok,rv,q⟩
 cases fl with
 |ret u=>
  obtain⟨v,σ',H',J,rv,q⟩:=hs;exact fin J rv q
 |next=>
  obtain⟨σ',H',J,q⟩:=hs;exact fin (v:=V.non) (u:=Ri) J rfl q
 |brk=>
  obtain⟨_,_,_,q⟩:=hs;exact RY q
 |cont=>
  obtain⟨_,_,_,q⟩:=hs;exact RY q
section
variable {X:Cx}{x:PY}{p pos:Pos}{e:Qc}{es:List Qc}{t:TA}{id T:String}{r:ad->Hp->VK->Prop}
def OE(r:ad->Hp->VK->Prop)(t:TA):TE:=λσ H Q=>t σ H λvs H1=>r vs H1 Q
def vk(hc:jO X (.builtin id) r)(hg:Gl X x)(hm:X.mg x=none)(hv:bootBuiltins x=some (.builtin id))(ha:PA X (e::es) t)(hn:x≠"__name__":=by decide)(hdb:(x==("__debug__" : PY))=false:=by decide)
  (he:PM (e::es) X.env=(false,eval e X.env)::PM es X.env:=by rfl)(hpl:(QZ pos (PM es X.env)).any (·.1)=false:=by rfl):PE X (.Call (.Name x p) (e::es) [] pos) (OE r t):=by
 intro π s σ H Q I h;refine wpAny_Call_Name_kw (pG I hg hm hv ?_ hn hdb);exact PyProof.Rows.callWith_builtin1 (cT (ha pos π s σ H _ I h) λus s1 ⟨vs,H1,I1,r1,q1⟩=>hc π s1 σ H1 vs us Q I1 r1 q1) he hpl
def Ao(hc:jO X (.type T) r)(hg:Gl X x)(hm:X.mg x=none)(hv:bootBuiltins x=some (.type T))(ha:PA X (e::es) t)(hn:x≠"__name__":=by decide)(hdb:(x==("__debug__" : PY))=false:=by decide)
  (he:PM (e::es) X.env=(false,eval e X.env)::PM es X.env:=by rfl)(hpl:(QZ pos (PM es X.env)).any (·.1)=false:=by rfl):PE X (.Call (.Name x p) (e::es) [] pos) (OE r t):=by
 intro π s σ H Q I h;refine wpAny_Call_Name_kw (pG I hg hm hv ?_ hn hdb);exact SO (cT (ha pos π s σ H _ I h) λus s1 ⟨vs,H1,I1,r1,q1⟩=>hc π s1 σ H1 vs us Q I1 r1 q1) he hpl
end
end L2
namespace HT
open PySem PyProof.Rows
section
variable {prog:Qw}{w:QK}{A:QV}{E:Pw->PF->Prop}{s:PF}
def cat_tup{t b:Py}{vs ws:List Pw}{Q:Pw->PF->Prop}(ht:IsTup s.heap t vs.toArray)(hb:IsTup s.heap b ws.toArray)(hv:vs≠[])
  (h1:ws=[]->Q (.ref t) s)(h2:ws≠[]->Q (.ref s.heap.objs.size) { s with heap:=s.heap.push { cls:=.type "tuple",data:=.seq (vs++ws).toArray } })
  (hsz:vs.length+ws.length<=sizeLine):Qq (Ql prog w) A (binaryOp .Add (.ref t) (.ref b)) Q E s:=by
 obtain⟨⟨cls,dd,data,sl⟩,ho,hc,n,hd⟩:=id ht;obtain⟨⟨cls2,dd2,data2,sl2⟩,ho2,hc2,n2,hd2⟩:=id hb;simp only at hc hd hc2 hd2;subst hc hd hc2 hd2;have e:vs.toArray++ws.toArray=(vs++ws).toArray:=by simp
 by_cases hw:ws=[]
 .exact concat_meets ⟨_,ho,rfl⟩ ⟨_,ho2,rfl⟩ noFill_tuple_add seq_tuple_add Uy Ut (Ui _ _)
   (tuple_addW1 t b vs.toArray ws.toArray n n2 dd dd2 sl sl2 (by simpa using hv) (by simp[hw])) ⟨ho,ho2,h1 hw⟩
 .refine concat_meets ⟨_,ho,rfl⟩ ⟨_,ho2,rfl⟩ noFill_tuple_add seq_tuple_add Uy Ut (Ui _ _)
   (tuple_addW2 t b vs.toArray ws.toArray n n2 dd dd2 sl sl2 (by simpa using hv) (by simpa using hw) (by rw[Qi,Qi];exact hsz)) ⟨ho,ho2,?_⟩
  rw[e];exact h2 hw
def sIx(n d:Nat):Option Int->Nat
 |none=>d
 |some v=>if v<0 then(v+(n:Int)).toNat else min v.toNat n
def sIx_none(n d:Nat):sIx n d none=d:=rfl
def sIx_nat(n d k:Nat):sIx n d (some (k:Int))=min k n:=by
 show(if(k:Int)<0 then((k:Int)+(n:Int)).toNat else min (k:Int).toNat n)=min k n;rw[if_neg (by omega),S9]
def IF(n d:Nat)(hd:d<=n)(o:Option Int):sIx n d o<=n:=by
 cases o with
 |none=>exact hd
 |some v=>
  show(if v<0 then(v+(n:Int)).toNat else min v.toNat n)<=n
  by_cases hv:v<0
  .rw[if_pos hv];omega
  .rw[if_neg hv];exact Nat.min_le_right _ _
def zL(v:Int)(n d:Nat):(if v<0 then max (v+(n:Int)) 0 else min v (n:Int))=((sIx n d (some v):Nat):Int):=by
 show(if v<0 then max (v+(n:Int)) 0 else min v (n:Int))=(((if v<0 then(v+(n:Int)).toNat else min v.toNat n):Nat):Int)
 by_cases hv:v<0
 .simp only[if_pos hv];omega
 .simp only[if_neg hv];omega
def yi(lo hi:Option Int)(n:Nat):SW lo hi 1 (n:Int)=(((sIx n 0 lo:Nat):Int),((sIx n n hi:Nat):Int)):=by
 have h1:¬((1:Int)<0):=by omega
 unfold SW;simp only[h1,if_false];refine Prod.ext ?_ ?_
 .cases lo with
  |none=>rfl
  |some v=>exact zL v n 0
 .cases hi with
  |none=>rfl
  |some v=>exact zL v n n
def xp(i j:Nat):Sg (i:Int) (j:Int) 1=j-i:=by
 unfold Sg;have h1:(1:Int) > 0:=by omega
 simp only[h1,if_true,Int.ediv_one];split<;>omega
def oR{v:Pw}{o:Option Int}{Q:Option Int->PF->Prop}(p:IsPart v o)(h:Q o s):Qq (Ql prog w) A (Builtin.Slice.slicePartIndex v) Q E s:=by
 cases p with|none=>exact slicePart_none h|int i t=>exact slicePart_int h
def mw{sl:Py}{vl vu:Pw}{lo hi:Option Int}{n:Nat}{Q:Int×Int×Nat->PF->Prop}(hs:s.heap.IsSliceOf sl vl vu .none)(pl:IsPart vl lo)(pu:IsPart vu hi)
  (h:Q (((sIx n 0 lo:Nat):Int),1,sIx n n hi-sIx n 0 lo) s):Qq (Ql prog w) A (Ue (.ref sl) (pure (n:Int))) Q E s:=by
 obtain⟨os,hos,hcs,hds⟩:=id hs;unfold Ue Builtin.Slice.sliceFields;refine PX (PX (wpAny_field hos hds (x:=vl) rfl (PX (wpAny_field hos hds (x:=vu) rfl (PX (wpAny_field hos hds (x:=.none) rfl (Qr ?_)))))));refine PX (slicePart_none ?_);show Qq _ _ (if((1:Int)==0)=true then _ else _) _ _ s;rw[if_neg (by decide)];refine PX (oR pl (PX (oR pu (PX (Qr ?_)))));show Qq _ _ (match SW lo hi 1 (n:Int) with|(lo,hi)=>pure (lo,(1:Int),Sg lo hi 1)) _ _ s;rw[yi lo hi n];show Qq _ _ (pure (((sIx n 0 lo:Nat):Int),(1:Int),Sg ((sIx n 0 lo:Nat):Int) ((sIx n n hi:Nat):Int) 1)) _ _ s;rw[xp];exact Qr h
def Cn(xs:Array Pw)(i k:Nat):((Q5 k).filterMap λ(m:Nat)=>xs[((i:Int)+(m:Int)*1).toNat]?).toArray=((xs.toList.drop i).take k).toArray:=by
 have e:(λ(m:Nat)=>xs[((i:Int)+(m:Int)*1).toNat]?)=λm=>xs[i+m]?:=by
  funext m;have:((i:Int)+(m:Int)*1).toNat=i+m:=by omega
  rw[this]
 rw[e];have:=pick_run xs i k;rw[List.filterMap_map]at this;have e2:((λx=>xs[x]?)∘λx=>i+x)=λm=>xs[i+m]?:=rfl;rw[e2]at this;rw[this]
def getItem_tuple_cut{t sl:Py}{items:Array Pw}{vl vu:Pw}{lo hi:Option Int}{Q:Pw->PF->Prop}(ht:IsTup s.heap t items)(hs:s.heap.IsSliceOf sl vl vu .none)(pl:IsPart vl lo)(pu:IsPart vu hi)
  (hw:¬(sIx items.size 0 lo=0/\sIx items.size items.size hi=items.size))
  (h:Q (.ref s.heap.objs.size) { s with heap:=s.heap.push { cls:=.type "tuple",data:=.seq ((items.toList.drop (sIx items.size 0 lo)).take (sIx items.size items.size hi-sIx items.size 0 lo)).toArray } })
  (hsz:items.size<=sizeLine):Qq (Ql prog w) A (getItem (.ref t) (.ref sl)) Q E s:=by
 have htake:sizeOk (.seq ((items.toList.drop (sIx items.size 0 lo)).take (sIx items.size items.size hi-sIx items.size 0 lo)).toArray):=by
  show((items.toList.drop (sIx items.size 0 lo)).take (sIx items.size items.size hi-sIx items.size 0 lo)).toArray.size<=sizeLine;rw[Qi,QO,List.length_drop,Tw];omega
 have hj:sIx items.size items.size hi<=items.size:=IF _ _ (P4 _) hi;obtain⟨os,hos,hcs,hds⟩:=id hs;have hTs:s.TypeIs (.ref sl) "slice":=⟨os,hos,hcs⟩
 unfold getItem
 try with_reducible refine RB ?_
 first|refine PX (Qr ?_)|skip
 refine PX (wpAny_sequenceKey ht.typeIs (by decide) ?_);refine PX (wpAny_callSpecial?_slot (name:=Str.ofString "__getitem__") ht.typeIs Sx
  (wpAny_call_entry Sx ht.typeIs entry_tuple_getitem ?_ (args_tuple_getitem _ _)))
 show Qq _ _ (Builtin.Tuple.tupleItemsOf (.ref t) >>= _) _ _ s;refine PX (tupleItemsOf_ ht ?_);refine PX (wpAny_typeOf hTs ?_);rw[if_pos (by decide)];refine PX (mw hs pl pu ?_);have hno:¬((((sIx items.size 0 lo:Nat):Int)==0&&(1:Int)==1&&(sIx items.size items.size hi-sIx items.size 0 lo)==items.size)=true):=by
  intro q;rw[Qg,Qg]at q;have q1:((sIx items.size 0 lo:Nat):Int)=0:=eq_of_beq q.1.1;have q2:sIx items.size items.size hi-sIx items.size 0 lo=items.size:=eq_of_beq q.2;exact hw ⟨by omega,by omega⟩
 show Qq _ _ (if(((sIx items.size 0 lo:Nat):Int)==0&&(1:Int)==1&&(sIx items.size items.size hi-sIx items.size 0 lo)==items.size)=true then _ else _) _ _ s;rw[if_neg hno,Cn]
 first
  |exact PX (m:=Sj _) (wpAny_newObj_type (Qr ⟨_,rfl,Qr h⟩) htake)
  |exact PX (m:=Sj _) (wpAny_newObj_type (PX (Qr (Qr ⟨_,rfl,Qr h⟩))) htake)
  |exact PX (PX (m:=Sj _) (wpAny_newObj_type (Qr (Qr ⟨_,rfl,Qr h⟩)) htake))
  |exact PX (PX (m:=Sj _) (wpAny_newObj_type (Qr ⟨_,rfl,Qr h⟩) htake))
end
end HT
namespace L2
open PySem PySem.Spec PyProof.Rows
abbrev TO:=St->Hp->(Option Int->Hp->Prop)->Prop
def PO(X:Cx)(e:Option Qc)(t:TO):Prop :=
 ∀(π:List (Py×Obj)) (s:PF) (σ:St) (H:Hp) (Q:Option Int->Hp->Prop),Inv X π σ H s->t σ H Q ->
  Qq (Ql X.prog X.w) X.A (evalPart e X.env) (λu s'=>∃o H',Inv X π σ H' s'/\IsPart u o/\Q o H') X.xe s
def EN:TO:=λ_ H Q=>Q none H
def Lu(t:TE):TO:=λσ H Q=>t σ H λx H1=>∃i,x=.int i/\Q (some i) H1
section
variable {X:Cx}{e:Qc}{te:TE}{lo hi:Option Qc}{tl th:TO}{pos p2:Pos}
def Fb:PO X none EN:=by
 intro π s σ H Q I h;rw[evalPart_none];exact Qr ⟨none,H,I,.none,h⟩
def E9(h:PE X e te):PO X (some e) (Lu te):=by
 intro π s σ H Q I hw;rw[evalPart_some];refine cT (h π s σ H _ I hw) λu s1 ⟨x,H1,I1,r1,q1⟩=>?_;obtain⟨i,rfl,q⟩:=q1;obtain⟨t,rfl⟩:=r1;exact⟨some i,H1,I1,.int i t,q⟩
noncomputable def Eg(X:Cx) (r:V->Option Int->Option Int->Hp->VK->Prop):Prop :=
 ∀(π:List (Py×Obj)) (s:PF) (σ:St) (H:Hp) (x:V) (v vl vu:Pw) (lo hi:Option Int) (sl:Py) (Q:VK),Inv X π σ H s->bo x v->s.heap.IsSliceOf sl vl vu .none->IsPart vl lo->IsPart vu hi->r x lo hi H Q ->
  ∃T id,Tz (.type T) "__getitem__"=pure (some (.builtin id))/\s.TypeIs v T/\Qq (Ql X.prog X.w) X.A (getItem v (.ref sl)) (EP X π σ Q) X.xe s
def Eg.or{r r':V->Option Int->Option Int->Hp->VK->Prop}(h:Eg X r)(h':Eg X r'):Eg X (λx lo hi H Q=>r x lo hi H Q∨r' x lo hi H Q):=by
 intro π s σ H x v vl vu lo hi sl Q I rx hs pl pu q;rcases q with q|q
 .exact h π s σ H x v vl vu lo hi sl Q I rx hs pl pu q
 .exact h' π s σ H x v vl vu lo hi sl Q I rx hs pl pu q
def OC(r:V->Option Int->Option Int->Hp->VK->Prop)(te:TE)(tl th:TO):TE:=λσ H Q=>te σ H λx H1=>tl σ H1 λl H2=>th σ H2 λu H3=>r x l u H3 Q
def vi{r:V->Option Int->Option Int->Hp->VK->Prop}(hr:Eg X r)(he:PE X e te)(hl:PO X lo tl)(hu:PO X hi th):PE X (.Subscript e (.Slice lo hi none p2) pos) (OC r te tl th):=by
 intro π s σ H Q I h;refine Subscript_ (cT (he π s σ H _ I h) λv s1 ⟨x,H1,I1,r1,q1⟩=>?_);refine wpAny_Slice (cT (hl π s1 σ H1 _ I1 q1) λvl s2 ⟨l,H2,I2,pl,q2⟩=>cT (hu π s2 σ H2 _ I2 q2) λvu s3 ⟨u,H3,I3,pu,q3⟩=>?_);rw[evalPart_none];refine Qr ?_;have I4:Inv X π σ H3 { s3 with heap:=s3.heap.push { cls:=.type "slice",data:=.fields #[vl,vu,.none] } }:=I3.kept (t':=s3.toks) λb ob q=>P5 _ q;obtain⟨T,id,hT,ht,hg⟩:=hr π { s3 with heap:=s3.heap.push { cls:=.type "slice",data:=.fields #[vl,vu,.none] } } σ H3 x v vl vu l u s3.heap.objs.size Q I4 r1 (Heap.IsSliceOf.new ..) pl pu q3;show Qq (Ql X.prog X.w) X.A (subscriptTail e (.Slice lo hi none p2) v (.ref s3.heap.objs.size)) (EP X π σ Q) X.xe { s3 with heap:=s3.heap.push { cls:=.type "slice",data:=.fields #[vl,vu,.none] } };exact tail_any (ops:=[.ref s3.heap.objs.size,v]) ht hT hg (by with_unfolding_all rfl)
def wx(xs:ad)(lo hi:Option Int):ad:=(xs.drop (HT.sIx xs.length 0 lo)).take (HT.sIx xs.length xs.length hi-HT.sIx xs.length 0 lo)
def nA(xs:ad)(lo hi:Option Int):(wx xs lo hi).length<=xs.length:=by
 unfold wx;rw[QO,List.length_drop];omega
def NU(K:Px):V->Option Int->Option Int->Hp->VK->Prop:=λx lo hi H Q=>∃a xs,x=.ref a/\jd K H a xs /\
 ¬(HT.sIx xs.length 0 lo=0/\HT.sIx xs.length xs.length hi=xs.length)/\∀p,H p=none->Q (.ref p) (upd H p (.tup (wx xs lo hi)))
def Iy:Eg X (NU X.K):=by
 intro π s σ H x v vl vu lo hi sl Q I rx hs pl pu h;obtain⟨a,xs,rfl,hx,hw,q⟩:=h;cases rx;obtain⟨its,r,ht,hz⟩:=I.tuple hx;have hlen:its.toArray.size=xs.length:=by rw[Qi];exact r.length.symm
 refine⟨"tuple",_,Sx.lookup,ht.typeIs,?_⟩;refine HT.getItem_tuple_cut ht hs pl pu (by rw[hlen];exact hw) ?_ (by rw[hlen];exact hz);rw[hlen];refine⟨.ref s.heap.objs.size,_,I.laid (t':=s.toks) (o:=.tup (wx xs lo hi)) (λb ob q=>P5 _ q) (P4 _) ?_,rfl,q _ (I.hok.fresh (P4 _))⟩;exact⟨Qh (nA xs lo hi) hz,_,(r.drop (HT.sIx xs.length 0 lo)).take (HT.sIx xs.length xs.length hi-HT.sIx xs.length 0 lo),IsTup.new _ _⟩
def LP(K:Px):R2:=λx y H Q=>∃a b xs ys,x=.ref a/\y=.ref b/\jd K H a xs/\jd K H b ys/\xs≠[]/\xs.length+ys.length<=sizeLine /\
 (ys=[]->Q (.ref a) H)/\(ys≠[]->∀p,H p=none->Q (.ref p) (upd H p (.tup (xs++ys))))
def bG.nil_iff{xs:ad}{us:List Pw}(r:bG xs us):us=[]↔xs=[]:=by
 cases r with|nil|cons _ _=>simp
def yZ:eT X (binaryOp .Add) (LP X.K):=by
 intro π s σ H x y v u Q I rx ry h;obtain⟨a,b,xs,ys,rfl,rfl,ha,hb,hx,hz,q1,q2⟩:=h;cases rx;cases ry;obtain⟨its,r1,p1,_⟩:=I.tuple ha;obtain⟨its2,r2,p2,_⟩:=I.tuple hb;refine HT.cat_tup p1 p2 (λz=>hx (r1.nil_iff.mp z)) (λz=>⟨.ref a,H,I,rfl,q1 (r2.nil_iff.mp z)⟩) (λz=>?_) (by rw[←r1.length,←r2.length];exact hz);refine⟨.ref s.heap.objs.size,_,I.laid (t':=s.toks) (o:=.tup (xs++ys)) (λb ob q=>P5 _ q) (P4 _) ?_,rfl,q2 (λw=>z (r2.nil_iff.mpr w)) _ (I.hok.fresh (P4 _))⟩;exact⟨by rw[Qs];exact hz,_,r1.append r2,IsTup.new _ _⟩
end
def xK(n:Nat)(i:Int):Option Nat:=if 0<=i then(if i<n then some i.toNat else none) else if -(n:Int)<=i then some (i+n).toNat else none
def atI{α:Type}(xs:List α)(i:Int):Option α:=(xK xs.length i).bind λj=>xs[j]?
def zo{n:Nat}{i:Int}{j:Nat}(h:xK n i=some j):seqIndex? i n=some j/\j<n/\-(n:Int)<=i/\i<n:=by
 unfold xK at h
 by_cases h0:0<=i
 .rw[if_pos h0]at h
  by_cases h1:i<n
  .rw[if_pos h1]at h
   have e:i.toNat=j:=QN h;exact⟨by rw[seqIndex_of h0 h1,e],by omega,by omega,h1⟩
  .rw[if_neg h1]at h;cases h
 .rw[if_neg h0]at h
  by_cases h1:-(n:Int)<=i
  .rw[if_pos h1]at h
   have e:(i+n).toNat=j:=QN h;exact⟨by rw[seqIndex_neg (by omega) h1,e],by omega,h1,by omega⟩
  .rw[if_neg h1]at h;cases h
def uM{α:Type}{xs:List α}{i:Int}{v:α}(h:atI xs i=some v):∃j,seqIndex? i xs.length=some j/\xs[j]?=some v/\j<xs.length/\-(xs.length:Int)<=i/\i<xs.length:=by
 unfold atI at h;cases e:xK xs.length i with
 |none=>rw[e]at h;cases h
 |some j=>
  rw[e]at h;obtain⟨h1,h2,h3,h4⟩:=zo e;exact⟨j,h1,h,h2,h3,h4⟩
def eR{α:Type}{xs:List α}{j:Nat}{v:α}(h:xs[j]?=some v):atI xs (j:Int)=some v:=by
 have hj:j<xs.length:=(PH.mp h).1;have e:xK xs.length (j:Int)=some j:=by
  unfold xK;rw[if_pos (by omega),if_pos (by omega)];simp
 unfold atI;rw[e];exact h
def ki(b:Qc):Prop:=∀o i,subscripted b false o i=operate [o,i] (getItem o i)
noncomputable def D7(X:Cx) (r:R2):Prop :=
 ∀(value slice:Qc) (π:List (Py×Obj)) (s:PF) (σ:St) (H:Hp) (x y:V) (v u:Pw) (Q:VK),Inv X π σ H s->bo x v->bo y u->r x y H Q ->
  subscripted slice false v u=operate [v,u] (getItem v u)->Qq (Ql X.prog X.w) X.A (subscriptTail value slice v u) (EP X π σ Q) X.xe s
noncomputable def OW(X:Cx) (id:String) (r:V->ad->Hp->VK->Prop):Prop :=
 ∀(π:List (Py×Obj)) (s:PF) (σ:St) (H:Hp) (x:V) (xs:ad) (v:Pw) (us:List Pw) (Q:VK),Inv X π σ H s->bo x v->bG xs us->r x xs H Q ->
  Qq (Ql X.prog X.w) X.A (call (.builtin id) (v::us)) (EP X π σ Q) X.xe s
section
variable {X:Cx}{a b:Qc}{ta tb:TE}{pos:Pos}
def D7.or{r r':R2}(h:D7 X r)(h':D7 X r'):D7 X (λx y H Q=>r x y H Q∨r' x y H Q):=by
 intro value slice π s σ H x y v u Q I rx ry q hs;rcases q with q|q
 .exact h value slice π s σ H x y v u Q I rx ry q hs
 .exact h' value slice π s σ H x y v u Q I rx ry q hs
def Cu{r:R2}(hr:D7 X r)(ha:PE X a ta)(hb:PE X b tb)(hs:ki b):PE X (.Subscript a b pos) (EM r ta tb):=by
 intro π s σ H Q I h;exact Subscript_ (KR ha hb I h λv u s2 x y H2 I2 rx ry q=>hr a b π s2 σ H2 x y v u Q I2 rx ry q (hs _ _))
def LL(K:Px):R2:=λx y H Q=>∃p xs i v,x=.ref p/\y=.int i/\dR K H p xs/\atI xs i=some v/\Q v H
def B6(K:Px):R2:=λx y H Q=>∃p xs i v,x=.ref p/\y=.int i/\jd K H p xs/\atI xs i=some v/\Q v H
def LK:R2:=λx y H Q=>∃z i c,x=.str z/\y=.int i/\z.length<=sizeLine/\atI z.cps.toList i=some c/\Q (.str ⟨#[c]⟩) H
def FL:D7 X (LL X.K):=by
 intro value slice π s σ H x y v u Q I rx ry h hs;obtain⟨p,xs,i,z,rfl,rfl,hq,he,q⟩:=h;cases rx;obtain⟨t,rfl⟩:=ry;obtain⟨its,r,pl,hz⟩:=I.list hq;obtain⟨j,h1,h2,h3,h4,h5⟩:=uM he;obtain⟨w,ew,rw'⟩:=r.get h2;have hl:=r.length;have hn:=pE;have fin:EP X π σ Q w s:=⟨z,H,I,rw',q⟩
 by_cases h0:0<=i
 .have hj:i.toNat=j:=by
   rw[seqIndex_of h0 h5]at h1;exact QN h1
  exact item_listR pl.isList h0 (by omega) (by rw[hj];simpa using ew) fin hs
 .have hj:(i+(its.toArray.size:Int)).toNat=j:=by
   rw[seqIndex_neg (by omega) h4]at h1;rw[Qi,←hl];exact QN h1
  exact subscriptTail_builtinR (x:=w) pl.isList.typeIs slot_list_getitem.lookup
   (wpAny_getItem_list_neg (Q:=λr s'=>r=w/\EP X π σ Q r s') pl.isList (by omega) (by rw[Qi]<;>omega) (by omega) (by rw[hj];simpa using ew) ⟨rfl,fin⟩) hs
def CY:D7 X (B6 X.K):=by
 intro value slice π s σ H x y v u Q I rx ry h hs;obtain⟨p,xs,i,z,rfl,rfl,hq,he,q⟩:=h;cases rx;obtain⟨t,rfl⟩:=ry;obtain⟨its,r,pl,hz⟩:=I.tuple hq;obtain⟨j,h1,h2,h3,h4,h5⟩:=uM he;obtain⟨w,ew,rw'⟩:=r.get h2;have hl:=r.length;have hn:=pE;have fin:EP X π σ Q w s:=⟨z,H,I,rw',q⟩
 exact subscriptTail_builtinR (x:=w) pl.typeIs slot_tuple_getitem.lookup
  (getItem_tuple (j:=j) (Q:=λr s'=>r=w/\EP X π σ Q r s') pl (by omega) (by omega) (by rw[Qi,←hl];exact h1) (by simpa using ew) ⟨rfl,fin⟩) hs
def Ju:D7 X LK:=by
 intro value slice π s σ H x y v u Q I rx ry h hs;obtain⟨z,i,c,rfl,rfl,hz,he,q⟩:=h;obtain⟨t,rfl⟩:=rx;obtain⟨t',rfl⟩:=ry;obtain⟨j,h1,h2,h3,h4,h5⟩:=uM he;have hl:z.cps.toList.length=z.length:=by simp[Str.length]
 rw[hl]at h1 h4 h5;have hn:=pE;exact tail_any (typeIs_str s z t) slot_str_getitem.lookup (getItem_str (c:=c) (by
  have e1:decide (i < -(2 ^ 63:Int))=false:=decide_eq_false (by omega);have e2:decide (i≥2 ^ 63)=false:=decide_eq_false (by omega);rw[e1,e2,Up]) (by rw[h1];simpa using h2) ⟨.str ⟨#[c]⟩,H,I.tok _,⟨_,rfl⟩,q⟩) hs
def OF(K:Px):R2:=λx y H Q=>LL K x y H Q∨B6 K x y H Q∨LK x y H Q
def CZ:D7 X (OF X.K):=FL.or (CY.or Ju)
def xD(its:List Pw)(n j:Nat)(u:Pw):TC (·.setIfInBounds j u) { cls:=.type "list",data:=.seq its.toArray n }={ cls:=.type "list",data:=.seq (its.set j u).toArray n }:=by
 simp[TC]
def Inv.lst{π:List (Py×Obj)}{σ:St}{H:Hp}{s:PF}{p:Py}{xs:ad}(I:Inv X π σ H s)(h:H p=some (.lst xs)) :
  ∃(its:List Pw) (n:Nat),bG xs its/\s.heap.get? p=some { cls:=.type "list",data:=.seq its.toArray n }/\xs.length<=sizeLine:=by
 obtain⟨z,its,n,r,e⟩:=I.hok p _ h;exact⟨its,n,r,e,z⟩
def Inv.lstUpd{π:List (Py×Obj)}{σ:St}{H:Hp}{s:PF}{p:Py}{xs ys:ad}{its its':List Pw}{n n':Nat}{f:Obj->Obj}(I:Inv X π σ H s)(h:H p=some (.lst xs))
  (ho:s.heap.get? p=some { cls:=.type "list",data:=.seq its.toArray n })(hf:f { cls:=.type "list",data:=.seq its.toArray n }={ cls:=.type "list",data:=.seq its'.toArray n' })(r:bG ys its')(hz:ys.length<=sizeLine)(t:Nat) :
  Inv X π σ (upd H p (.lst ys)) { s with heap:=s.heap.update p f,toks:=t }:=by
 have e:(s.heap.update p f).get? p=some { cls:=.type "list",data:=.seq its'.toArray n' }:=by
  rw[Heap.get?_update_self f ho (by rw[hf]<;>rfl),hf]
 refine I.write (x:=p) (e:=p) (by rw[h];trivial) (.inl rfl) (λb u hb q=>(UJ _ _ (Qx hb)).trans q) ⟨_,e⟩ ?_;exact⟨hz,its',n',r,e⟩
def HD:V->V->V->Hp->(Hp->Prop)->Prop:=λo i v H Q=>∃p xs k j,o=.ref p/\i=.int k/\H p=some (.lst xs)/\xK xs.length k=some j/\Q (upd H p (.lst (xs.set j v)))
def u6:Nd X HD:=by
 intro π s σ H o i v ov iv u Q I ro ri rv h;obtain⟨p,xs,k,j,rfl,rfl,hp,hj,q⟩:=h;cases ro;obtain⟨t,rfl⟩:=ri;obtain⟨its,n,r,ho,hz⟩:=I.lst hp;obtain⟨h1,h2,h3,h4⟩:=zo hj;have hl:=r.length;have hn:=pE;have I':Inv X π σ (upd H p (.lst (xs.set j v))) { s with heap:=s.heap.update p (TC (·.setIfInBounds j u)) } :=
  I.lstUpd hp ho (xD its n j u) (r.set rv j) (by rw[RZ];exact hz) s.toks
 by_cases h0:0<=k
 .have hk:k.toNat=j:=by
   rw[seqIndex_of h0 h4]at h1;exact QN h1
  exact W.ki_setAt ho h0 (by omega) (by rw[Qi,←hl];exact h4) (by rw[hk];exact⟨_,I',q⟩)
 .have hk:(k+(its.toArray.size:Int)).toNat=j:=by
   rw[seqIndex_neg (by omega) h3]at h1;rw[Qi,←hl];exact QN h1
  exact W.ki_setBack ho (by omega) (by rw[Qi,←hl];exact h3) (by omega) (by rw[hk];exact⟨_,I',q⟩)
def tO(lo hi:Option Int)(n:Nat):(sliceBounds lo hi none n).1=((HT.sIx n 0 lo:Nat):Int)/\(sliceBounds lo hi none n).2.1=((HT.sIx n n hi:Nat):Int)/\(sliceBounds lo hi none n).2.2=1:=by
 refine⟨?_,?_,rfl⟩
 .cases lo with
  |none=>simp[sliceBounds,HT.sIx]
  |some i=>
   simp only[sliceBounds,HT.sIx,Option.getD_none,show(1:Int) > 0 by decide,if_true]
   by_cases h:i<0
   .simp only[h,if_true]<;>omega
   .simp only[h,if_false]<;>omega
 .cases hi with
  |none=>simp[sliceBounds,HT.sIx]
  |some i=>
   simp only[sliceBounds,HT.sIx,Option.getD_none,show(1:Int) > 0 by decide,if_true]
   by_cases h:i<0
   .simp only[h,if_true]<;>omega
   .simp only[h,if_false]<;>omega
def qR(its:List Pw)(lo hi:Option Int):slicePick its.toArray lo hi none=((its.drop (HT.sIx its.length 0 lo)).take (HT.sIx its.length its.length hi-HT.sIx its.length 0 lo)).toArray:=by
 obtain⟨h1,h2,h3⟩:=tO lo hi its.toArray.size;unfold slicePick;rw[h1,h2,h3];simp only[sliceRange_one,pick_run,Qi]<;>rfl
def NW(K:Px):V->Option Int->Option Int->Hp->VK->Prop:=λx lo hi H Q=>∃a xs,x=.ref a/\dR K H a xs/\∀p,H p=none->Q (.ref p) (upd H p (.lst (wx xs lo hi)))
def yC:Eg X (NW X.K):=by
 intro π s σ H x v vl vu lo hi sl Q I rx hs pl pu h;obtain⟨a,xs,rfl,hx,q⟩:=h;cases rx;obtain⟨its,r,ht,hz⟩:=I.list hx;have hlen:=r.length;refine⟨"list",_,slot_list_getitem.lookup,ht.isList.typeIs,?_⟩;refine wpAny_getItem_list_slice ht.isList hs pl pu .none (by simp) ?_ (by rw[Qi]<;>omega);rw[qR,←hlen];refine⟨.ref s.heap.objs.size,_,I.laid (t':=s.toks) (o:=.lst (wx xs lo hi)) (λb ob q=>P5 _ q) (P4 _) ?_,rfl,q _ (I.hok.fresh (P4 _))⟩;exact⟨Qh (nA xs lo hi) hz,_,0,(r.drop (HT.sIx xs.length 0 lo)).take (HT.sIx xs.length xs.length hi-HT.sIx xs.length 0 lo),QR _ rfl⟩
def t9:eT X (Qz .NotIn) (λx y H Q=>∃i j,x=.str i/\y=.str j/\Q (.bl (!(!(RP j i 0 j.length 1).isEmpty))) H):=by
 intro π s σ H x y v u Q I rx ry h;obtain⟨i,j,rfl,rfl,q⟩:=h;obtain⟨t,rfl⟩:=rx;obtain⟨t',rfl⟩:=ry;exact notIn_str ⟨.bl _,H,I,rfl,q⟩
noncomputable def OA(K:Px) (T:String) (x:V) (H:Hp):Prop:=match x with
 |.str _=>T="str"
 |.int _=>T="int"
 |.ref p=>(T="list"/\∃xs,dR K H p xs)∨(T="tuple"/\∃o,K.lookup p=some o/\o.cls=.type "tuple"/\o.dict=none) ∨
   (T="dict"/\((∃kvs,H p=some (.dK kvs))∨∃kvs,H p=some (.dT kvs)))∨(T="set"/\∃S n,H p=some (.set S n))
 |_=>False
def Ic{π:List (Py×Obj)}{σ:St}{H:Hp}{s:PF}{T:String}{x:V}{v:Pw}(I:Inv X π σ H s)(r:bo x v)(ty:OA X.K T x H) :
  s.TypeIs v T/\∀a,v=.ref a->∃ob,s.heap.get? a=some ob/\ob.dict=none:=by
 cases x with
 |str z=>
  obtain⟨t,rfl⟩:=r;cases (show T="str" from ty);exact⟨typeIs_str s z t,λ_ e=>nomatch e⟩
 |int i=>
  obtain⟨t,rfl⟩:=r;cases (show T="int" from ty);exact⟨typeIs_int s i t,λ_ e=>nomatch e⟩
 |ref p=>
  cases r;rcases ty with⟨rfl,xs,hq⟩|⟨rfl,o,hk,hc,hd⟩|⟨rfl,hk⟩|⟨rfl,S,n,hk⟩
  .obtain⟨its,_,pl,_⟩:=I.list hq
   refine⟨pl.isList.typeIs,λa e=>?_⟩;cases e;obtain⟨o,n,e,c,hd,_⟩:=pl;exact⟨o,e,hd⟩
  .refine⟨⟨o,I.kIn p o hk,hc⟩,λa e=>?_⟩
   cases e;exact⟨o,I.kIn _ o hk,hd⟩
  .have z:∃o,s.heap.get? p=some o/\o.ExactDict:=by
    rcases hk with⟨kvs,hk⟩|⟨kvs,hk⟩
    .obtain⟨_,_,_,_,o,_,_,e,ex,_⟩:=I.hok p _ hk
     exact⟨o,e,ex⟩
    .obtain⟨_,_,_,_,o,_,_,e,ex,_⟩:=I.hok p _ hk
     exact⟨o,e,ex⟩
   obtain⟨o,e,ex⟩:=z;refine⟨⟨o,e,ex.1⟩,λa e2=>?_⟩;cases e2;exact⟨o,e,ex.2.1⟩
  .obtain⟨o,_,_,_,e,ex,_⟩:=I.hok p _ hk
   refine⟨⟨o,e,ex.1⟩,λa e2=>?_⟩;cases e2;exact⟨o,e,ex.2.1⟩
 |_=>exact RY ty
def LA(K:Px)(T:String)(r:V->ad->Hp->VK->Prop)(to:TE)(t:TA):TE:=λσ H Q=>to σ H λx H1=>OA K T x H1/\t σ H1 λxs H2=>r x xs H2 Q
variable {o e:Qc}{es:List Qc}{to:TE}{t:TA}{name:PY}{apos cpos:Pos}{T id:String}{r:V->ad->Hp->VK->Prop}
def rZ(pa:PlainAttrs T)(slot:Slot T name id)(hty:typeOf (.builtin id)=pure (.type "method_descriptor"))(hm:OW X id r)(ho:PE X o to)(ha:PA X (e::es) t)
  (hbase:R4 o name X.env (eval o X.env)=eval o X.env:=by rfl)
  (hfew:((QZ cpos (PM (e::es) X.env)).all (λx=>!x.1)&&(SS cpos (RS [] X.env)).all (λx=>x.1.isSome)
  &&decide ((e::es).length+([]:List RH).length+(if([]:List RH).isEmpty then 0 else 1)<30))=true:=by rfl)
  (hline:(apos.endLine==cpos.line)=true:=by rfl) (hs:PM (e::es) X.env=(false,eval e X.env)::PM es X.env:=by rfl) (hplain:(QZ cpos (PM es X.env)).any (·.1)=false:=by rfl) :
  PE X (.Call (.Attribute o name apos) (e::es) [] cpos) (LA X.K T r to t):=by
 intro π s σ H Q I h;refine wpAny_Call_method_late hbase hfew hline rfl (cT (ho π s σ H _ I h) λv s1 ⟨x,H1,I1,r1,ty,q1⟩=>?_);obtain⟨h1,h2⟩:=Ic I1 r1 ty;refine⟨T,id,pa,slot,hty,h1,h2,?_⟩;have hA:=ha cpos π s1 σ H1 _ I1 q1;rw[hs]at hA ⊢;refine UK (by show(false||(QZ cpos (PM es X.env)).any (·.1))=false;rw[hplain]<;>rfl) (U1 ?_);exact cT hA λus s2 ⟨vs,H2,I2,r2,q2⟩=>hm π s2 σ H2 x vs v us Q I2 r1 r2 q2
end
noncomputable def Pu(X:Cx) (id:String) (r:V->ad->Hp->VK->Prop):Prop :=
 ∀(π:List (Py×Obj)) (s:PF) (σ:St) (H:Hp) (x:V) (xs:ad) (v:Pw) (us:List Pw) (Q:VK),Inv X π σ H s->bo x v->bG xs us->r x xs H Q ->
  Qq (Ql X.prog X.w) X.A (call (.builtin id) (v::us)) (EP X π σ Q) X.xe s
theorem bG.one:∀{x:V}{us:List Pw},bG [x] us->∃u,us=[u]/\bo x u
 |_,_,.cons r .nil=>⟨_,rfl,r⟩
section
variable {X:Cx}{π:List (Py×Obj)}{σ:St}{H:Hp}{s:PF}{l b:Py}{xs ys zs:ad}
def Inv.lset{its its':List Pw}{n:Nat}{f:Array Pw->Array Pw}{t':Nat}(I:Inv X π σ H s)(hH:H l=some (.lst xs))
  (e:s.heap.get? l=some { cls:=.type "list",data:=.seq its.toArray n })(hf:f its.toArray=its'.toArray)(hv:bG ys its')(hz:ys.length<=sizeLine) :
  Inv X π σ (upd H l (.lst ys)) { s with heap:=s.heap.update l (TC f),toks:=t' }:=by
 have q:=PySem.IsL.update e f;rw[hf]at q;refine I.write (x:=l) (e:=l) (by rw[hH];exact trivial) (.inl rfl) (λb' u hb hu=>(UJ s.heap (TC f) (Qx hb)).trans hu) ⟨_,q⟩ ?_;exact⟨hz,its',_,hv,q⟩
def Inv.lnew{its:List Pw}{t':Nat}(I:Inv X π σ H s)(hv:bG ys its)(hz:ys.length<=sizeLine) :
  Inv X π σ (upd H s.heap.objs.size (.lst ys)) { s with heap:=s.heap.push { cls:=.type "list",data:=.seq its.toArray },toks:=t' } :=
 I.laid (λ_ _ q=>P5 _ q) (P4 _) ⟨hz,its,0,hv,QR _ rfl⟩
def Inv.fresh(I:Inv X π σ H s):H s.heap.objs.size=none:=I.hok.fresh (P4 _)
def Inv.lstM(I:Inv X π σ H s)(hH:H l=some (.lst xs)):xs.length<=sizeLine/\∃(its:List Pw) (n:Nat),bG xs its/\xs.length=its.length/\s.heap.get? l=some { cls:=.type "list",data:=.seq its.toArray n }:=by
 obtain⟨z,its,n,r,e⟩:=I.hok l _ hH;exact⟨z,its,n,r,r.length,e⟩
end
section
variable {X:Cx}
def lD:V->ad->Hp->VK->Prop:=λx vs H Q=>∃l xs y,x=.ref l/\vs=[y]/\H l=some (.lst xs)/\xs.length<sizeLine/\Q .non (upd H l (.lst (xs++[y])))
def fW:Pu X "list.append" lD:=by
 intro π s σ H x vs v us Q I rx rv h;obtain⟨l,xs,y,rfl,rfl,hH,hz,q⟩:=h;cases rx;obtain⟨u,rfl,ru⟩:=rv.one;obtain⟨z,its,n,r,hl,e⟩:=I.lstM hH;refine call_meets F.slot_list_append ⟨_,e,rfl⟩ F.entry_list_append (F.args_list_append_2 _ _) (PySem.list_append l its.toArray n u (by rw[Qi];omega)) ⟨e,?_⟩;refine⟨.non,_,I.lset (its':=its++[u]) hH e (by simp) (r.append (.cons ru .nil)) ?_,rfl,q⟩;rw[Qs,Sy];omega
end
end L2
namespace Att
open PySem PySem.W PySem.Calls PyProof.Rows
def nU{P:Params}{h:Qo}:∀(ns:List Int) (vs:List Pw),WellAll P h vs (ns.map WData.int)->IntsAre vs ns:=by
 intro ns
 induction ns with
 |nil=>
  intro vs w;rw[Q3]at w;cases w;exact .nil
 |cons n ns ih=>
  intro vs w;rw[PQ]at w;cases w with
  |cons a b=>
   cases a;exact .cons _ _ (ih _ b)
def Aj{l:OpenLaw}{n:Nat}(hn:l.most=some n){P:Params}{h:Qo}{args:List WData}{vals:List Pw}
  (hpre:l.row.toRowW.claim.pre args=true)(hwl:WellAll P h vals args) :
  ∃a vs ns,vals=[QM a]/\args=[WData.list (ns.map WData.int)]/\h.get? a=some { cls:=.type "list",data:=.seq vs.toArray }/\IntsAre vs ns/\ns.length<=n:=by
 have hsh:WShape.hasAll [] args [.list .int]=true:=(pre_splitW hpre).1;have hc:l.pre.holds [] { args:=args }=true:=(pre_splitW hpre).2;obtain⟨d,r,rfl,h1,h2⟩:=hasAllW_cons hsh;obtain rfl:=hasAllW_nil h2;obtain⟨xs,rfl,h3⟩:=hasW_list h1;obtain⟨ns,rfl⟩:=items_int h3;have hlen:ns.length<=n:=by
  unfold OpenLaw.pre at hc;have h4:(WTm.not (.lt (.lit (.int (n:Int))) (.len (.arg 0)))).holds [] { args:=[.list (ns.map .int)] }=true:=by
   have h4:=(holds_andW hc).1;rw[hn]at h4;exact h4
  have h5:=condW_of h4 (w_not (w_lt w_lit (w_len_list (w_arg rfl))));rw[Pz]at h5;refine Nat.le_of_not_lt λq=>?_;have q':(n:Int)<((ns.length:Nat):Int):=by omega
  first
   |(rw[decide_eq_true q']at h5;exact absurd h5 (by decide))
   |(simp at h5;omega)
 cases hwl with
 |cons w1 w2=>
  cases w2;cases w1 with|list ho hall=>exact⟨_,_,ns,rfl,rfl,ho,nU ns _ hall,hlen⟩
def Al(l:OpenLaw)(args:List WData):l.row.toRowW.claim.post args (.bool true) args=true :=
 postW_of (r:=l.row.toRowW) (X:=(true==true))
  (show WShape.has [] (.bool true) .bool=true by first|rfl|decide|simp[WShape.has,WShape.arms,WShape.armsAll])
  (show(WTm.eq .res (.lit (.bool true))).value [] { args:=args,res:=some (.bool true),after:=args }=some (.bool (true==true)) from w_eq_bool (w_res rfl) w_lit) rfl
def attach_call{l:OpenLaw}{n:Nat}{q:Qw}{loose:bi}{XP:(PY->Option Pw)->Qo->Prop}{YP:QK->Qo->Prop}{d:DefRec}
  (hn:l.most=some n)(hdf:d.params.defaults=[])
  (call:∀(w:QK) (sf sg:PF) (mg mb:PY->Option Pw) (fa:Py) (o:Obj) (pm cd doc:Pw) (a:Py) (vs:List Pw) (ns:List Int),
   Ground q loose [] XP w sf mg mb sg.heap->YP w sg.heap ->
   sg.heap.get? fa=some o->o.data=.func (docDef d.name d.params d.body d.scope pm cd doc)->sg.heap.CodeRec cd d.name->mg d.name=some (.ref fa) ->
   sg.heap.get? a=some { cls:=.type "list",data:=.seq vs.toArray }->IntsAre vs ns->ns.length<=n->sg.gens=#[] ->
   Ss (Ql l.prog w) callerA (.call (.ref fa) ⟨[.ref a],[]⟩) (λr s'=>r=.ok (.ret (.bool true))/\OldK sg.heap s'.heap/\s'.os=sg.os/\AllBare s'.gens) sg) :
  WalkO q loose XP YP l.row.toRowW d [] (λf vs=>PySem.call f vs):=by
 intro w sf sg mg mb G Y fa o pm cd doc dV kV ho hd hcd hD hmg hg args vals as hpre hlay hrd hwl hlo;obtain rfl:dV=.none:=Dflts.none hD hdf;obtain rfl:kV=.none:=Dflts.noKw hD;obtain⟨a,vs,ns,rfl,rfl,hobj,hints,hlen⟩:=Aj hn hpre hwl;refine enter_call (codeAny_mono (call w sf sg mg mb fa o pm cd doc a vs ns G Y ho (fd_plain hd) hcd hmg hobj hints hlen hg) λr s' hq=>?_);obtain⟨rfl,h2,h3,h4⟩:=hq;exact⟨.inl ⟨.bool true,.bool true,[],rfl,λ_=>rfl,.bool true,Al l _,λ_=>⟨Um.nil,λ_ hm=>(nomatch hm)⟩⟩,h2,h3,h4⟩
end Att
namespace L2
open PySem PySem.Spec PyProof.Rows
theorem rP:∀{vs:List Pw}{ns:List Int},IntsAre vs ns->bG (ns.map V.int) vs
 |_,_,.nil=>.nil
 |_,_,.cons n t h=>.cons ⟨t,rfl⟩ (rP h)
def Hk(H:Hp):Prop:=∀b,H b=none∨∃o xs,H b=some (.frz o (.lst xs))
def CW{P:Qw}{w:QK}{K:Px}{mg mb:PY->Option Pw}{CX:qK}{k:Nat}{fa a:Py}{fd:QI}{x:PY}{sp:Sp}{sg:PF}{vs:List Pw}{ns:List Int}
  (KX:K.In sg.heap)(hns:sg.heap.Ns P8 mg)(hb:sg.heap.Ns builtinsNs mb)(hbb:∀x:PY,x≠"__name__"->mb x=bootBuiltins x)(hlim:sg.heap.NoLimit)(hsm:∃mm,sg.heap.Ns Q4 mm)(hg:sg.gens=#[])
  (ha:sg.heap.get? a=some { cls:=.type "list",data:=.seq vs.toArray })(hi:IntsAre vs ns)(hl:ns.length<=sizeLine)(hr:da k callerA)
  (F:∀base:Qo,K.In base->base.Ns P8 mg->gp P w K mg base CX k fa fd [x] sp)(hbind:∀(s:PF) (u:Pw),BindsTo s fd ⟨[u],[]⟩ [(x,u)])
  (hsp:∀H:Hp,Hk H->dR K H a (ns.map V.int)->sp [.ref a] H (λv _=>v=.bl true) λ_ _ _=>False)
  (hCX:∀H e s',CX [] H sg (λ_ _ _=>False) e s'->False) :
  Ss (Ql P w) callerA (.call (.ref fa) ⟨[.ref a],[]⟩) (λr s'=>r=.ok (.ret (.bool true))/\OldK sg.heap s'.heap/\s'.os=sg.os/\AllBare s'.gens) sg:=by
 have rv:=rP hi;have lenV:=hi.length;have core:∀H:Hp,Hk H->dR K H a (ns.map V.int)->lj P w H sg.heap->(∀b,H b≠none->b=a)->(H a≠none->K.lookup a=none) ->
   Ss (Ql P w) callerA (.call (.ref fa) ⟨[.ref a],[]⟩) (λr s'=>r=.ok (.ret (.bool true))/\OldK sg.heap s'.heap/\s'.os=sg.os/\AllBare s'.gens) sg:=by
  intro H hO hS hok hA hK;have base_of:∀{b:Py}{o:Obj},sg.heap.get? b=some o->H b=none->(ur sg.heap H).get? b=some o:=λe n=>C2 e n;have noA:∀{b:Py}{o:Obj}{es:Array DictEntry}{ep:Nat},sg.heap.get? b=some o->o.data=.dict es ep->H b=none:=λ{b o es ep} e d=>by
   cases q:H b with
   |none=>rfl
   |some u=>
    have e':b=a:=hA b (by rw[q];simp);subst e';rw[ha]at e;cases e;have d':Data.seq vs.toArray _=Data.dict es ep:=d;cases d'
  have nsK:∀{b:Py}{m:PY->Option Pw},sg.heap.Ns b m->(ur sg.heap H).Ns b m:=λ{b m} ⟨o,es,ep,e,d,r⟩=>⟨o,es,ep,base_of e (noA e d),d,r⟩
  have hKb:K.In (ur sg.heap H):=λb o e=>base_of (KX b o e) (by
   cases q:H b with
   |none=>rfl
   |some u=>
    have e':b=a:=hA b (by rw[q];simp);subst e';rw[hK (by rw[q];simp)]at e;cases e)
  have hM:Mod K mg (ur sg.heap H):=⟨hKb,nsK hns,⟨mb,nsK hb,hbb⟩,let ⟨mc,h1,h2⟩:=hlim;⟨mc,nsK h1,h2⟩,let ⟨mm,h1⟩:=hsm;⟨mm,nsK h1⟩⟩
  have e0:D8 P w K mg (ur sg.heap H) callerA [] sg H:=⟨rfl,hM,λb o e=>Fq e,Nat.le_of_eq (AG _ _),trivial,λb hb=>absurd (show b∈([]:List Py) from hb) (by simp),hok,.of_eq hg⟩
  refine codeAny_mono ((F _ hKb (nsK hns)).run callerA [] sg H ⟨[.ref a],[]⟩ [.ref a] [.ref a] _ _ hr e0 (hbind sg (.ref a)) (.cons rfl .nil) (hsp H hO hS)) λr s' h=>?_;cases r with
  |error e=>exact(hCX H e s' h).elim
  |ok fl=>
   cases fl with
   |next|brk|cont=>exact RY h
   |ret u=>
    obtain⟨v,H',os,bare,un,hok',r',q⟩:=h;have q':v=.bl true:=q;subst q';obtain rfl:u=Ra true:=r';refine⟨rfl,OldK.of_keep λb o e=>?_,os,bare⟩;cases q:H b with
    |none=>exact un.keep b o e q (by intro z;exact absurd (show b∈([]:List Py) from z) (by simp)) (by simp)
    |some u=>
     rcases hO b with z|⟨ob,xs,z⟩
     .rw[q]at z;cases z
     .have z2:=un.frzs b ob _ z
      obtain⟨e1,_⟩:=hok b _ z;obtain⟨e2,_⟩:=hok' b _ z2;rw[e]at e1;cases e1;exact e2
 cases hk:K.lookup a with
 |some o=>
  have e:=KX a o hk;rw[ha]at e;cases e;refine core (λ_=>none) (λ_=>.inl rfl) (.inr ⟨_,vs.toArray,_,hk,rfl,rfl,rfl,by rw[Qi,lenV];exact hl,by simpa using rv⟩) (λb u z=>by have z':(none:Option HO)=some u:=z;cases z') (λb z=>absurd rfl z) λz=>absurd rfl z
 |none=>
  refine core (λb=>if b=a then some (.frz { cls:=.type "list",data:=.seq vs.toArray } (.lst (ns.map V.int))) else none) (λb=>?_) (.inl (.inr ⟨{ cls:=.type "list",data:=.seq vs.toArray },if_pos rfl⟩)) (λb u z=>?_) (λb z=>?_) λ_=>hk
  .by_cases hb:b=a
   .exact .inr ⟨_,_,if_pos hb⟩
   .exact .inl (if_neg hb)
  .by_cases hb:b=a
   .have z':=(if_pos hb).symm.trans z
    cases z';subst hb;exact⟨ha,by rw[Pz];exact hl,vs,_,rv,ha⟩
   .have z':=(if_neg hb).symm.trans z
    cases z'
  .by_cases hb:b=a
   .exact hb
   .exact absurd (if_neg hb) z
abbrev KOf{K:Px}{h:Qo}(_:K.In h):Px:=K
def Ex{l:W.OpenLaw}{n k:Nat}{q:Qw}{loose:bi}{XP:(PY->Option Pw)->Qo->Prop}{YP:QK->Qo->Prop}{d:DefRec}{K:Params->Px}{CX:QK->qK}{sp:QK->Sp}{x:PY}
  (hi:importsNone q=true)(hn:l.most=some n)(hn2:n<=sizeLine)(hdf:d.params.defaults=[])(hr:da k callerA)
  (hY:∀(w:QK) (h:Qo),YP w h->(K w.params).In h)
  (F:∀(w:QK) (mg:PY->Option Pw) (fa:Py) (h:Qo),(K w.params).In h->h.Ns P8 mg->mg d.name=some (.ref fa) ->
   ∃fd:QI,(∀(s:PF) (u:Pw),BindsTo s fd ⟨[u],[]⟩ [(x,u)]) /\
    ∀base:Qo,(K w.params).In base->base.Ns P8 mg->gp l.prog w (K w.params) mg base (CX w) k fa fd [x] (sp w))
  (hsp:∀(w:QK) (H:Hp) (a:Py) (ns:List Int),ns.length<=n->Hk H->dR (K w.params) H a (ns.map V.int)->sp w [.ref a] H (λv _=>v=.bl true) λ_ _ _=>False)
  (hCX:∀(w:QK) (H:Hp) (s:PF) (e:Pw) (s':PF),CX w [] H s (λ_ _ _=>False) e s'->False) :
  W.WalkO q loose XP YP l.row.toRowW d [] (λf vs=>PySem.call f vs):=by
 refine Att.attach_call hn hdf λw sf sg mg mb fa o pm cd doc a vs ns G Y ho hd hcd hmg hobj hints hlen hg=>?_;have KX:=hY w _ Y;obtain⟨fd,hb,hF⟩:=F w mg fa _ KX G.T.g hmg;exact CW KX G.T.g G.T.b G.T.builtins G.T.nolimit (let ⟨mm,h1,_⟩:=(G.T.seer hi).mods;⟨mm,h1⟩) hg hobj hints (Qh hlen hn2) hr hF hb (λH hO hS=>hsp w H a ns hlen hO hS) λH e s'=>hCX w H sg e s'
def walk_ofK{l:W.OpenLaw}{n k:Nat}{q:Qw}{loose:bi}{XP:(PY->Option Pw)->Qo->Prop}{YP:QK->Qo->Prop}{d:DefRec}{K:Params->Px}{CX:qK}{sp:Px->Sp}{x:PY}
  (hi:importsNone q=true)(hn:l.most=some n)(hn2:n<=sizeLine)(hdf:d.params.defaults=[])(hr:da k callerA)
  (hY:∀(w:QK) (h:Qo),YP w h->(K w.params).In h)
  (F:∀(w:QK) (mg:PY->Option Pw) (fa:Py) (h:Qo),(K w.params).In h->h.Ns P8 mg->mg d.name=some (.ref fa) ->
   ∃fd:QI,(∀(s:PF) (u:Pw),BindsTo s fd ⟨[u],[]⟩ [(x,u)]) /\
    ∀base:Qo,(K w.params).In base->base.Ns P8 mg->gp l.prog w (K w.params) mg base CX k fa fd [x] (sp (K w.params)))
  (hsp:∀(K:Px) (H:Hp) (a:Py) (ns:List Int),ns.length<=n->Hk H->dR K H a (ns.map V.int)->sp K [.ref a] H (λv _=>v=.bl true) λ_ _ _=>False)
  (hCX:∀(H:Hp) (s:PF) (e:Pw) (s':PF),CX [] H s (λ_ _ _=>False) e s'->False) :
  W.WalkO q loose XP YP l.row.toRowW d [] (λf vs=>PySem.call f vs) :=
 Ex (K:=K) (CX:=λ_=>CX) (sp:=λw=>sp (K w.params)) hi hn hn2 hdf hr hY F (λw H a ns h1 h2 h3=>hsp (K w.params) H a ns h1 h2 h3) λ_ H s e s'=>hCX H s e s'
def defArgs(s:Q1):Arguments:=match s with
 |.FunctionDef _ a _ _ _ _ _ _ _ _=>a
 |_=>{ posonlyargs:=[],args:=[],vararg:=none,kwonlyargs:=[],kw_defaults:=[],kwarg:=none,defaults:=[] }
def defBody(s:Q1):List Q1:=match s with
 |.FunctionDef _ _ b _ _ _ _ _ _ _=>b
 |_=>[]
def defScope(s:Q1):SH:=match s with
 |.FunctionDef _ _ _ _ _ _ sc _ _ _=>sc
 |_=>{ kind:=.function,names:=[],isGenerator:=false,isCoroutine:=false }
abbrev CX0:qK:=λ_ _ _ _ _ _=>False
abbrev E0:XK:=λ_ _ _=>False
def vn{X:Cx}:fK CX0 X E0:=λ_ _ _ _ _ _ _ h=>h.elim
structure Eh (K:Px) (x qual:PY) (st:Q1) (f:Py) (fd:QI):Prop where
 ex:∃(oc:Pw) (od:Option Py) (kV doc pm:Pw) (an:Option Py) (cdv ct:Pw) (osl:Array (Option Pw)),
  fd=Sq x qual (defArgs st) (defBody st) (defScope st) .none kV doc pm an cdv ct/\K.lookup f=some ⟨oc,od,.func fd,osl⟩/\UP K cdv qual=true
 kp:Td K (.ref f)=true
section
variable {P:Qw}{w:QK}{K:Px}{mg:PY->Option Pw}{base:Qo}
def Eh.ok{x qual:PY}{st:Q1}{f:Py}{fd:QI}{N ps:bi}{k:Nat}{sp:Sp}(F:Eh K x qual st f fd)(S:fS N ps (defScope st))(len:∀vs H Q E,sp vs H Q E->vs.length=ps.length)
  (hbody:∀(cdv:Pw) (A:QV) (outer:List Env) (s:PF) (H:Hp) (vs:ad) (Q:VK) (E:XK),da k (A.deeper (envOfC qual (defScope st) s.heap.objs.size f cdv))->sp vs H Q E ->
   ∃t,qL (l3 CX0 P w K mg base N qual (defScope st) f cdv A outer s H E).nox (defBody st) t/\t { nx:=λ_ H'=>Q .non H',rt:=Q } (start N vs) H):gp P w K mg base CX0 (k+1) f fd ps sp:=by
 obtain⟨oc,od,kV,doc,pm,an,cdv,ct,osl,rfl,lk,hcd⟩:=F.ex;refine Mw lk hcd S len λA outer s H vs Q E hr hsp=>?_;obtain⟨t,h,q⟩:=hbody cdv A outer s H vs Q E hr hsp;exact⟨t,h.nox,q⟩
def Eh.binds{x qual:PY}{st:Q1}{f:Py}{fd:QI}{ps:bi}(F:Eh K x qual st f fd)
  (h:∀(kV doc pm:Pw) (an:Option Py) (cdv ct:Pw) (us:List Pw),us.length=ps.length->bindArgs (Sq x qual (defArgs st) (defBody st) (defScope st) .none kV doc pm an cdv ct) ⟨us,[]⟩=pure (ps.zip us)):kF K fd ps []:=by
 obtain⟨oc,od,kV,doc,pm,an,cdv,ct,osl,rfl,lk,hcd⟩:=F.ex;exact .all (h kV doc pm an cdv ct)
def C5{x qual:PY}{st:Q1}{f:Py}{oc:Pw}{od an:Option Py}{osl:Array (Option Pw)}{kV doc pm cdv ct:Pw}(l:K.lookup f=some ⟨oc,od,.func (Sq x qual (defArgs st) (defBody st) (defScope st) .none kV doc pm an cdv ct),osl⟩)
  (c:UP K cdv qual=true)(k:Td K (.ref f)=true):Eh K x qual st f (Sq x qual (defArgs st) (defBody st) (defScope st) .none kV doc pm an cdv ct):=⟨⟨oc,od,kV,doc,pm,an,cdv,ct,osl,rfl,l,c⟩,k⟩
end
def aB(H H':Hp):Prop:=∀b o,H b=some o->H' b=some o
def aB.refl(H:Hp):aB H H:=λ_ _ h=>h
def aB.trans{H H1 H2:Hp}(a:aB H H1)(b:aB H1 H2):aB H H2:=λc o h=>b c o (a c o h)
def aB.free{H H':Hp}(e:aB H H'){l:Py}(h:H' l=SX):H l=SX:=by
 cases q:H l with
 |none=>rfl
 |some o=>
  rw[e l o q]at h;cases h
end L2
namespace DL
open PySem PySem.Spec PySem.Calls PySem.W PyProof.Rows Builtin Builtin.ObjectAttr Builtin.Getset_descriptor
section
variable {prog:Qw}{w:QK}{A:QV}{E:Pw->PF->Prop}{h:Qo}{g:Array GenState}{d:Drawn}{t:Nat}{os:OsState}{a C:Py}{o:Obj}{K:Frag}
structure rO (K:Frag) (C:Py):Prop where
 cls:findIn K (.ref C) "__class__"=some (some (.builtin "object.__class__"))
 ga:findIn K (.ref C) "__getattribute__"=some (some (.builtin "BaseException.__getattribute__"))
 gt:findIn K (.ref C) "__getattr__"=some none
 ob:mroIn K C (.type "object")=some true
 be:subIn K (.ref C) (.type "BaseException")=some true
def HW{R:T8->PF->Prop}{tp:Pw}(X:K.In h)(Z:rO K C)(hx:h.get? a=some o)(hc:o.cls=.ref C)(hq:R (.ok (.ret (.ref C))) ⟨h,g,d,t,os⟩) :
  Ss (Ql prog w) A (.call (.builtin "getset_descriptor.__get__") ⟨[.builtin "object.__class__",.ref a,tp],[]⟩) R ⟨h,g,d,t,os⟩:=by
 have L0:Looks (Ql prog w) h (typeOf (.ref a)) (.ref C):=hc▸(Looks.ld hx).andThen .now;have L1:=looks_mroIn (M:=Ql prog w) X Z.ob;refine codeAny_call_builtin KF.slot_gs.plain KF.entry_gs (KF.slot_gs.check _ _ _ _ _ _ _ _ KF.type_class (KF.args_gs _ _ _) ?_);unfold Builtin.«getset_descriptor.__get__» descrGet;rw[dga_obj];refine PX (Qr ?_);unfold descrGetter descrCheckInstance descrNameAndClass isInstance;simp only[KF.owner_class]
 repeat lk
 refine⟨Code.quiet_builtin _ (by decide +kernel),codeAny_builtin KF.entry_class ?_⟩;unfold Builtin.«object.__class__» shownTypeOf
 repeat lk
 exact hq
def Bh{M:Model}{nameV:Pw}{Q:Unit->PF->Prop}(X:K.In h)(Z:rO K C)(hx:h.get? a=some o)(hc:o.cls=.ref C)(hq:Q () ⟨h,g,d,t,os⟩):Qq M A (checkBuiltinCall "BaseException.__getattribute__" ⟨[.ref a,nameV],[]⟩) Q E ⟨h,g,d,t,os⟩:=by
 have hk:builtinKind "BaseException.__getattribute__"=some .slot:=by decide +kernel
 have hsplit:splitId "BaseException.__getattribute__"=some ("BaseException","__getattribute__"):=by decide +kernel
 have ha:=F.args_bexc_ga (.ref a) nameV;have LS:Looks M h (isSubtype (.ref C) (.type "BaseException")) true:=looks_subIn X Z.be;simp only[checkBuiltinCall,hk,hsplit];refine PX ?_
 .unfold isInstance
  repeat (first|(with_reducible refine TL hx ?_;rw[hc])|(with_reducible refine LS.at ?_)|wp_step)
  exact hq
def Bg{tk:Tok}{Q:Fin->PF->Prop}(X:K.In h)(Z:rO K C)(hx:h.get? a=some o)(hc:o.cls=.ref C)(hq:Q (.done (.ret (.ref C))) ⟨h,g,d,t,os⟩) :
  Qq (Ql prog w) A (Builtin.«object.__getattribute__» ⟨[.ref a,.str "__class__" tk],[]⟩) Q E ⟨h,g,d,t,os⟩:=by
 have hT5:(⟨h,g,d,t,os⟩:PF).TypeIs (.builtin "object.__class__") "getset_descriptor":=UL;have f5:=UL;have f6:=F.slot_gs_get.lookup;have f7:=F.slot_gs_set.lookup;have LC:Looks (Ql prog w) h (Tz (.ref C) "__class__") (some (.builtin "object.__class__")):=looks_findIn X Z.cls
 repeat (any_goals (first|assumption|(with_reducible refine TL hx ?_;rw[hc])|(with_reducible refine LC.at ?_)|wp_step))
 refine HW X Z hx hc ?_
 repeat (any_goals (first|assumption|wp_step))
def En{tk:Tok}{R:T8->PF->Prop}(X:K.In h)(Z:rO K C)(hx:h.get? a=some o)(hc:o.cls=.ref C)(hq:R (.ok (.ret (.ref C))) ⟨h,g,d,t,os⟩) :
  Ss (Ql prog w) A (.call (.builtin "BaseException.__getattribute__") ⟨[.ref a,.str "__class__" tk],[]⟩) R ⟨h,g,d,t,os⟩ :=
 codeAny_call_builtin F.attr_ValueError.ga.plain F.entry_bexc_ga (Bh X Z hx hc (Bg X Z hx hc hq))
def Lm{tk:Tok}{Q:Pw->PF->Prop}(X:K.In h)(Z:rO K C)(hx:h.get? a=some o)(hc:o.cls=.ref C)(hq:Q (.ref C) ⟨h,g,d,t,os⟩) :
  Qq (Ql prog w) A (getAttrBy (.ref a) (.str "__class__" tk) false) Q E ⟨h,g,d,t,os⟩:=by
 have f3:=F.attr_ValueError.ga.bind (.ref a);have hx2:(Tx "BaseException.__getattribute__"==Tx "object.__getattribute__")=false:=by decide +kernel
 have hx1:(onTheHeap (QM C)&&Tx "BaseException.__getattribute__"==Tx "object.__getattribute__")=false:=by rw[hx2];rfl
 have L1:Looks (Ql prog w) h (Tz (.ref C) "__getattribute__") (some (.builtin "BaseException.__getattribute__")):=looks_findIn X Z.ga;have L2:Looks (Ql prog w) h (Tz (.ref C) "__getattr__") none:=looks_findIn X Z.gt
 repeat (any_goals (first|assumption|(with_reducible refine TL hx ?_;rw[hc])|(with_reducible refine L1.at ?_)|(with_reducible refine L2.at ?_)|wp_step))
 refine En X Z hx hc ?_
 repeat (any_goals (first|assumption|wp_step))
def Eo{Q:Option Pw->PF->Prop}(X:K.In h)(Z:rO K C)(hx:h.get? a=some o)(hc:o.cls=.ref C)(hq:Q (some (.ref C)) ⟨h,g,d,t+1,os⟩):Qq (Ql prog w) A (getAttr? (.ref a) "__class__") Q E ⟨h,g,d,t,os⟩:=by
 unfold getAttr? getAttrBy?
 repeat (any_goals (first|assumption|with_reducible apply Lm X Z hx hc|wp_step))
end
def ND(a C:Py)(dc:Option Py):Qo->Prop:=λh=>∃o vs,h.get? a=some o/\o.cls=.ref C/\o.data=.fields vs/\o.dict=dc
def vQ{K:Frag}{a C:Py}{dc:Option Py}(Z:rO K C)(hC:(clsIn K C).isSome=true):KitX K (.ref a) (.ref C) (ND a C dc) where
 ty:=λ_ _ _ ⟨o,_,h1,h2,_⟩=>h2▸(Looks.ld h1).andThen .now
 it:=λ_ _ X _=>by
  obtain⟨cd,hcD⟩:=Ta.mp hC;unfold clsIn at hcD;split at hcD
  .rename_i c' d' cd' sl' ho
   intro A' Q' E' s' k q;unfold isType loadHead;exact PX (wpAny_loadPart (k _ _ (X _ _ ho)) (Qr q))
  .cases hcD
 ne:=λh tp dd its n sl X htp=>by
  obtain⟨cd,hcD⟩:=Ta.mp hC;refine Bool.eq_false_iff.mpr λq=>?_;have e:C=tp:=QM.inj (beq_iff_eq.mp q);subst e;unfold clsIn at hcD;split at hcD
  .rename_i c' d' cd' sl' ho
   have z:=(X _ _ ho).symm.trans htp;cases z
  .cases hcD
 ca:=λ{_ _ _ _ _ s} X ⟨o,_,h1,h2,_⟩ k=>by
  obtain⟨h,g,d,t,os⟩:=s;exact Eo X Z h1 h2 k
def rO.isCls{K:Frag}{C:Py}(Z:rO K C):(clsIn K C).isSome=true:=by
 obtain⟨cd,a,b⟩:=Option.bind_eq_some_iff.mp Z.ob;rw[a];rfl
def iT:List String:=["NoneType","bool","int","str","tuple","list","dict"]
structure XC (K:Frag) (x:PY) (C:Py):Prop where
 ns:nsIn K P8 x=some (some (.ref C))
 ek:rO K C
 bt:∀T∈iT,kitOne K (.ref C) (.type T)=some false
end DL
namespace DL
open PySem PySem.Spec PyProof.Rows L2
def Lh:Qc->Bool
 |.Starred _ _=>false
 |_=>true
def ba{e:Qc}{es:List Qc}{env:Ru}(h:Lh e=true):PM (e::es) env=(false,eval e env)::PM es env:=by
 cases e<;>first|(rw[PM];intros;contradiction)|rw[PM]|(cases h)
def dU{e:Qc}{env:Ru}(h:Lh e=true):PM [e] env=[(false,eval e env)]:=by
 rw[ba h,PM]
theorem bX{env:Ru}{pos:Pos}:∀{es:List Qc},es.all Lh=true->(QZ pos (PM es env)).any (·.1)=false
 |[],_=>by rw[PM];rfl
 |e::es,h=>by
  rw[Si,Qg]at h;rw[ba h.1];have:=bX (env:=env) (pos:=pos) h.2;show(false||(QZ pos (PM es env)).any (·.1))=false;rw[this];rfl
def fA{e:Qc}{env:Ru}{pos:Pos}(h:Lh e=true):((QZ pos (PM [e] env)).all (λx=>!x.1)&&(SS pos (RS [] env)).all (λx=>x.1.isSome)
  &&decide ([e].length+([]:List RH).length+(if([]:List RH).isEmpty then 0 else 1)<30))=true:=by
 rw[dU h,RS];rfl
inductive Kd where
 |ins (c:PY) (ks:bi)|dint (ks:List Int)|exf (c:PY) (ks:bi)|pl
inductive D where
 |non|bl (b:Bool)|int (i:Int)|str (x:PY)|tup (xs:List D)|lst (xs:List D)|dic (ks:bi) (xs:List D)|exc (x:PY)|ob (k:Kd) (xs:List D)
abbrev ac:=List D
structure Oo (K:Px) (ks:bi) (C:Py):Prop where
 cls:NH K C
 no:∀f∈ks,K8 K C f
 gc:UO K (.ref C) "__class__"=some (some (.builtin "object.__class__"))
 gn:W.specialIn K (.builtin "object.__class__") "__get__"=some (some (.builtin "getset_descriptor.__get__"))
 tk:W.takesIn K (.builtin "object.__class__")=some true
 mo:W.mroIn K C (.type "object")=some true
 bt:∀T∈iT,W.kitOne K (.ref C) (.type T)=some false
noncomputable def D6(K:Px) (H:Hp):Kd->Py->ad->Prop
 |.ins c ks,a,vs=>∃C dx,Q9 K P8 c=some (some (.ref C))/\Oo K ks C/\H a=some (.ins C dx (ks.zip vs))/\ks.length=vs.length
 |.dint ks,a,vs=>∃kvs,Rd H a (.dK kvs)/\kvs=(ks.map SE).zip vs/\ks.length=vs.length
 |.exf c ks,a,vs=>∃C dx fs,XC K c C/\Rd H a (.ext (ND a C (some dx)))/\H dx=some (.xd fs)/\ks.length=vs.length/\∀(i:Nat) (f:PY) (v:V),ks[i]?=some f->vs[i]?=some v->fs.lookup f=some v
 |.pl,a,vs=>H a=some (.lst vs)
structure O2 where
 cls:PY
 flds:List (PY×D)
inductive ai (α:Type) where
 |ok (a:α)|exn (x:O2)|stuck
def ai.bind{α β:Type}(r:ai α)(f:α->ai β):ai β:=match r with
 |.ok a=>f a
 |.exn x=>.exn x
 |.stuck=>.stuck
mutual
def Rep(K:Px)(H:Hp):D->V->Prop
 |.non,v=>v=.non
 |.bl b,v=>v=.bl b
 |.int i,v=>v=.int i
 |.str x,v=>v=.str x
 |.tup ds,v=>∃a vs,v=.ref a/\jd K H a vs/\Reps K H ds vs
 |.lst ds,v=>∃a vs,v=.ref a/\dR K H a vs/\Reps K H ds vs
 |.dic ks ds,v=>∃a kvs vs,v=.ref a/\Rd H a (.dK kvs)/\kvs=(ks.map QL).zip vs/\ks.length=vs.length/\Reps K H ds vs
 |.exc x,v=>∃a C dc,v=.ref a/\XC K x C/\Rd H a (.ext (ND a C dc))
 |.ob k ds,v=>∃a vs,v=.ref a/\D6 K H k a vs/\Reps K H ds vs
def Reps(K:Px)(H:Hp):ac->ad->Prop
 |[],vs=>vs=[]
 |d::ds,vs=>∃v r,vs=v::r/\Rep K H d v/\Reps K H ds r
end
def aB.rd{H H':Hp}(e:aB H H'){a:Py}{o:HO}(h:Rd H a o):Rd H' a o:=by
 rcases h with h|⟨o',h⟩
 .exact .inl (e _ _ h)
 .exact .inr ⟨o',e _ _ h⟩
def aB.sqT{K:Px}{H H':Hp}(e:aB H H'){a:Py}{xs:ad}(h:jd K H a xs):jd K H' a xs:=by
 rcases h with h|h
 .exact .inl (aB.rd e h)
 .exact .inr h
def aB.sqL{K:Px}{H H':Hp}(e:aB H H'){a:Py}{xs:ad}(h:dR K H a xs):dR K H' a xs:=by
 rcases h with h|h
 .exact .inl (aB.rd e h)
 .exact .inr h
theorem D6.mono{K:Px}{H H':Hp}(e:aB H H'):∀{k:Kd}{a:Py}{vs:ad},D6 K H k a vs->D6 K H' k a vs
 |.ins c ks,a,vs,⟨C,dx,h0,h1,h2,h3⟩=>⟨C,dx,h0,h1,e _ _ h2,h3⟩
 |.dint ks,a,vs,⟨kvs,h1,h2,h3⟩=>⟨kvs,aB.rd e h1,h2,h3⟩
 |.exf c ks,a,vs,⟨C,dx,fs,h1,h2,h3,h4⟩=>⟨C,dx,fs,h1,aB.rd e h2,e _ _ h3,h4⟩
 |.pl,a,vs,h=>e _ _ h
mutual
theorem Rep.mono{K:Px}{H H':Hp}(e:aB H H'):∀{d:D}{v:V},Rep K H d v->Rep K H' d v
 |.non,_,h=>by unfold Rep at h ⊢;exact h
 |.bl _,_,h=>by unfold Rep at h ⊢;exact h
 |.int _,_,h=>by unfold Rep at h ⊢;exact h
 |.str _,_,h=>by unfold Rep at h ⊢;exact h
 |.tup ds,_,h=>by
  unfold Rep at h ⊢;obtain⟨a,vs,e1,e2,e3⟩:=h;exact⟨a,vs,e1,aB.sqT e e2,Reps.mono e e3⟩
 |.lst ds,_,h=>by
  unfold Rep at h ⊢;obtain⟨a,vs,e1,e2,e3⟩:=h;exact⟨a,vs,e1,aB.sqL e e2,Reps.mono e e3⟩
 |.dic ks ds,_,h=>by
  unfold Rep at h ⊢;obtain⟨a,kvs,vs,e1,e2,e3,e4,e5⟩:=h;exact⟨a,kvs,vs,e1,aB.rd e e2,e3,e4,Reps.mono e e5⟩
 |.exc x,_,h=>by
  unfold Rep at h ⊢;obtain⟨a,C,dc,e1,e2,e3⟩:=h;exact⟨a,C,dc,e1,e2,aB.rd e e3⟩
 |.ob k ds,_,h=>by
  unfold Rep at h ⊢;obtain⟨a,vs,e1,e2,e3⟩:=h;exact⟨a,vs,e1,e2.mono e,Reps.mono e e3⟩
theorem Reps.mono{K:Px}{H H':Hp}(e:aB H H'):∀{ds:ac}{vs:ad},Reps K H ds vs->Reps K H' ds vs
 |[],_,h=>by unfold Reps at h ⊢;exact h
 |d::ds,_,h=>by
  unfold Reps at h ⊢;obtain⟨v,r,e1,e2,e3⟩:=h;exact⟨v,r,e1,Rep.mono e e2,Reps.mono e e3⟩
end
section
variable {K:Px}{H:Hp}{v:V}{vs:ad}{d:D}{ds:ac}
def aM:Rep K H .non v↔v=.non:=by unfold Rep;exact UI
def aI{b}:Rep K H (.bl b) v↔v=.bl b:=by unfold Rep;exact UI
def az{i}:Rep K H (.int i) v↔v=.int i:=by unfold Rep;exact UI
def Rep.str_iff{x}:Rep K H (.str x) v↔v=.str x:=by unfold Rep;exact UI
def aJ:Rep K H (.tup ds) v↔∃a vs,v=.ref a/\jd K H a vs/\Reps K H ds vs:=by rw[Rep]
def aF:Rep K H (.lst ds) v↔∃a vs,v=.ref a/\dR K H a vs/\Reps K H ds vs:=by rw[Rep]
def jL{x}:Rep K H (.exc x) v↔∃a C dc,v=.ref a/\XC K x C/\Rd H a (.ext (ND a C dc)):=by rw[Rep]
def ff{k}:Rep K H (.ob k ds) v↔∃a vs,v=.ref a/\D6 K H k a vs/\Reps K H ds vs:=by rw[Rep]
def Reps.nil_iff:Reps K H [] vs↔vs=[]:=by unfold Reps;exact UI
def aE:Reps K H (d::ds) vs↔∃v r,vs=v::r/\Rep K H d v/\Reps K H ds r:=by rw[Reps]
def Reps.nil:Reps K H [] []:=Reps.nil_iff.mpr rfl
def Reps.cons(h:Rep K H d v)(h':Reps K H ds vs):Reps K H (d::ds) (v::vs):=aE.mpr ⟨_,_,rfl,h,h'⟩
end
theorem Reps.length{K:Px}{H:Hp}:∀{ds:ac}{vs:ad},Reps K H ds vs->ds.length=vs.length
 |[],_,h=>by rw[Reps.nil_iff.mp h];rfl
 |d::ds,_,h=>by
  obtain⟨v,r,rfl,_,h⟩:=aE.mp h;simp[Reps.length h]
theorem Reps.get{K:Px}{H:Hp}:∀{ds:ac}{vs:ad}{i:Nat}{d:D},Reps K H ds vs->ds[i]?=some d->∃v,vs[i]?=some v/\Rep K H d v
 |[],_,_,_,h,e=>by simp at e
 |x::ds,_,0,d,h,e=>by
  obtain⟨v,r,rfl,h1,_⟩:=aE.mp h;simp at e;subst e;exact⟨v,rfl,h1⟩
 |x::ds,_,i+1,d,h,e=>by
  obtain⟨v,r,rfl,_,h2⟩:=aE.mp h;obtain⟨u,e1,e2⟩:=Reps.get (i:=i) h2 (by simpa using e);exact⟨u,by simpa using e1,e2⟩
theorem Reps.app{K:Px}{H:Hp}:∀{ds es:ac}{vs us:ad},Reps K H ds vs->Reps K H es us->Reps K H (ds++es) (vs++us)
 |[],_,_,_,h,h'=>by rw[Reps.nil_iff.mp h];exact h'
 |d::ds,_,_,_,h,h'=>by
  obtain⟨v,r,rfl,h1,h2⟩:=aE.mp h;exact Reps.cons h1 (Reps.app h2 h')
theorem Reps.take{K:Px}{H:Hp}:∀{ds:ac}{vs:ad}(n:Nat),Reps K H ds vs->Reps K H (ds.take n) (vs.take n)
 |_,_,0,_=>by simp;exact Reps.nil
 |[],_,n+1,h=>by rw[Reps.nil_iff.mp h];exact Reps.nil
 |d::ds,_,n+1,h=>by
  obtain⟨v,r,rfl,h1,h2⟩:=aE.mp h;exact Reps.cons h1 (Reps.take n h2)
theorem Reps.drop{K:Px}{H:Hp}:∀{ds:ac}{vs:ad}(n:Nat),Reps K H ds vs->Reps K H (ds.drop n) (vs.drop n)
 |_,_,0,h=>by simpa using h
 |[],_,n+1,h=>by rw[Reps.nil_iff.mp h];exact Reps.nil
 |d::ds,_,n+1,h=>by
  obtain⟨v,r,rfl,h1,h2⟩:=aE.mp h;exact Reps.drop n h2
theorem Reps.set{K:Px}{H:Hp}{d:D}{v:V}(h:Rep K H d v):∀{ds:ac}{vs:ad}(n:Nat),Reps K H ds vs->Reps K H (ds.set n d) (vs.set n v)
 |[],_,n,h'=>by rw[Reps.nil_iff.mp h'];exact Reps.nil
 |x::ds,_,0,h'=>by
  obtain⟨v,r,rfl,h1,h2⟩:=aE.mp h';exact Reps.cons h h2
 |x::ds,_,n+1,h'=>by
  obtain⟨v,r,rfl,h1,h2⟩:=aE.mp h';exact Reps.cons h1 (Reps.set h n h2)
theorem Reps.ints{K:Px}{H:Hp}:∀(ns:List Int),Reps K H (ns.map D.int) (ns.map V.int)
 |[]=>Reps.nil
 |n::r=>Reps.cons (az.mpr rfl) (Reps.ints r)
structure aU (H Ha H' Ha':Hp):Prop where
 s:aB H H'
 z:aB Ha Ha'
 sub:aB Ha' H'
 nw:∀a,Ha' a≠none->Ha a=none->H a=none
def aU.refl{H Ha:Hp}(h:aB Ha H):aU H Ha H Ha:=⟨aB.refl _,aB.refl _,h,λa h1 h2=>absurd h2 h1⟩
theorem aU.trans{H Ha H1 H01 H2 H02:Hp}(a:aU H Ha H1 H01)(b:aU H1 H01 H2 H02):aU H Ha H2 H02 :=
 ⟨a.s.trans b.s,a.z.trans b.z,b.sub,λx h1 h2=>by
  cases q:H01 x with
  |none=>exact a.s.free (b.nw x h1 q)
  |some o=>exact a.nw x (by rw[q];simp) h2⟩
def bw{H Ha:Hp}{p:Py}{o:HO}(hs:aB Ha H)(hp:H p=none):aU H Ha (upd H p o) (upd Ha p o) :=
 ⟨same_new hp o,same_new (hs.free hp) o,λb u e=>by
  by_cases hb:b=p
  .subst hb;rw[aG]at e ⊢;exact e
  .rw[au hb]at e ⊢;exact hs _ _ e,λa h1 h2=>by
  by_cases hb:a=p
  .subst hb;exact hp
  .rw[au hb]at h1;exact absurd h2 h1⟩
where
 same_new {H:Hp}{p:Py}(h:H p=none) (o:HO):aB H (upd H p o):=λb u q=>by rw[au (bB q h)];exact q
inductive Sl where
 |no|sh (d:D)|ow (d:D)|ox (j:Nat) (ds:ac)|pt (a:Py)
abbrev Ev:=List Sl
abbrev al:=Ev->ai D
def Reads(K:Px)(Ha:Hp)(σ:L2.St)(ρ:Ev):Prop:=∀(i:Nat) (d:D),ρ[i]?=some (.sh d)->∃v,σ[i]?=some (some v)/\Rep K Ha d v
def Reads.mono{K:Px}{H H':Hp}{σ:L2.St}{ρ:Ev}(e:aB H H')(r:Reads K H σ ρ):Reads K H' σ ρ:=λi d h=>
 let ⟨v,h1,h2⟩:=r i d h
 ⟨v,h1,h2.mono e⟩
def wN(K:Px)(H:Hp)(x:O2)(C:Pw)(ox:Option Py):Prop :=
 (∃c,C=.ref c/\XC K x.cls c)/\match ox with
  |none=>x.flds=[]
  |some a=>∃fs,H a=some (.xd fs)/\∀n d,x.flds.lookup n=some d->∃v,fs.lookup n=some v/\Rep K H d v
def post(K:Px)(E:XK)(H Ha:Hp)(r:ai D)(Q:VK):Prop:=match r with
 |.ok d=>∀v H' Ha',aU H Ha H' Ha'->Rep K Ha' d v->Q v H'
 |.exn x=>∀C ox H' Ha',aU H Ha H' Ha'->wN K Ha' x C ox->E C ox H'
 |.stuck=>False
def vg(K:Px)(E:XK)(H Ha:Hp)(r:ai (ac))(Q:ad->Hp->Prop):Prop:=match r with
 |.ok ds=>∀vs H' Ha',aU H Ha H' Ha'->Reps K Ha' ds vs->Q vs H'
 |.exn x=>∀C ox H' Ha',aU H Ha H' Ha'->wN K Ha' x C ox->E C ox H'
 |.stuck=>False
def o4(K:Px)(E:XK)(H Ha:Hp)(r:ai D)(Q:Bool->Hp->Prop):Prop:=match r with
 |.ok (.bl b)=>∀H' Ha',aU H Ha H' Ha'->Q b H'
 |.ok _=>False
 |.exn x=>∀C ox H' Ha',aU H Ha H' Ha'->wN K Ha' x C ox->E C ox H'
 |.stuck=>False
section
variable {K:Px}{E:XK}{H Ha H1 H01:Hp}
def post.grow{r:ai D}{Q:VK}(h:post K E H Ha r Q)(g:aU H Ha H1 H01):post K E H1 H01 r Q:=by
 cases r with|ok d=>exact λv H' Ha' g'=>h v H' Ha' (g.trans g')|exn x=>exact λC ox H' Ha' g'=>h C ox H' Ha' (g.trans g')|stuck=>exact h
def vg.grow{r:ai (ac)}{Q:ad->Hp->Prop}(h:vg K E H Ha r Q)(g:aU H Ha H1 H01):vg K E H1 H01 r Q:=by
 cases r with|ok d=>exact λv H' Ha' g'=>h v H' Ha' (g.trans g')|exn x=>exact λC ox H' Ha' g'=>h C ox H' Ha' (g.trans g')|stuck=>exact h
def o4.grow{r:ai D}{Q:Bool->Hp->Prop}(h:o4 K E H Ha r Q)(g:aU H Ha H1 H01):o4 K E H1 H01 r Q:=by
 cases r with
 |ok d=>
  cases d with|bl b=>exact λH' Ha' g'=>h H' Ha' (g.trans g')| _=>exact h
 |exn x=>exact λC ox H' Ha' g'=>h C ox H' Ha' (g.trans g')
 |stuck=>exact h
end
def tD(K:Px)(E:XK)(f:al):TE:=λσ H Q=>∃Ha ρ,aB Ha H/\Reads K Ha σ ρ/\post K E H Ha (f ρ) Q
def OD(K:Px)(E:XK)(f:Ev->ai (ac)):TA:=λσ H Q=>∃Ha ρ,aB Ha H/\Reads K Ha σ ρ/\vg K E H Ha (f ρ) Q
def Ir(K:Px)(E:XK)(f:al):TT:=λσ H Q=>∃Ha ρ,aB Ha H/\Reads K Ha σ ρ/\o4 K E H Ha (f ρ) Q
structure DE (X:Cx) (E:XK) (e:Qc) (f:al):Prop where
 o:PE X e (tD X.K E f)
structure DA (X:Cx) (E:XK) (es:List Qc) (f:Ev->ai (ac)):Prop where
 o:PA X es (OD X.K E f)
structure DT (X:Cx) (E:XK) (e:Qc) (f:al):Prop where
 o:PT X e (Ir X.K E f)
structure DW (X:Cx) (E:XK) (e:Qc) (f:al):Prop where
 o:PW X e (Ir X.K E f)
section
variable {X:Cx}{E:XK}{e a b:Qc}{es:List Qc}{f g:al}{fa:Ev->ai (ac)}{pos:Pos}
def aW{t t':TE}(h:PE X e t)(w:∀σ H Q,t' σ H Q->t σ H Q):PE X e t':=λπ s σ H Q I q=>h π s σ H Q I (w σ H Q q)
def oe{t t':TA}(h:PA X es t)(w:∀σ H Q,t' σ H Q->t σ H Q):PA X es t':=λpos π s σ H Q I q=>h pos π s σ H Q I (w σ H Q q)
def iD{t t':TT}(h:PT X e t)(w:∀σ H Q,t' σ H Q->t σ H Q):PT X e t':=λπ s σ H Q I q=>h π s σ H Q I (w σ H Q q)
def yL{t t':TT}(h:PW X e t)(w:∀σ H Q,t' σ H Q->t σ H Q):PW X e t':=λwh π s σ H Q I q=>h wh π s σ H Q I (w σ H Q q)
def aa(i:Nat):al:=λρ=>match ρ[i]? with
 |some (.sh d)=>.ok d
 |_=>.stuck
def dC(d:D):al:=λ_=>.ok d
def DP{i:Nat}{x:PY}(hN:X.N[i]?=some x)(hv:wJ X.env.scope x)(hd:(x==("__debug__" : PY))=false:=by decide)(hcd:(x==("__classdict__" : PY))=false:=by decide):DE X E (.Name x pos) (aa i):=by
 refine⟨?_⟩;refine aW (eA hN hv hd hcd) λσ H Q ⟨Ha,ρ,hs,hr,q⟩=>?_;unfold aa at q;cases e:ρ[i]? with
 |none=>rw[e]at q;exact q.elim
 |some s=>
  rw[e]at q;cases s with
  |sh d=>
   obtain⟨v,e1,e2⟩:=hr i d e;exact⟨v,e1,q v H Ha (aU.refl hs) e2⟩
  |no|ow d|ox j ds|pt a=>exact q.elim
def aj{i j}:DE X E (.Constant (.int i) j pos) (dC (.int i)):=⟨aW xq λσ H Q ⟨Ha,ρ,hs,hr,q⟩=>q _ H Ha (aU.refl hs) (az.mpr rfl)⟩
def dX{i j}:DE X E (.Constant (.bool i) j pos) (dC (.bl i)):=⟨aW L3 λσ H Q ⟨Ha,ρ,hs,hr,q⟩=>q _ H Ha (aU.refl hs) (aI.mpr rfl)⟩
def b5{j}:DE X E (.Constant .none j pos) (dC .non):=⟨aW Cs λσ H Q ⟨Ha,ρ,hs,hr,q⟩=>q _ H Ha (aU.refl hs) (aM.mpr rfl)⟩
def ee{x j}:DE X E (.Constant (.str x) j pos) (dC (.str x)):=⟨aW Jb λσ H Q ⟨Ha,ρ,hs,hr,q⟩=>q _ H Ha (aU.refl hs) (Rep.str_iff.mpr rfl)⟩
def G2{x:PY}{v:V}{u:Pw}{d:D}(hg:Gl X x)(hm:X.mg x=some u)(r:bo v u)(hr:∀H,Rep X.K H d v)(hd:(x==("__debug__" : PY))=false:=by decide):DE X E (.Name x pos) (dC d) :=
 ⟨aW (Fg hg hm r hd) λσ H Q ⟨Ha,ρ,hs,hr',q⟩=>q _ H Ha (aU.refl hs) (hr Ha)⟩
def ae(f g:al)(op:D->D->ai D):al:=λρ=>(f ρ).bind λx=>(g ρ).bind λy=>op x y
def cu(f:al)(op:D->ai D):al:=λρ=>(f ρ).bind op
def qM(K:Px)(E:XK)(r:R2)(op:D->D->ai D):Prop:=∀(x y:D) (v u:V) (H Ha:Hp) (Q:VK),aB Ha H->Rep K Ha x v->Rep K Ha y u->post K E H Ha (op x y) Q->r v u H Q
def gX{r:R2}{op:D->D->ai D}(ho:qM X.K E r op)(σ:L2.St)(H:Hp)(Q:VK)(h:tD X.K E (ae f g op) σ H Q):EM r (tD X.K E f) (tD X.K E g) σ H Q:=by
 obtain⟨Ha,ρ,hs,hr,q⟩:=h;refine⟨Ha,ρ,hs,hr,?_⟩;unfold ae at q;cases e1:f ρ with
 |stuck|exn x=>rw[e1]at q;exact q
 |ok x=>
  rw[e1]at q;intro v H1 H01 g1 r1;refine⟨H01,ρ,g1.sub,hr.mono g1.z,?_⟩;replace q:post X.K E H Ha ((g ρ).bind λy=>op x y) Q:=q;replace q:=q.grow g1;cases e2:g ρ with
  |stuck|exn x=>rw[e2]at q;exact q
  |ok y=>
   rw[e2]at q;intro u H2 H02 g2 r2;exact ho x y v u H2 H02 Q g2.sub (r1.mono g2.z) r2 (post.grow (r:=op x y) q g2)
def sP{op:Operator}{r:R2}{o:D->D->ai D}(h:eT X (binaryOp op) r)(ho:qM X.K E r o)(ha:DE X E a f)(hb:DE X E b g):DE X E (.BinOp a op b pos) (ae f g o) :=
 ⟨aW (HE h ha.o hb.o) (gX ho)⟩
def ef{op:CmpOp}{r:R2}{o:D->D->ai D}(h:eT X (Qz op) r)(ho:qM X.K E r o)(ha:DE X E a f)(hb:DE X E b g)(hm:behindInMarks op b=false):DE X E (.Compare a [op] [b] pos) (ae f g o) :=
 ⟨aW (yS h ha.o hb.o hm) (gX ho)⟩
def M7{r:R2}{o:D->D->ai D}(h:D7 X r)(ho:qM X.K E r o)(ha:DE X E a f)(hb:DE X E b g)(hs:ki b):DE X E (.Subscript a b pos) (ae f g o) :=
 ⟨aW (Cu h ha.o hb.o hs) (gX ho)⟩
def Pq(K:Px)(E:XK)(r:V->Hp->VK->Prop)(op:D->ai D):Prop:=∀(x:D) (v:V) (H Ha:Hp) (Q:VK),aB Ha H->Rep K Ha x v->post K E H Ha (op x) Q->r v H Q
def M5{op:UnaryOp}{r:V->Hp->VK->Prop}{o:D->ai D}(h:Nz X (unaryOp op) r)(ho:Pq X.K E r o)(ha:DE X E a f):DE X E (.UnaryOp op a pos) (cu f o):=by
 refine⟨?_⟩;refine aW (LY h ha.o) λσ H Q z9=>?_;obtain⟨Ha,ρ,hs,hr,q⟩:=z9;refine⟨Ha,ρ,hs,hr,?_⟩
 unfold cu at q;cases e1:f ρ with
 |stuck|exn x=>rw[e1]at q;exact q
 |ok x=>
  rw[e1]at q;intro v H1 H01 g1 r1;exact ho x v H1 H01 Q g1.sub r1 (post.grow (r:=o x) q g1)
def aC:Ev->ai (ac):=λ_=>.ok []
def ag(f:al)(fa:Ev->ai (ac)):Ev->ai (ac):=λρ=>(f ρ).bind λx=>(fa ρ).bind λxs=>.ok (x::xs)
def aw:DA X E [] aC:=⟨oe eC λσ H Q ⟨Ha,ρ,hs,hr,q⟩=>q [] H Ha (aU.refl hs) Reps.nil⟩
def af(ha:DE X E e f)(hr:DA X E es fa)(hs:PM (e::es) X.env=(false,eval e X.env)::PM es X.env:=by exact ba rfl):DA X E (e::es) (ag f fa):=by
 refine⟨?_⟩;refine oe (cO ha.o hr.o hs) λσ H Q z9=>?_;obtain⟨Ha,ρ,hs,hr,q⟩:=z9;refine⟨Ha,ρ,hs,hr,?_⟩
 unfold ag at q;cases e1:f ρ with
 |stuck|exn x=>rw[e1]at q;exact q
 |ok x=>
  rw[e1]at q;intro v H1 H01 g1 r1;refine⟨H01,ρ,g1.sub,hr.mono g1.z,?_⟩;replace q:vg X.K E H Ha ((fa ρ).bind λxs=>.ok (x::xs)) Q:=q;replace q:=q.grow g1;cases e2:fa ρ with
  |stuck|exn x=>rw[e2]at q;exact q
  |ok xs=>
   rw[e2]at q;intro us H2 H02 g2 r2;exact q (v::us) H2 H02 g2 (Reps.cons (r1.mono g2.z) r2)
def line:Nat:=1000000
def dF{n:Nat}(h:n<=line):n<=sizeLine:=Qh h (by decide)
def ao(fa:Ev->ai (ac))(m:ac->ai D):al:=λρ=>(fa ρ).bind m
def eJ:ac->ai D:=λds=>if ds.length<=line then .ok (.tup ds) else .stuck
def du:ac->ai D:=λds=>if ds.length<=line then .ok (.lst ds) else .stuck
def kg{m:ac->ai D}{r:ad->Hp->VK->Prop}(ho:∀(ds:ac) (vs:ad) (H Ha:Hp) (Q:VK),aB Ha H->Reps X.K Ha ds vs->post X.K E H Ha (m ds) Q->r vs H Q)
  (σ:L2.St)(H:Hp)(Q:VK)(h:tD X.K E (ao fa m) σ H Q):OD X.K E fa σ H λvs H1=>r vs H1 Q:=by
 obtain⟨Ha,ρ,hs,hr,q⟩:=h;refine⟨Ha,ρ,hs,hr,?_⟩;unfold ao at q;cases e1:fa ρ with
 |stuck|exn x=>rw[e1]at q;exact q
 |ok x=>
  rw[e1]at q;intro v H1 H01 g1 r1;exact ho x v H1 H01 Q g1.sub r1 (post.grow (r:=m x) q g1)
def cW{x1}(h:DA X E es fa):DE X E (.Tuple es x1 pos) (ao fa eJ):=by
 refine⟨?_⟩;refine aW (Cr h.o) (kg (r:=λxs H1 Q=>xs.length<=sizeLine/\∀p,H1 p=none->Q (.ref p) (upd H1 p (.tup xs))) λds vs H Ha Q hs hr q=>?_);unfold eJ at q
 by_cases hl:ds.length<=line
 .rw[if_pos hl]at q
  refine⟨by rw[←hr.length];exact dF hl,λp hp=>q _ _ _ (bw hs hp) (aJ.mpr ⟨p,vs,rfl,jd.of aG,hr.mono (bw hs hp).z⟩)⟩
 .rw[if_neg hl]at q;exact q.elim
def dy(h:DA X E es fa):DE X E (.List es pos) (ao fa du):=by
 refine⟨?_⟩;refine aW (Ct h.o) (kg (r:=λxs H1 Q=>xs.length<=sizeLine/\∀p,H1 p=none->Q (.ref p) (upd H1 p (.lst xs))) λds vs H Ha Q hs hr q=>?_);unfold du at q
 by_cases hl:ds.length<=line
 .rw[if_pos hl]at q
  refine⟨by rw[←hr.length];exact dF hl,λp hp=>q _ _ _ (bw hs hp) (aF.mpr ⟨p,vs,rfl,dR.of aG,hr.mono (bw hs hp).z⟩)⟩
 .rw[if_neg hl]at q;exact q.elim
def spD(K:Px)(n:Nat)(m:ac->ai D):Sp:=λvs H Q E=>vs.length=n/\∃Ha ds,aB Ha H/\Reps K Ha ds vs/\post K E H Ha (m ds) Q
def G3{CX:qK}{k n:Nat}{fn:Py}{fd:QI}{ps:bi}{m:ac->ai D}{x:PY}{p:Pos}(F:gp X.prog X.w X.K X.mg X.base CX k fn fd ps (spD X.K n m))(hr:da k X.A)(hg:Gl X x)(hm:X.mg x=some (.ref fn))
  (hk:Td X.K (.ref fn)=true)(hb:kF X.K fd ps [])(hx:fK CX X E)(ha:DA X E (e::es) fa)(hn:(e::es).length=n:=by rfl)(hl:∀ρ ds,fa ρ=.ok ds->ds.length=(e::es).length)
  (hdb:(x==("__debug__" : PY))=false:=by decide)(he:PM (e::es) X.env=(false,eval e X.env)::PM es X.env:=by exact ba rfl)(hpl:(QZ pos (PM es X.env)).any (·.1)=false:=by exact bX rfl) :
  DE X E (.Call (.Name x p) (e::es) [] pos) (ao fa m):=by
 refine⟨?_⟩;refine aW (lG F hr hg hm hk hb .nil hx ha.o hdb he hpl) λσ H Q h=>?_;obtain⟨Ha,ρ,hs,hr,q⟩:=h;refine⟨Ha,ρ,hs,hr,?_⟩;unfold ao at q;cases e1:fa ρ with
 |stuck|exn x=>rw[e1]at q;exact q
 |ok ds=>
  rw[e1]at q;intro v H1 H01 g1 r1;refine⟨?_,H01,ds,g1.sub,by simpa using r1,post.grow (r:=m ds) q g1⟩;have:=r1.length;have:=hl ρ ds e1;simp only[QC];omega
def D5{ρ:Ev}{ds:ac}(h:aC ρ=.ok ds):ds.length=0:=by cases h;rfl
def kh{ρ:Ev}{ds:ac}{n:Nat}(hr:∀es,fa ρ=.ok es->es.length=n)(h:ag f fa ρ=.ok ds):ds.length=n+1:=by
 unfold ag at h;cases e1:f ρ with
 |stuck|exn x=>rw[e1]at h;cases h
 |ok x=>
  rw[e1]at h;replace h:((fa ρ).bind λxs=>ai.ok (x::xs))=.ok ds:=h;cases e2:fa ρ with
  |stuck|exn x=>rw[e2]at h;cases h
  |ok xs=>
   rw[e2]at h;cases h;simp[hr xs e2]
def jP(X:Cx)(E:XK)(r:ad->Hp->VK->Prop)(m:ac->ai D):Prop:=∀(ds:ac) (vs:ad) (H Ha:Hp) (Q:VK),aB Ha H->Reps X.K Ha ds vs->post X.K E H Ha (m ds) Q->r vs H Q
def aT{id:String}{r:ad->Hp->VK->Prop}{m:ac->ai D}{x:PY}{p:Pos}(hc:jO X (.builtin id) r)(hd:jP X E r m)(hg:Gl X x)(hm:X.mg x=none)(hv:bootBuiltins x=some (.builtin id))(ha:DA X E (e::es) fa)(hn:x≠"__name__":=by decide)(hdb:(x==("__debug__" : PY))=false:=by decide)
  (he:PM (e::es) X.env=(false,eval e X.env)::PM es X.env:=by exact ba rfl)(hpl:(QZ pos (PM es X.env)).any (·.1)=false:=by exact bX rfl):DE X E (.Call (.Name x p) (e::es) [] pos) (ao fa m) :=
 ⟨aW (vk hc hg hm hv ha.o hn hdb he hpl) (kg hd)⟩
def Dv(h:PT X e (tB (tD X.K E f))):DT X E e f:=by
 refine⟨?_⟩;refine iD h λσ H Q z9=>?_;obtain⟨Ha,ρ,hs,hr,q⟩:=z9;refine⟨Ha,ρ,hs,hr,?_⟩
 cases e1:f ρ with
 |stuck|exn x=>rw[e1]at q;exact q
 |ok d=>
  rw[e1]at q;intro v H1 H01 g1 r1;cases d with|bl b=>rw[aI.mp r1];exact⟨b,rfl,q H1 H01 g1⟩| _=>exact q.elim
def bH(h:DE X E e f)(he:∀whole,isTrue e X.env whole=(do let v ←whole;standAt e.pos;SN [v] (truthy v)):=by intro _;rfl):DT X E e f:=Dv (IT h.o he)
def aR{op:CmpOp}{r:R2}{o:D->D->ai D}(h:eT X (Qz op) r)(ho:qM X.K E r o)(ha:DE X E a f)(hb:DE X E b g)(hm:behindInMarks op b=false):DT X E (.Compare a [op] [b] pos) (ae f g o):=by
 refine⟨?_⟩;refine iD (yN h ha.o hb.o hm) λσ H Q h=>?_;have w:tD X.K E (ae f g o) σ H λx H'=>∃k,x=.bl k/\Q k H':=by
  obtain⟨Ha,ρ,hs,hr,q⟩:=h;refine⟨Ha,ρ,hs,hr,?_⟩;cases e1:ae f g o ρ with
  |stuck|exn x=>rw[e1]at q;exact q
  |ok d=>
   rw[e1]at q;intro v H1 H01 g1 r1;cases d with|bl b=>rw[aI.mp r1];exact⟨b,rfl,q H1 H01 g1⟩| _=>exact q.elim
 exact gX ho σ H _ w
def cJ(f:al):al:=cu f λx=>match x with
 |.bl b=>.ok (.bl (!b))
 |_=>.stuck
def gf(f g:al):al:=λρ=>(f ρ).bind λx=>match x with
 |.bl true=>g ρ
 |.bl false=>.ok (.bl false)
 |_=>.stuck
def gV(f g:al):al:=λρ=>(f ρ).bind λx=>match x with
 |.bl true=>.ok (.bl true)
 |.bl false=>g ρ
 |_=>.stuck
def bZ(ha:DT X E a f):DT X E (.UnaryOp .Not a pos) (cJ f):=by
 refine⟨?_⟩;refine iD (IU ha.o) λσ H Q z9=>?_;obtain⟨Ha,ρ,hs,hr,q⟩:=z9;refine⟨Ha,ρ,hs,hr,?_⟩
 unfold cJ cu at q;cases e1:f ρ with
 |stuck|exn x=>rw[e1]at q;exact q
 |ok d=>
  rw[e1]at q;cases d with|bl b=>exact q| _=>exact q.elim
def KC(ha:DE X E a f):DE X E (.UnaryOp .Not a pos) (cJ f):=by
 refine⟨?_⟩;refine aW (Jd ha.o) λσ H Q z9=>?_;obtain⟨Ha,ρ,hs,hr,q⟩:=z9;refine⟨Ha,ρ,hs,hr,?_⟩
 unfold cJ cu at q;cases e1:f ρ with
 |stuck|exn x=>rw[e1]at q;exact q
 |ok d=>
  rw[e1]at q;intro v H1 H01 g1 r1;cases d with|bl b=>rw[aI.mp r1];exact⟨b,rfl,q (.bl !b) H1 H01 g1 (aI.mpr rfl)⟩| _=>exact q.elim
variable {rest:List Qc}
def iM(ha:DT X E a f):DW X E (.BoolOp .And [a] pos) f:=⟨E5 ha.o⟩
def bf(ha:DT X E a f):DW X E (.BoolOp .Or [a] pos) f:=⟨IQ ha.o⟩
def mN(ha:DT X E a f)(hb:DW X E (.BoolOp .And (b::rest) pos) g):DW X E (.BoolOp .And (a::b::rest) pos) (gf f g):=by
 refine⟨?_⟩;refine yL (IS ha.o hb.o) λσ H Q z9=>?_;obtain⟨Ha,ρ,hs,hr,q⟩:=z9;refine⟨Ha,ρ,hs,hr,?_⟩
 unfold gf at q;cases e1:f ρ with
 |stuck|exn x=>rw[e1]at q;exact q
 |ok d=>
  rw[e1]at q;cases d with
  |bl b=>
   cases b with|true=>exact λH1 H01 g1=>⟨H01,ρ,g1.sub,hr.mono g1.z,o4.grow (r:=g ρ) q g1⟩|false=>exact λH1 H01 g1=>q H1 H01 g1
  |_=>exact q.elim
def c6(ha:DT X E a f)(hb:DW X E (.BoolOp .Or (b::rest) pos) g):DW X E (.BoolOp .Or (a::b::rest) pos) (gV f g):=by
 refine⟨?_⟩;refine yL (LR ha.o hb.o) λσ H Q z9=>?_;obtain⟨Ha,ρ,hs,hr,q⟩:=z9;refine⟨Ha,ρ,hs,hr,?_⟩
 unfold gV at q;cases e1:f ρ with
 |stuck|exn x=>rw[e1]at q;exact q
 |ok d=>
  rw[e1]at q;cases d with
  |bl b=>
   cases b with|false=>exact λH1 H01 g1=>⟨H01,ρ,g1.sub,hr.mono g1.z,o4.grow (r:=g ρ) q g1⟩|true=>exact λH1 H01 g1=>q H1 H01 g1
  |_=>exact q.elim
def DW.dt(h:DW X E e f):DT X E e f:=⟨PW.pt h.o⟩
def jB{op}(h:DE X E a f):DE X E (.BoolOp op [a] pos) f:=⟨Jc h.o⟩
def kS(ha:DE X E a f)(hb:DE X E (.BoolOp .And (b::rest) pos) g):DE X E (.BoolOp .And (a::b::rest) pos) (gf f g):=by
 refine⟨?_⟩;refine aW (Je ha.o hb.o) λσ H Q z9=>?_;obtain⟨Ha,ρ,hs,hr,q⟩:=z9;refine⟨Ha,ρ,hs,hr,?_⟩
 unfold gf at q;cases e1:f ρ with
 |stuck|exn x=>rw[e1]at q;exact q
 |ok d=>
  rw[e1]at q;intro v H1 H01 g1 r1;cases d with
  |bl b=>
   rw[aI.mp r1];cases b with|true=>exact⟨true,rfl,H01,ρ,g1.sub,hr.mono g1.z,post.grow (r:=g ρ) q g1⟩|false=>exact⟨false,rfl,q (.bl false) H1 H01 g1 (aI.mpr rfl)⟩
  |_=>exact q.elim
def M6(ha:DE X E a f)(hb:DE X E (.BoolOp .Or (b::rest) pos) g):DE X E (.BoolOp .Or (a::b::rest) pos) (gV f g):=by
 refine⟨?_⟩;refine aW (LZ ha.o hb.o) λσ H Q z9=>?_;obtain⟨Ha,ρ,hs,hr,q⟩:=z9;refine⟨Ha,ρ,hs,hr,?_⟩
 unfold gV at q;cases e1:f ρ with
 |stuck|exn x=>rw[e1]at q;exact q
 |ok d=>
  rw[e1]at q;intro v H1 H01 g1 r1;cases d with
  |bl b=>
   rw[aI.mp r1];cases b with|false=>exact⟨false,rfl,H01,ρ,g1.sub,hr.mono g1.z,post.grow (r:=g ρ) q g1⟩|true=>exact⟨true,rfl,q (.bl true) H1 H01 g1 (aI.mpr rfl)⟩
  |_=>exact q.elim
def rJ(c f g:al):al:=λρ=>(c ρ).bind λx=>match x with
 |.bl true=>f ρ
 |.bl false=>g ρ
 |_=>.stuck
def lY{c:Qc}{fc:al}(hc:DT X E c fc)(ha:DE X E a f)(hb:DE X E b g):DE X E (.IfExp c a b pos) (rJ fc f g):=by
 refine⟨?_⟩;refine aW (Cv hc.o ha.o hb.o) λσ H Q z9=>?_;obtain⟨Ha,ρ,hs,hr,q⟩:=z9;refine⟨Ha,ρ,hs,hr,?_⟩
 unfold rJ at q;cases e1:fc ρ with
 |stuck|exn x=>rw[e1]at q;exact q
 |ok d=>
  rw[e1]at q;cases d with
  |bl b=>
   cases b with|true=>exact λH1 H01 g1=>⟨H01,ρ,g1.sub,hr.mono g1.z,post.grow (r:=f ρ) q g1⟩|false=>exact λH1 H01 g1=>⟨H01,ρ,g1.sub,hr.mono g1.z,post.grow (r:=g ρ) q g1⟩
  |_=>exact q.elim
end
noncomputable def Hj(K:Px) (Ha H:Hp) (a:Py) (d:D):Prop:=match d with
 |.lst ds=>∃vs,H a=some (.lst vs)/\Reps K Ha ds vs
 |.dic ks ds=>∃vs,H a=some (.dK ((ks.map QL).zip vs))/\ks.length=vs.length/\Reps K Ha ds vs
 |.ob (.dint ks) ds=>∃vs,H a=some (.dK ((ks.map SE).zip vs))/\ks.length=vs.length/\Reps K Ha ds vs
 |_=>False
def qV(j k:Nat):Bool:=if j=99 then decide (k<=1) else k==j
noncomputable def Nf(K:Px) (He Ha H:Hp) (a:Py) (j:Nat) (ds:ac) (P:Nat->Py):Prop:=∃vs,He a=none/\H a=some (.tup vs)/\ds.length=vs.length /\
 (∀k,qV j k=true->∃es us,He (P k)=none/\Ha (P k)=none/\ds[k]?=some (.lst es)/\vs[k]?=some (.ref (P k))/\H (P k)=some (.lst us)/\Reps K Ha es us) /\
 (∀k l,qV j k=true->qV j l=true->P k=P l->k=l)/\∀k d v,qV j k=false->ds[k]?=some d->vs[k]?=some v->Rep K Ha d v
noncomputable def OX(K:Px) (He Ha:Hp) (σ:L2.St) (H:Hp) (ρ:Ev):Prop:=(∀(i j:Nat) (ds:ac),ρ[i]?=some (.ox j ds)->∃a P,σ[i]?=some (some (.ref a))/\Nf K He Ha H a j ds P/\(∀(k:Nat) (d:D) (l:Nat),qV j l=true->ρ[k]?=some (.ow d)->σ[k]?≠some (some (.ref (P l))))/\∀(k j':Nat) (ds':ac),ρ[k]?=some (.ox j' ds')->k=i)/\∀(i:Nat) (a:Py),ρ[i]?=some (.pt a)->σ[i]?=some (some (.ref a))
def OX.upd{K:Px}{He Ha Ha' H H':Hp}{σ σ':L2.St}{ρ ρ':Ev}(h:OX K He Ha σ H ρ)
  (hk:∀(j:Nat) (s:Sl),ρ'[j]?=some s->(ρ[j]?=some s/\σ'[j]?=σ[j]?)∨(∃d,s=.sh d)∨s=.no∨∃d q,s=.ow d/\σ'[j]?=some (some (.ref q))/\∀(i j:Nat) (ds:ac) (a:Py) (P:Nat->Py),ρ[i]?=some (.ox j ds)->σ[i]?=some (some (.ref a))->Nf K He Ha H a j ds P->∀l,qV j l=true->q≠P l)
  (hz:aB Ha Ha')(ht:∀a vs,He a=none->H a=some (.tup vs)->H' a=some (.tup vs))
  (hl:∀p us,He p=none->Ha p=none->H p=some (.lst us)->(∀(k:Nat) (d:D),ρ[k]?=some (.ow d)->σ[k]?≠some (some (.ref p)))->H' p=some (.lst us)/\Ha' p=none):OX K He Ha' σ' H' ρ':=by
 refine⟨λi j ds e=>?_,λi a e=>?_⟩
 rotate_left
 .rcases hk i _ e with h1|⟨d,h1⟩|h1|⟨d,q,h1,_⟩
  .rw[h1.2];exact h.2 i a h1.1
  .cases h1
  .cases h1
  .cases h1
 have old:ρ[i]?=some (.ox j ds)/\σ'[i]?=σ[i]?:=by
  rcases hk i _ e with h1|⟨d,h1⟩|h1|⟨d,q,h1,_⟩
  .exact h1
  .cases h1
  .cases h1
  .cases h1
 obtain⟨a,P,h1,h2,h3,h4⟩:=h.1 i j ds old.1;have h2':=h2;obtain⟨vs,r1,r2,r3,r4,r5,r6⟩:=h2;refine⟨a,P,old.2.trans h1,⟨vs,r1,ht a vs r1 r2,r3,λk ok=>?_,r5,λk d v hk e1 e2=>(r6 k d v hk e1 e2).mono hz⟩,λk d l ok ek z=>?_,λk j' ds' ek=>?_⟩
 .obtain⟨es,us,q1,q2,q3,q4,q5,q6⟩:=r4 k ok
  obtain⟨l1,l2⟩:=hl (P k) us q1 q2 q5 λm d em=>h3 m d k ok em;exact⟨es,us,q1,l2,q3,q4,l1,q6.mono hz⟩
 .rcases hk k _ ek with h1'|⟨d',h1'⟩|h1'|⟨d',q,h1',h2'',h3'⟩
  .exact h3 k d l ok h1'.1 (by rw[←h1'.2];exact z)
  .cases h1'
  .cases h1'
  .rw[h2'']at z
   cases z;exact h3' i j ds a P old.1 h1 h2' l ok rfl
 .rcases hk k _ ek with h1'|⟨d',h1'⟩|h1'|⟨d',q,h1',_⟩
  .exact h4 k j' ds' h1'.1
  .cases h1'
  .cases h1'
  .cases h1'
def OX.none{K:Px}{He Ha H:Hp}{σ:L2.St}{ρ:Ev}(h:∀(i j:Nat) (ds:ac),ρ[i]?≠some (.ox j ds))(h':∀(i:Nat) (a:Py),ρ[i]?=some (.pt a)->σ[i]?=some (some (.ref a))):OX K He Ha σ H ρ:=⟨λi j ds e=>absurd e (h i j ds),h'⟩
theorem tV{K:Px}{H:Hp}:∀{ds:ac}{vs:ad},ds.length=vs.length->(∀(k:Nat) (d:D) (v:V),ds[k]?=some d->vs[k]?=some v->Rep K H d v)->Reps K H ds vs
 |[],[],_,_=>Reps.nil
 |d::ds,v::vs,hl,h=>Reps.cons (h 0 d v rfl rfl) (tV (by simpa using hl) λk d' v' e1 e2=>h (k+1) d' v' e1 e2)
structure cZ (K:Px) (He η Ha:Hp) (σ:L2.St) (H:Hp) (ρ:Ev):Prop where
 g:aU He η H Ha
 rd:Reads K Ha σ ρ
 ow:∀(i:Nat) (d:D),ρ[i]?=some (.ow d)->∃a,σ[i]?=some (some (.ref a))/\He a=none/\Ha a=none/\Hj K Ha H a d
 ap:∀(i j:Nat) (d d':D),i≠j->ρ[i]?=some (.ow d)->ρ[j]?=some (.ow d')->σ[i]?≠σ[j]?
 ln:ρ.length=σ.length
 ex:OX K He Ha σ H ρ
inductive Fl where
 |nx (ρ:Ev)|rt (d:D)|bk (ρ:Ev)|ct (ρ:Ev)
abbrev am:=Ev->ai Fl
noncomputable def b3(K:Px) (E:XK) (He η Ha:Hp) (r:ai Fl) (D:eV):Prop:=match r with
 |.ok (.nx ρ)=>∀σ H Ha',aB Ha Ha'->cZ K He η Ha' σ H ρ->D.nx σ H
 |.ok (.rt d)=>∀v H Ha',aU He η H Ha'->Rep K Ha' d v->D.rt v H
 |.ok (.bk ρ)=>∀σ H Ha',aB Ha Ha'->cZ K He η Ha' σ H ρ->D.bk σ H
 |.ok (.ct ρ)=>∀σ H Ha',aB Ha Ha'->cZ K He η Ha' σ H ρ->D.ct σ H
 |.exn x=>∀C ox H Ha',aU He η H Ha'->wN K Ha' x C ox->E C ox H
 |.stuck=>False
def b3.grow{K:Px}{E:XK}{He η Ha Hb:Hp}{r:ai Fl}{D:eV}(h:b3 K E He η Ha r D)(s:aB Ha Hb):b3 K E He η Hb r D:=by
 cases r with
 |ok f=>
  cases f with|nx ρ=>exact λσ H Ha' s'=>h σ H Ha' (s.trans s')|rt d=>exact h|bk ρ=>exact λσ H Ha' s'=>h σ H Ha' (s.trans s')|ct ρ=>exact λσ H Ha' s'=>h σ H Ha' (s.trans s')
 |exn x=>exact h
 |stuck=>exact h
def tS(K:Px)(E:XK)(He η:Hp)(g:am):TS:=λD σ H=>∃Ha ρ,cZ K He η Ha σ H ρ/\b3 K E He η Ha (g ρ) D
structure DS (X:Cx) (E:XK) (He η:Hp) (st:Q1) (g:am):Prop where
 o:PS X st (tS X.K E He η g)
structure Ba (X:Cx) (E:XK) (He η:Hp) (st:List Q1) (g:am):Prop where
 o:qL X st (tS X.K E He η g)
def gw(ρ:Ev):Ev:=ρ.map λs=>match s with
 |.ow d=>.sh d
 |.ox _ ds=>.sh (.tup ds)
 |x=>x
def frz(He Ha H:Hp):Hp:=λa=>match He a with
 |none=>H a
 |some _=>Ha a
section
variable {K:Px}{E:XK}{He η Ha H H1:Hp}{σ:L2.St}{ρ:Ev}
def cZ.same(h:cZ K He η Ha σ H ρ)(s:aB H H1):cZ K He η Ha σ H1 ρ :=
 ⟨⟨h.g.s.trans s,h.g.z,h.g.sub.trans s,h.g.nw⟩,h.rd,λi d e=>by
  obtain⟨a,h1,h2,h3,h4⟩:=h.ow i d e;refine⟨a,h1,h2,h3,?_⟩;cases d with
  |lst ds=>obtain⟨vs,h5,h6⟩:=h4;exact⟨vs,s _ _ h5,h6⟩|dic ks ds=>obtain⟨vs,h5,hl,h6⟩:=h4;exact⟨vs,s _ _ h5,hl,h6⟩
  |ob kk ds=>
   cases kk with|dint ks=>obtain⟨vs,h5,hl,h6⟩:=h4;exact⟨vs,s _ _ h5,hl,h6⟩| _=>exact h4.elim
  |_=>exact h4,h.ap,h.ln,h.ex.upd (λj s' e=>.inl ⟨e,rfl⟩) (aB.refl _) (λa vs _ e=>s _ _ e) λp us _ h0 hp _=>⟨s _ _ hp,h0⟩⟩
def cZ.grow{H01:Hp}(h:cZ K He η Ha σ H ρ)(s:aU H Ha H1 H01):cZ K He η H01 σ H1 ρ :=
 ⟨h.g.trans s,h.rd.mono s.z,λi d e=>by
  obtain⟨a,h1,h2,h3,h4⟩:=h.ow i d e;have ha:H01 a=none:=by
   cases q:H01 a with
   |none=>rfl
   |some o=>
    have:=s.nw a (by rw[q];simp) h3;cases d with
    |lst ds|dic ks ds=>obtain⟨vs,h5,_⟩:=h4;rw[h5]at this;cases this
    |ob kk ds=>
     cases kk with|dint ks=>obtain⟨vs,h5,_⟩:=h4;rw[h5]at this;cases this| _=>exact h4.elim
    |_=>exact h4.elim
  refine⟨a,h1,h2,ha,?_⟩;cases d with
  |lst ds=>obtain⟨vs,h5,h6⟩:=h4;exact⟨vs,s.s _ _ h5,h6.mono s.z⟩|dic ks ds=>obtain⟨vs,h5,hl,h6⟩:=h4;exact⟨vs,s.s _ _ h5,hl,h6.mono s.z⟩
  |ob kk ds=>
   cases kk with|dint ks=>obtain⟨vs,h5,hl,h6⟩:=h4;exact⟨vs,s.s _ _ h5,hl,h6.mono s.z⟩| _=>exact h4.elim
  |_=>exact h4,h.ap,h.ln,h.ex.upd (λj s' e=>.inl ⟨e,rfl⟩) s.z (λa vs _ e=>s.s _ _ e) λp us _ h0 hp _=>⟨s.s _ _ hp,by
   cases q:H01 p with
   |none=>rfl
   |some o=>have:=s.nw p (by rw[q];simp) h0;rw[hp]at this;cases this⟩⟩
def cZ.frz_sub(h:cZ K He η Ha σ H ρ):aB Ha (frz He Ha H):=λb o e=>by
 unfold frz;cases q:He b with|none=>exact h.g.sub _ _ e|some _=>exact e
def cZ.frz_le(h:cZ K He η Ha σ H ρ):aB (frz He Ha H) H:=λb o e=>by
 unfold frz at e;cases q:He b with|none=>rw[q]at e;exact e|some _=>rw[q]at e;exact h.g.sub _ _ e
theorem cZ.frz_grow(h:cZ K He η Ha σ H ρ):aU He η H (frz He Ha H) :=
 ⟨h.g.s,h.g.z.trans h.frz_sub,h.frz_le,λa h1 h2=>by
  cases q:He a with
  |none=>rfl
  |some o=>
   unfold frz at h1;rw[q]at h1;have:=h.g.nw a h1 h2;rw[q]at this;cases this⟩
def cZ.looks(h:cZ K He η Ha σ H ρ):Reads K (frz He Ha H) σ (gw ρ):=λi d e=>by
 unfold gw at e;rw[PN]at e;cases q:ρ[i]? with
 |none=>rw[q]at e;cases e
 |some s=>
  rw[q]at e;cases s with
  |no|pt a=>cases e
  |sh d'=>
   cases e;obtain⟨v,h1,h2⟩:=h.rd i d q;exact⟨v,h1,h2.mono h.frz_sub⟩
  |ow d'=>
   cases e;obtain⟨a,h1,h2,h3,h4⟩:=h.ow i d q;refine⟨_,h1,?_⟩;cases d with
   |lst ds=>
    obtain⟨vs,h5,h6⟩:=h4;exact aF.mpr ⟨a,vs,rfl,dR.of (by unfold frz;rw[h2];exact h5),h6.mono h.frz_sub⟩
   |dic ks ds=>
    obtain⟨vs,h5,hl,h6⟩:=h4;rw[Rep];exact⟨a,_,vs,rfl,.inl (by unfold frz;rw[h2];exact h5),rfl,hl,h6.mono h.frz_sub⟩
   |ob kk ds=>
    cases kk with
    |dint ks=>
     obtain⟨vs,h5,hl,h6⟩:=h4;exact ff.mpr ⟨a,vs,rfl,⟨_,.inl (by unfold frz;rw[h2];exact h5),rfl,hl⟩,h6.mono h.frz_sub⟩
    |_=>exact h4.elim
   |_=>exact h4.elim
  |ox j ds=>
   cases e;obtain⟨a,P,h1,⟨vs,r1,r2,r3,r4,r5,r6⟩,_⟩:=h.ex.1 i j ds q;refine⟨_,h1,aJ.mpr ⟨a,vs,rfl,jd.of (by unfold frz;rw[r1];exact r2),tV r3 λk d v e1 e2=>?_⟩⟩;cases hk:qV j k with
   |true=>
    obtain⟨es,us,q1,q2,q3,q4,q5,q6⟩:=r4 k hk;rw[q3]at e1;cases e1;rw[q4]at e2;cases e2;exact aF.mpr ⟨P k,us,rfl,dR.of (by unfold frz;rw[q1];exact q5),q6.mono h.frz_sub⟩
   |false=>exact(r6 k d v hk e1 e2).mono h.frz_sub
def cZ.put(h:cZ K He η Ha σ H ρ){i:Nat}{d:D}{v:V}(r:Rep K Ha d v):cZ K He η Ha (σ.set i (some v)) H (ρ.set i (.sh d)):=by
 have key:∀(j:Nat) (s:Sl),(ρ.set i (.sh d))[j]?=some s->(j=i/\s=.sh d/\i<σ.length)∨(j≠i/\ρ[j]?=some s):=λj s e=>by
  by_cases hj:i=j
  .subst hj
   rw[Q6]at e;cases q:ρ[i]? with
   |none=>rw[q]at e;cases e
   |some s'=>
    rw[q]at e;cases e;refine .inl ⟨rfl,rfl,?_⟩;rw[←h.ln];exact(PH.mp q).1
  .rw[PB hj]at e
   exact .inr ⟨λz=>hj z.symm,e⟩
 refine⟨h.g,λj d' e=>?_,λj d' e=>?_,λj k d1 d2 hn e1 e2=>?_,by simp[h.ln],h.ex.upd (λj s e=>?_) (aB.refl _) (λa vs _ e=>e) λp us _ h0 hp _=>⟨hp,h0⟩⟩
 rotate_left 3
 .rcases key j _ e with⟨rfl,e',hl⟩|⟨hj,e'⟩
  .exact .inr (.inl ⟨d,e'⟩)
  .exact .inl ⟨e',by rw[PB (Qx hj)]⟩
 .rcases key j _ e with⟨rfl,e',hl⟩|⟨hj,e'⟩
  .cases e'
   exact⟨v,by rw[PZ hl],r⟩
  .obtain⟨v',h1,h2⟩:=h.rd j d' e'
   exact⟨v',by rw[PB (Qx hj)];exact h1,h2⟩
 .rcases key j _ e with⟨rfl,e',hl⟩|⟨hj,e'⟩
  .cases e'
  .obtain⟨a,h1,h2⟩:=h.ow j d' e'
   exact⟨a,by rw[PB (Qx hj)];exact h1,h2⟩
 .rcases key j _ e1 with⟨_,e',_⟩|⟨hj,e1'⟩
  .cases e'
  rcases key k _ e2 with⟨_,e',_⟩|⟨hk,e2'⟩
  .cases e'
  rw[PB (Qx hj),PB (Qx hk)];exact h.ap j k d1 d2 hn e1' e2'
def cZ.putOwn(h:cZ K He η Ha σ H ρ){i:Nat}{ds:ac}{vs:ad}{p:Py}(hp:∀(j:Nat) (a:Py),σ[j]?=some (some (V.ref a))->a=p->∀d:D,ρ[j]?≠some (Sl.ow d))(he:He p=none)(h0:Ha p=none)(hv:H p=some (.lst vs))(r:Reps K Ha ds vs)(hx:∀(i j:Nat) (ds:ac) (a:Py) (P:Nat->Py),ρ[i]?=some (.ox j ds)->σ[i]?=some (some (.ref a))->Nf K He Ha H a j ds P->∀l,qV j l=true->p≠P l) :
  cZ K He η Ha (σ.set i (some (.ref p))) H (ρ.set i (.ow (.lst ds))):=by
 have key:∀(j:Nat) (s:Sl),(ρ.set i (.ow (.lst ds)))[j]?=some s->(j=i/\s=.ow (.lst ds)/\i<σ.length)∨(j≠i/\ρ[j]?=some s):=λj s e=>by
  by_cases hj:i=j
  .subst hj
   rw[Q6]at e;cases q:ρ[i]? with
   |none=>rw[q]at e;cases e
   |some s'=>
    rw[q]at e;cases e;refine .inl ⟨rfl,rfl,?_⟩;rw[←h.ln];exact(PH.mp q).1
  .rw[PB hj]at e
   exact .inr ⟨λz=>hj z.symm,e⟩
 have other:∀(k:Nat) (d2:D),k≠i->ρ[k]?=some (.ow d2)->some (some (V.ref p))≠σ[k]?:=λk d2 hk e2 z=>by
  obtain⟨a,h1,_⟩:=h.ow k d2 e2;rw[h1]at z;cases z;exact hp k p h1 rfl d2 e2
 refine⟨h.g,λj d' e=>?_,λj d' e=>?_,λj k d1 d2 hn e1 e2=>?_,by simp[h.ln],h.ex.upd (λj s e=>?_) (aB.refl _) (λa vs _ e=>e) λp us _ h0 hp _=>⟨hp,h0⟩⟩
 rotate_left 3
 .rcases key j _ e with⟨rfl,e',hl⟩|⟨hj,e'⟩
  .exact .inr (.inr (.inr ⟨.lst ds,p,e',by rw[PZ hl],hx⟩))
  .exact .inl ⟨e',by rw[PB (Qx hj)]⟩
 .rcases key j _ e with⟨rfl,e',hl⟩|⟨hj,e'⟩
  .cases e'
  .obtain⟨v',h1,h2⟩:=h.rd j d' e'
   exact⟨v',by rw[PB (Qx hj)];exact h1,h2⟩
 .rcases key j _ e with⟨rfl,e',hl⟩|⟨hj,e'⟩
  .cases e'
   exact⟨p,by rw[PZ hl],he,h0,vs,hv,r⟩
  .obtain⟨a,h1,h2⟩:=h.ow j d' e'
   exact⟨a,by rw[PB (Qx hj)];exact h1,h2⟩
 .rcases key j _ e1 with⟨rfl,_,hl⟩|⟨hj,e1'⟩
  .rcases key k _ e2 with⟨rfl,_,_⟩|⟨hk,e2'⟩
   .exact absurd rfl hn
   .rw[PZ hl,PB (Qx hk)]
    exact other k d2 hk e2'
  .rcases key k _ e2 with⟨rfl,_,hl⟩|⟨hk,e2'⟩
   .rw[PZ hl,PB (Qx hj)]
    exact λz=>other j d1 hj e1' z.symm
   .rw[PB (Qx hj),PB (Qx hk)]
    exact h.ap j k d1 d2 hn e1' e2'
def cZ.fresh_x{H01:Hp}{p:Py}(h:cZ K He η Ha σ H ρ)(s:aB H H1)(hp:H p=none):∀(i j:Nat) (ds:ac) (a:Py) (P:Nat->Py),ρ[i]?=some (.ox j ds)->σ[i]?=some (some (.ref a))->Nf K He H01 H1 a j ds P->∀l,qV j l=true->p≠P l:=λi j ds a P x1 x2 x3 l ol=>by
 obtain⟨a2,P2,y1,⟨vs2,_,z3,_,y4,_⟩,_⟩:=h.ex.1 i j ds x1;rw[x2]at y1;cases y1;obtain⟨vs1,_,z1,_,y5,_⟩:=x3;have:=s _ _ z3;rw[z1]at this;cases this;obtain⟨_,us2,_,_,_,z4,z5,_⟩:=y4 l ol;obtain⟨_,_,_,_,_,z2,_⟩:=y5 l ol;rw[z2]at z4;injection z4 with z4;injection z4 with z4;intro z;rw[←z4,←z,hp]at z5;cases z5
def cZ.write(h:cZ K He η Ha σ H ρ){i:Nat}{d:D}{p:Py}{ds:ac}{vs:ad}(e:ρ[i]?=some (.ow d))(es:σ[i]?=some (some (.ref p)))(r:Reps K Ha ds vs) :
  cZ K He η Ha σ (upd H p (.lst vs)) (ρ.set i (.ow (.lst ds))):=by
 obtain⟨a,h1,h2,h3,h4⟩:=h.ow i d e;rw[h1]at es;cases es;have hil:i<ρ.length:=(PH.mp e).1;have key:∀(j:Nat) (s:Sl),(ρ.set i (.ow (.lst ds)))[j]?=some s->(j=i/\s=.ow (.lst ds))∨(j≠i/\ρ[j]?=some s):=λj s e=>by
  by_cases hj:i=j
  .subst hj
   rw[PZ hil]at e;cases e;exact .inl ⟨rfl,rfl⟩
  .rw[PB hj]at e
   exact .inr ⟨λz=>hj z.symm,e⟩
 refine⟨⟨λb o eb=>?_,h.g.z,λb o eb=>?_,h.g.nw⟩,λj d' e'=>?_,λj d' e'=>?_,λj k d1 d2 hn e1 e2=>?_,by simp[h.ln],h.ex.upd (λj s e'=>?_) (aB.refl _) (λb us _ eb=>?_) λq us _ q0 hq hd=>?_⟩
 rotate_left 5
 .rcases key j _ e' with⟨rfl,e''⟩|⟨hj,e''⟩
  .exact .inr (.inr (.inr ⟨.lst ds,p,e'',h1,λi' j' ds' a' P' x1 x2 x3 l ol=>by
    obtain⟨a2,P2,y1,y2,y3,_⟩:=h.ex.1 i' j' ds' x1;rw[x2]at y1;cases y1;have:P2 l=P' l:=by
     obtain⟨vs1,_,z1,_,y5,_⟩:=x3;obtain⟨vs2,_,z3,_,y4,_⟩:=y2;rw[z1]at z3;cases z3;obtain⟨_,_,_,_,_,z2,_⟩:=y5 l ol;obtain⟨_,_,_,_,_,z4,_⟩:=y4 l ol;rw[z2]at z4;injection z4 with z4;injection z4 with z4;exact z4.symm
    rw[←this];intro zz;rw[zz]at h1;exact y3 j d l ol e h1⟩))
  .exact .inl ⟨e'',rfl⟩
 .rw[au (by
   intro z;subst z;cases d with
   |lst ds'|dic ks ds'=>obtain⟨vs',h5,_⟩:=h4;rw[h5]at eb;cases eb
   |ob kk ds'=>
    cases kk with|dint ks=>obtain⟨vs',h5,_⟩:=h4;rw[h5]at eb;cases eb| _=>exact h4.elim
   |_=>exact h4)];exact eb
 .have hq':q≠p:=by
   intro z;subst z;exact hd i d e h1
  exact⟨by rw[au hq'];exact hq,q0⟩
 .rw[au (by intro z;subst z;rw[h2]at eb;cases eb)];exact h.g.s _ _ eb
 .rw[au (by intro z;subst z;rw[h3]at eb;cases eb)];exact h.g.sub _ _ eb
 .rcases key j _ e' with⟨rfl,e''⟩|⟨hj,e''⟩
  .cases e''
  .exact h.rd j d' e''
 .rcases key j _ e' with⟨rfl,e''⟩|⟨hj,e''⟩
  .cases e''
   exact⟨p,h1,h2,h3,vs,aG,r⟩
  .obtain⟨b,k1,k2,k3,k4⟩:=h.ow j d' e''
   refine⟨b,k1,k2,k3,?_⟩;have hb:b≠p:=by
    intro z;subst z;exact h.ap j i d' d hj e'' e (by rw[k1,h1])
   cases d' with
   |lst ds'=>
    obtain⟨vs',h5,h6⟩:=k4;exact⟨vs',by rw[au hb];exact h5,h6⟩
   |dic ks ds'=>
    obtain⟨vs',h5,hl,h6⟩:=k4;exact⟨vs',by rw[au hb];exact h5,hl,h6⟩
   |ob kk ds'=>
    cases kk with
    |dint ks=>
     obtain⟨vs',h5,hl,h6⟩:=k4;exact⟨vs',by rw[au hb];exact h5,hl,h6⟩
    |_=>exact k4.elim
   |_=>exact k4.elim
 .rcases key j _ e1 with⟨rfl,e1'⟩|⟨hj,e1'⟩
  .rcases key k _ e2 with⟨rfl,_⟩|⟨hk,e2'⟩
   .exact absurd rfl hn
   .exact h.ap j k d d2 hn e e2'
  .rcases key k _ e2 with⟨rfl,_⟩|⟨hk,e2'⟩
   .exact h.ap j k d1 d hn e1' e
   .exact h.ap j k d1 d2 hn e1' e2'
end
mutual
def uw:D->Bool
 |.lst _=>false
 |.dic _ _=>false
 |.exc _=>false
 |.ob _ _=>false
 |.tup ds=>flats ds
 |_=>true
def flats:ac->Bool
 |[]=>true
 |d::ds=>uw d&&flats ds
end
mutual
theorem Rep.flat_to{K:Px}{H H':Hp}(e:∀a vs,Rd H a (.tup vs)->Rd H' a (.tup vs)):∀{d:D}{v:V},uw d=true->Rep K H d v->Rep K H' d v
 |.non,_,_,h=>by unfold Rep at h ⊢;exact h
 |.bl _,_,_,h=>by unfold Rep at h ⊢;exact h
 |.int _,_,_,h=>by unfold Rep at h ⊢;exact h
 |.str _,_,_,h=>by unfold Rep at h ⊢;exact h
 |.tup ds,_,f,h=>by
  unfold uw at f;obtain⟨a,vs,e1,e2,e3⟩:=aJ.mp h;refine aJ.mpr ⟨a,vs,e1,?_,Reps.flat_to e f e3⟩;rcases e2 with e2|e2
  .exact .inl (e _ _ e2)
  .exact .inr e2
 |.lst ds,_,f,h=>by unfold uw at f;cases f
 |.dic ks ds,_,f,h=>by unfold uw at f;cases f
 |.exc x,_,f,h=>by unfold uw at f;cases f
 |.ob k ds,_,f,h=>by unfold uw at f;cases f
theorem Reps.flat_to{K:Px}{H H':Hp}(e:∀a vs,Rd H a (.tup vs)->Rd H' a (.tup vs)):∀{ds:ac}{vs:ad},flats ds=true->Reps K H ds vs->Reps K H' ds vs
 |[],_,_,h=>by unfold Reps at h ⊢;exact h
 |d::ds,_,f,h=>by
  unfold flats at f;rw[Qg]at f;obtain⟨v,r,e1,e2,e3⟩:=aE.mp h;exact aE.mpr ⟨v,r,e1,Rep.flat_to e f.1 e2,Reps.flat_to e f.2 e3⟩
end
def gU(Ha J:Hp):Hp:=λa=>match Ha a with
 |some o=>some o
 |none=>match J a with
  |some (.tup vs)=>some (.tup vs)
  |some (.frz o (.tup vs))=>some (.frz o (.tup vs))
  |_=>none
section
variable {K:Px}{E:XK}{He η Ha H H1 J:Hp}{σ:L2.St}{ρ:Ev}
def Hh(h:aB Ha J):∀a o,gU Ha J a=some o->J a=some o:=λa o e=>by
 unfold gU at e;cases q:Ha a with
 |some u=>rw[q]at e;cases e;exact h _ _ q
 |none=>
  rw[q]at e;cases q2:J a with
  |none=>rw[q2]at e;cases e
  |some u=>
   rw[q2]at e;cases u with
   |tup vs=>cases e;rfl
   |frz o u'=>
    cases u' with|tup vs=>cases e;rfl| _=>cases e
   |_=>cases e
def Hg(h:aB Ha J)(a:Py)(vs:ad)(e:Rd J a (.tup vs)):Rd (gU Ha J) a (.tup vs):=by
 rcases e with e|⟨o,e⟩
 .refine .inl ?_
  unfold gU;cases q:Ha a with|some u=>have:=h _ _ q;rw[e]at this;cases this;rfl|none=>rw[e]
 .refine .inr ⟨o,?_⟩
  unfold gU;cases q:Ha a with|some u=>have:=h _ _ q;rw[e]at this;cases this;rfl|none=>rw[e]
def cZ.behind(h:cZ K He η Ha σ H ρ)(g:aU H (frz He Ha H) H1 J):cZ K He η (gU Ha J) σ H1 ρ:=by
 have hJ:aB Ha J:=h.frz_sub.trans g.z;have le:=Hh (Ha:=Ha) (J:=J) hJ;have z:aB Ha (gU Ha J):=λb o e=>by unfold gU;rw[e]
 refine⟨⟨h.g.s.trans g.s,h.g.z.trans z,λb o e=>g.sub _ _ (le b o e),λa h1 h2=>?_⟩,h.rd.mono z,λi d e=>?_,h.ap,h.ln,h.ex.upd (λj s e=>.inl ⟨e,rfl⟩) z (λa vs _ e=>g.s _ _ e) λp us hp h0 hl _=>⟨g.s _ _ hl,by
  have:frz He Ha H p=some (.lst us):=by unfold frz;rw[hp];exact hl
  have:=g.z _ _ this;unfold gU;rw[h0,this]⟩⟩
 .cases q:gU Ha J a with
  |none=>exact absurd q h1
  |some o=>
   have hj:=le a o q;exact(h.frz_grow.trans g).nw a (by rw[hj];simp) h2
 .obtain⟨a,k1,k2,k3,k4⟩:=h.ow i d e
  refine⟨a,k1,k2,?_,?_⟩
  .cases d with
   |lst ds=>
    obtain⟨vs,h5,_⟩:=k4;have:frz He Ha H a=some (.lst vs):=by unfold frz;rw[k2];exact h5
    have:=g.z _ _ this;unfold gU;rw[k3,this]
   |dic ks ds=>
    obtain⟨vs,h5,_⟩:=k4;have:frz He Ha H a=some (.dK ((ks.map QL).zip vs)):=by unfold frz;rw[k2];exact h5
    have:=g.z _ _ this;unfold gU;rw[k3,this]
   |ob kk ds=>
    cases kk with
    |dint ks=>
     obtain⟨vs,h5,_⟩:=k4;have:frz He Ha H a=some (.dK ((ks.map SE).zip vs)):=by unfold frz;rw[k2];exact h5
     have:=g.z _ _ this;unfold gU;rw[k3,this]
    |_=>exact k4.elim
   |_=>exact k4.elim
  .cases d with
   |lst ds=>obtain⟨vs,h5,h6⟩:=k4;exact⟨vs,g.s _ _ h5,h6.mono z⟩
   |dic ks ds=>obtain⟨vs,h5,hl,h6⟩:=k4;exact⟨vs,g.s _ _ h5,hl,h6.mono z⟩
   |ob kk ds=>
    cases kk with|dint ks=>obtain⟨vs,h5,hl,h6⟩:=k4;exact⟨vs,g.s _ _ h5,hl,h6.mono z⟩| _=>exact k4.elim
   |_=>exact k4.elim
end
section
variable {X:Cx}{E:XK}{He η:Hp}{st:Q1}{rest:List Q1}{e a b:Qc}{es:List Qc}{f g:al}{fa:Ev->ai (ac)}{s t:am}{pos:Pos}
def bP{t t':TS}(h:PS X st t)(w:∀D σ H,t' D σ H->t D σ H):PS X st t':=λπ s σ H D I q=>h π s σ H D I (w D σ H q)
def cq{t t':TS}(h:qL X rest t)(w:∀D σ H,t' D σ H->t D σ H):qL X rest t':=λπ s σ H D I q=>h π s σ H D I (w D σ H q)
def ar:am:=λρ=>.ok (.nx ρ)
def aA(s t:am):am:=λρ=>(s ρ).bind λr=>match r with
 |.nx ρ'=>t ρ'
 |r=>.ok r
def ak:Ba X E He η [] ar:=⟨cq fj λD σ H ⟨Ha,ρ,h,q⟩=>q σ H Ha (aB.refl _) h⟩
def ah(h1:DS X E He η st s)(h2:Ba X E He η rest t):Ba X E He η (st::rest) (aA s t):=by
 refine⟨?_⟩;refine cq (bV h1.o h2.o) λD σ H z9=>?_;obtain⟨Ha,ρ,h,q⟩:=z9;refine⟨Ha,ρ,h,?_⟩
 unfold aA at q;cases e1:s ρ with
 |stuck|exn x=>rw[e1]at q;exact q
 |ok r=>
  rw[e1]at q;cases r with|nx ρ'=>exact λσ' H' Ha' s' h'=>⟨Ha',ρ',h',b3.grow (r:=t ρ') q s'⟩|rt d|bk ρ'|ct ρ'=>exact q
def e8:am:=λ_=>.stuck
def eM:DS X E He η st e8:=⟨bP Cg λD σ H ⟨Ha,ρ,h,q⟩=>q⟩
def plain{K:Px}{Ha H:Hp}{σ:L2.St}{ρ:Ev}{k:D->ai Fl}{D':eV}(h:cZ K He η Ha σ H ρ){r:ai D}{Q:VK}
  (q:b3 K E He η Ha (r.bind k) D')(hk:∀d v H' Ha',r=.ok d->aU H Ha H' Ha'->Rep K Ha' d v->b3 K E He η Ha' (k d) D'->Q v H'):post K E H Ha r Q:=by
 cases r with|stuck=>exact q|exn x=>exact λC ox H' Ha' g ex=>q C ox H' Ha' (h.g.trans g) ex|ok d=>exact λv H' Ha' g rp=>hk d v H' Ha' rfl g rp (b3.grow (r:=k d) q g.z)
def look{K:Px}{Ha H:Hp}{σ:L2.St}{ρ:Ev}{k:D->ai Fl}{D':eV}(h:cZ K He η Ha σ H ρ){r:ai D}{Q:VK}
  (q:b3 K E He η Ha (r.bind k) D')(hk:∀d v H' J,r=.ok d->aU H (frz He Ha H) H' J->Rep K J d v->b3 K E He η Ha (k d) D'->Q v H'):post K E H (frz He Ha H) r Q:=by
 cases r with|stuck=>exact q|exn x=>exact λC ox H' Ha' g ex=>q C ox H' Ha' (h.frz_grow.trans g) ex|ok d=>exact λv H' J g rp=>hk d v H' J rfl g rp q
def HG{K:Px}{Ha H:Hp}{σ:L2.St}{ρ:Ev}{k:Bool->ai Fl}{D':eV}(h:cZ K He η Ha σ H ρ){r:ai D}{Q:Bool->Hp->Prop}
  (q:b3 K E He η Ha (r.bind λx=>match x with|.bl b=>k b|_=>.stuck) D')(hk:∀b H',aB H H'->b3 K E He η Ha (k b) D'->Q b H'):o4 K E H (frz He Ha H) r Q:=by
 cases r with
 |stuck=>exact q|exn x=>exact λC ox H' Ha' g ex=>q C ox H' Ha' (h.frz_grow.trans g) ex
 |ok d=>
  cases d with|bl b=>exact λH' J g=>hk b H' g.s q| _=>exact q.elim
def bq(i:Nat)(f:al):am:=λρ=>(f ρ).bind λd=>.ok (.nx (ρ.set i (.sh d)))
def bD(f:al):am:=λρ=>(f (gw ρ)).bind λd=>.ok (.rt d)
def nh(f:al):am:=λρ=>(f (gw ρ)).bind λ_=>.ok (.nx ρ)
def dQ(c:al)(s t:am):am:=λρ=>(c (gw ρ)).bind λx=>match x with
 |.bl b=>if b=true then s ρ else t ρ
 |_=>.stuck
def aY{i:Nat}{x:PY}{pos':Pos}(hN:X.N.Nodup)(hi:X.N[i]?=some x)(hx:wM X.env.scope x)(he:DE X E e f)(hs:QY e (some (.Name x pos')) pos.line X.env=pure false:=by rfl)
  (hf:X.fn x=true∨X.env.scope.names.lookup x=some .local := by first|exact .inl rfl|exact .inr rfl|assumption):DS X E He η (.Assign [.Name x pos'] e pos) (bq i f):=by
 refine⟨?_⟩;refine bP (iE hN hi hx he.o hs hf) λD σ H z9=>?_;obtain⟨Ha,ρ,h,q⟩:=z9;refine⟨Ha,ρ,h.g.sub,h.rd,?_⟩
 refine plain h q λd v H' Ha' _ g rp q'=>?_;exact q' _ H' Ha' (aB.refl _) ((h.grow g).put rp)
def aP(he:DE X E e f):DS X E He η (.Return (some e) pos) (bD f):=by
 refine⟨?_⟩;refine bP (my he.o) λD σ H z9=>?_;obtain⟨Ha,ρ,h,q⟩:=z9;refine⟨frz He Ha H,gw ρ,h.frz_le,h.looks,?_⟩
 exact look h q λd v H' J _ g rp q'=>q' v H' J (h.frz_grow.trans g) rp
def ou(he:DE X E e f)(hs:QY e none pos.line X.env=pure false:=by rfl):DS X E He η (.Expr e pos) (nh f):=by
 refine⟨?_⟩;refine bP (jS he.o hs) λD σ H z9=>?_;obtain⟨Ha,ρ,h,q⟩:=z9;refine⟨frz He Ha H,gw ρ,h.frz_le,h.looks,?_⟩
 exact look h q λd v H' J _ g rp q'=>q' σ H' Ha (aB.refl _) (h.same g.s)
def bK{c:Qc}{fc:al}{sa sb:List Q1}(hc:DT X E c fc)(ha:Ba X E He η sa s)(hb:Ba X E He η sb t):DS X E He η (.If c sa sb pos) (dQ fc s t):=by
 refine⟨?_⟩;refine bP (yO hc.o ha.o hb.o) λD σ H z9=>?_;obtain⟨Ha,ρ,h,q⟩:=z9;refine⟨frz He Ha H,gw ρ,h.frz_le,h.looks,?_⟩
 refine HG (k:=λb=>if b=true then s ρ else t ρ) h q λb H' hs q'=>?_;cases b with|true=>rw[if_pos rfl]at q' ⊢;exact⟨Ha,ρ,h.same hs,q'⟩|false=>rw[if_neg Rk]at q' ⊢;exact⟨Ha,ρ,h.same hs,q'⟩
noncomputable def tF(K:Px) (E:XK) (f:al):TE:=λσ H Q=>∃Ha ρ,aB Ha H/\Reads K Ha σ ρ/\match f ρ with
 |.ok (.lst ds)=>∀p vs H' Ha',aU H Ha H' Ha'->H p=none->Ha' p=none->H' p=some (.lst vs)->Reps K Ha' ds vs->Q (.ref p) H'
 |.ok _=>False
 |.exn x=>∀C ox H' Ha',aU H Ha H' Ha'->wN K Ha' x C ox->E C ox H'
 |.stuck=>False
structure DF (X:Cx) (E:XK) (e:Qc) (f:al):Prop where
 o:PE X e (tF X.K E f)
def kI(i:Nat)(f:al):am:=λρ=>(f ρ).bind λd=>match d with
 |.lst ds=>.ok (.nx (ρ.set i (.ow (.lst ds))))
 |_=>.stuck
def jA{i:Nat}{x:PY}{pos':Pos}(hN:X.N.Nodup)(hi:X.N[i]?=some x)(hx:wM X.env.scope x)(he:DF X E e f)(hs:QY e (some (.Name x pos')) pos.line X.env=pure false:=by rfl)
  (hf:X.fn x=true∨X.env.scope.names.lookup x=some .local := by first|exact .inl rfl|exact .inr rfl|assumption):DS X E He η (.Assign [.Name x pos'] e pos) (kI i f):=by
 refine⟨?_⟩;refine bP (iE hN hi hx he.o hs hf) λD σ H z9=>?_;obtain⟨Ha,ρ,h,q⟩:=z9;refine⟨Ha,ρ,h.g.sub,h.rd,?_⟩
 unfold kI at q;cases e1:f ρ with
 |stuck=>rw[e1]at q;exact q|exn x=>rw[e1]at q;exact λC ox H' Ha' g ex=>q C ox H' Ha' (h.g.trans g) ex
 |ok d=>
  rw[e1]at q;cases d with
  |lst ds=>
   intro p vs H' Ha' g hp h0 hv rp;refine q _ H' Ha' g.z ((h.grow g).putOwn (λj a ej ea d ed=>?_) (h.g.s.free hp) h0 hv rp (h.fresh_x g.s hp));subst ea;obtain⟨a',k1,_,_,k4⟩:=h.ow j d ed;rw[ej]at k1;cases k1;cases d with
   |lst ds'|dic ks ds'=>obtain⟨vs',h5,_⟩:=k4;rw[hp]at h5;cases h5
   |ob kk ds'=>
    cases kk with|dint ks=>obtain⟨vs',h5,_⟩:=k4;rw[hp]at h5;cases h5| _=>exact k4.elim
   |_=>exact k4.elim
  |_=>exact q.elim
def kR(h:DA X E es fa):DF X E (.List es pos) (ao fa du):=by
 refine⟨?_⟩;refine aW (Ct h.o) λσ H Q h=>?_;obtain⟨Ha,ρ,hs,hr,q⟩:=h;refine⟨Ha,ρ,hs,hr,?_⟩;unfold ao at q;cases e1:fa ρ with
 |stuck|exn x=>rw[e1]at q;exact q
 |ok ds=>
  rw[e1]at q;intro vs H1 H01 g1 r1;replace q:match du ds with
   |.ok (.lst ds)=>∀p vs H' Ha',aU H Ha H' Ha'->H p=none->Ha' p=none->H' p=some (.lst vs)->Reps X.K Ha' ds vs->Q (.ref p) H'
   |.ok _=>False
   |.exn x=>∀C ox H' Ha',aU H Ha H' Ha'->wN X.K Ha' x C ox->E C ox H'
   |.stuck=>False:=q
  unfold du at q
  by_cases hl:ds.length<=line
  .rw[if_pos hl]at q
   refine⟨by rw[←r1.length];exact dF hl,λp hp=>?_⟩;have h0:H01 p=none:=g1.sub.free hp;refine q p vs _ H01 (g1.trans ⟨λb o q=>by rw[au (bB q hp)];exact q,aB.refl _,λb o q=>?_,λa h1 h2=>absurd h2 h1⟩) (g1.s.free hp) h0 aG r1;rw[au (by intro z;subst z;rw[h0]at q;cases q)];exact g1.sub _ _ q
  .rw[if_neg hl]at q;exact q.elim
def yU(ρ:Ev)(i:Nat)(k:ac->ai Fl):ai Fl:=match ρ[i]? with
 |some (.ow (.lst ds))=>k ds
 |_=>.stuck
def ez(i:Nat)(f:al):am:=λρ=>yU ρ i λds=>(f ρ).bind λd=>if ds.length<line then .ok (.nx (ρ.set i (.ow (.lst (ds++[d]))))) else .stuck
def vp{K:Px}{Ha H:Hp}{σ:L2.St}{ρ:Ev}{i:Nat}{k:ac->ai Fl}{D':eV}(h:cZ K He η Ha σ H ρ)(q:b3 K E He η Ha (yU ρ i k) D') :
  ∃ds p vs,ρ[i]?=some (.ow (.lst ds))/\σ[i]?=some (some (.ref p))/\He p=none/\Ha p=none/\H p=some (.lst vs)/\Reps K Ha ds vs/\b3 K E He η Ha (k ds) D':=by
 unfold yU at q;cases e:ρ[i]? with
 |none=>rw[e]at q;exact q.elim
 |some s=>
  rw[e]at q;cases s with
  |no|sh d|ox j ds|pt a=>exact q.elim
  |ow d=>
   cases d with
   |lst ds=>
    obtain⟨p,h1,h2,h3,vs,h4,h5⟩:=h.ow i _ e;exact⟨ds,p,vs,rfl,h1,h2,h3,h4,h5,q⟩
   |_=>exact q.elim
def j9{i:Nat}{x:PY}{p1 p2 p3:Pos}(hN:X.N[i]?=some x)(hv:wJ X.env.scope x)(he:DE X E e f)
  (hd:(x==("__debug__" : PY))=false:=by decide)(hcd:(x==("__classdict__" : PY))=false:=by decide)
  (hbase:R4 (.Name x p1) "append" X.env (eval (.Name x p1) X.env)=eval (.Name x p1) X.env:=by rfl)
  (hfew:((QZ p3 (PM [e] X.env)).all (λx=>!x.1)&&(SS p3 (RS [] X.env)).all (λx=>x.1.isSome)
  &&decide ([e].length+([]:List RH).length+(if([]:List RH).isEmpty then 0 else 1)<30))=true:=by exact fA rfl)
  (hline:(p2.endLine==p3.line)=true:=by rfl) (hs:PM [e] X.env=(false,eval e X.env)::PM [] X.env:=by exact ba rfl) (hplain:(QZ p3 (PM [] X.env)).any (·.1)=false:=by exact bX rfl)
  (hw:QY (.Call (.Attribute (.Name x p1) "append" p2) [e] [] p3) none pos.line X.env=pure false:=by rfl) :
  DS X E He η (.Expr (.Call (.Attribute (.Name x p1) "append" p2) [e] [] p3) pos) (ez i f):=by
 refine⟨?_⟩;refine bP (jS (rZ RK RD RC fW (eA hN hv hd hcd) (cO he.o eC hs) hbase hfew hline hs hplain) hw) λD σ H ⟨Ha,ρ,h,q⟩=>?_;obtain⟨ds,p,vs,e1,e2,e3,e4,e5,e6,q⟩:=vp h q;refine⟨.ref p,e2,.inl ⟨rfl,vs,dR.of e5⟩,?_⟩;refine⟨Ha,ρ,h.g.sub,h.rd,plain h q λd v H' Ha' _ g rp q'=>?_⟩
 by_cases hl:ds.length<line
 .rw[if_pos hl]at q'
  have e5':H' p=some (.lst vs):=g.s _ _ e5;refine⟨p,vs,v,rfl,rfl,e5',by rw[←e6.length];exact PK hl (by decide),?_⟩;exact q' σ _ Ha' (aB.refl _) ((h.grow g).write e1 e2 ((e6.mono g.z).app (Reps.cons rp Reps.nil)))
 .rw[if_neg hl]at q';exact q'.elim
def putAt(ρ:Ev)(i:Nat)(ds:ac)(d:D)(j:D):ai Fl:=match j with
 |.int j=>match xK ds.length j with
  |some n=>.ok (.nx (ρ.set i (.ow (.lst (ds.set n d)))))
  |none=>.stuck
 |_=>.stuck
def BP(i:Nat)(f k:al):am:=λρ=>yU ρ i λds=>(f ρ).bind λd=>(k ρ).bind λj=>putAt ρ i ds d j
def Cc{K:Px}{Ha H:Hp}{σ:L2.St}{ρ:Ev}{i:Nat}{D':eV}{ds:ac}{d j:D}{p:Py}{vs:ad}{v u:V}(h:cZ K He η Ha σ H ρ)(e1:ρ[i]?=some (.ow (.lst ds)))(e2:σ[i]?=some (some (.ref p)))(e5:H p=some (.lst vs))(e6:Reps K Ha ds vs)
  (rp:Rep K Ha d v)(rj:Rep K Ha j u)(q:b3 K E He η Ha (putAt ρ i ds d j) D'):HD (.ref p) u v H λH'=>D'.nx σ H':=by
 unfold putAt at q;cases j with
 |int n=>
  cases en:xK ds.length n with
  |none=>simp only[en]at q;exact q.elim
  |some m=>
   simp only[en]at q;refine⟨p,vs,n,m,rfl,az.mp rj,e5,by rw[←e6.length];exact en,?_⟩;exact q σ _ Ha (aB.refl _) (h.write e1 e2 (e6.set rp m))
 |_=>exact q.elim
section
variable {i:Nat}{x:PY}{p1 p2:Pos}{k:al}
def Ku(hN:X.N[i]?=some x)(hv:wJ X.env.scope x)(he:DE X E e f)(hk:DE X E b k)
  (hd:(x==("__debug__" : PY))=false:=by decide)(hcd:(x==("__classdict__" : PY))=false:=by decide)
  (ha:∀v,assign (.Subscript (.Name x p1) b p2) X.env v=(do
   let ov ←SN [v] (eval (.Name x p1) X.env)
   let iv ←SN [v,ov] (eval b X.env)
   standAt p2
   SN [v,ov,iv] (setItem ov iv v)
   release [v,ov,iv] []):=by intro _;rfl)
  (hs:swapsWithSole [.Subscript (.Name x p1) b p2] e pos.line X.env=pure false:=by rfl) (hw:swappedStores [.Subscript (.Name x p1) b p2] e X.env=pure none:=by rfl)
  (h1:(assignEach [.Subscript (.Name x p1) b p2] X.env).map (·.2)=[assign (.Subscript (.Name x p1) b p2) X.env]:=by rfl) :
  DS X E He η (.Assign [.Subscript (.Name x p1) b p2] e pos) (BP i f k):=by
 refine⟨?_⟩;refine bP (Ci he.o (Cp (eA hN hv hd hcd) hk.o u6 ha) hs hw h1) λD σ H z9=>?_;obtain⟨Ha,ρ,h,q⟩:=z9;refine⟨Ha,ρ,h.g.sub,h.rd,?_⟩
 obtain⟨ds,p,vs,e1,e2,e3,e4,e5,e6,q⟩:=vp h q;refine plain (k:=λd=>(k ρ).bind λj=>putAt ρ i ds d j) h q λd v H1 H01 _ g1 r1 q1=>⟨.ref p,e2,?_⟩
 have h1':=h.grow g1;refine⟨H01,ρ,h1'.g.sub,h1'.rd,plain (k:=λj=>putAt ρ i ds d j) h1' q1 λj u H2 H02 _ g2 r2 q2=>?_⟩;exact Cc (h1'.grow g2) e1 e2 (g2.s _ _ (g1.s _ _ e5)) ((e6.mono g1.z).mono g2.z) (r1.mono g2.z) r2 q2
end
noncomputable def bW(tg:Ev->D->ai Ev) (body:am):ac->am
 |[],ρ=>.ok (.nx ρ)
 |d::r,ρ=>(tg ρ d).bind λρ1=>(body ρ1).bind λx=>match x with
  |.nx ρ2=>bW tg body r ρ2
  |.ct ρ2=>bW tg body r ρ2
  |.bk ρ2=>.ok (.nx ρ2)
  |.rt d=>.ok (.rt d)
def tG(K:Px)(He η:Hp)(tg:Ev->D->ai Ev):TG:=λv σ H Q=>∃Ha ρ d,cZ K He η Ha σ H ρ/\Rep K Ha d v/\match tg ρ d with
  |.ok ρ'=>∀σ' H' Ha',aB Ha Ha'->cZ K He η Ha' σ' H' ρ'->Q σ' H'
  |_=>False
structure DG (X:Cx) (E:XK) (He η:Hp) (target:Qc) (tg:Ev->D->ai Ev):Prop where
 o:PG X target (tG X.K He η tg)
def bJ(i:Nat):Ev->D->ai Ev:=λρ d=>.ok (ρ.set i (.sh d))
def tZ{tgt:Qc}{t t':TG}(h:PG X tgt t)(w:∀v σ H Q,t' v σ H Q->t v σ H Q):PG X tgt t':=λπ s σ H v u Q I r q=>h π s σ H v u Q I r (w v σ H Q q)
def cb{i:Nat}{x:PY}(hN:X.N.Nodup)(hi:X.N[i]?=some x)(hx:wM X.env.scope x)(hf:X.fn x=true∨X.env.scope.names.lookup x=some .local := by first|exact .inl rfl|exact .inr rfl|assumption):DG X E He η (.Name x pos) (bJ i) :=
 ⟨tZ (t8 hN hi hx hf) λv σ H Q ⟨Ha,ρ,d,h,rp,q⟩=>q _ H Ha (aB.refl _) (h.put rp)⟩
def fO(K:Px)(E:XK)(He η Hb:Hp)(tg:Ev->D->ai Ev)(s:am)(ds:ac)(D':eV)(i:Nat)(σ:L2.St)(H:Hp):Prop :=
 ∃Ha ρ,aB Hb Ha/\cZ K He η Ha σ H ρ/\b3 K E He η Ha (bW tg s (ds.drop i) ρ) D'
def fO.step{K:Px}{Hb:Hp}{tg:Ev->D->ai Ev}{ds:ac}{D':eV}{i:Nat}{σ:L2.St}{H:Hp}{d:D}{v:V}(h:fO K E He η Hb tg s ds D' i σ H)(hd:ds[i]?=some d)(rv:Rep K Hb d v)
  (he:∀ρ,tg ρ d=.stuck∨∃ρ',tg ρ d=.ok ρ') :
  tG K He η tg v σ H λσ2 H2=>tS K E He η s { D' with nx:=fO K E He η Hb tg s ds D' (i+1),ct:=fO K E He η Hb tg s ds D' (i+1),bk:=D'.nx } σ2 H2:=by
 obtain⟨Ha,ρ,z,h,q⟩:=h;have hi:i<ds.length:=(PH.mp hd).1;have hdr:ds.drop i=d::ds.drop (i+1):=by
  rw[QG hi];rw[PL hi]at hd;cases hd;rfl
 rw[hdr]at q;refine⟨Ha,ρ,d,h,rv.mono z,?_⟩;unfold bW at q;rcases he ρ with e1|⟨ρ1,e1⟩
 .rw[e1]at q;exact q.elim
 .rw[e1]at q ⊢
  intro σ' H' Ha' z' h';refine⟨Ha',ρ1,h',?_⟩;replace q:=b3.grow (r:=(s ρ1).bind λx=>match x with
   |.nx ρ2=>bW tg s (ds.drop (i+1)) ρ2
   |.ct ρ2=>bW tg s (ds.drop (i+1)) ρ2
   |.bk ρ2=>.ok (.nx ρ2)
   |.rt d=>.ok (.rt d)) q z'
  cases e2:s ρ1 with
  |stuck|exn x=>rw[e2]at q;exact q
  |ok r=>
   rw[e2]at q;cases r with|nx ρ2=>exact λσ3 H3 H03 z3 h3=>⟨H03,ρ2,(z.trans z').trans z3,h3,b3.grow (r:=bW tg s (ds.drop (i+1)) ρ2) q z3⟩|ct ρ2=>exact λσ3 H3 H03 z3 h3=>⟨H03,ρ2,(z.trans z').trans z3,h3,b3.grow (r:=bW tg s (ds.drop (i+1)) ρ2) q z3⟩|bk ρ2|rt d=>exact q
def fO.done{K:Px}{Hb:Hp}{tg:Ev->D->ai Ev}{ds:ac}{D':eV}{σ:L2.St}{H:Hp}(h:fO K E He η Hb tg s ds D' ds.length σ H):D'.nx σ H:=by
 obtain⟨Ha,ρ,z,h,q⟩:=h;rw[Sd]at q;unfold bW at q;exact q σ H Ha (aB.refl _) h
def tq(tg:Ev->D->ai Ev):Prop:=∀ρ d,tg ρ d=.stuck∨∃ρ',tg ρ d=.ok ρ'
def cF{i:Nat}:tq (bJ i):=λρ d=>.inr ⟨_,rfl⟩
def qT(f:al)(tg:Ev->D->ai Ev)(s:am):am:=λρ=>(f ρ).bind λd=>match d with
 |.lst ds=>bW tg s ds ρ
 |_=>.stuck
def pU{tgt iter:Qc}{body:List Q1}{tg:Ev->D->ai Ev}(hp:PassesOwn (Ql X.prog X.w) X.A X.env X.xe)(hc:X.calm=true)(hi:DE X E iter f)(hg:DG X E He η tgt tg)(ht:tq tg)(hb:Ba X E He η body s)
  (hs:∀x,foldedSetIterable iter X.env x=pure x:=by intro _;rfl):DS X E He η (.For tgt iter body [] pos) (qT f tg s):=by
 refine⟨?_⟩;refine bP (mz hp hc (tY hi.o) hg.o hb.o hs) λD' σ H z9=>?_;obtain⟨Ha,ρ,h,q⟩:=z9;refine⟨Ha,ρ,h.g.sub,h.rd,?_⟩
 refine plain h q λd v H1 H01 _ g rp q1=>?_;cases d with
 |lst ds=>
  obtain⟨a,vs,rfl,hv,hr⟩:=aF.mp rp;refine⟨a,rfl,⟨vs,aB.sqL g.sub hv⟩,?_⟩;refine vZ (K:=X.K) (a:=a) (g:=tG X.K He η tg) (tb:=tS X.K E He η s) (D:=D') (xs:=vs) (fO X.K E He η H01 tg s ds D') ⟨H01,ρ,aB.refl _,h.grow g,q1⟩ ?_ ?_ ?_
  .rintro i σ' H' _ ⟨Ha',ρ',z,h',_⟩
   exact aB.sqL (z.trans h'.g.sub) hv
  .intro i x σ' H' hx hI
   have hil:i<ds.length:=by rw[hr.length];exact(PH.mp hx).1
   obtain⟨u,e1,e2⟩:=hr.get (PL hil);rw[hx]at e1;cases e1;exact hI.step (PL hil) e2 λρ=>ht ρ _
  .intro σ' H' hI
   rw[←hr.length]at hI;exact hI.done
 |_=>exact q1.elim
def intsFrom(lo:Int)(n:Nat):ac:=(Q5 n).map λ(k:Nat)=>D.int (lo+(k:Int))
def kq(f:al)(tg:Ev->D->ai Ev)(s:am):am:=λρ=>(f (gw ρ)).bind λd=>match d with
 |.int j=>if -4611686018427387904<=j/\j<4611686018427387904 then bW tg s (intsFrom 0 j.toNat) ρ else .stuck
 |_=>.stuck
def iN{tgt iter:Qc}{p pos2:Pos}{body:List Q1}{tg:Ev->D->ai Ev}(hp:PassesOwn (Ql X.prog X.w) X.A X.env X.xe)(hc:X.calm=true)(hgl:Gl X "range")(hm:X.mg "range"=none)(hi:DE X E iter f)(hg:DG X E He η tgt tg)(ht:tq tg)(hb:Ba X E He η body s)
  (hst:PM [iter] X.env=[(false,eval iter X.env)]:=by exact dU rfl)(hs:∀x,foldedSetIterable (.Call (.Name "range" p) [iter] [] pos2) X.env x=pure x:=by intro _;rfl):DS X E He η (.For tgt (.Call (.Name "range" p) [iter] [] pos2) body [] pos) (kq f tg s):=by
 refine⟨?_⟩;refine bP (mz hp hc (jT hgl hm (cO hi.o eC hst) hst) hg.o hb.o hs) λD' σ H ⟨Ha,ρ,h,q⟩=>?_;refine⟨frz He Ha H,gw ρ,h.frz_le,h.looks,look h q λd v H1 J _ g rp q1=>?_⟩;cases d with
 |int j=>
  rw[az.mp rp];replace q1:b3 X.K E He η Ha (if -4611686018427387904<=j/\j<4611686018427387904 then bW tg s (intsFrom 0 j.toNat) ρ else .stuck) D':=q1
  by_cases hj:-4611686018427387904<=j/\j<4611686018427387904
  .rw[if_pos hj]at q1
   refine⟨j,rfl,by omega,by omega,?_⟩;have hlen:(intsFrom 0 j.toNat).length=j.toNat:=by unfold intsFrom;simp
   refine sD (lo:=0) (n:=j.toNat) (g:=tG X.K He η tg) (tb:=tS X.K E He η s) (D:=D') (fO X.K E He η Ha tg s (intsFrom 0 j.toNat) D') ⟨Ha,ρ,aB.refl _,h.same g.s,q1⟩ ?_ ?_
   .intro i σ' H' hlt hI
    refine hI.step (d:=.int (0+i)) ?_ (az.mpr rfl) λρ=>ht ρ _;unfold intsFrom;simp[hlt]
   .intro σ' H' hI
    exact fO.done (ds:=intsFrom 0 j.toNat) (by rw[hlen];exact hI)
  .rw[if_neg hj]at q1;exact q1.elim
 |_=>exact q1.elim
noncomputable def cn(c:al) (s:am):Nat->am
 |0,_=>.stuck
 |n+1,ρ=>(c (gw ρ)).bind λx=>match x with
  |.bl b=>if b=true then(s ρ).bind λx=>match x with
    |.nx ρ2=>cn c s n ρ2
    |.ct ρ2=>cn c s n ρ2
    |.bk ρ2=>.ok (.nx ρ2)
    |.rt d=>.ok (.rt d)
   else .ok (.nx ρ)
  |_=>.stuck
def gN(fuel:Ev->Nat)(c:al)(s:am):am:=λρ=>cn c s (fuel ρ) ρ
def pT(fuel:Ev->Nat){c:Qc}{body:List Q1}{fc:al}(hp:PassesOwn (Ql X.prog X.w) X.A X.env X.xe)(hc:DT X E c fc)(hb:Ba X E He η body s):DS X E He η (.While c body [] pos) (gN fuel fc s):=by
 refine⟨?_⟩;refine bP (Cf hp hc.o hb.o) λD' σ H ⟨Ha,ρ,h,q⟩=>?_;refine⟨λm σ H=>∃Ha ρ,cZ X.K He η Ha σ H ρ/\b3 X.K E He η Ha (cn fc s m ρ) D',⟨fuel ρ,Ha,ρ,h,q⟩,?_⟩;rintro m σ1 H1 ⟨H01,ρ1,h1,q1⟩;cases m with
 |zero=>exact q1.elim
 |succ m=>
  refine⟨frz He H01 H1,gw ρ1,h1.frz_le,h1.looks,?_⟩;unfold cn at q1;refine HG (k:=λb=>if b=true then(s ρ1).bind λx=>match x with
    |.nx ρ2=>cn fc s m ρ2
    |.ct ρ2=>cn fc s m ρ2
    |.bk ρ2=>.ok (.nx ρ2)
    |.rt d=>.ok (.rt d)
   else .ok (.nx ρ1)) h1 q1 λb H2 hs q2=>?_
  cases b with
  |false=>
   rw[if_neg Rk]at q2 ⊢;exact q2 σ1 H2 H01 (aB.refl _) (h1.same hs)
  |true=>
   rw[if_pos rfl]at q2 ⊢;refine⟨λσ' H'=>∃m',m' < m+1/\∃Ha ρ,cZ X.K He η Ha σ' H' ρ/\b3 X.K E He η Ha (cn fc s m' ρ) D',λσ' H' z=>z,H01,ρ1,h1.same hs,?_⟩;cases e2:s ρ1 with
   |stuck|exn x=>rw[e2]at q2;exact q2
   |ok r=>
    rw[e2]at q2;cases r with|nx ρ2=>exact λσ3 H3 H03 z3 h3=>⟨m,RM _,H03,ρ2,h3,b3.grow (r:=cn fc s m ρ2) q2 z3⟩|ct ρ2=>exact λσ3 H3 H03 z3 h3=>⟨m,RM _,H03,ρ2,h3,b3.grow (r:=cn fc s m ρ2) q2 z3⟩|bk ρ2|rt d=>exact q2
end
def cM(n:Nat)(s:am)(ds:ac):ai D:=(s (ds.map Sl.sh++Qd (n-ds.length) .no)).bind λr=>match r with
 |.nx _=>.ok .non
 |.rt d=>.ok d
 |_=>.stuck
def ji{K:Px}{Ha:Hp}{N:bi}{ds:ac}{vs:ad}(h:Reps K Ha ds vs):Reads K Ha (start N vs) (ds.map Sl.sh++Qd (N.length-ds.length) .no):=by
 intro i d e;have hl:=h.length
 by_cases hi:i<ds.length
 .rw[P0 (by simpa using hi),PN]at e
  cases q:ds[i]? with
  |none=>rw[q]at e;cases e
  |some d'=>
   rw[q]at e;cases e;obtain⟨v,h1,h2⟩:=h.get q;refine⟨v,?_,h2⟩;unfold L2.start;rw[P0 (by simp;omega),PN,h1];rfl
 .rw[P6 (by simpa using hi),Qb]at e
  split at e<;>cases e
def mv{ds:ac}{n:Nat}(i j:Nat)(es:ac):(ds.map Sl.sh++Qd n Sl.no)[i]?≠some (.ox j es):=λe=>by
 have:=PU e;rw[QJ]at this;rcases this with h|h
 .obtain⟨_,_,h⟩:=Qp.mp h;cases h
 .have:=Ul h;cases this
def kG{ds:ac}{n:Nat}{σ:L2.St}(i:Nat)(a:Py)(e:(ds.map Sl.sh++Qd n Sl.no)[i]?=some (.pt a)):σ[i]?=some (some (.ref a)):=by
 have:=PU e;rw[QJ]at this;rcases this with h|h
 .obtain⟨_,_,h⟩:=Qp.mp h;cases h
 .have:=Ul h;cases this
def AI{P:Qw}{w:QK}{K:Px}{mg:PY->Option Pw}{base:Qo}{x qual:PY}{st:Q1}{f:Py}{fd:QI}{N ps:bi}{k:Nat}{s:am}(F:Eh K x qual st f fd)(S:fS N ps (defScope st))
  (hbody:∀(cdv:Pw) (A:QV) (outer:List Ru) (s0:PF) (H Ha:Hp) (E:XK),da k (A.deeper (envOfC qual (defScope st) s0.heap.objs.size f cdv)) ->
   Ba (l3 CX0 P w K mg base N qual (defScope st) f cdv A outer s0 H E).nox E H Ha (defBody st) s):gp P w K mg base CX0 (k+1) f fd ps (spD K ps.length (cM N.length s)):=by
 have hpl:ps.length<=N.length:=by have:=congrArg S0 S.pre;rw[QO]at this;omega
 refine F.ok S (λvs H Q E h=>h.1) λcdv A outer s0 H vs Q E hr h=>?_;obtain⟨hn,Ha,ds,hs,hv,q⟩:=h;refine⟨_,(hbody cdv A outer s0 H Ha E hr).o,Ha,ds.map Sl.sh++Qd (N.length-ds.length) .no,?_,?_⟩
 .refine⟨aU.refl hs,ji hv,λi d e=>?_,λi j d d' hij e=>?_,?_,OX.none mv kG⟩
  .by_cases hi:i<ds.length
   .rw[P0 (by simpa using hi),PN]at e
    cases q:ds[i]? with|none|some d'=>rw[q]at e;cases e
   .rw[P6 (by simpa using hi),Qb]at e
    split at e<;>cases e
  .by_cases hi:i<ds.length
   .rw[P0 (by simpa using hi),PN]at e
    cases q:ds[i]? with|none|some d'=>rw[q]at e;cases e
   .rw[P6 (by simpa using hi),Qb]at e
    split at e<;>cases e
  .unfold L2.start
   have:=hv.length;simp only[Qs,Pz,Qy];omega
 .unfold cM at q
  cases e1:s (ds.map Sl.sh++Qd (N.length-ds.length) .no) with
  |stuck|exn x=>rw[e1]at q;exact q
  |ok r=>
   rw[e1]at q;cases r with|nx ρ'=>exact λσ' H' Ha' _ h'=>q .non H' Ha' h'.g (aM.mpr rfl)|rt d=>exact λv H' Ha' g rp=>q v H' Ha' g rp|bk ρ'|ct ρ'=>exact q.elim
mutual
def cV:D->D->Bool
 |.non,.non=>true
 |.bl a,.bl b=>a==b
 |.bl a,.int b=>(if a then 1 else 0)==b
 |.int a,.bl b=>a==(if b then 1 else 0)
 |.int a,.int b=>a==b
 |.str a,.str b=>a==b
 |.tup xs,.tup ys=>eqDs xs ys
 |.lst xs,.lst ys=>eqDs xs ys
 |_,_=>false
def eqDs:ac->ac->Bool
 |[],[]=>true
 |x::xs,y::ys=>cV x y&&eqDs xs ys
 |_,_=>false
end
def br:Nat->D->Bool
 |_,.non=>true
 |_,.bl _=>true
 |_,.int _=>true
 |_,.str _=>true
 |n+1,.tup ds=>ds.all (br n)
 |n+1,.lst ds=>ds.all (br n)
 |_,_=>false
def sH{ds:ac}(h:∀d∈ds,cV d d=true):eqDs ds ds=true:=by
 induction ds with
 |nil=>simp[eqDs]
 |cons d r ih=>
  unfold eqDs;rw[h d Qf,ih λx hx=>h x (PV _ hx)];rfl
theorem ie:∀(n:Nat) (d:D),br n d=true->cV d d=true
 |_,.non,_=>by simp[cV]
 |_,.bl b,_=>by simp[cV]
 |_,.int b,_=>by simp[cV]
 |_,.str b,_=>by simp[cV]
 |n+1,.tup ds,h=>by
  unfold br at h;unfold cV;exact sH λd hd=>ie n d (P7.mp h d hd)
 |n+1,.lst ds,h=>by
  unfold br at h;unfold cV;exact sH λd hd=>ie n d (P7.mp h d hd)
 |0,.tup ds,h=>by unfold br at h;cases h
 |0,.lst ds,h=>by unfold br at h;cases h
 |0,.dic ks ds,h=>by unfold br at h;cases h
 |n+1,.dic ks ds,h=>by unfold br at h;cases h
 |0,.exc x,h=>by unfold br at h;cases h
 |0,.ob k x,h=>by unfold br at h;cases h
 |n+1,.ob k x,h=>by unfold br at h;cases h
 |n+1,.exc x,h=>by unfold br at h;cases h
def Gz{xs ys:ac}:cV (.tup xs) (.tup ys)=eqDs xs ys:=by rw[cV]
def zH{xs ys:ac}:cV (.lst xs) (.lst ys)=eqDs xs ys:=by rw[cV]
theorem kO:∀(xs ys:ac),xs.length=ys.length->eqDs xs ys=(Q5 xs.length).all λj=>cV (xs.getD j .non) (ys.getD j .non)
 |[],[],_=>by simp[eqDs]
 |x::xs,y::ys,h=>by
  have ih:=kO xs ys (by simpa using h);unfold eqDs;rw[ih,Qj,RW,Si,UG];rfl
 |[],_::_,h=>by simp at h
 |_::_,[],h=>by simp at h
theorem pR:∀(xs ys:ac),xs.length≠ys.length->eqDs xs ys=false
 |[],[],h=>absurd rfl h
 |x::xs,y::ys,h=>by
  unfold eqDs;rw[pR xs ys (by simpa using h),Ug]
 |[],_::_,h=>by simp[eqDs]
 |_::_,[],h=>by simp[eqDs]
section
variable {X:Cx}{π:List (Py×Obj)}{σ:L2.St}{H:Hp}{s:PF}
def bb(I:Inv X π σ H s){ds:ac}{v:V}{u:Pw}(r:Rep X.K H (.tup ds) v)(rv:bo v u):∃a vs its,v=.ref a/\u=.ref a/\jd X.K H a vs/\Reps X.K H ds vs/\bG vs its/\IsTup s.heap a its.toArray/\ds.length=its.length:=by
 obtain⟨a,vs,rfl,h1,h2⟩:=aJ.mp r;obtain rfl:u=QM a:=rv;obtain⟨its,h3,h4,_⟩:=I.tuple h1;exact⟨a,vs,its,rfl,rfl,h1,h2,h3,h4,h2.length.trans h3.length⟩
def aZ(I:Inv X π σ H s){ds:ac}{v:V}{u:Pw}(r:Rep X.K H (.lst ds) v)(rv:bo v u):∃a vs its,v=.ref a/\u=.ref a/\dR X.K H a vs/\Reps X.K H ds vs/\bG vs its/\s.heap.IsList a its.toArray/\ds.length=its.length:=by
 obtain⟨a,vs,rfl,h1,h2⟩:=aF.mp r;obtain rfl:u=QM a:=rv;obtain⟨its,h3,h4,_⟩:=I.list h1;exact⟨a,vs,its,rfl,rfl,h1,h2,h3,h4.isList,h2.length.trans h3.length⟩
theorem oW{n:Nat}(ih:∀(d d':D) (v:V),br n d=true->br n d'=true->Rep X.K H d v->Rep X.K H d' v->d=d'):∀(ds ds':ac) (vs:ad),ds.all (br n)=true->ds'.all (br n)=true->Reps X.K H ds vs->Reps X.K H ds' vs->ds=ds'
 |[],ds',vs,_,_,h,h'=>by
  rw[Reps.nil_iff.mp h]at h';cases ds' with|nil=>rfl|cons d r=>obtain⟨_,_,e,_⟩:=aE.mp h';cases e
 |d::ds,ds',vs,a,a',h,h'=>by
  obtain⟨v,r,rfl,h1,h2⟩:=aE.mp h;cases ds' with
  |nil=>cases Reps.nil_iff.mp h'
  |cons d' ds'=>
   obtain⟨v',r',e,h1',h2'⟩:=aE.mp h';cases e;rw[Si,Qg]at a a';rw[ih d d' v a.1 a'.1 h1 h1',oW ih ds ds' r a.2 a'.2 h2 h2']
def Rep.inj(I:Inv X π σ H s):∀(n:Nat) (d d':D) (v:V),br n d=true->br n d'=true->Rep X.K H d v->Rep X.K H d' v->d=d':=by
 have atom:∀(n:Nat) (d d':D) (v:V),(∀ds,d≠.tup ds)->(∀ds,d≠.lst ds)->br n d=true->br n d'=true->Rep X.K H d v->Rep X.K H d' v->d=d':=by
  intro n d d' v n1 n2 s1 s2 h h';have nd:∀m ks ds,br m (.dic ks ds)=true->False:=λm ks ds h=>by cases m<;>(unfold br at h;cases h)
  have nx:∀m x,br m (.exc x)=true->False:=λm x h=>by cases m<;>(unfold br at h;cases h)
  have nb:∀m k x,br m (.ob k x)=true->False:=λm k x h=>by cases m<;>(unfold br at h;cases h)
  cases d with
  |tup ds=>exact absurd rfl (n1 ds)|lst ds=>exact absurd rfl (n2 ds)|dic ks ds=>exact(nd _ _ _ s1).elim|exc x=>exact(nx _ _ s1).elim|ob k x=>exact(nb _ _ _ s1).elim
  |non=>
   rw[aM.mp h]at h';cases d' with|non=>rfl|bl b=>cases aI.mp h'|int b=>cases az.mp h'|str b=>cases Rep.str_iff.mp h'|tup ds=>obtain⟨_,_,e,_⟩:=aJ.mp h';cases e|lst ds=>obtain⟨_,_,e,_⟩:=aF.mp h';cases e|dic ks ds=>exact(nd _ _ _ s2).elim|exc x=>exact(nx _ _ s2).elim|ob k x=>exact(nb _ _ _ s2).elim
  |bl x=>
   rw[aI.mp h]at h';cases d' with|non=>cases aM.mp h'|bl b=>cases aI.mp h';rfl|int b=>cases az.mp h'|str b=>cases Rep.str_iff.mp h'|tup ds=>obtain⟨_,_,e,_⟩:=aJ.mp h';cases e|lst ds=>obtain⟨_,_,e,_⟩:=aF.mp h';cases e|dic ks ds=>exact(nd _ _ _ s2).elim|exc x=>exact(nx _ _ s2).elim|ob k x=>exact(nb _ _ _ s2).elim
  |int x=>
   rw[az.mp h]at h';cases d' with|non=>cases aM.mp h'|bl b=>cases aI.mp h'|int b=>cases az.mp h';rfl|str b=>cases Rep.str_iff.mp h'|tup ds=>obtain⟨_,_,e,_⟩:=aJ.mp h';cases e|lst ds=>obtain⟨_,_,e,_⟩:=aF.mp h';cases e|dic ks ds=>exact(nd _ _ _ s2).elim|exc x=>exact(nx _ _ s2).elim|ob k x=>exact(nb _ _ _ s2).elim
  |str x=>
   rw[Rep.str_iff.mp h]at h';cases d' with|non=>cases aM.mp h'|bl b=>cases aI.mp h'|int b=>cases az.mp h'|str b=>cases Rep.str_iff.mp h';rfl|tup ds=>obtain⟨_,_,e,_⟩:=aJ.mp h';cases e|lst ds=>obtain⟨_,_,e,_⟩:=aF.mp h';cases e|dic ks ds=>exact(nd _ _ _ s2).elim|exc x=>exact(nx _ _ s2).elim|ob k x=>exact(nb _ _ _ s2).elim
 intro n
 induction n with
 |zero=>
  intro d d' v s1 s2 h h';exact atom 0 d d' v (λds e=>by subst e;unfold br at s1;cases s1) (λds e=>by subst e;unfold br at s1;cases s1) s1 s2 h h'
 |succ n ih=>
  intro d d' v s1 s2 h h'
  by_cases t1:∃ds,d=.tup ds
  .obtain⟨ds,rfl⟩:=t1
   by_cases t2:∃ds',d'=.tup ds'
   .obtain⟨ds',rfl⟩:=t2
    obtain⟨a,vs,rfl,h1,h2⟩:=aJ.mp h;obtain⟨a',vs',e,h1',h2'⟩:=aJ.mp h';cases e;rw[I.tuple_inj h1' h1]at h2';unfold br at s1 s2;rw[oW ih ds ds' vs s1 s2 h2 h2']
   .by_cases t3:∃ds',d'=.lst ds'
    .obtain⟨ds',rfl⟩:=t3
     obtain⟨a0,_,ev,_,_⟩:=aJ.mp h;subst ev;obtain⟨a,vs,its,ea,_,h1,h2,h3,h4,_⟩:=bb I h rfl;cases ea;obtain⟨a',vs',its',e,_,h1',h2',h3',h4',_⟩:=aZ I h' rfl;cases e;exact absurd rfl (Ux h4' h4)
    .exact(atom (n+1) d' _ v (λds e=>t2 ⟨ds,e⟩) (λds e=>t3 ⟨ds,e⟩) s2 s1 h' h).symm
  .by_cases t1':∃ds,d=.lst ds
   .obtain⟨ds,rfl⟩:=t1'
    by_cases t2:∃ds',d'=.lst ds'
    .obtain⟨ds',rfl⟩:=t2
     obtain⟨a,vs,rfl,h1,h2⟩:=aF.mp h;obtain⟨a',vs',e,h1',h2'⟩:=aF.mp h';cases e;rw[I.list_inj h1' h1]at h2';unfold br at s1 s2;rw[oW ih ds ds' vs s1 s2 h2 h2']
    .by_cases t3:∃ds',d'=.tup ds'
     .obtain⟨ds',rfl⟩:=t3
      obtain⟨a0,_,ev,_,_⟩:=aF.mp h;subst ev;obtain⟨a,vs,its,ea,_,h1,h2,h3,h4,_⟩:=aZ I h rfl;cases ea;obtain⟨a',vs',its',e,_,h1',h2',h3',h4',_⟩:=bb I h' rfl;cases e;exact absurd rfl (Ux h4 h4')
     .exact(atom (n+1) d' _ v (λds e=>t3 ⟨ds,e⟩) (λds e=>t2 ⟨ds,e⟩) s2 s1 h' h).symm
   .exact atom (n+1) d d' v (λds e=>t1 ⟨ds,e⟩) (λds e=>t1' ⟨ds,e⟩) s1 s2 h h'
def vS{n:Nat}{A:QV}{xs ys:ac}{vs us:ad}{is js:List Pw}
  (ih:∀(x y:D) (v u:V) (a b:Pw),br n x=true->br n y=true->Rep X.K H x v->Rep X.K H y u->bo v a->bo u b->Qe A.in1 s a b (cV x y))
  (sx:xs.all (br n)=true)(sy:ys.all (br n)=true)(rx:Reps X.K H xs vs)(ry:Reps X.K H ys us)(qx:bG vs is)(qy:bG us js) :
  ∀j (h1:j<is.toArray.size) (h2:j<js.toArray.size),Qe A.in1 s is.toArray[j] js.toArray[j] (cV (xs.getD j .non) (ys.getD j .non)):=by
 intro j h1 h2;have lx:=rx.length;have ly:=ry.length;have kx:=qx.length;have ky:=qy.length;have h1':j<is.length:=by simpa using h1
 have h2':j<js.length:=by simpa using h2
 have hx:j<xs.length:=by omega
 have hy:j<ys.length:=by omega
 obtain⟨v,e1,r1⟩:=rx.get (PL hx);obtain⟨u,e2,r2⟩:=ry.get (PL hy);obtain⟨a,e3,r3⟩:=qx.get e1;obtain⟨b,e4,r4⟩:=qy.get e2;have ea:is.toArray[j]=a:=by
  rw[PL h1']at e3;simpa using QN e3
 have eb:js.toArray[j]=b:=by
  rw[PL h2']at e4;simpa using QN e4
 rw[ea,eb];have gx:xs.getD j .non=xs[j]:=by simp[List.getD,PL hx]
 have gy:ys.getD j .non=ys[j]:=by simp[List.getD,PL hy]
 rw[gx,gy];exact ih _ _ v u a b (P7.mp sx _ (Sb hx)) (P7.mp sy _ (Sb hy)) r1 r2 r3 r4
def vc(I:Inv X π σ H s){A:QV}(hu:A.units<RI){x y:D}{v u:V}{a b:Pw}(rx:Rep X.K H x v)(ry:Rep X.K H y u)(qx:bo v a)(qy:bo u b)
  (n1:∀ds ds',¬(x=.lst ds/\y=.lst ds'))(n2:∀ds ds',¬(x=.tup ds/\y=.tup ds'))(d1:∀ks ds,x≠.dic ks ds)(d2:∀ks ds,y≠.dic ks ds)(x1:∀c,x≠.exc c)(x2:∀c,y≠.exc c)(o1:∀k c,x≠.ob k c)(o2:∀k c,y≠.ob k c) :
  Qm A s a b (cV x y)/\Qe A s a b (cV x y)/\Qa A s a b (!(cV x y)):=by
 cases x with
 |non=>
  cases y with
  |non=>
   obtain rfl:=aM.mp rx;obtain rfl:a=Ri:=qx;obtain rfl:=aM.mp ry;obtain rfl:b=Ri:=qy;unfold cV;exact⟨Qm.none_none ,TZ _,Qa.none_none ⟩
  |bl y=>
   obtain rfl:=aM.mp rx;obtain rfl:a=Ri:=qx;obtain rfl:=aI.mp ry;obtain rfl:b=Ra _:=qy;unfold cV;exact⟨Qm.none_bool _,Qe.none_bool _,Qa.none_bool _⟩
  |int y=>
   obtain rfl:=aM.mp rx;obtain rfl:a=Ri:=qx;obtain rfl:=az.mp ry;obtain⟨ty,rfl⟩:∃t,b=Rn _ t:=qy;unfold cV;exact⟨Qm.none_int _ _,Qe.none_int _ _,Qa.none_int _ _⟩
  |str y=>
   obtain rfl:=aM.mp rx;obtain rfl:a=Ri:=qx;obtain rfl:=Rep.str_iff.mp ry;obtain⟨ty,rfl⟩:∃t,b=Rm _ t:=qy;unfold cV;exact⟨Qm.none_str _ _,Qe.none_str _ _,Qa.none_str _ _⟩
  |lst y=>
   obtain rfl:=aM.mp rx;obtain rfl:a=Ri:=qx;obtain⟨ly,_,_,rfl,rfl,_,_,_,hy,_⟩:=aZ I ry qy;unfold cV;exact⟨Qm.none_list  hy hu,Qe.none_list  hy hu,Qa.none_list  hy hu⟩
  |tup y=>
   obtain rfl:=aM.mp rx;obtain rfl:a=Ri:=qx;obtain⟨ly,_,_,rfl,rfl,_,_,_,hy,_⟩:=bb I ry qy;unfold cV;exact⟨Qm.none_tuple  hy hu,Qe.none_tuple  hy hu,Qa.none_tuple  hy hu⟩
  |dic ks ds=>exact absurd rfl (d2 ks ds)|exc c=>exact absurd rfl (x2 c)|ob k c=>exact absurd rfl (o2 k c)
 |bl x=>
  cases y with
  |non=>
   obtain rfl:=aI.mp rx;obtain rfl:a=Ra _:=qx;obtain rfl:=aM.mp ry;obtain rfl:b=Ri:=qy;unfold cV;exact⟨Qm.bool_none _,Qe.bool_none _,Qa.bool_none _⟩
  |bl y=>
   obtain rfl:=aI.mp rx;obtain rfl:a=Ra _:=qx;obtain rfl:=aI.mp ry;obtain rfl:b=Ra _:=qy;unfold cV;exact⟨Qm.bool_bool _ _,Qe.bool_bool _ _,Qa.bool_bool _ _⟩
  |int y=>
   obtain rfl:=aI.mp rx;obtain rfl:a=Ra _:=qx;obtain rfl:=az.mp ry;obtain⟨ty,rfl⟩:∃t,b=Rn _ t:=qy;unfold cV;exact⟨Qm.bool_int _ _ _,Qe.bool_int _ _ _,Qa.bool_int _ _ _⟩
  |str y=>
   obtain rfl:=aI.mp rx;obtain rfl:a=Ra _:=qx;obtain rfl:=Rep.str_iff.mp ry;obtain⟨ty,rfl⟩:∃t,b=Rm _ t:=qy;unfold cV;exact⟨Qm.bool_str _ _ _,Qe.bool_str _ _ _,Qa.bool_str _ _ _⟩
  |lst y=>
   obtain rfl:=aI.mp rx;obtain rfl:a=Ra _:=qx;obtain⟨ly,_,_,rfl,rfl,_,_,_,hy,_⟩:=aZ I ry qy;unfold cV;exact⟨Qm.bool_list _ hy hu,Qe.bool_list _ hy hu,Qa.bool_list _ hy hu⟩
  |tup y=>
   obtain rfl:=aI.mp rx;obtain rfl:a=Ra _:=qx;obtain⟨ly,_,_,rfl,rfl,_,_,_,hy,_⟩:=bb I ry qy;unfold cV;exact⟨Qm.bool_tuple _ hy hu,Qe.bool_tuple _ hy hu,Qa.bool_tuple _ hy hu⟩
  |dic ks ds=>exact absurd rfl (d2 ks ds)|exc c=>exact absurd rfl (x2 c)|ob k c=>exact absurd rfl (o2 k c)
 |int x=>
  cases y with
  |non=>
   obtain rfl:=az.mp rx;obtain⟨tx,rfl⟩:∃t,a=Rn _ t:=qx;obtain rfl:=aM.mp ry;obtain rfl:b=Ri:=qy;unfold cV;exact⟨Qm.int_none _ _,Qe.int_none _ _,Qa.int_none _ _⟩
  |bl y=>
   obtain rfl:=az.mp rx;obtain⟨tx,rfl⟩:∃t,a=Rn _ t:=qx;obtain rfl:=aI.mp ry;obtain rfl:b=Ra _:=qy;unfold cV;exact⟨Qm.int_bool _ _ _,Qe.int_bool _ _ _,Qa.int_bool _ _ _⟩
  |int y=>
   obtain rfl:=az.mp rx;obtain⟨tx,rfl⟩:∃t,a=Rn _ t:=qx;obtain rfl:=az.mp ry;obtain⟨ty,rfl⟩:∃t,b=Rn _ t:=qy;unfold cV;exact⟨Qm.int_int _ _ _ _,Qe.int_int _ _ _ _,Qa.int_int _ _ _ _⟩
  |str y=>
   obtain rfl:=az.mp rx;obtain⟨tx,rfl⟩:∃t,a=Rn _ t:=qx;obtain rfl:=Rep.str_iff.mp ry;obtain⟨ty,rfl⟩:∃t,b=Rm _ t:=qy;unfold cV;exact⟨Qm.int_str _ _ _ _,Qe.int_str _ _ _ _,Qa.int_str _ _ _ _⟩
  |lst y=>
   obtain rfl:=az.mp rx;obtain⟨tx,rfl⟩:∃t,a=Rn _ t:=qx;obtain⟨ly,_,_,rfl,rfl,_,_,_,hy,_⟩:=aZ I ry qy;unfold cV;exact⟨Qm.int_list _ _ hy hu,Qe.int_list _ _ hy hu,Qa.int_list _ _ hy hu⟩
  |tup y=>
   obtain rfl:=az.mp rx;obtain⟨tx,rfl⟩:∃t,a=Rn _ t:=qx;obtain⟨ly,_,_,rfl,rfl,_,_,_,hy,_⟩:=bb I ry qy;unfold cV;exact⟨Qm.int_tuple _ _ hy hu,Qe.int_tuple _ _ hy hu,Qa.int_tuple _ _ hy hu⟩
  |dic ks ds=>exact absurd rfl (d2 ks ds)|exc c=>exact absurd rfl (x2 c)|ob k c=>exact absurd rfl (o2 k c)
 |str x=>
  cases y with
  |non=>
   obtain rfl:=Rep.str_iff.mp rx;obtain⟨tx,rfl⟩:∃t,a=Rm _ t:=qx;obtain rfl:=aM.mp ry;obtain rfl:b=Ri:=qy;unfold cV;exact⟨Qm.str_none _ _,Qe.str_none _ _,Qa.str_none _ _⟩
  |bl y=>
   obtain rfl:=Rep.str_iff.mp rx;obtain⟨tx,rfl⟩:∃t,a=Rm _ t:=qx;obtain rfl:=aI.mp ry;obtain rfl:b=Ra _:=qy;unfold cV;exact⟨Qm.str_bool _ _ _,Qe.str_bool _ _ _,Qa.str_bool _ _ _⟩
  |int y=>
   obtain rfl:=Rep.str_iff.mp rx;obtain⟨tx,rfl⟩:∃t,a=Rm _ t:=qx;obtain rfl:=az.mp ry;obtain⟨ty,rfl⟩:∃t,b=Rn _ t:=qy;unfold cV;exact⟨Qm.str_int _ _ _ _,Qe.str_int _ _ _ _,Qa.str_int _ _ _ _⟩
  |str y=>
   obtain rfl:=Rep.str_iff.mp rx;obtain⟨tx,rfl⟩:∃t,a=Rm _ t:=qx;obtain rfl:=Rep.str_iff.mp ry;obtain⟨ty,rfl⟩:∃t,b=Rm _ t:=qy;unfold cV;exact⟨Qm.str_str _ _ _ _,Qe.str_str _ _ _ _,Qa.str_str _ _ _ _⟩
  |lst y=>
   obtain rfl:=Rep.str_iff.mp rx;obtain⟨tx,rfl⟩:∃t,a=Rm _ t:=qx;obtain⟨ly,_,_,rfl,rfl,_,_,_,hy,_⟩:=aZ I ry qy;unfold cV;exact⟨Qm.str_list _ _ hy hu,Qe.str_list _ _ hy hu,Qa.str_list _ _ hy hu⟩
  |tup y=>
   obtain rfl:=Rep.str_iff.mp rx;obtain⟨tx,rfl⟩:∃t,a=Rm _ t:=qx;obtain⟨ly,_,_,rfl,rfl,_,_,_,hy,_⟩:=bb I ry qy;unfold cV;exact⟨Qm.str_tuple _ _ hy hu,Qe.str_tuple _ _ hy hu,Qa.str_tuple _ _ hy hu⟩
  |dic ks ds=>exact absurd rfl (d2 ks ds)|exc c=>exact absurd rfl (x2 c)|ob k c=>exact absurd rfl (o2 k c)
 |lst x=>
  cases y with
  |non=>
   obtain⟨lx,_,_,rfl,rfl,_,_,_,hx,_⟩:=aZ I rx qx;obtain rfl:=aM.mp ry;obtain rfl:b=Ri:=qy;unfold cV;exact⟨Qm.list_none  hx hu,Qe.list_none  hx hu,Qa.list_none  hx hu⟩
  |bl y=>
   obtain⟨lx,_,_,rfl,rfl,_,_,_,hx,_⟩:=aZ I rx qx;obtain rfl:=aI.mp ry;obtain rfl:b=Ra _:=qy;unfold cV;exact⟨Qm.list_bool _ hx hu,Qe.list_bool _ hx hu,Qa.list_bool _ hx hu⟩
  |int y=>
   obtain⟨lx,_,_,rfl,rfl,_,_,_,hx,_⟩:=aZ I rx qx;obtain rfl:=az.mp ry;obtain⟨ty,rfl⟩:∃t,b=Rn _ t:=qy;unfold cV;exact⟨Qm.list_int _ _ hx hu,Qe.list_int _ _ hx hu,Qa.list_int _ _ hx hu⟩
  |str y=>
   obtain⟨lx,_,_,rfl,rfl,_,_,_,hx,_⟩:=aZ I rx qx;obtain rfl:=Rep.str_iff.mp ry;obtain⟨ty,rfl⟩:∃t,b=Rm _ t:=qy;unfold cV;exact⟨Qm.list_str _ _ hx hu,Qe.list_str _ _ hx hu,Qa.list_str _ _ hx hu⟩
  |lst y=>
   exact absurd ⟨rfl,rfl⟩ (n1 x y)
  |tup y=>
   obtain⟨lx,_,_,rfl,rfl,_,_,_,hx,_⟩:=aZ I rx qx;obtain⟨ly,_,_,rfl,rfl,_,_,_,hy,_⟩:=bb I ry qy;unfold cV;exact⟨Qm.list_tuple  hx hy hu,Qe.list_tuple  hx hy hu,Qa.list_tuple  hx hy hu⟩
  |dic ks ds=>exact absurd rfl (d2 ks ds)|exc c=>exact absurd rfl (x2 c)|ob k c=>exact absurd rfl (o2 k c)
 |tup x=>
  cases y with
  |non=>
   obtain⟨lx,_,_,rfl,rfl,_,_,_,hx,_⟩:=bb I rx qx;obtain rfl:=aM.mp ry;obtain rfl:b=Ri:=qy;unfold cV;exact⟨Qm.tuple_none  hx hu,Qe.tuple_none  hx hu,Qa.tuple_none  hx hu⟩
  |bl y=>
   obtain⟨lx,_,_,rfl,rfl,_,_,_,hx,_⟩:=bb I rx qx;obtain rfl:=aI.mp ry;obtain rfl:b=Ra _:=qy;unfold cV;exact⟨Qm.tuple_bool _ hx hu,Qe.tuple_bool _ hx hu,Qa.tuple_bool _ hx hu⟩
  |int y=>
   obtain⟨lx,_,_,rfl,rfl,_,_,_,hx,_⟩:=bb I rx qx;obtain rfl:=az.mp ry;obtain⟨ty,rfl⟩:∃t,b=Rn _ t:=qy;unfold cV;exact⟨Qm.tuple_int _ _ hx hu,Qe.tuple_int _ _ hx hu,Qa.tuple_int _ _ hx hu⟩
  |str y=>
   obtain⟨lx,_,_,rfl,rfl,_,_,_,hx,_⟩:=bb I rx qx;obtain rfl:=Rep.str_iff.mp ry;obtain⟨ty,rfl⟩:∃t,b=Rm _ t:=qy;unfold cV;exact⟨Qm.tuple_str _ _ hx hu,Qe.tuple_str _ _ hx hu,Qa.tuple_str _ _ hx hu⟩
  |lst y=>
   obtain⟨lx,_,_,rfl,rfl,_,_,_,hx,_⟩:=bb I rx qx;obtain⟨ly,_,_,rfl,rfl,_,_,_,hy,_⟩:=aZ I ry qy;unfold cV;exact⟨Qm.tuple_list  hx hy hu,Qe.tuple_list  hx hy hu,Qa.tuple_list  hx hy hu⟩
  |tup y=>
   exact absurd ⟨rfl,rfl⟩ (n2 x y)
  |dic ks ds=>exact absurd rfl (d2 ks ds)|exc c=>exact absurd rfl (x2 c)|ob k c=>exact absurd rfl (o2 k c)
 |dic ks ds=>exact absurd rfl (d1 ks ds)
 |exc c=>exact absurd rfl (x1 c)
 |ob k c=>exact absurd rfl (o1 k c)
def IM(I:Inv X π σ H s):∀(n:Nat) (A:QV),A.units+n<RI->∀(x y:D) (v u:V) (a b:Pw),br n x=true->br n y=true->Rep X.K H x v->Rep X.K H y u->bo v a->bo u b ->
  Qm A s a b (cV x y)/\Qe A s a b (cV x y)/\Qa A s a b (!(cV x y)):=by
 have nd:∀m ks ds,br m (.dic ks ds)=true->False:=λm ks ds h=>by cases m<;>(unfold br at h;cases h)
 have nx:∀m x,br m (.exc x)=true->False:=λm x h=>by cases m<;>(unfold br at h;cases h)
 have nb:∀m k x,br m (.ob k x)=true->False:=λm k x h=>by cases m<;>(unfold br at h;cases h)
 intro n
 induction n with
 |zero=>
  intro A hu x y v u a b sx sy rx ry qa qb;refine vc I (by omega) rx ry qa qb (λds ds' z=>?_) (λds ds' z=>?_) (λks ds z=>?_) (λks ds z=>?_) (λc z=>nx _ _ (z▸sx)) (λc z=>nx _ _ (z▸sy)) (λk c z=>nb _ _ _ (z▸sx)) (λk c z=>nb _ _ _ (z▸sy))
  .rw[z.1]at sx;unfold br at sx;cases sx
  .rw[z.1]at sx;unfold br at sx;cases sx
  .rw[z]at sx;exact nd _ _ _ sx
  .rw[z]at sy;exact nd _ _ _ sy
 |succ n ih=>
  intro A hu x y v u a b sx sy rx ry qa qb;have ih':∀(x y:D) (v u:V) (a b:Pw),br n x=true->br n y=true->Rep X.K H x v->Rep X.K H y u->bo v a->bo u b->Qe A.in1 s a b (cV x y) :=
   λx y v u a b s1 s2 r1 r2 q1 q2=>(ih A.in1 (by show A.units+1+n<RI;omega) x y v u a b s1 s2 r1 r2 q1 q2).2.1
  by_cases t1:∃ds ds',x=.tup ds/\y=.tup ds'
  .obtain⟨xs,ys,rfl,rfl⟩:=t1
   obtain⟨l,vs,is,rfl,rfl,h1,h2,h3,h4,h5⟩:=bb I rx qa;obtain⟨m,us,js,rfl,rfl,k1,k2,k3,k4,k5⟩:=bb I ry qb;have hsx:=sx;have hsy:=sy;unfold br at sx sy;have each:=vS (A:=A) ih' sx sy h2 k2 h3 k3;have eall:cV (.tup xs) (.tup ys)=((Q5 (min is.toArray.size js.toArray.size)).all (λj=>cV (xs.getD j .non) (ys.getD j .non))&&is.toArray.size==js.toArray.size):=by
    rw[Gz];simp only[Qi,←h5,←k5]
    by_cases hl:xs.length=ys.length
    .rw[kO xs ys hl,←hl,Nat.min_self,beq_self_eq_true,Bool.and_true]
    .rw[pR xs ys hl,beq_eq_false_iff_ne.mpr hl,Ug]
   refine⟨?_,?_,?_⟩
   .rw[eall];exact Qm.tuples h4 k4 (by omega) each
   .by_cases hlm:l=m
    .subst hlm
     rw[Rep.inj I (n+1) _ _ _ hsx hsy rx ry,ie (n+1) _ hsy];exact TZ _
    .refine TB hlm ?_
     rw[eall];exact Qm.tuples h4 k4 (by omega) each
   .rw[eall];exact Qa.tuples h4 k4 (by omega) each
  .by_cases t2:∃ds ds',x=.lst ds/\y=.lst ds'
   .obtain⟨xs,ys,rfl,rfl⟩:=t2
    obtain⟨l,vs,is,rfl,rfl,h1,h2,h3,h4,h5⟩:=aZ I rx qa;obtain⟨m,us,js,rfl,rfl,k1,k2,k3,k4,k5⟩:=aZ I ry qb;have hsx:=sx;have hsy:=sy;unfold br at sx sy;have each:=vS (A:=A) ih' sx sy h2 k2 h3 k3
    by_cases hl:xs.length=ys.length
    .have hsz:is.toArray.size=js.toArray.size:=by simp only[Qi];omega
     have eall:cV (.lst xs) (.lst ys)=(Q5 is.toArray.size).all (λj=>cV (xs.getD j .non) (ys.getD j .non)):=by
      rw[zH];simp only[Qi,←h5];exact kO xs ys hl
     refine⟨?_,?_,?_⟩
     .rw[eall];exact Qm.lists h4 k4 hsz (by omega) each
     .by_cases hlm:l=m
      .subst hlm
       rw[Rep.inj I (n+1) _ _ _ hsx hsy rx ry,ie (n+1) _ hsy];exact TZ _
      .refine TB hlm ?_
       rw[eall];exact Qm.lists h4 k4 hsz (by omega) each
     .rw[eall];exact Qa.lists h4 k4 hsz (by omega) each
    .have hsz:(is.toArray.size != js.toArray.size)=true:=by simp only[Qi,bne_iff_ne,ne_eq];omega
     have eall:cV (.lst xs) (.lst ys)=false:=by rw[zH];exact pR xs ys hl
     rw[eall];refine⟨Uh h4 k4 hsz (by omega),?_,Qa.lists_lengths h4 k4 hsz (by omega)⟩;refine TB (λe=>?_) (Uh h4 k4 hsz (by omega));subst e;have:=Rep.inj I (n+1) _ _ _ hsx hsy rx ry;cases this;exact hl rfl
   .exact vc I (by omega) rx ry qa qb (λds ds' z=>t2 ⟨ds,ds',z⟩) (λds ds' z=>t1 ⟨ds,ds',z⟩) (λks ds z=>by rw[z]at sx;exact nd _ _ _ sx) (λks ds z=>by rw[z]at sy;exact nd _ _ _ sy) (λc z=>nx _ _ (z▸sx)) (λc z=>nx _ _ (z▸sy)) (λk c z=>nb _ _ _ (z▸sx)) (λk c z=>nb _ _ _ (z▸sy))
end
section
variable {X:Cx}{E:XK}
def mS(x y:D):ai D:=if br 40 x=true/\br 40 y=true then .ok (.bl (cV x y)) else .stuck
def fY(x y:D):ai D:=if br 40 x=true/\br 40 y=true then .ok (.bl (!(cV x y))) else .stuck
def LM(K:Px):R2:=λv u H Q=>∃x y,Rep K H x v/\Rep K H y u/\br 40 x=true/\br 40 y=true/\Q (.bl (cV x y)) H
def LI(K:Px):R2:=λv u H Q=>∃x y,Rep K H x v/\Rep K H y u/\br 40 x=true/\br 40 y=true/\Q (.bl (!(cV x y))) H
def eE(hu:X.A.units+64<RI):eT X (Qz .Eq) (LM X.K):=by
 intro π s σ H x y v u Q I rx ry h;obtain⟨d,d',h1,h2,s1,s2,q⟩:=h;exact(IM I 40 X.A (by omega) d d' x y v u s1 s2 h1 h2 rx ry).1 _ _ _ _ ⟨.bl _,H,I,rfl,q⟩
def d6(hu:X.A.units+64<RI):eT X (Qz .NotEq) (LI X.K):=by
 intro π s σ H x y v u Q I rx ry h;obtain⟨d,d',h1,h2,s1,s2,q⟩:=h;exact(IM I 40 X.A (by omega) d d' x y v u s1 s2 h1 h2 rx ry).2.2 _ _ _ _ ⟨.bl _,H,I,rfl,q⟩
def gC:qM X.K E (LM X.K) mS:=by
 intro x y v u H Ha Q hs r1 r2 q;unfold mS at q
 by_cases c:br 40 x=true/\br 40 y=true
 .rw[if_pos c]at q
  exact⟨x,y,r1.mono hs,r2.mono hs,c.1,c.2,q _ H Ha (aU.refl hs) (aI.mpr rfl)⟩
 .rw[if_neg c]at q;exact q.elim
def f9:qM X.K E (LI X.K) fY:=by
 intro x y v u H Ha Q hs r1 r2 q;unfold fY at q
 by_cases c:br 40 x=true/\br 40 y=true
 .rw[if_pos c]at q
  exact⟨x,y,r1.mono hs,r2.mono hs,c.1,c.2,q _ H Ha (aU.refl hs) (aI.mpr rfl)⟩
 .rw[if_neg c]at q;exact q.elim
open Classical in
noncomputable def kj(K:Px) (H:Hp) (ds:ac) (x:D) (u:Pw):Bool :=
 if h:∃d,d∈ds/\∃v,Rep K H d v/\bo v u then cV h.choose x else false
def zG{π:List (Py×Obj)}{σ:L2.St}{H:Hp}{s:PF}(I:Inv X π σ H s){ds:ac}{x d:D}{v:V}{u:Pw}(sd:ds.all (br 40)=true)(hd:d∈ds)(r:Rep X.K H d v)(q:bo v u):kj X.K H ds x u=cV d x:=by
 have h:∃d,d∈ds/\∃v,Rep X.K H d v/\bo v u:=⟨d,hd,v,r,q⟩
 unfold kj;rw[dif_pos h];obtain⟨h1,v',h2,h3⟩:=h.choose_spec;have e:v'=v:=h3.inj q;subst e;rw[Rep.inj I 40 _ _ _ (P7.mp sd _ h1) (P7.mp sd _ hd) h2 r]
def xm(K:Px)(neg:Bool):R2:=λv u H Q=>∃x ds,Rep K H x v/\(Rep K H (.lst ds) u∨Rep K H (.tup ds) u)/\br 40 x=true/\ds.all (br 40)=true/\Q (.bl (if neg then !(ds.any λd=>cV d x) else ds.any λd=>cV d x)) H
theorem jI{π:List (Py×Obj)}{σ:L2.St}{H:Hp}{s:PF}(I:Inv X π σ H s){x:D}{es:ac}(se:es.all (br 40)=true):∀{ds:ac}{vs:ad}{us:List Pw},(∀d∈ds,d∈es)->Reps X.K H ds vs->bG vs us->us.any (kj X.K H es x)=ds.any λd=>cV d x
 |[],_,_,_,h,q=>by
  rw[Reps.nil_iff.mp h]at q;cases q;rfl
 |d::ds,_,_,hm,h,q=>by
  obtain⟨v,r,rfl,h1,h2⟩:=aE.mp h;cases q with
  |cons q1 q2=>
   rw[R5,R5,zG I se (hm d Qf) h1 q1,jI I se (λx hx=>hm x (PV _ hx)) h2 q2]
theorem ig{π:List (Py×Obj)}{σ:L2.St}{H:Hp}{s:PF}(I:Inv X π σ H s)(hu:X.A.units+64<RI){x:D}{v:V}{u:Pw}(sx:br 40 x=true)(rx:Rep X.K H x v)(qx:bo v u){es:ac}(se:es.all (br 40)=true):∀{ds:ac}{vs:ad}{us:List Pw},(∀d∈ds,d∈es)->Reps X.K H ds vs->bG vs us->∀y∈us,Qe X.A.in1 s y u (kj X.K H es x y)
 |[],_,_,_,h,q=>λy hy=>by
  rw[Reps.nil_iff.mp h]at q;cases q;cases hy
 |d::ds,_,_,hm,h,q=>λy hy=>by
  obtain⟨w,r,rfl,h1,h2⟩:=aE.mp h;cases q with
  |cons q1 q2=>
   rcases P9.mp hy with rfl|hy
   .rw[zG I se (hm d Qf) h1 q1]
    exact(IM I 40 X.A.in1 (by show X.A.units+1+40<RI;omega) d x w v _ u (P7.mp se _ (hm d Qf)) sx h1 rx q1 qx).2.1
   .exact ig I hu sx rx qx se (λx hx=>hm x (PV _ hx)) h2 q2 y hy
def Ji(hu:X.A.units+64<RI):eT X (Qz .In) (xm X.K false):=by
 intro π s σ H x y v u Q I rx ry h;obtain⟨d,ds,h1,h2,s1,s2,q⟩:=h;rcases h2 with h2|h2
 .obtain⟨a,vs,its,rfl,rfl,k1,k2,k3,k4,k5⟩:=aZ I h2 ry
  refine SeqAt.in_listAt (kj X.K H ds d) k4 (λw hw=>ig I hu s1 h1 rx s2 (λ_ z=>z) k2 k3 w (by simpa using hw)) ⟨.bl _,H,I,rfl,?_⟩;rw[show its.toArray.any (kj X.K H ds d)=its.any (kj X.K H ds d) by simp,jI I s2 (λ_ z=>z) k2 k3];exact q
 .obtain⟨a,vs,its,rfl,rfl,k1,k2,k3,k4,k5⟩:=bb I h2 ry
  refine SeqAt.in_tupleAt (kj X.K H ds d) k4 (λw hw=>ig I hu s1 h1 rx s2 (λ_ z=>z) k2 k3 w (by simpa using hw)) ⟨.bl _,H,I,rfl,?_⟩;rw[show its.toArray.any (kj X.K H ds d)=its.any (kj X.K H ds d) by simp,jI I s2 (λ_ z=>z) k2 k3];exact q
def Aq(hu:X.A.units+64<RI):eT X (Qz .NotIn) (xm X.K true):=by
 intro π s σ H x y v u Q I rx ry h;obtain⟨d,ds,h1,h2,s1,s2,q⟩:=h;rcases h2 with h2|h2
 .obtain⟨a,vs,its,rfl,rfl,k1,k2,k3,k4,k5⟩:=aZ I h2 ry
  refine SeqAt.notIn_listAt (kj X.K H ds d) k4 (λw hw=>ig I hu s1 h1 rx s2 (λ_ z=>z) k2 k3 w (by simpa using hw)) ⟨.bl _,H,I,rfl,?_⟩;rw[show its.toArray.any (kj X.K H ds d)=its.any (kj X.K H ds d) by simp,jI I s2 (λ_ z=>z) k2 k3];exact q
 .obtain⟨a,vs,its,rfl,rfl,k1,k2,k3,k4,k5⟩:=bb I h2 ry
  refine SeqAt.notIn_tupleAt (kj X.K H ds d) k4 (λw hw=>ig I hu s1 h1 rx s2 (λ_ z=>z) k2 k3 w (by simpa using hw)) ⟨.bl _,H,I,rfl,?_⟩;rw[show its.toArray.any (kj X.K H ds d)=its.any (kj X.K H ds d) by simp,jI I s2 (λ_ z=>z) k2 k3];exact q
def Ma(i j:PY):Bool:=!(RP j i 0 j.length 1).isEmpty
noncomputable def Ed(x y:D):Option Bool:=match y with
 |.lst ds=>if br 40 x=true/\ds.all (br 40)=true then some (ds.any λd=>cV d x) else none
 |.tup ds=>if br 40 x=true/\ds.all (br 40)=true then some (ds.any λd=>cV d x) else none
 |.str j=>match x with
  |.str i=>some (Ma i j)
  |_=>none
 |_=>none
def A7(x y:D):ai D:=match Ed x y with
 |some b=>.ok (.bl b)
 |none=>.stuck
def c9(x y:D):ai D:=match Ed x y with
 |some b=>.ok (.bl (!b))
 |none=>.stuck
def B7(neg:Bool):R2:=λx y H Q=>∃i j,x=.str i/\y=.str j/\Q (.bl (if neg then !(Ma i j) else Ma i j)) H
def yX(hu:X.A.units+64<RI):eT X (Qz .In) (λv u H Q=>xm X.K false v u H Q∨B7 false v u H Q):=eT.or (Ji hu) (by
 intro π s σ H x y v u Q I rx ry h;obtain⟨i,j,rfl,rfl,q⟩:=h;exact Ar π s σ H _ _ v u Q I rx ry ⟨i,j,rfl,rfl,q⟩)
def g9(hu:X.A.units+64<RI):eT X (Qz .NotIn) (λv u H Q=>xm X.K true v u H Q∨B7 true v u H Q):=eT.or (Aq hu) (by
 intro π s σ H x y v u Q I rx ry h;obtain⟨i,j,rfl,rfl,q⟩:=h;exact t9 π s σ H _ _ v u Q I rx ry ⟨i,j,rfl,rfl,q⟩)
def vG{neg:Bool}{x y:D}{v u:V}{H Ha:Hp}{Q:VK}(hs:aB Ha H)(r1:Rep X.K Ha x v)(r2:Rep X.K Ha y u)
  (q:post X.K E H Ha (match Ed x y with|some b=>.ok (.bl (if neg then !b else b))|none=>.stuck) Q):xm X.K neg v u H Q∨B7 neg v u H Q:=by
 cases y with
 |lst ds=>
  simp only[Ed]at q
  by_cases c:br 40 x=true/\ds.all (br 40)=true
  .rw[if_pos c]at q
   exact .inl ⟨x,ds,r1.mono hs,.inl (r2.mono hs),c.1,c.2,q _ H Ha (aU.refl hs) (aI.mpr rfl)⟩
  .rw[if_neg c]at q;exact q.elim
 |tup ds=>
  simp only[Ed]at q
  by_cases c:br 40 x=true/\ds.all (br 40)=true
  .rw[if_pos c]at q
   exact .inl ⟨x,ds,r1.mono hs,.inr (r2.mono hs),c.1,c.2,q _ H Ha (aU.refl hs) (aI.mpr rfl)⟩
  .rw[if_neg c]at q;exact q.elim
 |str j=>
  cases x with|str i=>exact .inr ⟨i,j,Rep.str_iff.mp r1,Rep.str_iff.mp r2,q _ H Ha (aU.refl hs) (aI.mpr rfl)⟩| _=>exact q.elim
 |_=>exact q.elim
def za:qM X.K E (λv u H Q=>xm X.K false v u H Q∨B7 false v u H Q) A7:=λx y v u H Ha Q hs r1 r2 q=>vG (neg:=false) (E:=E) hs r1 r2 (by
 unfold A7 at q;cases e:Ed x y with
 |none=>rw[e]at q;exact q
 |some b=>rw[e]at q;exact q)
def ia:qM X.K E (λv u H Q=>xm X.K true v u H Q∨B7 true v u H Q) c9:=λx y v u H Ha Q hs r1 r2 q=>vG (neg:=true) (E:=E) hs r1 r2 (by
 unfold c9 at q;cases e:Ed x y with
 |none=>rw[e]at q;exact q
 |some b=>rw[e]at q;exact q)
end
@[irreducible] def B9:Nat:=2 ^ 9000
@[irreducible] def qO:Nat:=2 ^ 13500
@[irreducible] def Bb:Nat:=2 ^ 60000
theorem zT:B9=2 ^ 9000:=by unfold B9;rfl
def m8:qO=2 ^ 13500:=by unfold qO;rfl
def mZ:Bb=2 ^ 60000:=by unfold Bb;rfl
def pC{n k:Nat}(h:n<2 ^ k)(hk:0<k):n.log2<k:=by
 by_cases h0:n=0
 .rw[h0]
  have:Nat.log2 0=0:=by decide
  omega
 .exact(UY h0).mpr h
def Md{x y:Int}(h:y.natAbs<B9):R3 x y=false:=by
 rw[zT]at h;exact PyProof.noPylong_of_log2 (pC h (by omega))
def Jk{x y:Int}(h:x.natAbs<qO):R3 x y=false:=by
 rw[m8]at h;have hx:x.natAbs.log2<13500:=pC h (by omega);show(decide ((if y==0 then 0 else y.natAbs.log2 / 30+1) > 300)&&decide ((if x==0 then 0 else x.natAbs.log2 / 30+1) > (if y==0 then 0 else y.natAbs.log2 / 30+1)+150))=false;have k:(if x==0 then 0 else x.natAbs.log2 / 30+1)<=450:=by
  by_cases hx0:(x==0)=true
  .rw[if_pos hx0];omega
  .rw[if_neg hx0];omega
 by_cases c:(if y==0 then 0 else y.natAbs.log2 / 30+1) > 300
 .rw[Sz];right;exact decide_eq_false (by omega)
 .rw[Sz];left;exact decide_eq_false c
def eY(i j:Int):Bool:=decide (j≠0)&&(decide (j.natAbs<B9)||decide (i.natAbs<qO))
def dW(i j:Int):Bool:=decide (i.natAbs<Bb)&&decide (j.natAbs<Bb)
def eY.ok{i j:Int}(h:eY i j=true):j≠0/\R3 i j=false:=by
 unfold eY at h;rw[Qg,T5]at h;refine⟨of_decide_eq_true h.1,?_⟩;rcases h.2 with h|h
 .exact Md (of_decide_eq_true h)
 .exact Jk (of_decide_eq_true h)
def dW.ok{i j:Int}(h:dW i j=true):IntMulOk i j:=by
 unfold dW at h;rw[Qg]at h;have h1:=of_decide_eq_true h.1;have h2:=of_decide_eq_true h.2;rw[mZ]at h1 h2;exact PyProof.Rows.mulOk_of_bits (m:=60000) (n:=60000) (US.mpr h1) (US.mpr h2) (by decide)
section
variable {X:Cx}{E:XK}{e a b c:Qc}{es:List Qc}{f g k:al}{fa:Ev->ai (ac)}{pos:Pos}
def bA{K:Px}{H Ha:Hp}{d:D}{v:V}{Q:VK}(hs:aB Ha H)(q:post K E H Ha (.ok d) Q)(r:Rep K Ha d v):Q v H:=q v H Ha (aU.refl hs) r
def vT(c:Int->Int->Bool)(g:Int->Int->D)(x y:D):ai D:=match x,y with
 |.int i,.int j=>if c i j=true then .ok (g i j) else .stuck
 |_,_=>.stuck
def uc{C:Int->Int->Prop}{c:Int->Int->Bool}{gv:Int->Int->V}{g:Int->Int->D}(hc:∀i j,c i j=true->C i j)(hg:∀K H i j,Rep K H (g i j) (gv i j)):qM X.K E (rI C gv) (vT c g):=by
 intro x y v u H Ha Q hs r1 r2 q;unfold vT at q;cases x with
 |int i=>
  cases y with
  |int j=>
   by_cases h:c i j=true
   .simp only[if_pos h]at q
    exact⟨i,j,az.mp r1,az.mp r2,hc i j h,bA hs q (hg _ _ i j)⟩
   .simp only[if_neg h]at q;exact q.elim
  |_=>exact q.elim
 |_=>exact q.elim
def dY{gv:Int->Int->V}{g:Int->Int->D}(hg:∀K H i j,Rep K H (g i j) (gv i j)):qM X.K E (Eb gv) (vT (λ_ _=>true) g):=by
 intro x y v u H Ha Q hs r1 r2 q;unfold vT at q;cases x with
 |int i=>
  cases y with|int j=>simp only[if_pos]at q;exact⟨i,j,az.mp r1,az.mp r2,bA hs q (hg _ _ i j)⟩| _=>exact q.elim
 |_=>exact q.elim
def ri{K:Px}{H:Hp}(n:Int):Rep K H (.int n) (.int n):=az.mpr rfl
def rb{K:Px}{H:Hp}(n:Bool):Rep K H (.bl n) (.bl n):=aI.mpr rfl
abbrev nX:=vT (λ_ _=>true) λi j=>.int (i-j)
abbrev lZ:=vT eY λi j=>.int (i.fdiv j)
abbrev dh:=vT (λ_ j=>decide (j≠0)) λi j=>.int (i.fmod j)
abbrev rH:=vT (λi j=>decide (0<=j)&&decide (j<=1000000)&&decide (i.natAbs<18446744073709551616)) λi j=>.int (i ^ j.toNat)
abbrev Li:=vT (λ_ _=>true) λi j=>.bl (decide (i<j))
abbrev M9:=vT (λ_ _=>true) λi j=>.bl (decide (i<=j))
abbrev KI:=vT (λ_ _=>true) λi j=>.bl (decide (j<i))
abbrev Oi:=vT (λ_ _=>true) λi j=>.bl (decide (j<=i))
def Fn:eT X (binaryOp .Mult) (rI IntMulOk λi j=>.int (i*j)):=Nr λ_ _ _ _ _ _ _ hc q=>mul_int q hc
def Fo:eT X (binaryOp .FloorDiv) (rI (λi j=>j≠0/\R3 i j=false) λi j=>.int (i.fdiv j)):=Nr λ_ _ _ _ _ _ _ hc q=>floordiv_int hc.1 q (.inl hc.2)
def mR(ha:DE X E a f)(hb:DE X E b g):DE X E (.BinOp a .Sub b pos) (ae f g nX):=sP Jg (dY λ_ _ _ _=>ri _) ha hb
def jC(ha:DE X E a f)(hb:DE X E b g):DE X E (.BinOp a .FloorDiv b pos) (ae f g lZ):=sP Fo (uc (λ_ _ h=>eY.ok h) λ_ _ _ _=>ri _) ha hb
def fI(ha:DE X E a f)(hb:DE X E b g):DE X E (.BinOp a .Mod b pos) (ae f g dh):=sP yW (uc (λ_ _ h=>of_decide_eq_true h) λ_ _ _ _=>ri _) ha hb
def xW(ha:DE X E a f)(hb:DE X E b g):DE X E (.BinOp a .Pow b pos) (ae f g rH):=sP Jh (uc (λi j h=>by
 rw[Qg,Qg]at h;exact⟨of_decide_eq_true h.1.1,of_decide_eq_true h.1.2,of_decide_eq_true h.2⟩) λ_ _ _ _=>ri _) ha hb
def nm{op:CmpOp}{b:Qc}(h1:op≠.In:=by decide)(h2:op≠.NotIn:=by decide):behindInMarks op b=false:=CG _ h1 h2
def M8(x:D):ai D:=match x with
 |.int i=>.ok (.int (-i))
 |_=>.stuck
def KD(ha:DE X E a f):DE X E (.UnaryOp .USub a pos) (cu f M8):=M5 HZ (by
 intro x v H Ha Q hs r q;cases x with
 |int i=>exact⟨i,az.mp r,bA hs q (ri _)⟩
 |_=>exact q.elim) ha
def y0:eT X (binaryOp .Add) (λx y H Q=>∃l b xs zs,x=.ref l/\y=.ref b/\dR X.K H l xs/\dR X.K H b zs/\xs.length+zs.length<=sizeLine/\∀p,H p=none->Q (.ref p) (upd H p (.lst (xs++zs)))):=by
 intro π s σ H x y v u Q I rx ry h;obtain⟨l,b,xs,zs,rfl,rfl,hH,hB,hz,q⟩:=h;cases rx;cases ry;obtain⟨its,r,pl,z⟩:=I.list hH;obtain⟨its2,r2,pl2,z2⟩:=I.list hB;obtain⟨⟨cls,dd,data,sl⟩,ho,hc,n,hd⟩:=pl.isList;obtain⟨⟨cls2,dd2,data2,sl2⟩,ho2,hc2,n2,hd2⟩:=pl2.isList;simp only at hc hd hc2 hd2;subst hc hd hc2 hd2;have e:its.toArray++its2.toArray=(its++its2).toArray:=by simp
 have l1:=r.length;have l2:=r2.length;refine concat_meets ⟨_,ho,rfl⟩ ⟨_,ho2,rfl⟩ noFill_list_add seq_list_add PySem.F.slot_list_add PySem.F.entry_list_add (PySem.F.args_list_add_2 _ _) (list_addW l b its.toArray its2.toArray n n2 dd dd2 sl sl2 (by simp only[Qi];omega)) ⟨ho,ho2,?_⟩;rw[e];exact⟨.ref _,_,I.lnew (t':=s.toks) (r.append r2) (by rw[Qs];omega),rfl,q _ I.fresh⟩
noncomputable def cj(x y:D):ai D:=match x,y with
 |.int i,.int j=>.ok (.int (i+j))
 |.str i,.str j=>if i.length+j.length<=line then .ok (.str (i++j)) else .stuck
 |.lst ds,.lst es=>if ds.length+es.length<=line then .ok (.lst (ds++es)) else .stuck
 |.tup ds,.tup es=>if ds.isEmpty=false/\ds.length+es.length<=line then .ok (.tup (ds++es)) else .stuck
 |_,_=>.stuck
def dP(ha:DE X E a f)(hb:DE X E b g):DE X E (.BinOp a .Add b pos) (ae f g cj):=sP (eT.or CD (eT.or o9 (eT.or y0 yZ))) (by
 intro x y v u H Ha Q hs r1 r2 q;unfold cj at q;cases x with
 |int i=>
  cases y with|int j=>exact .inl ⟨i,j,az.mp r1,az.mp r2,bA hs q (ri _)⟩| _=>exact q.elim
 |str i=>
  cases y with
  |str j=>
   by_cases h:i.length+j.length<=line
   .simp only[if_pos h]at q
    exact .inr (.inl ⟨i,j,Rep.str_iff.mp r1,Rep.str_iff.mp r2,dF h,bA hs q (Rep.str_iff.mpr rfl)⟩)
   .simp only[if_neg h]at q;exact q.elim
  |_=>exact q.elim
 |lst ds=>
  cases y with
  |lst es=>
   by_cases h:ds.length+es.length<=line
   .simp only[if_pos h]at q
    obtain⟨l,vs,rfl,h1,h2⟩:=aF.mp r1;obtain⟨m,us,rfl,k1,k2⟩:=aF.mp r2;refine .inr (.inr (.inl ⟨l,m,vs,us,rfl,rfl,aB.sqL hs h1,aB.sqL hs k1,by rw[←h2.length,←k2.length];exact dF h,λp hp=>?_⟩));exact q _ _ _ (bw hs hp) (aF.mpr ⟨p,_,rfl,dR.of aG,(h2.app k2).mono (bw hs hp).z⟩)
   .simp only[if_neg h]at q;exact q.elim
  |_=>exact q.elim
 |tup ds=>
  cases y with
  |tup es=>
   by_cases h:ds.isEmpty=false/\ds.length+es.length<=line
   .simp only[if_pos h]at q
    obtain⟨l,vs,rfl,h1,h2⟩:=aJ.mp r1;obtain⟨m,us,rfl,k1,k2⟩:=aJ.mp r2;refine .inr (.inr (.inr ⟨l,m,vs,us,rfl,rfl,aB.sqT hs h1,aB.sqT hs k1,λz=>?_,by rw[←h2.length,←k2.length];exact dF h.2,λz=>?_,λz p hp=>?_⟩))
    .have:=h2.length
     rw[z]at this;have e:ds=[]:=RN.mp this;rw[e]at h;exact absurd h.1 (by decide)
    .have:=k2.length
     rw[z]at this;have e:es=[]:=RN.mp this;rw[e,QC]at q;exact bA hs q r1
    .exact q _ _ _ (bw hs hp) (aJ.mpr ⟨p,_,rfl,jd.of aG,(h2.app k2).mono (bw hs hp).z⟩)
   .simp only[if_neg h]at q;exact q.elim
  |_=>exact q.elim
 |_=>exact q.elim) ha hb
noncomputable def aN(x y:D):ai D:=match y with
 |.int i=>match x with
  |.lst ds=>match atI ds i with
   |some d=>.ok d
   |none=>.stuck
  |.tup ds=>match atI ds i with
   |some d=>.ok d
   |none=>.stuck
  |.str z=>if z.length<=line then match atI z.cps.toList i with
   |some c=>.ok (.str ⟨#[c]⟩)
   |none=>.stuck else .stuck
  |_=>.stuck
 |_=>.stuck
def Reps.atI{K:Px}{H:Hp}{ds:ac}{vs:ad}{i:Int}{d:D}(h:Reps K H ds vs)(e:atI ds i=some d):∃v,L2.atI vs i=some v/\Rep K H d v:=by
 unfold L2.atI at e ⊢;rw[←h.length];cases q:xK ds.length i with
 |none=>rw[q]at e;cases e
 |some j=>
  rw[q]at e;exact h.get e
def HF:qM X.K E (OF X.K) aN:=by
 intro x y v u H Ha Q hs r1 r2 q;unfold aN at q;cases y with
 |int i=>
  cases x with
  |lst ds=>
   obtain⟨l,vs,rfl,h1,h2⟩:=aF.mp r1;cases e:atI ds i with
   |none=>simp only[e]at q;exact q.elim
   |some d=>
    simp only[e]at q;obtain⟨w,e1,e2⟩:=h2.atI e;exact .inl ⟨l,vs,i,w,rfl,az.mp r2,aB.sqL hs h1,e1,bA hs q e2⟩
  |tup ds=>
   obtain⟨l,vs,rfl,h1,h2⟩:=aJ.mp r1;cases e:atI ds i with
   |none=>simp only[e]at q;exact q.elim
   |some d=>
    simp only[e]at q;obtain⟨w,e1,e2⟩:=h2.atI e;exact .inr (.inl ⟨l,vs,i,w,rfl,az.mp r2,aB.sqT hs h1,e1,bA hs q e2⟩)
  |str z=>
   by_cases hz:z.length<=line
   .simp only[if_pos hz]at q
    cases e:atI z.cps.toList i with
    |none=>simp only[e]at q;exact q.elim
    |some c=>
     simp only[e]at q;exact .inr (.inr ⟨z,i,c,Rep.str_iff.mp r1,az.mp r2,dF hz,e,bA hs q (Rep.str_iff.mpr rfl)⟩)
   .simp only[if_neg hz]at q;exact q.elim
  |_=>exact q.elim
 |_=>exact q.elim
def aq(ha:DE X E a f)(hb:DE X E b g)(hs:ki b:=by intro _ _;rfl):DE X E (.Subscript a b pos) (ae f g aN):=M7 CZ HF ha hb hs
def fM:Ev->ai (Option Int):=λ_=>.ok none
def fz(f:al):Ev->ai (Option Int):=λρ=>(f ρ).bind λx=>match x with
 |.int i=>.ok (some i)
 |_=>.stuck
def NQ(K:Px)(E:XK)(f:Ev->ai (Option Int)):TO:=λσ H Q=>∃Ha ρ,aB Ha H/\Reads K Ha σ ρ/\match f ρ with
 |.ok o=>∀H' Ha',aU H Ha H' Ha'->Q o H'
 |.exn x=>∀C ox H' Ha',aU H Ha H' Ha'->wN K Ha' x C ox->E C ox H'
 |.stuck=>False
structure DO (X:Cx) (E:XK) (e:Option Qc) (f:Ev->ai (Option Int)):Prop where
 o:PO X e (NQ X.K E f)
def yP{eo:Option Qc}{t t':TO}(h:PO X eo t)(w:∀σ H Q,t' σ H Q->t σ H Q):PO X eo t':=λπ s σ H Q I q=>h π s σ H Q I (w σ H Q q)
def oz:DO X E none fM:=⟨yP Fb λσ H Q ⟨Ha,ρ,hs,hr,q⟩=>q H Ha (aU.refl hs)⟩
def oy(ha:DE X E a f):DO X E (some a) (fz f):=by
 refine⟨?_⟩;refine yP (E9 ha.o) λσ H Q z9=>?_;obtain⟨Ha,ρ,hs,hr,q⟩:=z9;refine⟨Ha,ρ,hs,hr,?_⟩
 unfold fz at q;cases e1:f ρ with
 |stuck|exn x=>rw[e1]at q;exact q
 |ok d=>
  rw[e1]at q;intro v H1 H01 g1 r1;cases d with|int i=>exact⟨i,az.mp r1,q H1 H01 g1⟩| _=>exact q.elim
def rK(xs:ac)(lo hi:Option Int):ac:=(xs.drop (HT.sIx xs.length 0 lo)).take (HT.sIx xs.length xs.length hi-HT.sIx xs.length 0 lo)
def Reps.cut{K:Px}{H:Hp}{ds:ac}{vs:ad}(h:Reps K H ds vs)(lo hi:Option Int):Reps K H (rK ds lo hi) (wx vs lo hi):=by
 unfold rK wx;rw[←h.length];exact(h.drop _).take _
def u5{r:V->Option Int->Option Int->Hp->VK->Prop}{lo hi:Ev->ai (Option Int)}{m:D->Option Int->Option Int->ai D}
  (ho:∀x v l h H Ha Q,aB Ha H->Rep X.K Ha x v->post X.K E H Ha (m x l h) Q->r v l h H Q)(σ:L2.St)(H:Hp)(Q:VK)
  (h:tD X.K E (λρ=>(f ρ).bind λx=>(lo ρ).bind λl=>(hi ρ).bind λh=>m x l h) σ H Q):OC r (tD X.K E f) (NQ X.K E lo) (NQ X.K E hi) σ H Q:=by
 obtain⟨Ha,ρ,hs,hr,q⟩:=h;refine⟨Ha,ρ,hs,hr,?_⟩;replace q:post X.K E H Ha ((f ρ).bind λx=>(lo ρ).bind λl=>(hi ρ).bind λh=>m x l h) Q:=q;cases e1:f ρ with
 |stuck|exn x=>rw[e1]at q;exact q
 |ok x=>
  rw[e1]at q;intro v H1 H01 g1 r1;refine⟨H01,ρ,g1.sub,hr.mono g1.z,?_⟩;replace q:post X.K E H Ha ((lo ρ).bind λl=>(hi ρ).bind λh=>m x l h) Q:=q;replace q:=q.grow g1;cases e2:lo ρ with
  |stuck|exn x=>rw[e2]at q;exact q
  |ok l=>
   rw[e2]at q;intro H2 H02 g2;refine⟨H02,ρ,g2.sub,(hr.mono g1.z).mono g2.z,?_⟩;replace q:post X.K E H1 H01 ((hi ρ).bind λh=>m x l h) Q:=q;replace q:=q.grow g2;cases e3:hi ρ with
   |stuck|exn x=>rw[e3]at q;exact q
   |ok h=>
    rw[e3]at q;intro H3 H03 g3;exact ho x v l h H3 H03 Q g3.sub ((r1.mono g2.z).mono g3.z) (post.grow (r:=m x l h) q g3)
def m1(m:D->ai D)(ds:ac):ai D:=match ds with
 |[x]=>m x
 |_=>.stuck
def m2(m:D->D->ai D)(ds:ac):ai D:=match ds with
 |[x,y]=>m x y
 |_=>.stuck
def wD{r:ad->Hp->VK->Prop}{m:D->ai D}(h:∀x v H Ha Q,aB Ha H->Rep X.K Ha x v->post X.K E H Ha (m x) Q->r [v] H Q):jP X E r (m1 m):=by
 intro ds vs H Ha Q hs hr q;unfold m1 at q
 match ds,hr,q with
 |[x],hr,q=>
  obtain⟨v,r',rfl,h1,h2⟩:=aE.mp hr;rw[Reps.nil_iff.mp h2];exact h x v H Ha Q hs h1 q
 |[],_,q=>exact q.elim
 |_::_::_,_,q=>exact q.elim
def HN{r:ad->Hp->VK->Prop}{m:D->D->ai D}(h:∀x y v u H Ha Q,aB Ha H->Rep X.K Ha x v->Rep X.K Ha y u->post X.K E H Ha (m x y) Q->r [v,u] H Q):jP X E r (m2 m):=by
 intro ds vs H Ha Q hs hr q;unfold m2 at q
 match ds,hr,q with
 |[x,y],hr,q=>
  obtain⟨v,r',rfl,h1,h2⟩:=aE.mp hr;obtain⟨u,r'',rfl,h3,h4⟩:=aE.mp h2;rw[Reps.nil_iff.mp h4];exact h x y v u H Ha Q hs h1 h3 q
 |[],_,q=>exact q.elim
 |[_],_,q=>exact q.elim
 |_::_::_::_,_,q=>exact q.elim
def AS(x:D):ai D:=match x with
 |.int i=>.ok (.int (if i<0 then -i else i))
 |_=>.stuck
def KH(x y:D):ai D:=match x,y with
 |.int i,.int j=>.ok (.int (if j > i then j else i))
 |_,_=>.stuck
def bS(x:D):ai D:=match x with
 |.lst ds=>.ok (.int ds.length)
 |.tup ds=>.ok (.int ds.length)
 |.str z=>if z.length<=line then .ok (.int z.length) else .stuck
 |_=>.stuck
def kT(x:D):ai D:=match x with
 |.int i=>.ok (.int i)
 |.bl b=>.ok (.int (if b then 1 else 0))
 |_=>.stuck
def yc:jP X E (λxs H Q=>∃i,xs=[.int i]/\Q (.int (if i<0 then -i else i)) H) (m1 AS):=wD λx v H Ha Q hs r q=>by
 cases x with|int i=>exact⟨i,by rw[az.mp r],bA hs q (ri _)⟩| _=>exact q.elim
def KO:jP X E (λxs H Q=>∃i j,xs=[.int i,.int j]/\Q (.int (if j > i then j else i)) H) (m2 KH):=HN λx y v u H Ha Q hs r r' q=>by
 cases x with
 |int i=>
  cases y with|int j=>exact⟨i,j,by rw[az.mp r,az.mp r'],bA hs q (ri _)⟩| _=>exact q.elim
 |_=>exact q.elim
def cp:jP X E (λxs H Q=>∃x n,xs=[x]/\Ni X.K x H n/\Q (.int n) H) (m1 bS):=wD λx v H Ha Q hs r q=>by
 cases x with
 |lst ds=>
  obtain⟨p,vs,rfl,h1,h2⟩:=aF.mp r;refine⟨_,vs.length,rfl,.inl ⟨vs,aB.sqL hs h1,rfl⟩,?_⟩;rw[←h2.length];exact bA hs q (ri _)
 |tup ds=>
  obtain⟨p,vs,rfl,h1,h2⟩:=aJ.mp r;refine⟨_,vs.length,rfl,.inr ⟨vs,aB.sqT hs h1,rfl⟩,?_⟩;rw[←h2.length];exact bA hs q (ri _)
 |str z=>
  unfold bS at q
  by_cases hz:z.length<=line
  .simp only[if_pos hz]at q
   rw[Rep.str_iff.mp r];exact⟨_,z.length,rfl,⟨dF hz,rfl⟩,bA hs q (ri _)⟩
  .simp only[if_neg hz]at q;exact q.elim
 |_=>exact q.elim
def KP:jP X E (λxs H Q=>(∃i,xs=[.int i]/\Q (.int i) H)∨∃k,xs=[.bl k]/\Q (.int (if k then 1 else 0)) H) (m1 kT):=wD λx v H Ha Q hs r q=>by
 cases x with|int i=>exact .inl ⟨i,by rw[az.mp r],bA hs q (ri _)⟩|bl i=>exact .inr ⟨i,by rw[aI.mp r],bA hs q (ri _)⟩| _=>exact q.elim
def DV{T:String}{r:ad->Hp->VK->Prop}{m:ac->ai D}{x:PY}{p:Pos}(hc:jO X (.type T) r)(hd:jP X E r m)(hg:Gl X x)(hm:X.mg x=none)(hv:bootBuiltins x=some (.type T))(ha:DA X E (e::es) fa)(hn:x≠"__name__":=by decide)(hdb:(x==("__debug__" : PY))=false:=by decide)
  (he:PM (e::es) X.env=(false,eval e X.env)::PM es X.env:=by exact ba rfl)(hpl:(QZ pos (PM es X.env)).any (·.1)=false:=by exact bX rfl):DE X E (.Call (.Name x p) (e::es) [] pos) (ao fa m) :=
 ⟨aW (Ao hc hg hm hv ha.o hn hdb he hpl) (kg hd)⟩
def sA:D->Bool
 |.non=>true
 |_=>false
def c3(x y:D):ai D:=match y with
 |.non=>.ok (.bl (sA x))
 |_=>.stuck
def gJ(x y:D):ai D:=match y with
 |.non=>.ok (.bl (!(sA x)))
 |_=>.stuck
def Rep.is_non{K:Px}{H:Hp}{x:D}{v:V}(r:Rep K H x v):decide (v=.non)=sA x:=by
 cases x with|non=>rw[aM.mp r];rfl|bl b=>rw[aI.mp r];rfl|int b=>rw[az.mp r];rfl|str b=>rw[Rep.str_iff.mp r];rfl|tup ds=>obtain⟨_,_,e,_⟩:=aJ.mp r;rw[e];rfl|lst ds=>obtain⟨_,_,e,_⟩:=aF.mp r;rw[e];rfl|dic ks ds=>rw[Rep]at r;obtain⟨_,_,_,e,_⟩:=r;rw[e];rfl|exc x=>obtain⟨_,_,_,e,_⟩:=jL.mp r;rw[e];rfl|ob k x=>obtain⟨_,_,e,_⟩:=ff.mp r;rw[e];rfl
def eG:qM X.K E (λx y H Q=>y=.non/\Q (.bl (decide (x=.non))) H) c3:=by
 intro x y v u H Ha Q hs r1 r2 q;unfold c3 at q;cases y with|non=>exact⟨aM.mp r2,by rw[r1.is_non];exact bA hs q (rb _)⟩| _=>exact q.elim
def oh:qM X.K E (λx y H Q=>y=.non/\Q (.bl (!decide (x=.non))) H) gJ:=by
 intro x y v u H Ha Q hs r1 r2 q;unfold gJ at q;cases y with
 |non=>
  refine⟨aM.mp r2,?_⟩;rw[r1.is_non];exact bA hs q (rb _)
 |_=>exact q.elim
noncomputable def wL:D->String
 |.non=>"NoneType"
 |.bl _=>"bool"
 |.int _=>"int"
 |.str _=>"str"
 |.tup _=>"tuple"
 |.lst _=>"list"
 |.dic _ _=>"dict"
 |.exc _=>"<exc>"
 |.ob (.ins _ _) _=>"<exc>"
 |.ob (.dint _) _=>"dict"
 |.ob (.exf _ _) _=>"<exc>"
 |.ob .pl _=>"list"
def c4(T:String)(x:D):ai D:=.ok (.bl (wL x==T||(wL x=="bool"&&T=="int")))
def qH(K:Px)(T:String):Prop:=∀S,S∈["NoneType","bool","int","str","tuple","list","dict"]->W.kitOne K (.type S) (.type T)=some (S==T||(S=="bool"&&T=="int"))
def C0{π:List (Py×Obj)}{σ:L2.St}{H:Hp}{s:PF}{A:QV}{Q:Pw->PF->Prop}{x:D}{v:V}{u:Pw}{T:String}(I:Inv X π σ H s)(r:Rep X.K H x v)(q:bo v u)(hk:qH X.K T)(hT:T∈iT)(h:∀tk,Q (.bool (wL x==T||(wL x=="bool"&&T=="int"))) { s with toks:=tk }) :
  Qq (Ql X.prog X.w) A (call (.builtin "isinstance") [u,.type T]) Q X.xe s:=by
 cases x with
 |non=>rw[aM.mp r]at q;exact ib I q .non (hk _ (by simp)) h|bl b=>rw[aI.mp r]at q;exact ib I q (.bl b) (hk _ (by simp)) h|int b=>rw[az.mp r]at q;exact ib I q (.int b) (hk _ (by simp)) h|str b=>rw[Rep.str_iff.mp r]at q;exact ib I q (.str b) (hk _ (by simp)) h
 |tup ds=>
  obtain⟨a,vs,its,rfl,rfl,h1,h2,h3,h4,_⟩:=bb I r q;obtain⟨o,k1,k2,_⟩:=h4;exact Rg W.kitx_tuple I.kIn ⟨o,k1,k2⟩ (hk _ (by simp)) (λz=>nomatch z) h
 |lst ds=>
  obtain⟨a,vs,its,rfl,rfl,h1,h2,h3,h4,_⟩:=aZ I r q;obtain⟨o,k1,k2,_⟩:=h4;exact Rg UN I.kIn ⟨o,k1,k2⟩ (hk _ (by simp)) (λz=>nomatch z) h
 |dic ks ds=>
  rw[Rep]at r;obtain⟨a,kvs,vs,rfl,h1,h2,_⟩:=r;cases (show u=QM a from q);obtain⟨_,_,vs',_,p⟩:=h1.ok I.hok;obtain⟨o,es,ep,k1,k2,_⟩:=p;exact Rg TX I.kIn ⟨o,k1,k2.1⟩ (hk _ (by simp)) (λz=>nomatch z) h
 |exc x=>
  obtain⟨a,C,dc,rfl,hc,h1⟩:=jL.mp r;cases (show u=QM a from q);obtain⟨p,_,_⟩:=h1.ok I.hok;have e:(wL (.exc x)==T||(wL (.exc x)=="bool"&&T=="int"))=false:=by
   have:∀T∈iT,(wL (.exc x)==T||(wL (.exc x)=="bool"&&T=="int"))=false:=by show ∀T∈iT,("<exc>"==T||("<exc>"=="bool"&&T=="int"))=false;decide
   exact this T hT
  rw[e]at h;exact Rg (vQ hc.ek hc.ek.isCls) I.kIn p (hc.bt T hT) (λz=>nomatch z) h
 |ob k xs=>
  obtain⟨a,vs,rfl,h1,_⟩:=ff.mp r;cases (show u=QM a from q);cases k with
  |exf c ks=>
   obtain⟨C,dx,fs,hc,h2,_⟩:=h1;obtain⟨p,_,_⟩:=h2.ok I.hok;have e:(wL (.ob (.exf c ks) xs)==T||(wL (.ob (.exf c ks) xs)=="bool"&&T=="int"))=false:=by
    have:∀T∈iT,("<exc>"==T||("<exc>"=="bool"&&T=="int"))=false:=by decide
    exact this T hT
   rw[e]at h;exact Rg (vQ hc.ek hc.ek.isCls) I.kIn p (hc.bt T hT) (λz=>nomatch z) h
  |ins c ks=>
   obtain⟨C,dx,_,hc,h2,_⟩:=h1;obtain⟨mA,O,_⟩:=zr I.hok h2;obtain⟨od,O',_⟩:=O.look;have e:(wL (.ob (.ins c ks) xs)==T||(wL (.ob (.ins c ks) xs)=="bool"&&T=="int"))=false:=by
    have:∀T∈iT,(wL (.ob (.ins c ks) xs)==T||(wL (.ob (.ins c ks) xs)=="bool"&&T=="int"))=false:=by show ∀T∈iT,("<exc>"==T||("<exc>"=="bool"&&T=="int"))=false;decide
    exact this T hT
   rw[e]at h;exact Rg (W.kitx_own (hc.cls.get _) hc.cls.hd hc.gc hc.gn hc.tk hc.mo) I.kIn O' (hc.bt T hT) (λz=>nomatch z) h
  |dint ks=>
   obtain⟨kvs,h2,_⟩:=h1;obtain⟨_,_,vs',_,p⟩:=h2.ok I.hok;obtain⟨o,es,ep,k1,k2,_⟩:=p;exact Rg TX I.kIn ⟨o,k1,k2.1⟩ (hk _ (by simp)) (λz=>nomatch z) h
  |pl=>exact ib I (show bo (.ref a) (QM a) from rfl) (.lst h1) (hk _ (by simp)) h
def bN{T:String}{x:PY}{p1 p2:Pos}(hk:qH X.K T)(hgi:Gl X "isinstance")(hmi:X.mg "isinstance"=none)(hg:Gl X x)(hm:X.mg x=none)(hv:bootBuiltins x=some (.type T))(ha:DE X E a f)
  (hn:x≠"__name__":=by decide)(hdb:(x==("__debug__" : PY))=false:=by decide)(hT:T∈iT:=by decide)
  (he:PM [a,.Name x p2] X.env=(false,eval a X.env)::PM [.Name x p2] X.env:=by exact ba rfl)(he2:PM [.Name x p2] X.env=(false,eval (.Name x p2) X.env)::PM [] X.env:=by exact ba rfl)(hpl:(QZ pos (PM [.Name x p2] X.env)).any (·.1)=false:=by exact bX rfl) :
  DE X E (.Call (.Name "isinstance" p1) [a,.Name x p2] [] pos) (cu f (c4 T)):=by
 refine⟨?_⟩;refine aW (vk (r:=λvs H Q=>∃d v,vs=[v,.ty T]/\Rep X.K H d v/\Q (.bl (wL d==T||(wL d=="bool"&&T=="int"))) H) ?_ hgi hmi PyProof.Rows.Boot.«isinstance» (cO ha.o (cO (Fj (v:=.ty T) hg hm hv rfl hn hdb) eC he2) he) (by decide) (by decide) he hpl) λσ H Q ⟨Ha,ρ,hs,hr,q⟩=>⟨Ha,ρ,hs,hr,?_⟩
 .intro π s σ H xs us Q I r h
  obtain⟨d,v,rfl,h1,q⟩:=h;cases r with
  |cons r1 r2=>
   cases r2 with
   |cons r3 r4=>
    cases r4;rename_i u1 u2;obtain rfl:u2=Value.type T:=r3;exact C0 I h1 r1 hk hT λtk=>⟨.bl _,H,I.tok _,rfl,q⟩
 .unfold cu at q
  cases e1:f ρ with
  |stuck|exn x=>rw[e1]at q;exact q
  |ok d=>
   rw[e1]at q;intro v H1 H01 g1 r1;exact⟨d,v,rfl,r1.mono g1.sub,q _ H1 H01 g1 (rb _)⟩
end
theorem sL{prog:Qw}{w:QK}{A:QV}{E:Pw->PF->Prop}{it t:Py}{items:Array Pw}(hne:t≠it):∀(n i:Nat) (s:PF) (Q:List Pw->PF->Prop),s.heap.IsListIter it t i->s.heap.IsList t items->i+n<=items.size ->
  (∀h',h'.IsListIter it t (i+n)->Tj it s.heap h'->Q ((items.toList.drop i).take n) { s with heap:=h' })->Qq (Ql prog w) A (draw (.ref it) n) Q E s
 |0,i,s,Q,hit,_,_,hQ=>by
  show Qq _ _ (pure []) Q E s;exact Qr (by simpa using hQ s.heap hit (Tj.refl ..))
 |n+1,i,s,Q,hit,ht,hle,hQ=>by
  have hlt:i<items.size:=by omega
  show Qq _ _ (pyNext (.ref it) >>= _) Q E s;refine PX (wpAny_pyNext_list_item hit ht (x:=items[i]) (by simp[hlt]) λh₁ hit₁ hs₁=>?_);have ht₁:h₁.IsList t items:=by
   obtain⟨o,k1,k2⟩:=ht;exact⟨o,(hs₁.2 t hne).trans k1,k2⟩
  refine PX (RB (sL hne n (i+1) _ _ hit₁ ht₁ (by omega) λhV hit₂ hs₂=>Qr ?_));have hd:items.toList.drop i=items[i]::items.toList.drop (i+1):=by simp[QG,hlt]
  have:=hQ hV (by rw[show i+(n+1)=i+1+n by omega];exact hit₂) (hs₁.trans hs₂);rw[hd,List.take_succ_cons]at this;exact this
def mn{prog:Qw}{w:QK}{A:QV}{E:Pw->PF->Prop}{s:PF}{t:Py}{items:Array Pw}{Q:List Pw->PF->Prop}(hh:A.handled=none)(ht:s.heap.IsList t items)
  (hQ:∀h',Heap.ExtBut s.heap.objs.size s.heap h'->Q items.toList { s with heap:=h' }):Qq (Ql prog w) A (unpackItems (.ref t) items.size none) Q E s:=by
 have hlt:t≠s.heap.objs.size:=by obtain⟨o,ho,_⟩:=ht;exact QD (Qk ho)
 unfold unpackItems;refine PX ?_
 .unfold notIterableAtAll
  refine PX (wpAny_specialOf ht.typeIs slot_list_iter.lookup ?_);refine Qr ?_;simp only[Bool.false_eq_true,if_false];refine PX (RB (wpAny_pyIter_list ht ?_));have ht0:(s.heap.push { cls:=.type "list_iterator",data:=.fields #[.ref t,.int 0 0] }).IsList t items:=by
   obtain⟨o,k1,k2⟩:=ht;exact⟨o,P5 _ k1,k2⟩
  refine PX (RB (sL hlt items.size 0 _ _ ⟨_,QR _ rfl,rfl,rfl⟩ ht0 (by omega) λh₁ hit₁ hs₁=>?_));have hall:List.take items.size (List.drop 0 items.toList)=items.toList:=by
   rw[R9];exact List.take_of_length_le (by simp)
  rw[hall];rw[if_neg (by simp)];have ht₁:h₁.IsList t items:=by
   obtain⟨o,k1,k2⟩:=ht0;exact⟨o,(hs₁.2 t hlt).trans k1,k2⟩
  refine PX (RB (wpAny_pyNext_list_end hh hit₁ ht₁ (by simp) λhV he₂=>?_));simp only[RV,Bool.false_eq_true,if_false];refine Qr (hQ hV λb o hb e=>he₂ b o hb (hs₁.extBut b o hb (P5 _ e)))
def tR(σ:L2.St):bm->ad->L2.St
 |i::is,v::vs=>tR (σ.set i (some v)) is vs
 |_,_=>σ
def dJ(ρ:Ev):bm->ac->Ev
 |i::is,d::ds=>dJ (ρ.set i (.sh d)) is ds
 |_,_=>ρ
theorem cZ.putAll{K:Px}{He η Ha H:Hp}:∀{is:bm}{ds:ac}{vs:ad}{σ:L2.St}{ρ:Ev},cZ K He η Ha σ H ρ->Reps K Ha ds vs->cZ K He η Ha (tR σ is vs) H (dJ ρ is ds)
 |[],_,_,_,_,h,_=>by unfold tR dJ;exact h
 |_::_,[],_,_,_,h,r=>by rw[Reps.nil_iff.mp r];unfold tR dJ;exact h
 |i::is,d::ds,_,_,_,h,r=>by
  obtain⟨v,vs,rfl,h1,h2⟩:=aE.mp r;unfold tR dJ;exact cZ.putAll (h.put h1) h2
section
variable {X:Cx}{E:XK}{He η:Hp}{e a b:Qc}{es:List Qc}{f g:al}{fa:Ev->ai (ac)}{pos:Pos}{is:bm}
def Lg(is:bm):Ef:=λvs σ H Q=>vs.length=is.length/\Q (tR σ is vs) H
def vh{t t':Ef}(h:A3 X es t)(w:∀vs σ H Q,t' vs σ H Q->t vs σ H Q):A3 X es t':=λπ s σ H vs us Q I r q=>h π s σ H vs us Q I r (w vs σ H Q q)
def gI:A3 X [] (Lg []):=vh Fe λvs σ H Q z9=>by
 obtain⟨h,q⟩:=z9;have e:vs=[]:=RN.mp h;subst e;exact⟨rfl,q⟩
def cf{i:Nat}{x:PY}{p:Pos}(hN:X.N.Nodup)(hi:X.N[i]?=some x)(hx:wM X.env.scope x)(h:A3 X es (Lg is))(hf:X.fn x=true∨X.env.scope.names.lookup x=some .local := by first|exact .inl rfl|exact .inr rfl|assumption)
  (hs:(assignEach (.Name x p::es) X.env).map (·.2)=assign (.Name x p) X.env::(assignEach es X.env).map (·.2):=by rfl):A3 X (.Name x p::es) (Lg (i::is)) :=
 vh (Co (t8 hN hi hx hf) h hs) λvs σ H Q z9=>by
  obtain⟨h,q⟩:=z9;cases vs with|nil=>simp at h|cons v vs=>exact⟨v,vs,rfl,by simpa using h,q⟩
def Ff{k:Nat}{t:Ef}{n:Nat}(hc:X.calm=true)(h:A3 X es t)
  (hn:(assignEach es X.env).length=n:=by rfl)(hst:(assignEach es X.env).findIdx? (·.1)=none:=by rfl):PG X (.Tuple es k pos) (λv σ H Q=>∃a xs,v=.ref a/\dR X.K H a xs/\xs.length=n/\t xs σ H Q):=by
 intro π s σ H v u Q I r hw;obtain⟨a,xs,e1,hq,hl,hw⟩:=hw;subst e1;cases r;obtain⟨its,rv,ht,hz⟩:=I.list hq;rw[assign_Tuple];refine PX (wpAny_standAt ?_);unfold unpack;rw[hn,hst];have hsz:n=its.toArray.size:=by rw[Qi,←rv.length,hl]
 rw[hsz];refine PX (RB (mn (I.ok.hd hc) ht.isList λh' hx=>?_));have I1:Inv X π σ H { s with heap:=h' }:=I.kept (t':=s.toks) λb o e=>hx b o (QD (Qk e)) e;exact h π _ σ H xs _ Q I1 (by simpa using rv) hw
def LW{tgt:Qc}{t t':TG}(h:PG X tgt t)(h':PG X tgt t'):PG X tgt (λv σ H Q=>t v σ H Q∨t' v σ H Q):=λπ s σ H v u Q I r q=>q.elim (h π s σ H v u Q I r) (h' π s σ H v u Q I r)
def Cq{k:Nat}(hc:X.calm=true)(h:A3 X es (Lg is))(hn:(assignEach es X.env).length=is.length:=by rfl)(hst:(assignEach es X.env).findIdx? (·.1)=none:=by rfl) :
  PG X (.Tuple es k pos) (λv σ H Q=>∃a xs,v=.ref a/\(jd X.K H a xs∨dR X.K H a xs)/\xs.length=is.length/\Q (tR σ is xs) H) :=
 tZ (LW (Ja hc h hn hst) (Ff hc h hn hst)) λv σ H Q ⟨a,xs,e,hq,hl,q⟩=>hq.elim (λz=>.inl ⟨a,xs,e,z,hl,hl,q⟩) λz=>.inr ⟨a,xs,e,z,hl,hl,q⟩
def jV(n:Nat)(d:D):Option (ac):=match d with
 |.tup ds=>if ds.length=n then some ds else none
 |.lst ds=>if ds.length=n then some ds else none
 |_=>none
def vo{K:Px}{H:Hp}{n:Nat}{d:D}{ds:ac}{v:V}(h:jV n d=some ds)(r:Rep K H d v):∃a vs,v=.ref a/\(jd K H a vs∨dR K H a vs)/\vs.length=n/\Reps K H ds vs:=by
 unfold jV at h;cases d with
 |tup es=>
  by_cases c:es.length=n
  .simp only[if_pos c]at h;cases h
   obtain⟨a,vs,rfl,h1,h2⟩:=aJ.mp r;exact⟨a,vs,rfl,.inl h1,by rw[←h2.length];exact c,h2⟩
  .simp only[if_neg c]at h;cases h
 |lst es=>
  by_cases c:es.length=n
  .simp only[if_pos c]at h;cases h
   obtain⟨a,vs,rfl,h1,h2⟩:=aF.mp r;exact⟨a,vs,rfl,.inr h1,by rw[←h2.length];exact c,h2⟩
  .simp only[if_neg c]at h;cases h
 |_=>cases h
def BK{K:Px}{H H':Hp}{a:Py}{vs:ad}(hs:aB H H')(h:jd K H a vs∨dR K H a vs):jd K H' a vs∨dR K H' a vs:=h.elim (λz=>.inl (aB.sqT hs z)) λz=>.inr (aB.sqL hs z)
def dN(is:bm):Ev->D->ai Ev:=λρ d=>match jV is.length d with
 |some ds=>.ok (dJ ρ is ds)
 |none=>.stuck
def gY:tq (dN is):=λρ d=>by
 unfold dN;cases jV is.length d with|none=>exact .inl rfl|some ds=>exact .inr ⟨_,rfl⟩
def kQ{k:Nat}(hc:X.calm=true)(h:A3 X es (Lg is))(hn:(assignEach es X.env).length=is.length:=by rfl)(hst:(assignEach es X.env).findIdx? (·.1)=none:=by rfl):DG X E He η (.Tuple es k pos) (dN is) :=
 ⟨tZ (Cq hc h hn hst) λv σ H Q z9=>by
  obtain⟨Ha,ρ,d,h,rp,q⟩:=z9;unfold dN at q;cases e1:jV is.length d with
  |none=>rw[e1]at q;exact q.elim
  |some ds=>
   rw[e1]at q;obtain⟨a,vs,rfl,k1,k2,k3⟩:=vo e1 rp;exact⟨a,vs,rfl,BK h.g.sub k1,k2,q _ H Ha (aB.refl _) (h.putAll k3)⟩⟩
def qS(i j:Nat)(fa:Ev->ai (ac)):am:=λρ=>(fa ρ).bind λds=>match ds with
 |[x,y]=>.ok (.nx ((ρ.set i (.sh x)).set j (.sh y)))
 |_=>.stuck
def Kv{i j:Nat}{x y:PY}{px py pt pt2:Pos}{kt k2}(hc:X.calm=true)(hN:X.N.Nodup)(hi:X.N[i]?=some x)(hj:X.N[j]?=some y)(hij:i≠j)
  (hx:X.env.scope.names.lookup x=some .local)(hy:X.env.scope.names.lookup y=some .local)(ha:DA X E [a,b] fa)
  (hw:swappedStores [.Tuple [.Name x px,.Name y py] kt pt] (.Tuple [a,b] k2 pt2) X.env=pure (some [x,y]))
  (hs:swapsWithSole [.Tuple [.Name x px,.Name y py] kt pt] (.Tuple [a,b] k2 pt2) pos.line X.env=pure false:=by rfl) :
  DS X E He η (.Assign [.Tuple [.Name x px,.Name y py] kt pt] (.Tuple [a,b] k2 pt2) pos) (qS i j fa):=by
 refine⟨?_⟩;refine bP (IV hc hN hi hj hij hx hy ha.o hw hs) λD σ H z9=>?_;obtain⟨Ha,ρ,h,q⟩:=z9;refine⟨Ha,ρ,h.g.sub,h.rd,?_⟩
 unfold qS at q;cases e1:fa ρ with
 |stuck=>rw[e1]at q;exact q|exn x=>rw[e1]at q;exact λC ox H' Ha' g ex=>q C ox H' Ha' (h.g.trans g) ex
 |ok ds=>
  rw[e1]at q;intro vs H1 H01 g1 r1
  match ds,r1,q with
  |[x,y],r1,q=>
   obtain⟨v,r',rfl,h1,h2⟩:=aE.mp r1;obtain⟨u,r'',rfl,h3,h4⟩:=aE.mp h2;rw[Reps.nil_iff.mp h4];exact⟨v,u,rfl,q _ H1 H01 g1.z (((h.grow g1).put h1).put h3)⟩
  |[],_,q=>exact q.elim
  |[_],_,q=>exact q.elim
  |_::_::_::_,_,q=>exact q.elim
end
def kM{K:Px}:qH K "int":=by
 intro S hS;simp only[P9,SA,or_false]at hS;rcases hS with rfl|rfl|rfl|rfl|rfl|rfl|rfl<;>first|rfl|decide +kernel
def jx{K:Px}:qH K "bool":=by
 intro S hS;simp only[P9,SA,or_false]at hS;rcases hS with rfl|rfl|rfl|rfl|rfl|rfl|rfl<;>first|rfl|decide +kernel
def kL{K:Px}:qH K "str":=by
 intro S hS;simp only[P9,SA,or_false]at hS;rcases hS with rfl|rfl|rfl|rfl|rfl|rfl|rfl<;>first|rfl|decide +kernel
def eK{K:Px}:qH K "tuple":=by
 intro S hS;simp only[P9,SA,or_false]at hS;rcases hS with rfl|rfl|rfl|rfl|rfl|rfl|rfl<;>first|rfl|decide +kernel
def gF{K:Px}:qH K "list":=by
 intro S hS;simp only[P9,SA,or_false]at hS;rcases hS with rfl|rfl|rfl|rfl|rfl|rfl|rfl<;>first|rfl|decide +kernel
section
variable {X:Cx}{E:XK}{He η:Hp}{e a b c:Qc}{f g h:al}{pos:Pos}
def dv(i:Nat){x:PY}(hN:X.N[i]?=some x:=by rfl)(hv:wJ X.env.scope x:=by first|exact PR rfl|exact T9 (PR rfl)|exact T9 (T9 rfl))(hd:(x==("__debug__" : PY))=false:=by decide)
  (hcd:(x==("__classdict__" : PY))=false:=by decide):DE X E (.Name x pos) (aa i):=DP hN hv hd hcd
def uO(K:Px)(mg:PY->Option Pw)(x:PY)(d:D):Prop:=∃v u,mg x=some u/\bo v u/\∀H,Rep K H d v
def bp{x:PY}{d:D}(k:uO X.K X.mg x d)(hg:Gl X x)(hd:(x==("__debug__" : PY))=false:=by decide):DE X E (.Name x pos) (dC d):=by
 obtain⟨v,u,h1,h2,h3⟩:=k;exact G2 hg h1 h2 h3 hd
def dG{K:Px}{mg:PY->Option Pw}{x:PY}{i:Int}{t:Tok}(h:mg x=some (.int i t)):uO K mg x (.int i):=⟨.int i,_,h,⟨t,rfl⟩,λ_=>ri _⟩
def FJ{K:Px}{mg:PY->Option Pw}{x:PY}{i:PY}{t:Tok}(h:mg x=some (.str i t)):uO K mg x (.str i):=⟨.str i,_,h,⟨t,rfl⟩,λ_=>Rep.str_iff.mpr rfl⟩
def FI{K:Px}{mg:PY->Option Pw}{x:PY}{a:Py}{od:Option Py}{its:Array Pw}{n:Nat}{sl:Array (Option Pw)}{ds:ac}{vs:ad}(h:mg x=some (.ref a))(l:K.lookup a=some ⟨.type "tuple",od,.seq its n,sl⟩)
  (hv:bG vs its.toList)(hz:its.size<=sizeLine)(hd:∀H,Reps K H ds vs):uO K mg x (.tup ds):=⟨.ref a,_,h,rfl,λH=>aJ.mpr ⟨a,vs,rfl,.inr ⟨_,its,n,l,rfl,rfl,hz,hv⟩,hd H⟩⟩
def gQ(op op':D->D->ai D)(f g h:al):al:=λρ=>(f ρ).bind λx=>(g ρ).bind λy=>(op x y).bind λz=>match z with
 |.bl true=>(h ρ).bind λw=>op' y w
 |.bl false=>.ok (.bl false)
 |_=>.stuck
def qE(r:R2)(o:D->D->ai D):Prop:=∀(K:Px) (x y:D) (v u:V) (H Ha:Hp) (Q:VK) (d:D),aB Ha H->Rep K Ha x v->Rep K Ha y u->o x y=.ok d->(∀w,Rep K Ha d w->Q w H)->r v u H Q
def fU{gv:Int->Int->V}{g:Int->Int->D}(hg:∀K H i j,Rep K H (g i j) (gv i j)):qE (Eb gv) (vT (λ_ _=>true) g):=by
 intro K x y v u H Ha Q d hs r1 r2 e q;unfold vT at e;cases x with
 |int i=>
  cases y with|int j=>simp only[if_pos]at e;cases e;exact⟨i,j,az.mp r1,az.mp r2,q _ (hg _ _ i j)⟩| _=>cases e
 |_=>cases e
def qF(o:D->D->ai D):Prop:=∀x y,∀z,o x y≠.exn z
def nG{r r':R2}{o o':D->D->ai D}(p:qE r o)(p':qE r' o')(n:qF o)(n':qF o')(σ:L2.St)(H:Hp)(Q:VK)(q:tD X.K E (gQ o o' f g h) σ H Q) :
  wY r r' (tD X.K E f) (tD X.K E g) (tD X.K E h) σ H Q:=by
 obtain⟨Ha,ρ,hs,hr,q⟩:=q;refine⟨Ha,ρ,hs,hr,?_⟩;unfold gQ at q;cases e1:f ρ with
 |stuck|exn x=>rw[e1]at q;exact q
 |ok x=>
  rw[e1]at q;intro v H1 H01 g1 r1;refine⟨H01,ρ,g1.sub,hr.mono g1.z,?_⟩;replace q:=post.grow (r:=(g ρ).bind λy=>(o x y).bind λz=>match z with
   |.bl true=>(h ρ).bind λw=>o' y w
   |.bl false=>.ok (.bl false)
   |_=>.stuck) q g1
  cases e2:g ρ with
  |stuck|exn x=>rw[e2]at q;exact q
  |ok y=>
   rw[e2]at q;intro u H2 H02 g2 r2;replace q:=post.grow (r:=(o x y).bind λz=>match z with
    |.bl true=>(h ρ).bind λw=>o' y w
    |.bl false=>.ok (.bl false)
    |_=>.stuck) q g2
   cases e3:o x y with
   |stuck=>rw[e3]at q;exact q.elim|exn z=>exact absurd e3 (n x y z)
   |ok z=>
    rw[e3]at q;refine p X.K x y v u H2 H02 _ z g2.sub (r1.mono g2.z) r2 e3 λw rw'=>?_;cases z with
    |bl b=>
     rw[aI.mp rw'];refine⟨b,rfl,?_⟩;cases b with
     |false=>rw[if_neg Rk];exact q _ H2 H02 (aU.refl g2.sub) (rb _)
     |true=>
      rw[if_pos rfl];refine⟨H02,ρ,g2.sub,(hr.mono g1.z).mono g2.z,?_⟩;replace q:post X.K E H2 H02 ((h ρ).bind λw=>o' y w) Q:=q;cases e4:h ρ with
      |stuck|exn x=>rw[e4]at q;exact q
      |ok w2=>
       rw[e4]at q;intro v3 H3 H03 g3 r3;replace q:=post.grow (r:=o' y w2) q g3;cases e5:o' y w2 with
       |stuck=>rw[e5]at q;exact q.elim|exn z=>exact absurd e5 (n' y w2 z)
       |ok d=>
        rw[e5]at q;exact p' X.K y w2 u v3 H3 H03 Q d g3.sub (r2.mono g3.z) r3 e5 λw3 r5=>q w3 H3 H03 (aU.refl g3.sub) r5
    |_=>exact q.elim
def DR{op op':CmpOp}{r r':R2}{o o':D->D->ai D}(ho:eT X (Qz op) r)(ho':eT X (Qz op') r')(p:qE r o)(p':qE r' o')(n:qF o)(n':qF o')(ha:DE X E a f)(hb:DE X E b g)(hc:DE X E c h)
  (hm:lastMarks [op,op'] [b,c]=false:=by with_unfolding_all rfl):DE X E (.Compare a [op,op'] [b,c] pos) (gQ o o' f g h):=⟨aW (Cz ho ho' ha.o hb.o hc.o hm) (nG p p' n n')⟩
def wj{op op':CmpOp}{r r':R2}{o o':D->D->ai D}(ho:eT X (Qz op) r)(ho':eT X (Qz op') r')(p:qE r o)(p':qE r' o')(n:qF o)(n':qF o')(ha:DE X E a f)(hb:DE X E b g)(hc:DE X E c h)
  (hm:lastMarks [op,op'] [b,c]=false:=by with_unfolding_all rfl):DT X E (.Compare a [op,op'] [b,c] pos) (gQ o o' f g h):=by
 refine⟨?_⟩;refine iD (Cd ho ho' ha.o hb.o hc.o hm) λσ H Q q=>?_;have w:tD X.K E (gQ o o' f g h) σ H λx H'=>∃k,x=.bl k/\Q k H':=by
  obtain⟨Ha,ρ,hs,hr,q⟩:=q;refine⟨Ha,ρ,hs,hr,?_⟩;cases e1:gQ o o' f g h ρ with
  |stuck|exn x=>rw[e1]at q;exact q
  |ok d=>
   rw[e1]at q;intro v H1 H01 g1 r1;cases d with|bl b=>rw[aI.mp r1];exact⟨b,rfl,q H1 H01 g1⟩| _=>exact q.elim
 exact nG p p' n n' σ H _ w
def fV{c:Int->Int->Bool}{g:Int->Int->D}:qF (vT c g):=by
 intro x y z;unfold vT;cases x<;>cases y<;>simp<;>split<;>simp
end
def jY(i:Nat):Ev->Nat:=λρ=>match ρ[i]? with
 |some (.sh (.int j))=>j.natAbs+1
 |_=>0
section
variable {X:Cx}{E:XK}{a b:Qc}{f g:al}{pos:Pos}
def cg(x y:D):ai D:=match x,y with
 |.int i,.int j=>if dW i j=true then .ok (.int (i*j)) else .stuck
 |_,_=>.stuck
def cX(ha:DE X E a f)(hb:DE X E b g):DE X E (.BinOp a .Mult b pos) (ae f g cg):=sP Fn (by
 intro x y v u H Ha Q hs r1 r2 q;unfold cg at q;cases x with
 |int i=>
  cases y with
  |int j=>
   by_cases h:dW i j=true
   .simp only[if_pos h]at q
    exact⟨i,j,az.mp r1,az.mp r2,dW.ok h,bA hs q (ri _)⟩
   .simp only[if_neg h]at q;exact q.elim
  |_=>exact q.elim
 |_=>exact q.elim) ha hb
end
def JB(K:Px)(tg:Ev->D->ai Ev):TG:=λv σ H Q=>∃He η,tG K He η tg v σ H Q
def gL:ac->Option (bi)
 |[]=>some []
 |.str x::r=>(gL r).map (x::·)
 |_=>none
theorem u3{K:Px}{H:Hp}:∀{ds:ac}{ys:bi}{vs:ad}{us:List Pw},gL ds=some ys->Reps K H ds vs->bG vs us->StrsAre us ys
 |[],ys,vs,us,h,r,q=>by
  cases h;rw[Reps.nil_iff.mp r]at q;cases q;exact .nil
 |d::ds,ys,vs,us,h,r,q=>by
  obtain⟨v,r',rfl,h1,h2⟩:=aE.mp r;cases q with
  |cons q1 q2=>
   cases d with
   |str x=>
    unfold gL at h;cases e:gL ds with
    |none=>rw[e]at h;cases h
    |some zs=>
     rw[e]at h;cases h;rw[Rep.str_iff.mp h1]at q1;obtain⟨t,rfl⟩:=q1;exact .cons _ _ (u3 e h2 q2)
   |_=>cases h
section
variable {X:Cx}{E:XK}{o e:Qc}{fo:al}{fa:Ev->ai (ac)}
def gG(z:PY)(ys:bi):Bool:=decide (z.length<=16)&&decide ((ys.map (·.length)).sum+ys.length<=1048576)
def LJ(K:Px):V->ad->Hp->VK->Prop:=λx xs H Q=>∃z p ds ys,x=.str z/\xs=[.ref p]/\Rep K H (.lst ds) (.ref p)/\gL ds=some ys/\gG z ys=true/\Q (.str (T7 z ys)) H
def Fx:OW X "str.join" (LJ X.K):=by
 intro π s σ H x xs v us Q I rx rs h;obtain⟨z,p,ds,ys,rfl,rfl,hr,hy,hf,q⟩:=h;obtain⟨t,rfl⟩:=rx;obtain⟨u,rfl,ru⟩:=rs.one;obtain⟨a,vs,its,ea,rfl,h1,h2,h3,h4,_⟩:=aZ I hr ru;unfold gG at hf;rw[Qg]at hf;exact join_listW h4 (by simpa using u3 hy h2 h3) (of_decide_eq_true hf.1) (of_decide_eq_true hf.2) λt' k=>⟨.str (T7 z ys),H,I.tok _,⟨_,rfl⟩,q⟩
def lQ(z:PY)(xs:ac):ai D:=match xs with
 |[.lst ds]=>match gL ds with
  |some ys=>if gG z ys=true then .ok (.str (T7 z ys)) else .stuck
  |none=>.stuck
 |_=>.stuck
def sQ(fo:al)(fa:Ev->ai (ac)):al:=λρ=>(fo ρ).bind λx=>match x with
 |.str z=>(fa ρ).bind λxs=>lQ z xs
 |_=>.stuck
def G1{apos cpos:Pos}(ho:DE X E o fo)(ha:DA X E [e] fa)
  (hbase:R4 o "join" X.env (eval o X.env)=eval o X.env:=by rfl)
  (hfew:((QZ cpos (PM [e] X.env)).all (λx=>!x.1)&&(SS cpos (RS [] X.env)).all (λx=>x.1.isSome)
  &&decide ([e].length+([]:List RH).length+(if([]:List RH).isEmpty then 0 else 1)<30))=true:=by exact fA rfl)
  (hline:(apos.endLine==cpos.line)=true:=by rfl) (hs:PM [e] X.env=(false,eval e X.env)::PM [] X.env:=by exact ba rfl) (hplain:(QZ cpos (PM [] X.env)).any (·.1)=false:=by exact bX rfl) :
  DE X E (.Call (.Attribute o "join" apos) [e] [] cpos) (sQ fo fa):=by
 refine⟨?_⟩;refine aW (rZ PySem.F.plainAttrs_str PySem.F.slot_str_join PySem.F.type_str_join Fx ho.o ha.o hbase hfew hline hs hplain) λσ H Q z9=>?_;obtain⟨Ha,ρ,hs,hr,q⟩:=z9;refine⟨Ha,ρ,hs,hr,?_⟩
 unfold sQ at q;cases e1:fo ρ with
 |stuck|exn x=>rw[e1]at q;exact q
 |ok x=>
  rw[e1]at q;intro v H1 H01 g1 r1;cases x with
  |str z=>
   rw[Rep.str_iff.mp r1];refine⟨rfl,H01,ρ,g1.sub,hr.mono g1.z,?_⟩;replace q:=post.grow (r:=(fa ρ).bind λxs=>lQ z xs) q g1;cases e2:fa ρ with
   |stuck|exn x=>rw[e2]at q;exact q
   |ok xs=>
    rw[e2]at q;intro us H2 H02 g2 r2;replace q:=post.grow (r:=lQ z xs) q g2;unfold lQ at q
    match xs,r2,q with
    |[.lst ds],r2,q=>
     obtain⟨w,r',rfl,k1,k2⟩:=aE.mp r2;rw[Reps.nil_iff.mp k2];obtain⟨p,vs,rfl,k3,k4⟩:=aF.mp k1;cases e3:gL ds with
     |none=>simp only[e3]at q;exact q.elim
     |some ys=>
      simp only[e3]at q
      by_cases c:gG z ys=true
      .rw[if_pos c]at q
       exact⟨z,p,ds,ys,rfl,rfl,k1.mono g2.sub,e3,c,bA g2.sub q (Rep.str_iff.mpr rfl)⟩
      .rw[if_neg c]at q;exact q.elim
    |[],_,q=>exact q.elim
    |d1::_::_,_,q=>cases d1<;>exact RY q
    |[.non],_,q=>exact q.elim
    |[.bl _],_,q=>exact q.elim
    |[.int _],_,q=>exact q.elim
    |[.str _],_,q=>exact q.elim
    |[.tup _],_,q=>exact q.elim
    |[.dic _ _],_,q=>exact q.elim
    |[.exc _],_,q=>exact q.elim
    |[.ob _ _],_,q=>exact q.elim
  |_=>exact q.elim
end
section
variable {X:Cx}{E:XK}{a:Qc}{f:al}{pos:Pos}
def NV:V->Option Int->Option Int->Hp->VK->Prop:=λx lo hi H Q=>∃z,x=.str z/\z.length<=sizeLine/\Q (.str (Us z lo hi)) H
def Iz:Eg X NV:=by
 intro π s σ H x v vl vu lo hi sl Q I rx hs pl pu h;obtain⟨z,rfl,hz,q⟩:=h;obtain⟨t,rfl⟩:=rx;have fin:∀t' k,EP X π σ Q (.str (Us z lo hi) t') { s with toks:=k }:=λt' k=>⟨.str (Us z lo hi),H,I.tok _,⟨_,rfl⟩,q⟩
 refine⟨"str",_,PySem.F.slot_str_getitem.lookup,typeIs_str s z t,?_⟩;cases pl with
 |none=>
  cases pu with|none=>exact wpAny_getItem_str_slice (l:=none) (u:=none) (st:=none) hs rfl (post_val_or_str ⟨Qh (TM z _ _) hz,fin⟩)|int j uj=>exact wpAny_getItem_str_slice (l:=none) (u:=some (j,uj)) (st:=none) hs rfl (post_val_or_str ⟨Qh (TM z _ _) hz,fin⟩)
 |int i ui=>
  cases pu with|none=>exact wpAny_getItem_str_slice (l:=some (i,ui)) (u:=none) (st:=none) hs rfl (post_val_or_str ⟨Qh (TM z _ _) hz,fin⟩)|int j uj=>exact wpAny_getItem_str_slice (l:=some (i,ui)) (u:=some (j,uj)) (st:=none) hs rfl (post_val_or_str ⟨Qh (TM z _ _) hz,fin⟩)
noncomputable def oT(x:D) (l h:Option Int):ai D:=match x with
 |.lst ds=>.ok (.lst (rK ds l h))
 |.str z=>if z.length<=line then .ok (.str (Us z l h)) else .stuck
 |.tup ds=>if HT.sIx ds.length 0 l=0/\HT.sIx ds.length ds.length h=ds.length then .stuck else .ok (.tup (rK ds l h))
 |_=>.stuck
def AR(f:al)(lo hi:Ev->ai (Option Int)):al:=λρ=>(f ρ).bind λx=>(lo ρ).bind λl=>(hi ρ).bind λh=>oT x l h
def sO{lo hi:Option Qc}{p2:Pos}{fl fh:Ev->ai (Option Int)}(ha:DE X E a f)(hl:DO X E lo fl)(hh:DO X E hi fh):DE X E (.Subscript a (.Slice lo hi none p2) pos) (AR f fl fh) :=
 ⟨aW (vi (Eg.or yC (Eg.or Iz Iy)) ha.o hl.o hh.o) (u5 (m:=oT) λx v l h H Ha Q hs r q=>by
  cases x with
  |lst ds=>
   obtain⟨p,vs,rfl,h1,h2⟩:=aF.mp r;exact .inl ⟨p,vs,rfl,aB.sqL hs h1,λn hn=>q _ _ _ (bw hs hn) (aF.mpr ⟨n,_,rfl,dR.of aG,(h2.cut l h).mono (bw hs hn).z⟩)⟩
  |str z=>
   unfold oT at q
   by_cases c:z.length<=line
   .simp only[if_pos c]at q
    exact .inr (.inl ⟨z,Rep.str_iff.mp r,dF c,bA hs q (Rep.str_iff.mpr rfl)⟩)
   .simp only[if_neg c]at q;exact q.elim
  |tup ds=>
   unfold oT at q
   by_cases c:HT.sIx ds.length 0 l=0/\HT.sIx ds.length ds.length h=ds.length
   .simp only[if_pos c]at q;exact q.elim
   .simp only[if_neg c]at q
    obtain⟨p,vs,rfl,h1,h2⟩:=aJ.mp r;exact .inr (.inr ⟨p,vs,rfl,aB.sqT hs h1,by rw[←h2.length];exact c,λn hn=>q _ _ _ (bw hs hn) (aJ.mpr ⟨n,_,rfl,jd.of aG,(h2.cut l h).mono (bw hs hn).z⟩)⟩)
  |_=>exact q.elim)⟩
end
def Ov(z:PY):It:=⟨λi _=>i<z.cps.size,λi H x H'=>H'=H/\∃c,z.cps[i]?=some c/\x=.str ⟨#[c]⟩,λi _=>z.cps.size<=i⟩
def wV{P:Qw}{w:QK}{K:Px}{tg:Qc}(z:PY)(t:Tok)(it:Py):yj P w K tg (Ov z) [it] it (λi h=>h.IsStrIter it "str_ascii_iterator" z t i) where
 mem:=by simp
 obj:=λi h st b hb=>by
  have e:b=it:=by simpa using hb
  subst e;obtain⟨o,e,c,d⟩:=st;exact⟨o,e,λv z=>by rw[d]at z;cases z⟩
 keep:=λi h h' st k=>let ⟨o,ho,r⟩:=st;⟨o,k it (by simp) o ho,r⟩
 item:=by
  intro X hP hw hK hc i π s σ H E I hf st hg;subst hP hw hK;have hg':i<z.cps.size:=hg;obtain⟨f0,f1,f2,f3,f4,f5⟩:=hf it (by simp);refine wpAny_pyNext_ascii_item st (c:=z.cps[i]) (by simp[hg']) λh' st' sb=>?_;have I1:Inv X π σ H { s with heap:=h',toks:=s.toks+1 }:=I.turned (t':=s.toks+1) (λb o hb e=>(sb.2 b hb).trans e) f0 f1 f3 f4 f5;obtain⟨o,e,c,d⟩:=id st';exact⟨_,rfl,vX (s:={ s with heap:=h',toks:=s.toks+1 }) e c d (by decide) ⟨.str ⟨#[z.cps[i]]⟩,H,I1,⟨_,rfl⟩,⟨rfl,_,by simp[hg'],rfl⟩,st',λb hb=>(hf b hb).1⟩⟩
 done:=by
  intro X hP hw hK hc i π s σ H E I hf st hg;subst hP hw hK;have hg':z.cps.size<=i:=hg;obtain⟨f0,f1,f2,f3,f4,f5⟩:=hf it (by simp);exact wpAny_pyNext_ascii_end (I.ok.hd hc) st (by simp[hg']) λh' eb=>⟨rfl,I.turned (t':=s.toks) (λb o hb e=>eb b o hb e) f0 f1 f3 f4 f5⟩
 self:=λ_ _ _ _ _ st h=>wpAny_pyIter_striter_ascii st h
def zX{P:Qw}{w:QK}{K:Px}{tg:Qc}(z:PY)(t:Tok)(it:Py):yj P w K tg (Ov z) [it] it (λi h=>h.IsStrIter it "str_iterator" z t i) where
 mem:=by simp
 obj:=λi h st b hb=>by
  have e:b=it:=by simpa using hb
  subst e;obtain⟨o,e,c,d⟩:=st;exact⟨o,e,λv z=>by rw[d]at z;cases z⟩
 keep:=λi h h' st k=>let ⟨o,ho,r⟩:=st;⟨o,k it (by simp) o ho,r⟩
 item:=by
  intro X hP hw hK hc i π s σ H E I hf st hg;subst hP hw hK;have hg':i<z.cps.size:=hg;obtain⟨f0,f1,f2,f3,f4,f5⟩:=hf it (by simp);refine wpAny_pyNext_wide_item st (c:=z.cps[i]) (by simp[hg']) λh' st' sb=>?_;have I1:Inv X π σ H { s with heap:=h',toks:=s.toks+1 }:=I.turned (t':=s.toks+1) (λb o hb e=>(sb.2 b hb).trans e) f0 f1 f3 f4 f5;obtain⟨o,e,c,d⟩:=id st';exact⟨_,rfl,vX (s:={ s with heap:=h',toks:=s.toks+1 }) e c d (by decide) ⟨.str ⟨#[z.cps[i]]⟩,H,I1,⟨_,rfl⟩,⟨rfl,_,by simp[hg'],rfl⟩,st',λb hb=>(hf b hb).1⟩⟩
 done:=by
  intro X hP hw hK hc i π s σ H E I hf st hg;subst hP hw hK;have hg':z.cps.size<=i:=hg;obtain⟨f0,f1,f2,f3,f4,f5⟩:=hf it (by simp);exact wpAny_pyNext_wide_end (I.ok.hd hc) st (by simp[hg']) λh' eb=>⟨rfl,I.turned (t':=s.toks) (λb o hb e=>eb b o hb e) f0 f1 f3 f4 f5⟩
 self:=λ_ _ _ _ _ st h=>wpAny_pyIter_striter_wide st h
def N4(tl:TE):TI:=λσ H R=>tl σ H λx H1=>∃z,x=.str z/\R (Ov z) H1
def I0{X:Cx}{tg l:Qc}{tl:TE}(hl:PE X l tl):PI X tg l (N4 tl):=by
 intro π s σ H R I h;refine cT (hl π s σ H _ I h) λv s1 ⟨x,H1,I1,r1,q1⟩=>?_;obtain⟨z,rfl,q⟩:=q1;obtain⟨t,rfl⟩:=r1;have fpo:∀b∈[s1.heap.objs.size],mj X π H1 b:=λb hb=>by
  have e:b=s1.heap.objs.size:=by simpa using hb
  subst e;exact I1.fpOk (P4 _) (I1.hok.fresh (P4 _))
 cases ha:z.cps.all (· < 128) with|false=>exact wpAny_pyIter_wide ha ⟨s1.heap.objs.size,[s1.heap.objs.size],_,_,H1,rfl,I1.kept (t':=s1.toks) λb o e=>P5 _ e,zX z t _,⟨_,QR _ rfl,rfl,rfl⟩,fpo,q⟩|true=>exact wpAny_pyIter_ascii ha ⟨s1.heap.objs.size,[s1.heap.objs.size],_,_,H1,rfl,I1.kept (t':=s1.toks) λb o e=>P5 _ e,wV z t _,⟨_,QR _ rfl,rfl,rfl⟩,fpo,q⟩
def jk(z:PY):ac:=z.cps.toList.map λc=>.str ⟨#[c]⟩
def kH(z:PY):(jk z).length=z.cps.size:=by unfold jk;simp
section
variable {X:Cx}{E:XK}
def LQ(K:Px):ad->Hp->VK->Prop:=λxs H Q=>∃(p:Py) (bs:List Bool),xs=[.ref p]/\dR K H p (bs.map V.bl)/\Q (.bl (bs.all id)) H
theorem tm:∀bs:List Bool,(Q5 bs.length).all (λi=>bs.getD i false)=bs.all id
 |[]=>rfl
 |b::r=>by
  rw[Qj,RW,Si,UG,Si,←tm r];rfl
def DZ(hc:X.calm=true):jO X (.builtin "all") (LQ X.K):=by
 intro π s σ H xs us Q I r h;obtain⟨p,bs,rfl,hq,q⟩:=h;obtain⟨u,rfl,rx⟩:=rQ r;cases rx;obtain⟨its,rv,pl,hz⟩:=I.list hq;have hlen:=rv.length;rw[Pz]at hlen;have hne:p≠s.heap.objs.size:=QD pl.lt;refine call_all_walk (wpAny_pyIter_list pl.isList ?_);have pl2:(s.heap.push { cls:=.type "list_iterator",data:=.fields #[.ref p,.int 0 0] }).IsList p its.toArray:=by
  obtain⟨o,k1,k2⟩:=pl.isList;exact⟨o,P5 _ k1,k2⟩
 refine⟨s.heap.objs.size,_,_,_,_,_,λi=>bs.getD i false,rfl,Walks.list (A:=X.A.in1) (I.ok.hd hc) s.heap.objs.size p hne its.toArray,⟨⟨_,QR _ rfl,rfl,rfl⟩,pl2⟩,?_,λh' tk hk=>?_⟩
 .intro i v s' Q' E' hv hQ
  have hv':its[i]?=some v:=by simpa using hv
  have hi:i<its.length:=(PH.mp hv').1;obtain⟨w,e1,e2⟩:=rv.get (show(bs.map V.bl)[i]?=some (V.bl (bs.getD i false)) by
   rw[PN,PL (by omega)];simp[List.getD,PL (show i<bs.length by omega)])
  rw[hv']at e1;cases e1;obtain rfl:v=Ra _:=e2;exact Q8 hQ
 .have hall:(Q5 its.toArray.size).all (λi=>bs.getD i false)=bs.all id:=by
   rw[Qi,←hlen];exact tm bs
  rw[hall];exact⟨.bl _,H,I.kept (t':=tk) (λb o e=>hk b o (by simp only[QP];exact QD (Qk e)) (P5 _ e)),rfl,q⟩
def gK:ac->Option (List Bool)
 |[]=>some []
 |.bl b::r=>(gK r).map (b::·)
 |_=>none
theorem sV{K:Px}{H:Hp}:∀{ds:ac}{bs:List Bool}{vs:ad},gK ds=some bs->Reps K H ds vs->vs=bs.map V.bl
 |[],bs,vs,h,r=>by cases h;exact Reps.nil_iff.mp r
 |d::ds,bs,vs,h,r=>by
  obtain⟨v,r',rfl,h1,h2⟩:=aE.mp r;cases d with
  |bl x=>
   unfold gK at h;cases e:gK ds with
   |none=>rw[e]at h;cases h
   |some zs=>
    rw[e]at h;cases h;rw[aI.mp h1,sV e h2];rfl
  |_=>cases h
def G6(x:D):ai D:=match x with
 |.lst ds=>match gK ds with
  |some bs=>.ok (.bl (bs.all id))
  |none=>.stuck
 |_=>.stuck
def KQ:jP X E (LQ X.K) (m1 G6):=wD λx v H Ha Q hs r q=>by
 cases x with
 |lst ds=>
  unfold G6 at q;obtain⟨p,vs,rfl,h1,h2⟩:=aF.mp r;cases e:gK ds with
  |none=>simp only[e]at q;exact q.elim
  |some bs=>
   simp only[e]at q;exact⟨p,bs,rfl,by rw[←sV e h2];exact aB.sqL hs h1,bA hs q (rb _)⟩
 |_=>exact q.elim
end
end DL
namespace L2
open PySem PySem.Spec PyProof.Rows
section
variable {κ:Type}[DecidableEq κ]
def nO(kvs:List (κ×V))(k:κ):Option V:=(kvs.find? λkv=>decide (kv.1=k)).map (·.2)
def gZ(kvs:List (κ×V))(k:κ)(v:V):List (κ×V) :=
 if(kvs.any λkv=>decide (kv.1=k))=true then kvs.map (λkv=>if kv.1=k then(kv.1,v) else kv) else kvs++[(k,v)]
def ll{p:κ×V}{r:List (κ×V)}{k:κ}(e:p.1=k):nO (p::r) k=some p.2:=by simp[nO,Sn,e]
def jg{p:κ×V}{r:List (κ×V)}{k:κ}(e:¬p.1=k):nO (p::r) k=nO r k:=by simp[nO,Sn,e]
theorem uV(k:κ):∀kvs:List (κ×V),(kvs.any λkv=>decide (kv.1=k))=(nO kvs k).isSome
 |[]=>rfl
 |p::r=>by
  rw[R5]
  by_cases e:p.1=k
  .simp only[ll e,decide_eq_true e,Bool.true_or,RU]
  .rw[jg e,decide_eq_false e,Uq];exact uV k r
def jv(kvs:List (κ×V))(k:κ)(v:V):(gZ kvs k v).length<=kvs.length+1:=by
 unfold gZ;split
 .rw[Pz];omega
 .rw[Qs,Qj,SJ];omega
def rN.isSome_eq{o:Option V}{u:Option Pw}(r:rN o u):o.isSome=u.isSome:=by
 cases o with
 |none=>cases u with
  |none=>rfl
  |some _=>exact(show False from r).elim
 |some _=>cases u with
  |none=>exact(show False from r).elim
  |some _=>rfl
def rN.getD{o:Option V}{u:Option Pw}{d:V}{d':Pw}(r:rN o u)(rd:bo d d'):bo (o.getD d) (u.getD d'):=by
 cases o with
 |none=>cases u with
  |none=>exact rd
  |some _=>exact(show False from r).elim
 |some _=>cases u with
  |none=>exact(show False from r).elim
  |some _=>exact r
def KV.val{kvs:List (κ×V)}{vs:List (κ×Pw)}(r:KV kvs vs)(k:κ):rN (nO kvs k) (valueAt vs k):=by
 unfold KV at r
 induction r with
 |nil=>exact RT
 |@cons p q ps qs h t ih=>
  obtain⟨h1,h2⟩:=h
  by_cases e:p.1=k
  .have e':q.1=k:=h1.symm.trans e
   have b:valueAt (q::qs) k=some q.2:=by simp[valueAt,Sn,e']
   rw[ll e,b];exact h2
  .have e':¬q.1=k:=λz=>e (h1.trans z)
   have b:valueAt (q::qs) k=valueAt qs k:=by simp[valueAt,Sn,e']
   rw[jg e,b];exact ih
def KV.any{kvs:List (κ×V)}{vs:List (κ×Pw)}(r:KV kvs vs)(k:κ):(kvs.any λkv=>decide (kv.1=k))=vs.any λkv=>decide (kv.1=k):=by
 unfold KV at r
 induction r with|nil=>rfl|cons h t ih=>rw[R5,R5,ih,h.1]
def KV.repl{kvs:List (κ×V)}{vs:List (κ×Pw)}(r:KV kvs vs)(k:κ){y:V}{u:Pw}(ry:bo y u) :
  KV (kvs.map λkv=>if kv.1=k then(kv.1,y) else kv) (vs.map λkv=>if kv.1=k then(kv.1,u) else kv):=by
 unfold KV at r ⊢
 induction r with
 |nil=>exact .nil
 |@cons p q ps qs h t ih=>
  rw[PQ,PQ];refine .cons ?_ ih;obtain⟨h1,h2⟩:=h
  by_cases e:p.1=k
  .rw[if_pos e,if_pos (h1.symm.trans e)];exact⟨h1,ry⟩
  .rw[if_neg e,if_neg (λz=>e (h1.trans z))];exact⟨h1,h2⟩
def KV.put{kvs:List (κ×V)}{vs:List (κ×Pw)}(r:KV kvs vs)(k:κ){y:V}{u:Pw}(ry:bo y u):KV (gZ kvs k y) (stored vs k u):=by
 unfold gZ stored;rw[r.any k]
 by_cases e:(vs.any λkv=>decide (kv.1=k))=true
 .rw[if_pos e,if_pos e];exact r.repl k ry
 .rw[if_neg e,if_neg e];exact Paired.snoc r ⟨rfl,ry⟩
def KV.length{kvs:List (κ×V)}{vs:List (κ×Pw)}(r:KV kvs vs):kvs.length=vs.length:=Uj r
end
def pI{P:Qw}{w:QK}{k:dI}{u:Pw}(r:bo (kV k) u):(cI P w).is k u=true:=by
 cases k with|inl i=>obtain⟨t,e⟩:=(show ∃t,u=Rn i t from r);subst e;exact vK P w i t|inr x=>obtain⟨t,e⟩:=(show ∃t,u=Rm x t from r);subst e;exact vJ P w x t
theorem su{P:Qw}{w:QK}:∀{ks:List dI}{us:List Pw},bG (ks.map kV) us->ItemsAre (cI P w) ks us
 |[],_,r=>by rw[Q3]at r;cases r;exact .nil
 |k::ks,_,r=>by
  rw[PQ]at r;cases r with|cons h t=>exact .cons (pI h) (su t)
abbrev KT(H:Hp):List (List dI×V)->List (List dI×Py×Pw)->Prop:=Paired λp q=>p.1=q.1/\H q.2.1=some (.tup (p.1.map kV))/\bo p.2 q.2.2
def KT.val{H:Hp}{kvs:List (List dI×V)}{xs:List (List dI×Py×Pw)}(r:KT H kvs xs)(k:List dI):rN (nO kvs k) ((atKey xs k).map (·.2)):=by
 induction r with
 |nil=>exact RT
 |@cons p q ps qs h t ih=>
  obtain⟨h1,_,h2⟩:=h
  by_cases e:p.1=k
  .have e':q.1=k:=h1.symm.trans e
   have b:atKey (q::qs) k=some q.2:=by simp[atKey,Sn,e']
   rw[ll e,b];exact h2
  .have e':¬q.1=k:=λz=>e (h1.trans z)
   have b:atKey (q::qs) k=atKey qs k:=by simp[atKey,Sn,e']
   rw[jg e,b];exact ih
def KT.repl{H:Hp}{kvs:List (List dI×V)}{xs:List (List dI×Py×Pw)}(r:KT H kvs xs)(k:List dI){y:V}{u:Pw}(ry:bo y u) :
  KT H (kvs.map λkv=>if kv.1=k then(kv.1,y) else kv) (xs.map (putAt k u)):=by
 induction r with
 |nil=>exact .nil
 |@cons p q ps qs h t ih=>
  rw[PQ,PQ];refine .cons ?_ ih;obtain⟨h1,h2,h3⟩:=h;unfold putAt
  by_cases e:p.1=k
  .rw[if_pos e,if_pos (h1.symm.trans e)];exact⟨h1,h2,ry⟩
  .rw[if_neg e,if_neg (λz=>e (h1.trans z))];exact⟨h1,h2,h3⟩
def KT.put{H:Hp}{kvs:List (List dI×V)}{xs:List (List dI×Py×Pw)}(r:KT H kvs xs)(k:List dI){b:Py}{y:V}{u:Pw}(hb:H b=some (.tup (k.map kV)))(ry:bo y u) :
  KT H (gZ kvs k y) (storedH xs k b u):=by
 have e:(kvs.any λkv=>decide (kv.1=k))=(atKey xs k).isSome:=by
  rw[uV,(r.val k).isSome_eq,Ry]
 unfold gZ storedH;rw[e]
 by_cases q:(atKey xs k).isSome=true
 .rw[if_pos q,if_pos q];exact r.repl k ry
 .rw[if_neg q,if_neg q];exact Paired.snoc r ⟨rfl,hb,ry⟩
def KT.keeps{H H':Hp}{kvs:List (List dI×V)}{xs:List (List dI×Py×Pw)}(r:KT H kvs xs)(ht:∀b ys,H b=some (.tup ys)->H' b=some (.tup ys)):KT H' kvs xs :=
 jM r λ_ _ z=>⟨z.1,ht _ _ z.2.1,z.2.2⟩
section
variable {P:Qw}{w:QK}{H:Hp}{h:Qo}{a:Py}
def HC{u:HO}(ok:lj P w H h)(e:Rd H a u):cv P w H h a u:=e.ok ok
def pW{kvs:List (dI×V)}(ok:lj P w H h)(e:Rd H a (.dK kvs)):kvs.length<=sizeLine/\(a==Q4)=false/\∃vs,KV kvs vs/\h.DictOf (cI P w) a vs :=
 show cv P w H h a (.dK kvs) from HC ok e
def HL{kvs:List (dI×V)}(ok:lj P w H h)(e:H a=some (.dK kvs)):kvs.length<=sizeLine/\(a==Q4)=false/\∃vs,KV kvs vs/\h.DictOf (cI P w) a vs:=pW ok (.inl e)
def mI{ks:List dI}(ok:lj P w H h)(e:H a=some (.tup (ks.map kV))):(tupleKind (cI P w)).is h ks a:=by
 obtain⟨_,its,r,o,h1,h2,n,h3⟩:=(show cv P w H h a (.tup (ks.map kV)) from ok a _ e)
 exact⟨o,its.toArray,n,h1,h2,h3,by simpa using su r⟩
def pS{kvs:List (List dI×V)}(ok:lj P w H h)(e:Rd H a (.dT kvs)):kvs.length<=sizeLine/\(a==Q4)=false /\
  ∃xs,KT H kvs xs/\h.DictOfH (tupleKind (cI P w)) a xs:=by
 obtain⟨z,y,xs,r,o,es,ep,h1,h2,h3,h4,h5⟩:=(show cv P w H h a (.dT kvs) from HC ok e)
 refine⟨z,y,xs,r,o,es,ep,h1,h2,h3,h4,λx hx=>?_,h5⟩;have all:∀{l:List (List dI×V)}{m:List (List dI×Py×Pw)},KT H l m->∀x∈m,(tupleKind (cI P w)).is h x.1 x.2.1:=by
  intro l m q
  induction q with
  |nil=>intro x hx;exact nomatch hx
  |@cons p q ps qs hq t ih=>
   intro x hx;rcases P9.mp hx with e|hx
   .subst e
    exact mI ok (by rw[←hq.1];exact hq.2.1)
   .exact ih x hx
 exact all r x hx
def M0{kvs:List (List dI×V)}(ok:lj P w H h)(e:H a=some (.dT kvs)):kvs.length<=sizeLine/\(a==Q4)=false /\
  ∃xs,KT H kvs xs/\h.DictOfH (tupleKind (cI P w)) a xs:=pS ok (.inl e)
end
def qI(H:Hp)(a:Py)(y:V)(r:Option V):Prop :=
 (∃kvs k,Rd H a (.dK kvs)/\y=kV k/\r=nO kvs k)∨∃kvs k b,Rd H a (.dT kvs)/\y=.ref b/\H b=some (.tup (k.map kV))/\r=nO kvs k
noncomputable def A5(H:Hp) (a:Py) (y v:V) (H':Hp):Prop :=
 (∃kvs k,H a=some (.dK kvs)/\y=kV k/\kvs.length<sizeLine/\H'=upd H a (.dK (gZ kvs k v))) ∨
 ∃kvs k b,H a=some (.dT kvs)/\y=.ref b/\H b=some (.tup (k.map kV))/\kvs.length<sizeLine/\H'=upd H a (.dT (gZ kvs k v))
theorem A5.k{H:Hp}{a:Py}{kvs:List (dI×V)}{k:dI}{v:V}(e:H a=some (.dK kvs))(hl:kvs.length<sizeLine):A5 H a (kV k) v (upd H a (.dK (gZ kvs k v))):=.inl ⟨kvs,k,e,rfl,hl,rfl⟩
section
variable {X:Cx}{π:List (Py×Obj)}{σ:St}{H:Hp}{s:PF}{a:Py}{y v:V}{u r:Pw}{o:Option V}{A:QV}{E:Pw->PF->Prop}
def Inv.big(I:Inv X π σ H s):Q4<s.heap.objs.size:=by
 have h:P8<s.heap.objs.size:=(I.mod.glob.keeps I.bk).lt;exact Tg (by decide) h
def AQ{Q:Pw->PF->Prop}(hu:A.units+1<RI)(I:Inv X π σ H s)(g:qI H a y (some v))(ry:bo y u)(h:∀w' s',Inv X π σ H s'->bo v w'->Q w' s') :
  Qq (Ql X.prog X.w) A (getItem (.ref a) u) Q E s:=by
 rcases g with⟨kvs,k,e,ey,l⟩|⟨kvs,k,b,e,ey,eb,l⟩
 .subst ey
  obtain⟨z,hd,vs,rel,dd⟩:=pW I.hok e;obtain⟨w',hw,rw'⟩:=me (v:=v) (o:=valueAt vs k) (by rw[l];exact rel.val k);exact wpAny_getItem_of (pI ry) dd.mapOf hw (h w' _ (I.tok _) rw')
 .subst ey
  cases (show u=QM b from ry);obtain⟨z,hd,xs,rel,dd⟩:=pS I.hok e;obtain⟨w',hw,rw'⟩:=me (v:=v) (o:=(atKey xs k).map (·.2)) (by rw[l];exact rel.val k);obtain⟨p,hp,hp2⟩:=Option.map_eq_some_iff.mp hw;refine wpAny_getItem_heap (tupleKind_room_in1 hu) (mI I.hok eb) dd hp ?_;rw[hp2];exact h w' _ (I.tok _) rw'
def Oh{Q:Pw->PF->Prop}(hu:A.units+1<RI)(I:Inv X π σ H s)(g:qI H a y o)(ry:bo y u)(h:∀s',Inv X π σ H s'->Q (.bool o.isSome) s') :
  Qq (Ql X.prog X.w) A (Qz .In u (.ref a)) Q E s:=by
 rcases g with⟨kvs,k,e,ey,l⟩|⟨kvs,k,b,e,ey,eb,l⟩
 .subst ey
  obtain⟨z,hd,vs,rel,dd⟩:=pW I.hok e;refine wpAny_in_of (pI ry) hd dd.mapOf ?_;rw[←(rel.val k).isSome_eq,←l];exact h _ (I.tok _)
 .subst ey
  cases (show u=QM b from ry);obtain⟨z,hd,xs,rel,dd⟩:=pS I.hok e;refine wpAny_in_heap (tupleKind_room_in1 hu) (mI I.hok eb) hd dd ?_;have q:=(rel.val k).isSome_eq;rw[Ry]at q;rw[←q,←l];exact h _ (I.tok _)
def G4{Q:Pw->PF->Prop}(hu:A.units+1<RI)(I:Inv X π σ H s)(g:qI H a y o)(ry:bo y u)(h:∀s',Inv X π σ H s'->Q (.bool (!o.isSome)) s') :
  Qq (Ql X.prog X.w) A (Qz .NotIn u (.ref a)) Q E s:=by
 rcases g with⟨kvs,k,e,ey,l⟩|⟨kvs,k,b,e,ey,eb,l⟩
 .subst ey
  obtain⟨z,hd,vs,rel,dd⟩:=pW I.hok e;refine wpAny_notIn_of (pI ry) hd dd.mapOf ?_;rw[←(rel.val k).isSome_eq,←l];exact h _ (I.tok _)
 .subst ey
  cases (show u=QM b from ry);obtain⟨z,hd,xs,rel,dd⟩:=pS I.hok e;refine wpAny_notIn_heap (tupleKind_room_in1 hu) (mI I.hok eb) hd dd ?_;have q:=(rel.val k).isSome_eq;rw[Ry]at q;rw[←q,←l];exact h _ (I.tok _)
def uH{h':Qo}{t':Nat}{ob:HO}(I:Inv X π σ H s)(mu:Ng (H a))(hs:Tj a s.heap h')(he:∃q,h'.get? a=some q)(new:cv X.prog X.w (upd H a ob) h' a ob) :
  Inv X π σ (upd H a ob) { s with heap:=h',toks:=t' } :=
 I.write (x:=a) (e:=a) mu (.inl rfl) (λb q hb z=>(hs.2 b hb).trans z) he new
def DC{P:Qw}{w:QK}{H':Hp}{h':Qo}{kvs:List (dI×V)}{vs:List (dI×Pw)}(z:kvs.length<=sizeLine)(hd:(a==Q4)=false)(rel:KV kvs vs)(dd:h'.DictOf (cI P w) a vs) :
  cv P w H' h' a (.dK kvs):=⟨z,hd,vs,rel,dd⟩
def AO{H':Hp}{Q:Unit->PF->Prop}(hu:A.units+1<RI)(I:Inv X π σ H s)(g:A5 H a y v H')(ry:bo y u)(rv:bo v r)(h:∀s',Inv X π σ H' s'->Q () s') :
  Qq (Ql X.prog X.w) A (setItem (.ref a) u r) Q E s:=by
 rcases g with⟨kvs,k,e,ey,l,eH⟩|⟨kvs,k,b,e,ey,eb,l,eH⟩
 .subst ey eH
  obtain⟨z,hd,vs,rel,dd⟩:=HL I.hok e;have hz:vs.length<=sizeLine:=by rw[←rel.length];exact z
  have hl:(gZ kvs k v).length<=sizeLine:=by have:=jv kvs k v;omega
  refine wpAny_setItem_pairs (hsz:=hz) (pI ry) dd λh' dd' hs=>h _ ?_;have he:∃q,h'.get? a=some q:=let ⟨q,_,_,hq,_⟩:=dd';⟨q,hq⟩;exact uH I (by rw[e];exact RT) hs he (DC hl hd (rel.put k rv) dd')
 .subst ey eH
  cases (show u=QM b from ry);obtain⟨z,hd,xs,rel,dd⟩:=M0 I.hok e;have hz:xs.length<=sizeLine:=by rw[←Uj rel];exact z
  have hl:(gZ kvs k v).length<=sizeLine:=by have:=jv kvs k v;omega
  refine wpAny_setItem_heap (hsz:=hz) (tupleKind_room_in1 hu) (mI I.hok eb) dd λh' dd' hs=>h _ ?_;obtain⟨q,es,ep,hq,h2,h3,h4,_,h5⟩:=dd';refine uH I (by rw[e];exact RT) hs ⟨q,hq⟩ ⟨hl,hd,_,(rel.put k eb rv).keeps λc ys ec=>?_,q,es,ep,hq,h2,h3,h4,h5⟩;rw[au (Mf ec e (λz=>nomatch z))];exact ec
end
def K7(i:Qc):Prop:=∀ov iv,subscripted i false ov iv=operate [ov,iv] (getItem ov iv)
def EO{prog:Qw}{w:QK}{A:QV}{E:Pw->PF->Prop}{s:PF}{env:Env}{value slice:Qc}{pos:Pos}{T id:String}{Q:Pw->PF->Prop}
  (hl:Tz (.type T) "__getitem__"=pure (some (.builtin id)))(hs:K7 slice)
  (h:Qq (Ql prog w) A (eval value env) (λo sg=>Qq (Ql prog w) A (eval slice env) (λi si=>si.TypeIs o T/\Qq (Ql prog w) A (getItem o i) Q E si) E sg) E s) :
  Qq (Ql prog w) A (eval (.Subscript value slice pos) env) Q E s:=by
 refine Subscript_ (Ro h (λo sg h₁=>Ro h₁ (λi si hV=>?_) λ_ _ x=>x) λ_ _ x=>x);obtain⟨hT,hV⟩:=hV;unfold subscriptTail;refine PX ?_;rw[getitemInPython_of_ne hT.not_modules];refine PX (wpAny_specialOf hT hl ?_);have fin:Qq (Ql prog w) A (subscripted slice false o i) (λr sk=>Qq (Ql prog w) A (letTemporaryGo value o r >>= λ_=>pure r) Q E sk) E si:=by
  rw[hs o i];exact wpAny_operating (Ro hV (λr sk hX=>PX (wpAny_letTemporaryGo (Qr hX))) λ_ _ x=>x)
 first
  |exact Qr (PX fin)
  |exact PX (Qr (PX fin))
  |exact PX fin
def wo{X:Cx}{π:List (Py×Obj)}{σ:St}{H:Hp}{s:PF}{a:Py}{y:V}{o:Option V}(I:Inv X π σ H s)(g:qI H a y o):s.TypeIs (.ref a) "dict":=by
 rcases g with⟨kvs,k,e,_,_⟩|⟨kvs,k,b,e,_,_,_⟩
 .obtain⟨_,_,vs,_,dd⟩:=pW I.hok e
  exact dd.typeIs
 .obtain⟨_,_,xs,_,dd⟩:=pS I.hok e
  exact dd.typeIs
def Ly(td ty:TE):TE:=λσ H Q=>td σ H λx H1=>ty σ H1 λy H2=>∃a v,x=.ref a/\qI H2 a y (some v)/\Q v H2
def LG(td ty tv:TE):TS:=λD σ H=>tv σ H λv H1=>td σ H1 λx H2=>ty σ H2 λy H3=>∃a H4,x=.ref a/\A5 H3 a y v H4/\D.nx σ H4
section
variable {X:Cx}{o i e value:Qc}{pos pos' tpos:Pos}{td ty tv:TE}
def Fi(hu:X.A.units+1<RI)(ho:PE X o td)(hi:PE X i ty)(hs:K7 i):PE X (.Subscript o i pos) (Ly td ty):=by
 intro π s σ H Q I h;refine EO PySem.F.slot_dict_getitem.lookup hs (cT (ho π s σ H _ I h) λu s1 ⟨x,H1,I1,rx,q1⟩=>cT (hi π s1 σ H1 _ I1 q1) λiv s2 z9=>?_);obtain⟨y,H2,I2,ry,a,v,ex,g,q2⟩:=z9;subst ex;obtain rfl:u=QM a:=rx;exact⟨wo I2 g,AQ hu I2 g ry λw' s3 I3 rw'=>⟨v,H2,I3,rw',q2⟩⟩
def E7(hu:X.A.units+1<RI)(ho:PE X o td)(hi:PE X i ty)(hv:PE X value tv)(hs:QY value (some (.Subscript o i pos')) pos.line X.env=pure false) :
  PS X (.Assign [.Subscript o i pos'] value pos) (LG td ty tv):=by
 intro π s σ H D I h;refine wpAny_Assign_Subscript (cT (hv π s σ H _ I h) λr s1 ⟨v,H1,I1,rv,q1⟩=>cT (ho π s1 σ H1 _ I1 q1) λu s2 ⟨x,H2,I2,rx,q2⟩=>cT (hi π s2 σ H2 _ I2 q2) λiv s3 z9=>?_) hs;obtain⟨y,H3,I3,ry,a,H4,ex,g,q3⟩:=z9;subst ex;obtain rfl:u=QM a:=rx;exact AO hu I3 g ry rv λs4 I4=>⟨σ,H4,I4,q3⟩
end
def wm{P:Qw}{w:QK}{H:Hp}(h:Qo)(hb:Q4<h.objs.size):cv P w H (h.push { cls:=.type "dict",data:=.dict #[] }) h.objs.size (.dK []) :=
 ⟨R8 _,beq_eq_false_iff_ne.mpr (Qx (QD hb)),[],.nil,Heap.DictOf.new h⟩
def Iu:TE:=λ_ H Q=>∀p,H p=none->Q (.ref p) (upd H p (.dK []))
section
variable {X:Cx}{pos:Pos}
def Cw:PE X (.Dict [] [] pos) Iu:=λπ s σ H Q I h=>
 wpAny_Dict_empty ⟨.ref s.heap.objs.size,_,I.laid (a:=s.heap.objs.size) (o:=.dK []) (t':=s.toks) (λ_ _ q=>P5 _ q) (P4 _) (wm s.heap I.big),rfl,h _ (I.hok.fresh (P4 _))⟩
end
def wX:List (TE×TE)->St->Hp->(List (V×V)->Hp->Prop)->Prop
 |[],_,H,Q=>Q [] H
 |(tk,tv)::r,σ,H,Q=>tk σ H λx H1=>tv σ H1 λy H2=>wX r σ H2 λps H3=>Q ((x,y)::ps) H3
abbrev VV:List (V×V)->List (Pw×Pw)->Prop:=Paired λp q=>bo p.1 q.1/\bo p.2 q.2
noncomputable def NC(X:Cx) (pos:Pos) (keys:List (Option Qc)) (values:List Qc) (trs:List (TE×TE)):Prop :=
 ∀(π:List (Py×Obj)) (s:PF) (σ:St) (H:Hp) (Q:List (V×V)->Hp->Prop),Inv X π σ H s->wX trs σ H Q ->
  Qq (Ql X.prog X.w) X.A (evalPairs (pairTrees keys values X.env pos)) (λvs s'=>∃ps H',Inv X π σ H' s'/\VV ps vs/\Q ps H') X.xe s
def E8{X:Cx}{pos:Pos}:NC X pos [] [] []:=λπ s σ H Q I h=>pairTrees_nil_walk ⟨[],H,I,.nil,h⟩
def Cm{X:Cx}{pos:Pos}{k v:Qc}{ks:List (Option Qc)}{vs:List Qc}{tk tv:TE}{trs:List (TE×TE)}(hk:PE X k tk)(hv:PE X v tv)(hr:NC X pos ks vs trs) :
  NC X pos (some k::ks) (v::vs) ((tk,tv)::trs):=λπ s σ H Q I h=>
 pairTrees_cons_walk (cT (hk π s σ H _ I h) λu s1 ⟨x,H1,I1,rx,q1⟩=>cT (hv π s1 σ H1 _ I1 q1) λw2 s2 ⟨y,H2,I2,ry,q2⟩ =>
  cT (hr π s2 σ H2 _ I2 q2) λws s3 ⟨ps,H3,I3,rel,q3⟩=>⟨(x,y)::ps,H3,I3,.cons ⟨rx,ry⟩ rel,q3⟩)
def pw(kvs more:List (dI×V)):List (dI×V):=more.foldl (λacc kv=>gZ acc kv.1 kv.2) kvs
def KV.merge:∀{more:List (dI×V)}{rs:List (dI×Pw)}{kvs:List (dI×V)}{vs:List (dI×Pw)},KV more rs->KV kvs vs->KV (pw kvs more) (merged vs rs):=by
 intro more rs kvs vs r;unfold KV at r
 induction r generalizing kvs vs with
 |nil=>intro q;exact q
 |@cons p q ps qs h t ih=>
  intro r0;have e:KV (gZ kvs p.1 p.2) (stored vs q.1 q.2):=by
   have:=r0.put p.1 h.2;rw[←h.1];exact this
  exact ih e
theorem kB:∀(more kvs:List (dI×V)),(pw kvs more).length<=kvs.length+more.length
 |[],kvs=>by show kvs.length<=kvs.length+0;omega
 |p::r,kvs=>by
  have h1:=kB r (gZ kvs p.1 p.2);have h2:=jv kvs p.1 p.2;show(pw (gZ kvs p.1 p.2) r).length<=_;rw[Qj];omega
theorem qj{P:Qw}{w:QK}:∀{kvs:List (dI×V)}{ws:List (Pw×Pw)},VV (kvs.map λkv=>(kV kv.1,kv.2)) ws->∃rs,Carries (cI P w) ws rs/\KV kvs rs
 |[],_,r=>by rw[Q3]at r;cases r;exact⟨[],RT,.nil⟩
 |p::kvs,_,r=>by
  rw[PQ]at r;cases r with
  |@cons a b as bs h t=>
   obtain⟨rs,c,q⟩:=qj (P:=P) (w:=w) t;obtain⟨b1,b2⟩:=b;exact⟨(p.1,b2)::rs,⟨pI h.1,rfl,c⟩,.cons ⟨rfl,h.2⟩ q⟩
def Lx(trs:List (TE×TE)):TE:=λσ H Q=>∀p,H p=none->wX trs σ (upd H p (.dK [])) λps H2=>H2 p=some (.dK [])/\∃kvs:List (dI×V),ps=kvs.map (λkv=>(kV kv.1,kv.2))/\kvs.length<=15/\Q (.ref p) (upd H2 p (.dK (pw [] kvs)))
def Fh{X:Cx}{pos:Pos}{keys:List (Option Qc)}{values:List Qc}{trs:List (TE×TE)}(h:NC X pos keys values trs)(hall:keys.all (·.isSome)=true)(hl:keys.length=values.length)(h0:keys≠[])
  (h15:keys.length<=15):PE X (.Dict keys values pos) (Lx trs):=by
 intro π s σ H Q I q;have hn:=I.hok.fresh (P4 s.heap.objs.size);have I1:=I.laid (a:=s.heap.objs.size) (o:=.dK []) (h':=s.heap.push { cls:=.type "dict",data:=.dict #[] }) (t':=s.toks) (λ_ _ q=>P5 _ q) (P4 _) (wm s.heap I.big);refine wpAny_Dict_walk (knd:=cI X.prog X.w) hall hl h0 h15 (cT (h π _ σ _ _ I1 (q _ hn)) λws s2 ⟨ps,H2,I2,rel,e,kvs,ep,lk,q2⟩=>?_);subst ep;obtain⟨rs,c,rk⟩:=qj (P:=X.prog) (w:=X.w) rel;obtain⟨z,hd,vs0,r0,dd⟩:=HL I2.hok e;cases r0;refine⟨rs,c,dd,λh' dd' hs=>⟨.ref s.heap.objs.size,_,?_,rfl,q2⟩⟩;have hz:(pw [] kvs).length<=sizeLine:=by
  have h1:=kB kvs [];rw[SJ]at h1;rw[sizeLine_eq];omega
 have he:∃q,h'.get? s.heap.objs.size=some q:=let ⟨q,_,_,hq,_⟩:=dd';⟨q,hq⟩;exact uH I2 (by rw[e];exact RT) hs he (DC hz hd (rk.merge .nil) dd')
structure M1 (X:Cx) (o:Qc) (m:PY) (apos:Pos) (e:Qc) (cpos:Pos):Prop where
 base:R4 o m X.env (eval o X.env)=eval o X.env
 few:((QZ cpos (PM [e] X.env)).all (λx=>!x.1)&&(SS cpos (RS [] X.env)).all (λx=>x.1.isSome)
 &&decide (([e]:List Qc).length+([]:List RH).length+(if([]:List RH).isEmpty then 0 else 1)<30))=true
 line:(apos.endLine==cpos.line)=true
 trees:QZ cpos (PM [e] X.env)=[(false,eval e X.env)]
def O0(H:Hp)(a:Py):Prop:=(∃kvs,Rd H a (.dK kvs))∨∃kvs,Rd H a (.dT kvs)
def Jx{X:Cx}{π:List (Py×Obj)}{σ:St}{H:Hp}{s:PF}{a:Py}(I:Inv X π σ H s)(d:O0 H a) :
  s.TypeIs (.ref a) "dict"/\(∀b,QM a=.ref b->∃ob,s.heap.get? b=some ob/\ob.dict=none)/\(a==Q4)=false:=by
 rcases d with⟨kvs,e⟩|⟨kvs,e⟩
 .obtain⟨_,hd,vs,_,dd⟩:=pW I.hok e
  refine⟨dd.typeIs,λb q=>?_,hd⟩;cases q;obtain⟨ob,_,_,h1,h2,_⟩:=dd;exact⟨ob,h1,h2.2.1⟩
 .obtain⟨_,hd,xs,_,dd⟩:=pS I.hok e
  refine⟨dd.typeIs,λb q=>?_,hd⟩;cases q;obtain⟨ob,_,_,h1,h2,_⟩:=dd;exact⟨ob,h1,h2.2.1⟩
section
variable {X:Cx}{π:List (Py×Obj)}{σ:St}{H:Hp}{s:PF}{a:Py}{y d:V}{u r:Pw}{o:Option V}{A:QV}{E:Pw->PF->Prop}
def KG{Q:Pw->PF->Prop}(hu:A.units+1<RI)(I:Inv X π σ H s)(g:qI H a y o)(ry:bo y u)(h:∀w' s',Inv X π σ H s'->bo (o.getD .non) w'->Q w' s') :
  Qq (Ql X.prog X.w) A (call (.builtin "dict.get") [.ref a,u]) Q E s:=by
 rcases g with⟨kvs,k,e,ey,l⟩|⟨kvs,k,b,e,ey,eb,l⟩
 .subst ey
  obtain⟨z,hd,vs,rel,dd⟩:=pW I.hok e;refine call_meetsIn Tq dd.typeIs Uz (Uu _ _) (meets_dict_get (cI X.prog X.w) a (pI ry) hd) ⟨_,dd.mapOf,h _ _ (I.tok _) ?_⟩;rw[l];exact(rel.val k).getD rfl
 .subst ey
  cases (show u=QM b from ry);obtain⟨z,hd,xs,rel,dd⟩:=pS I.hok e;refine call_meetsIn Tq dd.typeIs Uz (Uu _ _) (meetsH_dict_get (tupleKind (cI X.prog X.w)) a b hd) ⟨tupleKind_room_in1 hu,k,xs,mI I.hok eb,dd,h _ _ (I.tok _) ?_⟩;rw[l];exact(rel.val k).getD rfl
end
def Iv(td ty:TE):TE:=λσ H Q=>td σ H λx H1=>∃a,x=.ref a/\O0 H1 a/\ty σ H1 λy H2=>∃o,qI H2 a y o/\Q (o.getD .non) H2
section
variable {X:Cx}{o e f:Qc}{apos cpos:Pos}{td ty tx:TE}
def Cy(hu:X.A.units+1<RI)(ho:PE X o td)(he:PE X e ty)(m:M1 X o "get" apos e cpos):PE X (.Call (.Attribute o "get" apos) [e] [] cpos) (Iv td ty):=by
 intro π s σ H Q I h;refine wpAny_Call_method m.base m.few m.line PySem.F.plainAttrs_dict Tq PySem.F.type_dict_get (cT (ho π s σ H _ I h) λu s1 ⟨x,H1,I1,rx,a,ex,d,q1⟩=>?_);subst ex;obtain rfl:u=QM a:=rx;obtain⟨t1,t2,_⟩:=Jx I1 d;refine⟨t1,t2,?_⟩;rw[m.trees];refine UK rfl (U1 (Calls.spliced_cons (cT (he π s1 σ H1 _ I1 q1) λiv s2 ⟨y,H2,I2,ry,ov,g,q2⟩=>Calls.spliced_nil ?_)));exact KG hu I2 g ry λw' s3 I3 rw'=>⟨_,H2,I3,rw',q2⟩
end
end L2
namespace DL
open PySem PySem.Spec PyProof.Rows L2
section
variable {X:Cx}{E:XK}{e:Qc}{f:al}{pos p1:Pos}
def dOne(x:PY)(d:D):ai D:=.ok (.dic [x] [d])
end
def gh(cells:List (PY×Py)):List (PY×Rc)->List (PY×Py)->List (PY×Py)
 |[],acc=>acc
 |(n,k)::r,acc=>if(k==Rt)=true then gh cells r ((n,(cells.lookup n).getD 0)::acc) else gh cells r acc
def kC{scope:SH}{env:Ru}(h:∀x∈scope.names,x.2=.free->∃c,env.cells.lookup x.1=some c):closureFor scope env=pure (gh env.cells scope.names []):=by
 simp only[closureFor];have key:∀(names:List (PY×Rc)) (acc:List (PY×Py)),(∀x∈names,x.2=.free->∃c,env.cells.lookup x.1=some c) ->
   (forIn names acc λ(x:PY×Rc) (z:List (PY×Py))=>
      if(x.snd==Rt)=true then do
       let y ←cellOf env x.fst
       pure (So ((x.fst,y)::z))
      else(pure (So z):Sem _))=pure (gh env.cells names acc):=by
  intro names
  induction names with
  |nil=>intro acc _;rfl
  |cons x r ih=>
   intro acc hh;obtain⟨n,k⟩:=x;rw[List.forIn_cons]
   by_cases hk:(k==Rt)=true
   .obtain⟨c,hc⟩:=hh (n,k) Qf (by simpa using hk)
    have hcell:cellOf env n=pure c:=by unfold cellOf;rw[show env.cells.lookup n=some c from hc]
    simp only[hk,if_true];rw[hcell];have:=ih ((n,c)::acc) (λy hy=>hh y (PV _ hy));rw[show gh env.cells ((n,k)::r) acc=gh env.cells r ((n,c)::acc) by
     show(if(k==Rt)=true then _ else _)=_;rw[if_pos hk,show env.cells.lookup n=some c from hc];rfl]
    rw[←this];rfl
   .have:=ih acc (λy hy=>hh y (PV _ hy))
    rw[if_neg hk];rw[show gh env.cells ((n,k)::r) acc=gh env.cells r acc by
     show(if(k==Rt)=true then _ else _)=_;rw[if_neg hk]]
    rw[←this];rfl
 rw[key _ _ h];rfl
theorem qg{cells:List (PY×Py)}:∀{names:List (PY×Rc)}{acc:List (PY×Py)}{x:PY}{c:Py},(∀y∈names,y.2=.free->∃c,cells.lookup y.1=some c) ->
  (gh cells names acc).lookup x=some c->acc.lookup x=some c∨cells.lookup x=some c
 |[],acc,x,c,_,h=>.inl h
 |(n,k)::r,acc,x,c,hh,h=>by
  unfold gh at h
  by_cases hk:(k==Rt)=true
  .rw[if_pos hk]at h
   obtain⟨d,hd⟩:=hh (n,k) Qf (by simpa using hk);rcases qg (λy hy=>hh y (PV _ hy)) h with h|h
   .rw[TU]at h
    cases e:x==n with
    |true=>
     rw[e]at h;rw[show cells.lookup n=some d from hd]at h;cases h;rw[eq_of_beq e];exact .inr hd
    |false=>rw[e]at h;exact .inl h
   .exact .inr h
  .rw[if_neg hk]at h
   exact qg (λy hy=>hh y (PV _ hy)) h
theorem nt{α:Type}{x:PY}:∀{l:List (PY×α)},(∃v,(x,v)∈l)->∃v,l.lookup x=some v
 |[],⟨v,h⟩=>by cases h
 |(n,w)::r,⟨v,h⟩=>by
  rw[TU];cases e:x==n with
  |true=>exact⟨w,rfl⟩
  |false=>
   rcases P9.mp h with h|h
   .cases h;simp at e
   .exact nt ⟨v,h⟩
theorem qi{cells:List (PY×Py)}{x:PY}{c:Py}:∀{names:List (PY×Rc)}{acc:List (PY×Py)},(x,c)∈acc->(x,c)∈gh cells names acc
 |[],acc,h=>h
 |(n,k)::r,acc,h=>by
  unfold gh
  by_cases hk:(k==Rt)=true
  .rw[if_pos hk];exact qi (PV _ h)
  .rw[if_neg hk];exact qi h
def qh{cells:List (PY×Py)}{x:PY}:∀{names:List (PY×Rc)}{acc:List (PY×Py)},(x,Rt)∈names->∃c,(gh cells names acc).lookup x=some c:=by
 intro names
 induction names with
 |nil=>intro acc h;cases h
 |cons y r ih=>
  intro acc h;obtain⟨n,k⟩:=y;unfold gh;rcases P9.mp h with h|h
  .cases h
   rw[if_pos (by rfl)];exact nt ⟨_,qi Qf⟩
  .by_cases hk:(k==Rt)=true
   .rw[if_pos hk];exact ih h
   .rw[if_neg hk];exact ih h
noncomputable def cS(X:Cx) (N:bi) (scope:SH) (s:PF) (H:Hp) (C:Py) (fp:List Py) (pn:List (Py×Obj)):Cx :=
 { X with N:=N,sf:=s,Ha:=H,env:=compEnvC scope (gh X.env.cells scope.names []) C X.env,outer:=X.stack,stack:=X.stack,ex:=fp,fn:=λ_=>false,pn:=pn,xe:=λ_ _=>False }
def iZ(n:Nat)(fr:bm)(σ:L2.St):L2.St:=Qd n none++fr.map λ(i:Nat)=>(σ[i]?).getD none
noncomputable def yn(X:Cx) (N:bi) (n:Nat) (fr:bm) (scope:SH):Prop :=
 N.length=n+fr.length/\((N.drop n).zip fr).all (λp=>X.N[p.2]?==some p.1&&X.env.scope.names.lookup p.1==some .cell&&scope.names.lookup p.1==some .free&&(relabel scope X.env).names.lookup p.1==some .cell)=true
theorem yn.at{X:Cx}{N:bi}{n:Nat}{fr:bm}{scope:SH}(h:yn X N n fr scope){k:Nat}{x:PY}{v:V}{σ:L2.St}(hx:N[k]?=some x)(hv:(iZ n fr σ)[k]?=some (some v)) :
  ∃i:Nat,X.N[i]?=some x/\σ[i]?=some (some v)/\X.env.scope.names.lookup x=some .cell/\scope.names.lookup x=some .free/\(relabel scope X.env).names.lookup x=some .cell:=by
 unfold iZ at hv
 by_cases hk:k<n
 .rw[P0 (by simpa using hk),Qb,if_pos hk]at hv
  cases hv
 .rw[P6 (by simpa using hk),Qy,PN]at hv
  cases hi:fr[k-n]? with
  |none=>rw[hi]at hv;cases hv
  |some i=>
   rw[hi]at hv;have hz:((N.drop n).zip fr)[k-n]?=some (x,i):=by
    rw[List.getElem?_zip_eq_some];exact⟨by rw[List.getElem?_drop,show n+(k-n)=k by omega];exact hx,hi⟩
   have:=P7.mp h.2 _ (PU hz);simp only[Qg,beq_iff_eq]at this;refine⟨i,this.1.1.1,?_,this.1.1.2,this.1.2,this.2⟩;simp only[Rx,Rb]at hv;cases hs:σ[i]? with|none=>rw[hs]at hv;cases hv|some u=>rw[hs]at hv;exact congrArg some hv
noncomputable def Lj(X:Cx) (ifs:List Qc) (t:TT):Prop :=
 ∀(π:List (Py×Obj)) (s:PF) (σ:L2.St) (H:Hp) (Q:Bool->Hp->Prop),Inv X π σ H s->t σ H Q ->
  Qq (Ql X.prog X.w) X.A (forIn ifs true λc r=>if r=true then do let ok ←isTrue c X.env (eval c X.env);pure (So ok) else pure (So r)) (TP X π σ Q) X.xe s
def BB:TT:=λ_ H Q=>Q true H
def yR{X:Cx}:Lj X [] BB:=λ_ _ _ H _ I h=>wpAny_tests_nil ⟨H,I,h⟩
def Fc{X:Cx}{c:Qc}{t:TT}(h:PT X c t):Lj X [c] t:=λπ s σ H Q I q=>wpAny_tests_one (h π s σ H Q I q)
theorem qd{prog:Qw}{w:QK}{A:QV}{R:T8->PF->Prop}{s:PF}{elt target iter:Qc}{ifs:List Qc}{scope:SH}{pos:Pos}{it acc:Pw}{env:Ru}(I:Nat->PF->Prop)
  (turn:∀n s,I n s->Qq (Ql prog w) A (pyNext it) (λr sg=>match r with
   |none=>R (.ok .next) sg
   |some v=>Qq (Ql prog w) A (letOwnedTupleGo target it v) (λ_ sg'=>Qq (Ql prog w) A (assign target env v) (λ_ si=>
     Qq (Ql prog w) A (forIn ifs true λc r=>if r=true then do let ok ←isTrue c env (eval c env);pure (So ok) else pure (So r)) (λok sk=>
      if ok=true then Qq (Ql prog w) A (eval elt env) (λx sn=>
       Qq (Ql prog w) A (call (.builtin "list.append") [acc,x]) (λ_ so=>∃m,m<n/\I m so) (λ_ _=>False) sn) (λ_ _=>False) sk
      else ∃m,m<n/\I m sk) (λ_ _=>False) si) (λ_ _=>False) sg') (λ_ _=>False) sg) (λ_ _=>False) s)
  (n:Nat) (h:I n s) :
  Ss (Ql prog w) A (.compLoop (.ListComp elt [⟨target,iter,ifs,0⟩] scope pos) 0 it acc env) R s:=by
 refine codeAny_loop rfl I (λn s hI=>?_) n h;show Qq _ A ((compTurn (.ListComp elt [⟨target,iter,ifs,0⟩] scope pos) 0 it acc env).onRaise (λx=>do noteFrame x env;theTreesLotGoes x)) _ _ s;refine wpAny_noted ?_;rw[compTurn_list];refine PX (wpAny_standAt (PX (Ro (turn n s hI) (λr sg h₁=>?_) λ_ _ h'=>h'.elim)));cases r with
 |none=>exact Qr h₁
 |some v=>
  refine PX (Ro h₁ (λ_ sg' h₁'=>?_) λ_ _ h'=>h'.elim);refine PX (Ro h₁' (λ_ si hV=>PX (Ro hV (λok sk hX=>?_) λ_ _ h'=>h'.elim)) λ_ _ h'=>h'.elim);cases ok with
  |false=>exact Qr ⟨rfl,hX⟩
  |true=>
   exact PX (PX (Ro hX (λx sn hZ=>PX (Ro hZ (λ_ so h₅=>Qr (Qr ⟨rfl,h₅⟩)) λ_ _ h'=>h'.elim)) λ_ _ h'=>h'.elim))
noncomputable def oQ(n:Nat) (fr:bm) (g:TG) (tt:TT) (te:TE) (J:It) (σ:L2.St) (H1:Hp) (Q:VK):Prop:=∀D,H1 D=none->∃W:Nat->Nat->ad->L2.St->Hp->Prop,(∃m,W 0 m [] (iZ n fr σ) (upd H1 D (.lst []))) /\
 ∀i m ys σ' H',W i m ys σ' H'->H' D=some (.lst ys)/\((J.stop i H'/\Q (.ref D) H')∨(J.go i H'/\ys.length<sizeLine/\∀x H2,J.yld i H' x H2->g x σ' H2 λσ3 H3=>tt σ3 H3 λb H4=>
  if b=true then te σ3 H4 λy H5=>H5 D=some (.lst ys)/\∃m',m' < m/\W (i+1) m' (ys++[y]) σ3 (upd H5 D (.lst (ys++[y])))
  else ∃m',m' < m/\W (i+1) m' ys σ3 H4))
def sR{X:Cx}{tg iter elt:Qc}{ifs:List Qc}{scope:SH}{pos:Pos}{N:bi}{n:Nat}{fr:bm}{g:TG}{tt:TT}{te:TE}(hc:X.calm=true)(hfr:yn X N n fr scope)
  (hcell:∀x∈scope.names,x.2≠.cell)(hfree:∀x∈scope.names,x.2=.free->X.env.scope.names.lookup x.1=some .cell)(hkind:scope.kind=.function)
  (blk:∀s H C fp pn,PG (cS X N scope s H C fp pn) tg g/\Lj (cS X N scope s H C fp pn) ifs tt/\PE (cS X N scope s H C fp pn) elt te)
  {π:List (Py×Obj)}{σ:L2.St}{s2:PF}{Q:VK}{itv:Pw}{RR:Pw->Py->T8->PF->Prop}
  (h2:Oq X π σ tg (λJ H1=>oQ n fr g tt te J σ H1 Q) itv s2)
  (fin:∀(Da C:Py) (s6:PF) (H5:Hp) (m:PY->Option Pw),Inv X π σ H5 s6->s6.heap.Ns C m->mj X π H5 C->Q (.ref Da) H5->RR (.ref Da) C (.ok .next) s6) :
  Qq (Ql X.prog X.w) X.A (newList []) (λacc sk=>Qq (Ql X.prog X.w) X.A (newFunctionEnv scope X.env.globals (gh X.env.cells scope.names []) [] X.env.qual none .none (some X.env)) (λcenv sn=>
   Ss (Ql X.prog X.w) X.A (.compStart (.ListComp elt [⟨tg,iter,ifs,0⟩] scope pos) 0 itv acc { cenv with scope:=relabel scope X.env }) (RR acc cenv.locals) sn) X.xe sk) X.xe s2:=by
 obtain⟨it,fp,tn,J,H2,e,I2,T,st2,f2,q⟩:=h2;subst e;have hD:H2 s2.heap.objs.size=none:=I2.fresh;refine wpAny_newObj_type ?_;have I3:Inv X π σ (upd H2 s2.heap.objs.size (.lst [])) { s2 with heap:=s2.heap.push { cls:=.type "list",data:=.seq ([]:List Pw).toArray } }:=I2.lnew (t':=s2.toks) (its:=[]) .nil (R8 _);obtain⟨W,⟨m0,w0⟩,turn⟩:=q s2.heap.objs.size hD;generalize hs3:({ s2 with heap:=s2.heap.push { cls:=.type "list",data:=.seq ([]:List Pw).toArray } }:PF)=s3 at I3 ⊢;have hs3h:s3.heap=s2.heap.push { cls:=.type "list",data:=.seq ([]:List Pw).toArray }:=by rw[←hs3]
 have hDs:s2.heap.objs.size<s3.heap.objs.size:=by rw[hs3h,Heap.size_push];exact RM _
 have fpl:∀b∈fp,b<s2.heap.objs.size:=λb hb=>by
  obtain⟨o,ho,_⟩:=T.obj _ _ st2 b hb;exact Qk ho
 have kept3:∀b o,s2.heap.get? b=some o->s3.heap.get? b=some o:=λb o e=>by rw[hs3h];exact P5 _ e
 have st3:tn 0 s3.heap:=T.keep _ _ _ st2 λb _ o e=>kept3 b o e;generalize hDa:s2.heap.objs.size=Da at *;generalize hH3:upd H2 Da (.lst [])=H3 at *;have fr3:∀b∈fp,H3 b=none:=λb hb=>by rw[←hH3,au (QD (fpl b hb))];exact(f2 b hb).1
 have cls:∀x c,(gh X.env.cells scope.names []).lookup x=some c->X.env.cells.lookup x=some c:=λx c e=>by
  rcases qg (λy hy hf=>I3.ok.has y.1 (.inl (hfree y hy hf))) e with e|e
  .cases e
  .exact e
 refine wpAny_newFunctionEnv hcell (by intro y hy;simp at hy) (λh4 ns4 sb4=>?_) hkind;have k4:∀b o,s3.heap.get? b=some o->h4.get? b=some o:=λb o e=>(sb4.2 b (QD (Qk e))).trans (P5 _ e);generalize hC:s3.heap.objs.size=C at *;have hCn:H3 C=none:=I3.hok.fresh (by rw[hC];exact P4 _);have ltC:∀b o,s3.heap.get? b=some o->b≠C:=λb o e=>by rw[←hC];exact QD (Qk e)
 have cellC:∀x c,X.env.cells.lookup x=some c->c≠C:=λx c e=>by
  obtain⟨v,o,ho,_⟩:=I3.cell x c e;exact ltC c o ho
 have fpC:∀b∈fp,b≠C:=λb hb=>by
  have:=fpl b hb;exact QD (Tg this hDs)
 show Ss (Ql X.prog X.w) X.A (.compStart (.ListComp elt [⟨tg,iter,ifs,0⟩] scope pos) 0 (.ref it) (.ref Da) (compEnvC scope (gh X.env.cells scope.names []) C X.env)) _ _;generalize hs4:({ s3 with heap:=h4,toks:=s3.toks+([]:List (PY×Pw)).length }:PF)=s4;have hs4h:s4.heap=h4:=by rw[←hs4]
 have ok:(cS X N scope s3 H3 C fp (X.pn++π)).Ok:=by
  refine⟨I3.ok.mod,hkind,I3.ok.glob,I3.ok.blt,Nat.le_of_eq hC,λx y c e1 e2=>I3.ok.inj x y c (cls x c e1) (cls y c e2),λx e=>?_,λx c e=>?_,λ_=>I3.ok.hd hc,I3.ok.frames,.inl rfl,λb hb=>⟨fpC b hb,λx c e=>(f2 b hb).2.2.2.2.1 x c (cls x c e)⟩,I3.bs,Qh I3.ok.bsz I3.sz,λb o e hb=>?_,λb hb z=>?_,I3.stack,I3.stkFree⟩
  .have mm:∀k:Rc,(relabel scope X.env).names.lookup x=some k->(k=.cell∨k=.free)->(x,Rt)∈scope.names:=λk hk hk2=>by
    have hm:=Rr hk;obtain⟨⟨n',k'⟩,hm1,hm2⟩:=Qp.mp hm;dsimp only at hm2;split at hm2
    .rename_i hcnd
     cases hm2;simp only[Qg,beq_iff_eq]at hcnd;rw[hcnd.1.1]at hm1;exact hm1
    .cases hm2
     rcases hk2 with rfl|rfl
     .exact absurd rfl (hcell _ hm1)
     .exact hm1
   rcases e with e|e
   .exact qh (mm _ e (.inl rfl))
   .exact qh (mm _ e (.inr rfl))
  .cases e
  .rcases(f2 b hb).2.2.2.1 with z|z
   .exact I3.ok.noex b o e z
   .exact absurd (PK (Qk e) (Qh I3.ok.bsz z)) (RE _)
  .rcases P9.mp (I3.stkSub b z) with z|z
   .exact(f2 b hb).2.1 z
   .exact(f2 b hb).2.2.1 z
 have I4:Inv (cS X N scope s3 H3 C fp (X.pn++π)) [] (iZ n fr σ) H3 s4:=by
  refine⟨ok,by rw[←hs4];rfl,by rw[←hs4];exact I3.bare,by rw[hs4h];exact Un.kept k4,⟨_,by rw[hs4h];exact ns4,λi x v h1 h2 h3=>?_⟩,λx c e=>?_,hCn,λx c e=>I3.freeC x c (cls x c e),λp hp=>?_,by rw[hs4h];exact I3.hok.kept k4,?_⟩
  .obtain⟨j,j1,j2,j3,j4,j5⟩:=hfr.at h1 h2
   obtain⟨m,hn,hl⟩:=I3.loc;obtain⟨u,ru,l⟩:=hl j x v j1 j2 (.inr (.inl j3));refine⟨u,ru,.inr ⟨.inl j5,?_⟩⟩;rcases l with⟨z,_⟩|⟨_,c,z1,z2⟩
   .rw[show X.env.kindOf x=X.env.scope.names.lookup x from rfl,j3]at z;cases z
   .obtain⟨c',hc'⟩:=qh (cells:=X.env.cells) (names:=scope.names) (acc:=[]) (Rr j4)
    have:=cls x c' hc';rw[z1]at this;cases this;obtain⟨oc,q1,q2⟩:=z2;exact⟨c,hc',oc,by rw[hs4h];exact k4 _ _ q1,q2⟩
  .obtain⟨v,oc,q1,q2⟩:=I3.cell x c (cls x c e)
   exact⟨v,oc,by rw[hs4h];exact k4 _ _ q1,q2⟩
  .rw[QC]at hp
   obtain⟨p1,p2,p3,p4,p5⟩:=I3.pin p hp;refine⟨by rw[hs4h];exact k4 _ _ p1,p2,ltC _ _ p1,λz=>?_,p5⟩;rcases P9.mp (I3.stkSub _ z) with z|z
   .exact p3 z
   .exact p4 z
  .show(iZ n fr σ).length=N.length
   unfold iZ;rw[Qs,Qy,Pz,hfr.1]
 have st4:tn 0 s4.heap:=by rw[hs4h];exact T.keep _ _ _ st3 λb _ o e=>k4 b o e
 have stat:∀{H':Hp},(∀b∈fp,H' b=none)->∀b∈fp,mj (cS X N scope s3 H3 C fp (X.pn++π)) [] H' b:=λhn b hb=>by
  refine⟨hn b hb,fpC b hb,λz=>?_,.inl hb,λx c e=>(f2 b hb).2.2.2.2.1 x c (cls x c e),λp hp=>?_⟩
  .rcases P9.mp (I3.stkSub b z) with z|z
   .exact(f2 b hb).2.1 z
   .exact(f2 b hb).2.2.1 z
  .rw[QC]at hp
   exact(f2 b hb).2.2.2.2.2 p hp
 have loop:Ss (Ql X.prog X.w) X.A (.compLoop (.ListComp elt [⟨tg,iter,ifs,0⟩] scope pos) 0 (.ref it) (.ref Da) (compEnvC scope (gh X.env.cells scope.names []) C X.env)) (RR (.ref Da) C) s4:=by
  refine qd (λn s'=>∃i ys σ' H',Inv (cS X N scope s3 H3 C fp (X.pn++π)) [] σ' H' s'/\tn i s'.heap/\(∀b∈fp,H' b=none)/\W i n ys σ' H') ?_ m0 ⟨0,[],_,H3,I4,st4,fr3,w0⟩;rintro k s5 ⟨i,ys,σ5,H5,I5,st5,fr5,w5⟩;obtain⟨hDl,ways⟩:=turn i k ys σ5 H5 w5;rcases ways with⟨stop,fin'⟩|⟨go,hz,step⟩
  .refine cT (T.done (cS X N scope s3 H3 C fp (X.pn++π)) rfl rfl rfl hc i [] s5 σ5 H5 (λ_ _=>False) I5 (stat fr5) st5 stop) λr s6 ⟨hr,I6⟩=>?_
   subst hr;obtain⟨mm,nsm,_⟩:=I6.loc;have free6:H5 C=none:=I6.free;have hok:lj X.prog X.w H5 s6.heap:=I6.hok;have un:Un (A6 X.stack) fp H3 H5 s3.heap s6.heap:=I6.base;have IX:Inv X π σ H5 s6:=I3.call' (s':=s6) (ch:=fp) I6.os un hok I6.bare (λb hb=>⟨(f2 b hb).2.2.2.1,(f2 b hb).2.1,(f2 b hb).2.2.2.2.1,(f2 b hb).2.2.2.2.2⟩);have fC:mj X π H5 C:=I3.fpOk (b:=C) (H':=H5) (by rw[hC];exact P4 _) free6;exact fin Da C s6 H5 mm IX nsm fC fin'
  .refine cT (T.item (cS X N scope s3 H3 C fp (X.pn++π)) rfl rfl rfl hc i [] s5 σ5 H5 (λ_ _=>False) I5 (stat fr5) st5 go) λr s6 ⟨u,hr,h6⟩=>?_
   subst hr;refine cT h6 λ_ s7 ⟨x,H7,I7,r7,y7,st7,fr7⟩=>?_;have I7':=I7.pinned (stat fr7) (T.obj _ _ st7);refine cT ((blk s3 H3 C fp (X.pn++π)).1 _ s7 σ5 H7 x u _ I7' r7 (step x H7 y7)) λ_ s8 ⟨σ8,H8,I8,q8⟩=>?_;refine cT ((blk s3 H3 C fp (X.pn++π)).2.1 _ s8 σ8 H8 _ I8 q8) λb s8b ⟨H8b,I8b,q8b⟩=>?_;have back:∀{σ':L2.St}{H':Hp}{s':PF},L2.Inv (cS X N scope s3 H3 C fp (X.pn++π)) (([]:List (Py×Obj))++o8 fp s7.heap) σ' H' s'->tn (i+1) s'.heap/\∀b∈fp,H' b=none:=λ{σ' H' s'} I'=>by
    refine⟨T.keep _ _ _ st7 λb hb o e=>(I'.pin (b,o) (QE _ (QE _ (iJ hb e)))).1,λb hb=>?_⟩;obtain⟨o,e,d⟩:=T.obj _ _ st7 b hb;exact(I'.pin (b,o) (QE _ (QE _ (iJ hb e)))).2.1
   cases b with
   |false=>
    rw[if_neg Rk]at q8b ⊢;obtain⟨m',hm,w9⟩:=q8b;exact⟨m',hm,i+1,ys,σ8,_,I8b.unpinned,(back I8b).1,(back I8b).2,w9⟩
   |true=>
    rw[if_pos rfl]at q8b ⊢;refine cT ((blk s3 H3 C fp (X.pn++π)).2.2 _ s8b σ8 H8b _ I8b q8b) λy s9 ⟨yv,H9,I9,r9,hD9,m',hm,w9⟩=>?_;refine cT (fW (X:=cS X N scope s3 H3 C fp (X.pn++π)) _ s9 σ8 H9 (.ref Da) [yv] (.ref Da) [y] (λv H'=>H'=upd H9 Da (.lst (ys++[yv]))) I9 rfl (.cons r9 .nil) ⟨Da,ys,yv,rfl,rfl,hD9,hz,rfl⟩) λ_ s10 ⟨v10,H10,I10,_,e10⟩=>?_;subst e10;exact⟨m',hm,i+1,ys++[yv],σ8,_,I10.unpinned,(back I10).1,(back I10).2,w9⟩
 exact codeAny_compStart_list loop (T.self _ 0 _ _ _ st4 loop)
structure Lb (K:Px) (ds:ac) (J:It) (Ha:Hp):Prop where
 go:∀(i:Nat) (H' Ha':Hp),aB Ha Ha'->aB Ha' H'->i<ds.length->J.go i H'
 yld:∀(i:Nat) (H' Ha':Hp) (x:V) (H2:Hp) (d:D),aB Ha Ha'->aB Ha' H'->ds[i]?=some d->J.yld i H' x H2->∃H₀2,aU H' Ha' H2 H₀2/\Rep K H₀2 d x
 stop:∀(i:Nat) (H' Ha':Hp),aB Ha Ha'->aB Ha' H'->ds.length<=i->J.stop i H'
noncomputable def Pe(K:Px) (E:XK) (src:Ev->ai (ac)):TI:=λσ H R=>∃Ha ρ,aB Ha H/\Reads K Ha σ ρ/\match src ρ with
 |.ok ds=>∀J H' Ha',aU H Ha H' Ha'->Lb K ds J Ha'->R J H'
 |.exn x=>∀C ox H' Ha',aU H Ha H' Ha'->wN K Ha' x C ox->E C ox H'
 |.stuck=>False
structure DI (X:Cx) (E:XK) (tg iter:Qc) (src:Ev->ai (ac)):Prop where
 o:PI X tg iter (Pe X.K E src)
def iF{X:Cx}{tg iter:Qc}{t t':TI}(h:PI X tg iter t)(w:∀σ H R,t' σ H R->t σ H R):PI X tg iter t':=λπ s σ H R I q=>h π s σ H R I (w σ H R q)
def iz(f:al):Ev->ai (ac):=λρ=>(f ρ).bind λd=>match d with
 |.lst ds=>.ok ds
 |_=>.stuck
def Ad(f:al):Ev->ai (ac):=λρ=>(f ρ).bind λd=>match d with
 |.tup ds=>.ok ds
 |_=>.stuck
def ER(f:al):Ev->ai (ac):=λρ=>(f ρ).bind λd=>match d with
 |.str z=>.ok (jk z)
 |_=>.stuck
def kn(f:al):Ev->ai (ac):=λρ=>(f ρ).bind λd=>match d with
 |.int j=>if -4611686018427387904<=j/\j<4611686018427387904 then .ok (intsFrom 0 j.toNat) else .stuck
 |_=>.stuck
section
variable {X:Cx}{E:XK}{tg e a b:Qc}{f g:al}
def ka(h:DE X E e f):DI X E tg e (iz f):=by
 refine⟨iF (tY h.o) λσ H R z9=>?_⟩;obtain⟨Ha,ρ,hs,hr,q⟩:=z9;refine⟨Ha,ρ,hs,hr,?_⟩;unfold iz at q;cases e1:f ρ with
 |stuck|exn x=>rw[e1]at q;exact q
 |ok d=>
  rw[e1]at q;intro v H1 H01 g1 r1;cases d with
  |lst ds=>
   obtain⟨p,vs,rfl,hv,hrv⟩:=aF.mp r1;refine⟨p,rfl,⟨vs,aB.sqL g1.sub hv⟩,q _ H1 H01 g1 ⟨λi H' Ha' s1 s2 hi=>?_,λi H' Ha' x H2 d s1 s2 hd hy=>?_,λi H' Ha' s1 s2 hi=>?_⟩⟩
   .exact⟨vs,vs[i]'(by rw[←hrv.length];exact hi),aB.sqL (s1.trans s2) hv,by simp⟩
   .obtain⟨rfl,hy⟩:=hy
    obtain⟨u,k1,k2⟩:=hrv.get hd;have:=hy vs (aB.sqL (s1.trans s2) hv);rw[k1]at this;cases this;exact⟨Ha',aU.refl s2,k2.mono s1⟩
   .exact⟨vs,aB.sqL (s1.trans s2) hv,by rw[←hrv.length];exact hi⟩
  |_=>exact q.elim
def DN(h:DE X E e f):DI X E tg e (Ad f):=by
 refine⟨iF (IZ h.o) λσ H R z9=>?_⟩;obtain⟨Ha,ρ,hs,hr,q⟩:=z9;refine⟨Ha,ρ,hs,hr,?_⟩;unfold Ad at q;cases e1:f ρ with
 |stuck|exn x=>rw[e1]at q;exact q
 |ok d=>
  rw[e1]at q;intro v H1 H01 g1 r1;cases d with
  |tup ds=>
   obtain⟨p,vs,rfl,hv,hrv⟩:=aJ.mp r1;refine⟨p,rfl,⟨vs,aB.sqT g1.sub hv⟩,q _ H1 H01 g1 ⟨λi H' Ha' s1 s2 hi=>?_,λi H' Ha' x H2 d s1 s2 hd hy=>?_,λi H' Ha' s1 s2 hi=>?_⟩⟩
   .exact⟨vs,vs[i]'(by rw[←hrv.length];exact hi),aB.sqT (s1.trans s2) hv,by simp⟩
   .obtain⟨rfl,hy⟩:=hy
    obtain⟨u,k1,k2⟩:=hrv.get hd;have:=hy vs (aB.sqT (s1.trans s2) hv);rw[k1]at this;cases this;exact⟨Ha',aU.refl s2,k2.mono s1⟩
   .exact⟨vs,aB.sqT (s1.trans s2) hv,by rw[←hrv.length];exact hi⟩
  |_=>exact q.elim
def KA(h:DE X E e f):DI X E tg e (ER f):=by
 refine⟨iF (I0 h.o) λσ H R z9=>?_⟩;obtain⟨Ha,ρ,hs,hr,q⟩:=z9;refine⟨Ha,ρ,hs,hr,?_⟩;unfold ER at q;cases e1:f ρ with
 |stuck|exn x=>rw[e1]at q;exact q
 |ok d=>
  rw[e1]at q;intro v H1 H01 g1 r1;cases d with
  |str z=>
   refine⟨z,Rep.str_iff.mp r1,q _ H1 H01 g1 ⟨λi H' Ha' s1 s2 hi=>?_,λi H' Ha' x H2 d s1 s2 hd hy=>?_,λi H' Ha' s1 s2 hi=>?_⟩⟩
   .rw[kH]at hi;exact hi
   .obtain⟨rfl,c,hc,rfl⟩:=hy
    have:d=.str ⟨#[c]⟩:=by
     unfold jk at hd;rw[PN]at hd;have h2:z.cps.toList[i]?=some c:=by simpa using hc
     rw[h2]at hd;cases hd;rfl
    subst this;exact⟨Ha',aU.refl s2,Rep.str_iff.mpr rfl⟩
   .rw[kH]at hi;exact hi
  |_=>exact q.elim
def sv{K:Px}{lo:Int}{n:Nat}{H:Hp}:Lb K (intsFrom lo n) (La lo n) H:=by
 have hl:(intsFrom lo n).length=n:=by unfold intsFrom;simp
 refine⟨λi H' Ha' _ _ hi=>?_,λi H' Ha' x H2 d s1 s2 hd hy=>?_,λi H' Ha' _ _ hi=>?_⟩
 .rw[hl]at hi;exact hi
 .obtain⟨rfl,rfl⟩:=hy
  have:d=.int (lo+i):=by
   unfold intsFrom at hd;rw[PN]at hd;cases e:(Q5 n)[i]? with
   |none=>rw[e]at hd;cases hd
   |some k=>
    rw[e]at hd;have hk:k=i:=by
     obtain⟨h1,h2⟩:=PH.mp e;simpa using h2.symm
    subst hk;cases hd;rfl
  subst this;exact⟨Ha',aU.refl s2,az.mpr rfl⟩
 .rw[hl]at hi;exact hi
def mQ{p pos:Pos}(hg:Gl X "range")(hm:X.mg "range"=none)(h:DE X E a f)(hn:Lh a=true:=by exact rfl):DI X E tg (.Call (.Name "range" p) [a] [] pos) (kn f):=by
 refine⟨iF (jT hg hm (cO h.o eC (dU hn)) (dU hn)) λσ H R z9=>?_⟩;obtain⟨Ha,ρ,hs,hr,q⟩:=z9;refine⟨Ha,ρ,hs,hr,?_⟩;unfold kn at q;cases e1:f ρ with
 |stuck|exn x=>rw[e1]at q;exact q
 |ok d=>
  rw[e1]at q;intro v H1 H01 g1 r1;cases d with
  |int j=>
   replace q:match (if -4611686018427387904<=j/\j<4611686018427387904 then ai.ok (intsFrom 0 j.toNat) else .stuck) with
    |.ok ds=>∀J H' Ha',aU H Ha H' Ha'->Lb X.K ds J Ha'->R J H'
    |.exn x=>∀C ox H' Ha',aU H Ha H' Ha'->wN X.K Ha' x C ox->E C ox H'
    |.stuck=>False:=q
   by_cases hj:-4611686018427387904<=j/\j<4611686018427387904
   .rw[if_pos hj]at q
    rw[az.mp r1];exact⟨j,rfl,hj.1,hj.2,q _ H1 H01 g1 sv⟩
   .rw[if_neg hj]at q;exact q.elim
  |_=>exact q.elim
end
def kr(src:Ev->ai (ac))(tg:Ev->D->ai Ev)(s:am):am:=λρ=>(src ρ).bind λds=>bW tg s ds ρ
section
variable {X:Cx}{E:XK}{He η:Hp}{st:Q1}{s:am}{pos:Pos}
def fO.step2{K:Px}{Hb Ha:Hp}{tg:Ev->D->ai Ev}{ds:ac}{D':eV}{i:Nat}{σ:L2.St}{H:Hp}{d:D}{v:V}{ρ:Ev}(z:aB Hb Ha)(h:cZ K He η Ha σ H ρ)(q:b3 K E He η Ha (bW tg s (ds.drop i) ρ) D')(hd:ds[i]?=some d)(rv:Rep K Ha d v)
  (he:∀ρ,tg ρ d=.stuck∨∃ρ',tg ρ d=.ok ρ') :
  tG K He η tg v σ H λσ2 H2=>tS K E He η s { D' with nx:=fO K E He η Hb tg s ds D' (i+1),ct:=fO K E He η Hb tg s ds D' (i+1),bk:=D'.nx } σ2 H2:=by
 have hi:i<ds.length:=(PH.mp hd).1;have hdr:ds.drop i=d::ds.drop (i+1):=by
  rw[QG hi];rw[PL hi]at hd;cases hd;rfl
 rw[hdr]at q;refine⟨Ha,ρ,d,h,rv,?_⟩;unfold bW at q;rcases he ρ with e1|⟨ρ1,e1⟩
 .rw[e1]at q;exact q.elim
 .rw[e1]at q ⊢
  intro σ' H' Ha' z' h';refine⟨Ha',ρ1,h',?_⟩;replace q:=b3.grow (r:=(s ρ1).bind λx=>match x with
   |.nx ρ2=>bW tg s (ds.drop (i+1)) ρ2
   |.ct ρ2=>bW tg s (ds.drop (i+1)) ρ2
   |.bk ρ2=>.ok (.nx ρ2)
   |.rt d=>.ok (.rt d)) q z'
  cases e2:s ρ1 with
  |stuck|exn x=>rw[e2]at q;exact q
  |ok r=>
   rw[e2]at q;cases r with|nx ρ2=>exact λσ3 H3 H03 z3 h3=>⟨H03,ρ2,(z.trans z').trans z3,h3,b3.grow (r:=bW tg s (ds.drop (i+1)) ρ2) q z3⟩|ct ρ2=>exact λσ3 H3 H03 z3 h3=>⟨H03,ρ2,(z.trans z').trans z3,h3,b3.grow (r:=bW tg s (ds.drop (i+1)) ρ2) q z3⟩|bk ρ2|rt d=>exact q
def ot{tgt iter:Qc}{body:List Q1}{tg:Ev->D->ai Ev}{src:Ev->ai (ac)}(hp:PassesOwn (Ql X.prog X.w) X.A X.env X.xe)(hc:X.calm=true)(hi:DI X E tgt iter src)(hg:DG X E He η tgt tg)(ht:tq tg)(hb:Ba X E He η body s)
  (hs:∀x,foldedSetIterable iter X.env x=pure x:=by intro _;rfl):DS X E He η (.For tgt iter body [] pos) (kr src tg s):=by
 refine⟨bP (mz hp hc hi.o hg.o hb.o hs) λD' σ H z9=>?_⟩;obtain⟨Ha,ρ,h,q⟩:=z9;refine⟨Ha,ρ,h.g.sub,h.rd,?_⟩;unfold kr at q;cases e1:src ρ with
 |stuck=>rw[e1]at q;exact q|exn x=>rw[e1]at q;exact λC ox H' Ha' g r=>q C ox H' Ha' (h.g.trans g) r
 |ok ds=>
  rw[e1]at q;intro J H1 H01 g it;have q1:b3 X.K E He η H01 (bW tg s ds ρ) D':=b3.grow (r:=bW tg s ds ρ) q g.z;refine⟨λi m σ' H'=>m+i=ds.length/\fO X.K E He η H01 tg s ds D' i σ' H',⟨ds.length,rfl,H01,ρ,aB.refl _,h.grow g,q1⟩,?_⟩;rintro i m σ' H' ⟨hm,Ha',ρ',z,h',hq⟩
  by_cases hlt:i<ds.length
  .refine .inr ⟨it.go i H' Ha' z h'.g.sub hlt,λσ2 H2=>fO X.K E He η H01 tg s ds D' (i+1) σ2 H2,λσ2 H2 hl=>⟨m-1,by omega,by omega,hl⟩,λx H2 hy=>?_⟩
   obtain⟨H₀2,g2,rp⟩:=it.yld i H' Ha' x H2 ds[i] z h'.g.sub (PL hlt) hy;exact fO.step2 (z.trans g2.z) (h'.grow g2) (b3.grow (r:=bW tg s (ds.drop i) ρ') hq g2.z) (PL hlt) rp λρ=>ht ρ _
  .have e:i=ds.length:=by omega
   refine .inl ⟨it.stop i H' Ha' z h'.g.sub (by omega),?_⟩;subst e;exact fO.done ⟨Ha',ρ',z,h',hq⟩
end
def qG(f:al):Prop:=∀ρ d,f ρ=.ok d->∃ds,d=.lst ds
def BD{K:Px}{E:XK}{f:al}(hf:qG f){σ:L2.St}{H:Hp}{Q:VK}(h:tD K E f σ H Q):tF K E f σ H Q:=by
 obtain⟨Ha,ρ,hs,hr,q⟩:=h;refine⟨Ha,ρ,hs,hr,?_⟩;cases e1:f ρ with
 |stuck|exn x=>rw[e1]at q;exact q
 |ok d=>
  obtain⟨ds,rfl⟩:=hf ρ d e1;rw[e1]at q;intro p vs H' Ha' g hp h0 hv rp;have n0:Ha p=none:=hs.free hp;refine q (.ref p) H' (upd Ha' p (.lst vs)) ⟨g.s,λb o e=>?_,λb o e=>?_,λb k1 k2=>?_⟩ (aF.mpr ⟨p,vs,rfl,dR.of aG,rp.mono λb o e=>?_⟩)
  .rw[au (by intro z;subst z;rw[n0]at e;cases e)];exact g.z _ _ e
  .by_cases hb:b=p
   .subst hb;rw[aG]at e;cases e;exact hv
   .rw[au hb]at e;exact g.sub _ _ e
  .by_cases hb:b=p
   .subst hb;exact hp
   .rw[au hb]at k1;exact g.nw b k1 k2
  .rw[au (by intro z;subst z;rw[h0]at e;cases e)];exact e
def DQ{X:Cx}{E:XK}{e:Qc}{f:al}(hf:qG f)(h:DF X E e f):DE X E e f:=⟨aW h.o λσ H Q q=>BD hf q⟩
def cY(n:Nat)(fr:bm)(ρ:Ev):Ev:=Qd n .no++fr.map λ(i:Nat)=>match ρ[i]? with
 |some (.sh d)=>.sh d
 |_=>.no
noncomputable def bU(b:Ev) (tg:Ev->D->ai Ev) (tt fe:al):ac->ai (ac)
 |[]=>.ok []
 |d::r=>(tg b d).bind λρ1=>(tt ρ1).bind λt=>match t with
  |.bl true=>(fe ρ1).bind λx=>(bU b tg tt fe r).bind λxs=>.ok (x::xs)
  |.bl false=>bU b tg tt fe r
  |_=>.stuck
def cL(n:Nat)(fr:bm)(src:Ev->ai (ac))(tg:Ev->D->ai Ev)(tt fe:al):al:=λρ=>(src ρ).bind λds=>
 if ds.length<=line then match bU (cY n fr ρ) tg tt fe ds with
  |.ok es=>.ok (.lst es)
  |_=>.stuck
 else .stuck
def AU{n:Nat}{fr:bm}{src:Ev->ai (ac)}{tg:Ev->D->ai Ev}{tt fe:al}:qG (cL n fr src tg tt fe):=λρ d h=>by
 unfold cL at h;cases e1:src ρ with
 |stuck|exn x=>rw[e1]at h;cases h
 |ok ds=>
  rw[e1]at h;replace h:(if ds.length<=line then match bU (cY n fr ρ) tg tt fe ds with
   |.ok es=>ai.ok (D.lst es)
   |_=>.stuck else .stuck)=.ok d:=h
  split at h
  .split at h
   .cases h;exact⟨_,rfl⟩
   .cases h
  .cases h
def iR{b:Ev}{tg:Ev->D->ai Ev}{tt fe:al}{d:D}{r es:ac}(h:bU b tg tt fe (d::r)=.ok es) :
  ∃ρ1 t,tg b d=.ok ρ1/\tt ρ1=.ok (.bl t)/\((t=true/\∃x xs,fe ρ1=.ok x/\bU b tg tt fe r=.ok xs/\es=x::xs)∨(t=false/\bU b tg tt fe r=.ok es)):=by
 unfold bU at h;cases e1:tg b d with
 |stuck|exn z=>rw[e1]at h;cases h
 |ok ρ1=>
  rw[e1]at h;replace h:((tt ρ1).bind λt=>match t with
   |.bl true=>(fe ρ1).bind λx=>(bU b tg tt fe r).bind λxs=>ai.ok (x::xs)
   |.bl false=>bU b tg tt fe r
   |_=>.stuck)=.ok es:=h
  cases e2:tt ρ1 with
  |stuck|exn z=>rw[e2]at h;cases h
  |ok t=>
   rw[e2]at h;cases t with
   |bl t=>
    cases t with
    |true=>
     replace h:((fe ρ1).bind λx=>(bU b tg tt fe r).bind λxs=>ai.ok (x::xs))=.ok es:=h;cases e3:fe ρ1 with
     |stuck|exn z=>rw[e3]at h;cases h
     |ok x=>
      rw[e3]at h;replace h:((bU b tg tt fe r).bind λxs=>ai.ok (x::xs))=.ok es:=h;cases e4:bU b tg tt fe r with|stuck|exn z=>rw[e4]at h;cases h|ok xs=>rw[e4]at h;cases h;exact⟨ρ1,true,rfl,e2,.inl ⟨rfl,x,xs,e3,rfl,rfl⟩⟩
    |false=>exact⟨ρ1,false,rfl,e2,.inr ⟨rfl,h⟩⟩
   |_=>cases h
def ik{b:Ev}{tg:Ev->D->ai Ev}{tt fe:al}{d x:D}{r:ac}{ρ1:Ev}(h1:tg b d=.ok ρ1)(h2:tt ρ1=.ok (.bl true))(h3:fe ρ1=.ok x):bU b tg tt fe (d::r)=(bU b tg tt fe r).bind λxs=>.ok (x::xs):=by
 rw[bU,h1];simp only[ai.bind,h2,h3]
def qe{b:Ev}{tg:Ev->D->ai Ev}{tt fe:al}{d:D}{r:ac}{ρ1:Ev}(h1:tg b d=.ok ρ1)(h2:tt ρ1=.ok (.bl false)):bU b tg tt fe (d::r)=bU b tg tt fe r:=by
 rw[bU,h1];simp only[ai.bind,h2]
theorem mU{b:Ev}{tg:Ev->D->ai Ev}{tt fe:al}:∀{r q es:ac},bU b tg tt fe (r++q)=.ok es->∃e1 e2,bU b tg tt fe r=.ok e1/\bU b tg tt fe q=.ok e2/\es=e1++e2
 |[],q,es,h=>⟨[],es,rfl,h,rfl⟩
 |d::r,q,es,h=>by
  obtain⟨ρ1,t,h1,h2,h3⟩:=iR h;rcases h3 with⟨rfl,x,xs,h3,h4,rfl⟩|⟨rfl,h4⟩
  .obtain⟨e1,e2,k1,k2,rfl⟩:=mU h4
   refine⟨x::e1,e2,?_,k2,rfl⟩;rw[ik h1 h2 h3,k1];rfl
  .obtain⟨e1,e2,k1,k2,rfl⟩:=mU h4
   refine⟨e1,e2,?_,k2,rfl⟩;rw[qe h1 h2];exact k1
theorem iQ{b:Ev}{tg:Ev->D->ai Ev}{tt fe:al}:∀{r q e1 e2:ac},bU b tg tt fe r=.ok e1->bU b tg tt fe q=.ok e2->bU b tg tt fe (r++q)=.ok (e1++e2)
 |[],q,e1,e2,h,h'=>by cases h;exact h'
 |d::r,q,e1,e2,h,h'=>by
  obtain⟨ρ1,t,h1,h2,h3⟩:=iR h;show bU b tg tt fe (d::(r++q))=_;rcases h3 with⟨rfl,x,xs,h3,h4,rfl⟩|⟨rfl,h4⟩
  .rw[ik h1 h2 h3,iQ h4 h'];rfl
  .rw[qe h1 h2];exact iQ h4 h'
theorem qf{b:Ev}{tg:Ev->D->ai Ev}{tt fe:al}:∀{r es:ac},bU b tg tt fe r=.ok es->es.length<=r.length
 |[],es,h=>by cases h;exact P4 _
 |d::r,es,h=>by
  obtain⟨ρ1,t,h1,h2,h3⟩:=iR h;rcases h3 with⟨rfl,x,xs,h3,h4,rfl⟩|⟨rfl,h4⟩
  .exact Nat.succ_le_succ (qf h4)
  .exact Nat.le_succ_of_le (qf h4)
def wK(n:Nat)(tg:Ev->D->ai Ev):Prop:=∀ρ d ρ',tg ρ d=.ok ρ'->ρ'.length=ρ.length/\∀(k:Nat),n<=k->ρ'[k]?=ρ[k]?
def fw{i n:Nat}(h:i<n):wK n (bJ i):=λρ d ρ' e=>by
 cases e;exact⟨by simp,λk hk=>by rw[PB (by omega)]⟩
theorem lu{n:Nat}:∀{is:bm}{ds:ac}{ρ:Ev},(is.all λi=>decide (i<n))=true->(dJ ρ is ds).length=ρ.length/\∀(k:Nat),n<=k->(dJ ρ is ds)[k]?=ρ[k]?
 |[],ds,ρ,_=>by unfold dJ;exact⟨rfl,λ_ _=>rfl⟩
 |i::is,[],ρ,_=>by unfold dJ;exact⟨rfl,λ_ _=>rfl⟩
 |i::is,d::ds,ρ,h=>by
  rw[Si,Qg,decide_eq_true_eq]at h;unfold dJ;obtain⟨h1,h2⟩:=lu (ds:=ds) (ρ:=ρ.set i (.sh d)) h.2;exact⟨by rw[h1];simp,λk hk=>by rw[h2 k hk,PB (by omega)]⟩
def uW{n:Nat}{is:bm}(h:(is.all λi=>decide (i<n))=true):wK n (dN is):=λρ d ρ' e=>by
 unfold dN at e;cases hp:jV is.length d with|none=>rw[hp]at e;cases e|some ds=>rw[hp]at e;cases e;exact lu h
def ye{K:Px}{Ha:Hp}{σ:L2.St}{ρ:Ev}{n:Nat}{fr:bm}(h:Reads K Ha σ ρ):Reads K Ha (iZ n fr σ) (cY n fr ρ):=λi d e=>by
 unfold cY at e;unfold iZ
 by_cases hi:i<n
 .rw[P0 (by simpa using hi),Qb,if_pos hi]at e
  cases e
 .rw[P6 (by simpa using hi),Qy,PN]at e ⊢
  cases hf:fr[i-n]? with
  |none=>rw[hf]at e;cases e
  |some j=>
   rw[hf]at e;simp only[Rx,Rb]at e ⊢;cases hj:ρ[j]? with
   |none=>rw[hj]at e;cases e
   |some s=>
    rw[hj]at e;cases s with
    |sh d'=>
     cases e;obtain⟨v,h1,h2⟩:=h j d hj;exact⟨v,by rw[h1];rfl,h2⟩
    |_=>cases e
def Hd{n:Nat}{fr:bm}{ρ:Ev}{k:Nat}(h:k<n):(cY n fr ρ)[k]?=some .no:=by
 unfold cY;rw[P0 (by simpa using h),Qb,if_pos h]
def D4{n:Nat}{fr:bm}{ρ:Ev}(i j:Nat)(es:ac):(cY n fr ρ)[i]?≠some (.ox j es):=λe=>by
 unfold cY at e
 by_cases hj:i<n
 .rw[P0 (by simpa using hj),Qb,if_pos hj]at e;cases e
 .rw[P6 (by simpa using hj),PN]at e
  cases hf:fr[i-(Qd n Sl.no).length]? with
  |none=>rw[hf]at e;cases e
  |some z=>
   rw[hf]at e;simp only[Rx,Rb]at e;split at e<;>cases e
def A1{n:Nat}{fr:bm}{ρ:Ev}{σ:L2.St}(i:Nat)(a:Py)(e:(cY n fr ρ)[i]?=some (.pt a)):σ[i]?=some (some (.ref a)):=by
 unfold cY at e
 by_cases hj:i<n
 .rw[P0 (by simpa using hj),Qb,if_pos hj]at e;cases e
 .rw[P6 (by simpa using hj),PN]at e
  cases hf:fr[i-(Qd n Sl.no).length]? with
  |none=>rw[hf]at e;cases e
  |some z=>
   rw[hf]at e;simp only[Rx,Rb]at e;split at e<;>cases e
def wG{n:Nat}{fr:bm}{ρ:Ev}:(cY n fr ρ).length=n+fr.length:=by unfold cY;simp
def xY{K:Px}{E:XK}{n:Nat}{fr:bm}{tg:Ev->D->ai Ev}{tt fe:al}{σ:L2.St}{ρ:Ev}{H Ha H1 H01:Hp}{ds es:ac}{J:It}{Q:VK}(hsame:aB Ha H)(g1:aU H Ha H1 H01)(it:Lb K ds J H01)(hl:ds.length<=line)
  (e2:bU (cY n fr ρ) tg tt fe ds=.ok es)(hr:Reads K H01 σ ρ)(hok:wK n tg)
  (q:∀p vs H' Ha',aU H Ha H' Ha'->H p=none->Ha' p=none->H' p=some (.lst vs)->Reps K Ha' es vs->Q (.ref p) H') :
  oQ n fr (JB K tg) (Ir K E tt) (tD K E fe) J σ H1 Q:=by
 intro Da hDa;have h0D:H01 Da=none:=g1.sub.free hDa;refine⟨λi m ys σ' H'=>m=ds.length-i/\i<=ds.length/\σ'.length=n+fr.length/\∃Ha',aU H1 H01 H' Ha'/\Ha' Da=none/\H' Da=some (.lst ys)/\Reads K Ha' σ' (cY n fr ρ)/\∃es1,bU (cY n fr ρ) tg tt fe (ds.take i)=.ok es1/\Reps K Ha' es1 ys,
  ⟨ds.length,by simp,R8 _,by unfold iZ;simp,H01,?_,h0D,aG,ye hr,[],rfl,Reps.nil⟩,?_⟩
 .refine⟨λb o e=>by rw[au (bB e hDa)];exact e,aB.refl _,λb o e=>?_,λb k1 k2=>absurd k2 k1⟩
  rw[au (by intro z;subst z;rw[h0D]at e;cases e)];exact g1.sub _ _ e
 .rintro i m ys σ' H' ⟨rfl,hile,hsl,Ha',gg,hD0,hDl,hrd,es1,hes1,hys⟩
  refine⟨hDl,?_⟩
  by_cases hlt:i<ds.length
  .refine .inr ⟨it.go i H' Ha' gg.z gg.sub hlt,?_,?_⟩
   .rw[←hys.length]
    have:=qf hes1;rw[QO]at this;have h2:line<sizeLine:=by decide
    omega
   .intro x H2 hy
    obtain⟨H₀2,g2,rp⟩:=it.yld i H' Ha' x H2 ds[i] gg.z gg.sub (PL hlt) hy;have hsplit:ds=ds.take i++(ds[i]::ds.drop (i+1)):=by rw[←QG hlt,List.take_append_drop]
    rw[hsplit]at e2;obtain⟨a1,a2,k1,k2,k3⟩:=mU e2;rw[hes1]at k1;cases k1;obtain⟨ρ1,t,t1,t2,t3⟩:=iR k2;have hn2:H₀2 Da=none:=by
     cases qq:H₀2 Da with|none=>rfl|some o=>have:=g2.nw Da (by rw[qq];simp) hD0;rw[hDl]at this;cases this
    have hD2:H2 Da=some (.lst ys):=g2.s _ _ hDl;refine⟨H2,H₀2,H₀2,cY n fr ρ,ds[i],⟨aU.refl g2.sub,hrd.mono g2.z,λj d' e=>?_,λj k d1 d2 _ e=>?_,by rw[wG,hsl],OX.none D4 A1⟩,rp,?_⟩
    .unfold cY at e
     by_cases hj:j<n
     .rw[P0 (by simpa using hj),Qb,if_pos hj]at e;cases e
     .rw[P6 (by simpa using hj),PN]at e
      cases hf:fr[j-(Qd n Sl.no).length]? with
      |none=>rw[hf]at e;cases e
      |some z=>
       rw[hf]at e;simp only[Rx,Rb]at e;split at e<;>cases e
    .unfold cY at e
     by_cases hj:j<n
     .rw[P0 (by simpa using hj),Qb,if_pos hj]at e;cases e
     .rw[P6 (by simpa using hj),PN]at e
      cases hf:fr[j-(Qd n Sl.no).length]? with
      |none=>rw[hf]at e;cases e
      |some z=>
       rw[hf]at e;simp only[Rx,Rb]at e;split at e<;>cases e
    .rw[t1]
     intro σ3 H3 H03 z3 s3;have hrl:=hok _ _ _ t1;have hσ3:σ3.length=n+fr.length:=by rw[←s3.ln,hrl.1,wG]
     have back:∀{Hx:Hp},aB H03 Hx->Reads K Hx σ3 (cY n fr ρ):=λ{Hx} sx k d e=>by
      by_cases hk:k<n
      .rw[Hd hk]at e;cases e
      .rw[←hrl.2 k (by omega)]at e
       obtain⟨v,h1,h2⟩:=s3.rd k d e;exact⟨v,h1,h2.mono sx⟩
     have n3:H03 Da=none:=by
      cases qq:H03 Da with|none=>rfl|some o=>have:=s3.g.nw Da (by rw[qq];simp) hn2;rw[hD2]at this;cases this
     have hD3:H3 Da=some (.lst ys):=s3.g.s _ _ hD2;refine⟨H03,ρ1,s3.g.sub,s3.rd,?_⟩;rw[t2];intro H4 H04 g4;have hD4:H4 Da=some (.lst ys):=g4.s _ _ hD3;have n4:H04 Da=none:=by
      cases qq:H04 Da with|none=>rfl|some o=>have:=g4.nw Da (by rw[qq];simp) n3;rw[hD3]at this;cases this
     have htake:ds.take (i+1)=ds.take i++[ds[i]]:=by rw[List.take_add_one,PL hlt];rfl
     have g04:=(gg.trans g2).trans (s3.g.trans g4);rcases t3 with⟨rfl,y,xs,t3,t4,_⟩|⟨rfl,t4⟩
     .rw[if_pos rfl]
      refine⟨H04,ρ1,g4.sub,s3.rd.mono g4.z,?_⟩;rw[t3];intro yv H5 H05 g5 ry;have hD5:H5 Da=some (.lst ys):=g5.s _ _ hD4;have n5:H05 Da=none:=by
       cases qq:H05 Da with|none=>rfl|some o=>have:=g5.nw Da (by rw[qq];simp) n4;rw[hD4]at this;cases this
      have gall:=g04.trans g5;refine⟨hD5,ds.length-(i+1),by omega,rfl,hlt,hσ3,H05,⟨λb o e=>?_,gall.z,λb o e=>?_,gall.nw⟩,n5,aG,back (g4.z.trans g5.z),es1++[y],?_,?_⟩
      .rw[au (bB e hDa)];exact gall.s _ _ e
      .rw[au (by intro z;subst z;rw[n5]at e;cases e)];exact gall.sub _ _ e
      .rw[htake]
       refine iQ hes1 ?_;rw[ik t1 t2 t3];rfl
      .exact(hys.mono ((g2.z.trans s3.g.z).trans (g4.z.trans g5.z))).app (Reps.cons ry Reps.nil)
     .rw[if_neg Rk]
      refine⟨ds.length-(i+1),by omega,rfl,hlt,hσ3,H04,g04,n4,hD4,back g4.z,es1,?_,hys.mono ((g2.z.trans s3.g.z).trans g4.z)⟩;rw[htake];rw[show es1=es1++[] by simp];refine iQ hes1 ?_;rw[qe t1 t2];rfl
  .have hi2:i=ds.length:=by omega
   refine .inl ⟨it.stop i H' Ha' gg.z gg.sub (by omega),?_⟩;rw[hi2,List.take_length]at hes1;rw[e2]at hes1;cases hes1;exact q Da ys H' Ha' (g1.trans gg) (g1.s.free hDa) hD0 hDl hys
structure NG (X:Cx) (E:XK) (ifs:List Qc) (f:al):Prop where
 o:Lj X ifs (Ir X.K E f)
def mYes:al:=λ_=>.ok (.bl true)
def iO{X:Cx}{E:XK}:NG X E [] mYes:=⟨λπ s σ H Q I ⟨Ha,ρ,hs,hr,q⟩=>yR π s σ H Q I (q H Ha (aU.refl hs))⟩
def zJ{X:Cx}{E:XK}{c:Qc}{f:al}(h:DT X E c f):NG X E [c] f:=⟨Fc h.o⟩
structure Nl (X:Cx) (E:XK) (e:Qc) (f:al):Prop where
 ev:PE X e (tF X.K E f)
 st:∀{i:Nat}{x:PY}{pos' spos:Pos},X.N.Nodup->X.N[i]?=some x->X.env.scope.names.lookup x=some .local -> QY e (some (.Name x pos')) spos.line X.env=pure true->PS X (.Assign [.Name x pos'] e spos) (Ac (tF X.K E f) (pO i))
def Pj{X:Cx}{E:XK}{tgt iter elt:Qc}{ifs:List Qc}{scope:SH}{pos:Pos}(N:bi)(n:Nat)(fr:bm){src:Ev->ai (ac)}{tg:Ev->D->ai Ev}{tt fe:al}(hc:X.calm=true)(hi:DI X E tgt iter src)(hok:wK n tg)
  (blk:∀s H C fp pn,(∀He η,DG (cS X N scope s H C fp pn) E He η tgt tg)/\NG (cS X N scope s H C fp pn) E ifs tt/\DE (cS X N scope s H C fp pn) E elt fe)
  (hfr:yn X N n fr scope)(hcell:∀x∈scope.names,x.2≠.cell)(hfree:∀x∈scope.names,x.2=.free->X.env.scope.names.lookup x.1=some .cell)(hkind:scope.kind=.function)(hnames:∀x∈scope.names,x.2=.local -> scope.names.lookup x.1=some .local)
  (hs:∀x,foldedSetIterable iter X.env x=pure x:=by intro _;rfl):Nl X E (.ListComp elt [⟨tgt,iter,ifs,0⟩] scope pos) (cL n fr src tg tt fe):=by
 have blk':∀s H C fp pn,PG (cS X N scope s H C fp pn) tgt (JB X.K tg)/\Lj (cS X N scope s H C fp pn) ifs (Ir X.K E tt)/\PE (cS X N scope s H C fp pn) elt (tD X.K E fe):=λs H C fp pn=>
  ⟨λπ s' σ' H' v u Q' I r ⟨He,η,q'⟩=>((blk s H C fp pn).1 He η).o π s' σ' H' v u Q' I r q',(blk s H C fp pn).2.1.o,(blk s H C fp pn).2.2.o⟩
 have first:∀{π:List (Py×Obj)}{s:PF}{σ:L2.St}{H:Hp}{Q:VK}{RR:Pw->Py->T8->PF->Prop},L2.Inv X π σ H s->tF X.K E (cL n fr src tg tt fe) σ H Q ->
   (∀(Da C:Py) (s6:PF) (H5:Hp) (m:PY->Option Pw),L2.Inv X π σ H5 s6->s6.heap.Ns C m->mj X π H5 C->Q (.ref Da) H5->RR (.ref Da) C (.ok .next) s6) ->
   Qq (Ql X.prog X.w) X.A (eval iter X.env) (λx sg=>Qq (Ql X.prog X.w) X.A (pyIter x) (λit si=>Qq (Ql X.prog X.w) X.A (newList []) (λacc sk=>
    Qq (Ql X.prog X.w) X.A (newFunctionEnv scope X.env.globals (gh X.env.cells scope.names []) [] X.env.qual none .none (some X.env)) (λcenv sn=>
     Ss (Ql X.prog X.w) X.A (.compStart (.ListComp elt [⟨tgt,iter,ifs,0⟩] scope pos) 0 it acc { cenv with scope:=relabel scope X.env }) (RR acc cenv.locals) sn) X.xe sk) X.xe si) X.xe sg) X.xe s:=by
  intro π s σ H Q RR I ⟨Ha,ρ,hsame,hr,q⟩ fin;refine cT (hi.o π s σ H (λJ H1=>oQ n fr (JB X.K tg) (Ir X.K E tt) (tD X.K E fe) J σ H1 Q) I ⟨Ha,ρ,hsame,hr,?_⟩) λv s1 h1=>cT h1 λitv s2 h2=>sR (N:=N) hc hfr hcell hfree hkind blk' h2 fin;unfold cL at q;cases e1:src ρ with
  |stuck|exn x=>rw[e1]at q;exact q
  |ok ds=>
   rw[e1]at q;intro J H1 H01 g1 it;replace q:match (if ds.length<=line then match bU (cY n fr ρ) tg tt fe ds with
     |.ok es=>ai.ok (D.lst es)
     |_=>.stuck else .stuck) with
    |.ok (.lst ds)=>∀p vs H' Ha',aU H Ha H' Ha'->H p=none->Ha' p=none->H' p=some (.lst vs)->Reps X.K Ha' ds vs->Q (.ref p) H'
    |.ok _=>False
    |.exn x=>∀C ox H' Ha',aU H Ha H' Ha'->wN X.K Ha' x C ox->E C ox H'
    |.stuck=>False:=q
   by_cases hl:ds.length<=line
   .rw[if_pos hl]at q
    cases e2:bU (cY n fr ρ) tg tt fe ds with
    |stuck|exn x=>rw[e2]at q;exact q.elim
    |ok es=>
     rw[e2]at q;exact xY hsame g1 it hl e2 (hr.mono g1.z) hok q
   .rw[if_neg hl]at q;exact q.elim
 have hcl:∀{π:List (Py×Obj)}{s:PF}{σ:L2.St}{H:Hp},L2.Inv X π σ H s->closureFor scope X.env=pure (gh X.env.cells scope.names []):=λ{π s σ H} I=>kC λy hy hf=>I.ok.has y.1 (.inl (hfree y hy hf));refine⟨λπ s σ H Q I h=>?_,λ{i x pos' spos} hN hi' hx hsw π s σ H D' I h=>?_⟩
 .rw[eval_ListComp]
  refine wpAny_comprehension_free (use:=none) rfl hs (hcl I) hkind hnames (first (RR:=λacc C=>compPost (Ql X.prog X.w) X.A X.xe none (EP X π σ Q) acc C) I h λDa C s6 H5 m I6 ns fC q=>?_);refine⟨m,ns,λh' sb=>⟨.ref Da,H5,?_,rfl,q⟩⟩;exact I6.turned (t':=s6.toks) (it:=C) (λb o hb e=>(sb.2 b hb).trans e) fC.1 fC.2.1 fC.2.2.2.1 fC.2.2.2.2.1 fC.2.2.2.2.2
 .rw[exec_Assign_Name_used _ _ _ _ hsw]
  refine PX (wpAny_standAt (PX ?_));show Qq _ X.A (do let _ ←comprehension (.ListComp elt [⟨tgt,iter,ifs,0⟩] scope pos) scope X.env _ (newList []) false (eval iter X.env) (some (assign (.Name x pos') X.env))) _ _ s;refine PX (Ro (wpAny_comprehension_free (use:=some (assign (.Name x pos') X.env)) (Q:=λ_ s'=>SP X π D' .next s') rfl hs (hcl I) hkind hnames
   (first (RR:=λacc C=>compPost (Ql X.prog X.w) X.A X.xe (some (assign (.Name x pos') X.env)) (λ_ s'=>SP X π D' .next s') acc C) I h λDa C s6 H5 m I6 ns fC q=>?_)) (λ_ s' hq=>Qr (Qr hq)) λ_ _ e=>e)
  show Qq _ X.A (assign (.Name x pos') X.env (.ref Da)) _ _ _;refine wpAny_assign_Name (mr (v:=.ref Da) I6 hN hi' (.inl hx) rfl (λs' I' z9=>?_) (.inr hx));obtain⟨a,sb,ha⟩:=z9;have hCa:C≠a:=by
   rcases ha with rfl|ha
   .exact fC.2.1
   .exact λz=>fC.2.2.2.2.1 x a ha z.symm
  refine⟨m,ns.sameBut sb hCa,λh' sb'=>⟨_,H5,?_,q⟩⟩;exact I'.turned (t':=s'.toks) (it:=C) (λb o hb e=>(sb'.2 b hb).trans e) fC.1 fC.2.1 fC.2.2.2.1 fC.2.2.2.2.1 fC.2.2.2.2.2
def M4{X:Cx}{E:XK}{e:Qc}{f:al}(h:Nl X E e f):DF X E e f:=⟨h.ev⟩
def nv{X:Cx}{E:XK}{e:Qc}{n:Nat}{fr:bm}{src:Ev->ai (ac)}{tg:Ev->D->ai Ev}{tt fe:al}(h:Nl X E e (cL n fr src tg tt fe)):DE X E e (cL n fr src tg tt fe):=DQ AU (M4 h)
section
variable {X:Cx}{E:XK}{He η:Hp}{e:Qc}{f:al}{s:am}{pos:Pos}{st:Q1}
def unown(i:Nat)(ρ:Ev):Ev:=match ρ[i]? with
 |some (.ow d)=>ρ.set i (.sh d)
 |_=>ρ
def BQ(i:Nat)(s:am):am:=λρ=>s (unown i ρ)
def cZ.unown{K:Px}{Ha H:Hp}{σ:L2.St}{ρ:Ev}(h:cZ K He η Ha σ H ρ)(i:Nat):∃Ha',aB Ha Ha'/\cZ K He η Ha' σ H (DL.unown i ρ):=by
 unfold DL.unown;cases e:ρ[i]? with
 |none=>exact⟨Ha,aB.refl _,h⟩
 |some s=>
  cases s with
  |no|sh d|ox j ds|pt a=>exact⟨Ha,aB.refl _,h⟩
  |ow d=>
   obtain⟨a,k1,k2,k3,k4⟩:=h.ow i d e;obtain⟨o,h5,hrep⟩:∃o,H a=some o/\∀Hb,aB Ha Hb->Hb a=some o->Rep K Hb d (.ref a):=by
    cases d with
    |lst ds=>obtain⟨vs,h5,h6⟩:=k4;exact⟨_,h5,λHb z e=>aF.mpr ⟨a,vs,rfl,dR.of e,h6.mono z⟩⟩
    |dic ks ds=>obtain⟨vs,h5,hl,h6⟩:=k4;exact⟨_,h5,λHb z e=>by rw[Rep];exact⟨a,_,vs,rfl,.inl e,rfl,hl,h6.mono z⟩⟩
    |ob kk ds=>
     cases kk with|dint ks=>obtain⟨vs,h5,hl,h6⟩:=k4;exact⟨_,h5,λHb z e=>by exact ff.mpr ⟨a,vs,rfl,⟨_,.inl e,rfl,hl⟩,h6.mono z⟩⟩| _=>exact k4.elim
    |_=>exact k4.elim
   have z:aB Ha (upd Ha a o):=λb o' q=>by rw[au (by intro z;subst z;rw[k3]at q;cases q)];exact q
   have h':cZ K He η (upd Ha a o) σ H (ρ.set i .no):=by
    have nset:∀(j:Nat) (s:Sl),(ρ.set i .no)[j]?=some s->s≠.no->j≠i/\ρ[j]?=some s:=λj s q hs=>by
     by_cases hj:i=j
     .subst hj
      rw[Q6]at q;rw[e]at q;cases q;exact absurd rfl hs
     .rw[PB hj]at q;exact⟨λz=>hj z.symm,q⟩
    refine⟨⟨h.g.s,h.g.z.trans z,λb o' q=>?_,λb q1 q2=>?_⟩,λj d' q=>?_,λj d' q=>?_,λj k d1 d2 hn q1 q2=>?_,by simp[h.ln],h.ex.upd (λj s q=>?_) z (λb us _ eb=>eb) λq us _ q0 hq hd=>?_⟩
    rotate_left 5
    .by_cases hs:s=.no
     .exact .inr (.inr (.inl hs))
     .exact .inl ⟨(nset j s q hs).2,rfl⟩
    .have hq':q≠a:=by
      intro zz;subst zz;exact hd i _ e k1
     exact⟨hq,by rw[au hq'];exact q0⟩
    .by_cases hb:b=a
     .subst hb;rw[aG]at q;cases q;exact h5
     .rw[au hb]at q;exact h.g.sub _ _ q
    .by_cases hb:b=a
     .subst hb;exact k2
     .rw[au hb]at q1;exact h.g.nw b q1 q2
    .obtain⟨hj,q⟩:=nset j _ q (λz=>nomatch z)
     obtain⟨v,q1,q2⟩:=h.rd j d' q;exact⟨v,q1,q2.mono z⟩
    .obtain⟨hj,q⟩:=nset j _ q (λz=>nomatch z)
     obtain⟨b,q1,q2,q3,q4⟩:=h.ow j d' q;have hb:b≠a:=by
      intro zz;subst zz;exact h.ap j i d' d hj q e (by rw[q1,k1])
     refine⟨b,q1,q2,by rw[au hb];exact q3,?_⟩;cases d' with
     |lst ds'=>obtain⟨vs',h7,h8⟩:=q4;exact⟨vs',h7,h8.mono z⟩|dic ks' ds'=>obtain⟨vs',h7,hl,h8⟩:=q4;exact⟨vs',h7,hl,h8.mono z⟩
     |ob kk ds'=>
      cases kk with|dint ks'=>obtain⟨vs',h7,hl,h8⟩:=q4;exact⟨vs',h7,hl,h8.mono z⟩| _=>exact q4.elim
     |_=>exact q4.elim
    .obtain⟨_,q1⟩:=nset j _ q1 (λz=>nomatch z)
     obtain⟨_,q2⟩:=nset k _ q2 (λz=>nomatch z);exact h.ap j k d1 d2 hn q1 q2
   refine⟨_,z,?_⟩;have hp:=h'.put (i:=i) (d:=d) (v:=.ref a) (hrep _ z aG);rw[List.set_set]at hp;have hσ:σ.set i (some (V.ref a))=σ:=by
    apply TN;intro k
    by_cases hk:i=k
    .subst hk
     obtain⟨hil,_⟩:=PH.mp k1;rw[PZ hil,k1]
    .rw[PB hk]
   rw[hσ]at hp;exact hp
def Kw(i:Nat)(h:DS X E He η st s):DS X E He η st (BQ i s):=⟨bP h.o λD' σ H z9=>by
 obtain⟨Ha,ρ,hr,q⟩:=z9;obtain⟨Ha',z,hr'⟩:=hr.unown i;exact⟨Ha',DL.unown i ρ,hr',b3.grow (r:=s (DL.unown i ρ)) q z⟩⟩
end
def uG{X:Cx}{E:XK}{tgt iter elt:Qc}{ifs:List Qc}{scope:SH}{pos:Pos}(N:bi)(n:Nat)(fr:bm){src:Ev->ai (ac)}{tg:Ev->D->ai Ev}{tt fe:al}(hc:X.calm=true)(hi:DI X E tgt iter src)(hok:wK n tg)
  (blk:∀s H C fp pn,(∀He η,DG (cS X N scope s H C fp pn) E He η tgt tg)/\NG (cS X N scope s H C fp pn) E ifs tt/\DE (cS X N scope s H C fp pn) E elt fe)
  (hfr:yn X N n fr scope)(hcell:(scope.names.all λx=>!(x.2==.cell))=true)(hfree:(scope.names.all λx=>!(x.2==.free)||(X.env.scope.names.lookup x.1==some .cell))=true)(hkind:scope.kind=.function)
  (hnames:(scope.names.all λx=>!(x.2==.local)||(scope.names.lookup x.1==some .local))=true)
  (hs:∀x,foldedSetIterable iter X.env x=pure x:=by intro _;rfl):Nl X E (.ListComp elt [⟨tgt,iter,ifs,0⟩] scope pos) (cL n fr src tg tt fe):=by
 refine Pj N n fr hc hi hok blk hfr (λx hx z=>?_) (λx hx z=>?_) hkind (λx hx z=>?_) hs
 .have:=P7.mp hcell x hx
  rw[z]at this;simp at this
 .have:=P7.mp hfree x hx
  rw[z]at this;simpa using this
 .have:=P7.mp hnames x hx
  rw[z]at this;simpa using this
end DL
namespace Com
open PySem L2 DL
def eQ:am :=
 (aA (gN (jY 1) (ae (aa 1) (dC (.int 0)) fY)
 (aA (qS 0 1 (ag (aa 1) (ag (ae (aa 0) (aa 1) dh) aC)))
 ar))
 (aA (bD (ao (ag (aa 0) aC) (m1 AS)))
 ar))
def ju:ac->ai D:=cM 2 eQ
def rL:am :=
 (aA (bq 2 (ao (ag (aa 0) (ag (aa 1) aC)) ju))
 (aA (bD (ao (ag (ae (aa 0) (aa 2) lZ) (ag (ae (aa 1) (aa 2) lZ) aC)) eJ))
 ar))
def Ec:ac->ai D:=cM 3 rL
def yf:am :=
 (aA (bD (gf (cu (aa 0) (c4 "int")) (cJ (cu (aa 0) (c4 "bool")))))
 ar)
def m_is_whole:ac->ai D:=cM 1 yf
noncomputable def dH:am :=
 (aA (bq 2 (ao (ag (aa 0) aC) (m1 AS)))
 (aA (bq 3 (ao (ag (aa 1) aC) (m1 AS)))
 (aA (gN (jY 3) (ae (aa 3) (dC (.int 0)) fY)
 (aA (bq 4 (ae (aa 2) (aa 3) dh))
 (aA (bq 2 (aa 3))
 (aA (bq 3 (aa 4))
 ar))))
 (aA (bD (aa 2))
 ar))))
def m_common_divisor:ac->ai D:=cM 5 dH
noncomputable def oB:am :=
 (aA (dQ (gV (cJ (ao (ag (aa 0) aC) m_is_whole)) (cJ (ao (ag (aa 1) aC) m_is_whole)))
 (aA e8
 ar)
 ar)
 (aA (dQ (ae (aa 1) (dC (.int 0)) mS)
 (aA e8
 ar)
 ar)
 (aA (bq 2 (ao (ag (aa 0) (ag (aa 1) aC)) m_common_divisor))
 (aA (dQ (ae (aa 1) (dC (.int 0)) Li)
 (aA (bq 2 (cu (aa 2) M8))
 ar)
 ar)
 (aA (bD (ao (ag (ae (aa 0) (aa 2) lZ) (ag (ae (aa 1) (aa 2) lZ) aC)) eJ))
 ar)))))
def m_ratio:ac->ai D:=cM 3 oB
def A0{α β:Type}{a:α}{f:α->ai β}:(ai.ok a).bind f=f a:=rfl
def iC{s t:am}{ρ ρ':Ev}(h:s ρ=.ok (.nx ρ')):aA s t ρ=t ρ':=by unfold aA;rw[h];rfl
def xc{s t:am}{ρ:Ev}{d:D}(h:s ρ=.ok (.rt d)):aA s t ρ=.ok (.rt d):=by unfold aA;rw[h];rfl
def BJ{s:am}{ρ ρ':Ev}(h:s ρ=.ok (.nx ρ')):aA s ar ρ=.ok (.nx ρ'):=by unfold aA;rw[h];rfl
def BI{i:Nat}{f:al}{ρ:Ev}{d:D}(h:f ρ=.ok d):bq i f ρ=.ok (.nx (ρ.set i (.sh d))):=by unfold bq;rw[h];rfl
def xh{f:al}{ρ:Ev}{d:D}(h:f (gw ρ)=.ok d):bD f ρ=.ok (.rt d):=by unfold bD;rw[h];rfl
def Jz{c:al}{s t:am}{ρ:Ev}(h:c (gw ρ)=.ok (.bl false)):dQ c s t ρ=t ρ:=by unfold dQ;rw[h];rfl
def uf{i j:Int}:fY (.int i) (.int j)=.ok (.bl (!(i==j))):=by unfold fY;rw[if_pos ⟨rfl,rfl⟩,cV]
def Dn{i j:Int}:mS (.int i) (.int j)=.ok (.bl (i==j)):=by unfold mS;rw[if_pos ⟨rfl,rfl⟩,cV]
def ma{f:al}{fa:Ev->ai (ac)}{ρ:Ev}{x:D}{xs:ac}(h:f ρ=.ok x)(h':fa ρ=.ok xs):ag f fa ρ=.ok (x::xs):=by unfold ag;rw[h,A0,h'];rfl
def qo{f g:al}{op:D->D->ai D}{ρ:Ev}{x y:D}(h:f ρ=.ok x)(h':g ρ=.ok y):ae f g op ρ=op x y:=by unfold ae;rw[h,A0,h'];rfl
def wF{fa:Ev->ai (ac)}{m:ac->ai D}{ρ:Ev}{xs:ac}(h:fa ρ=.ok xs):ao fa m ρ=m xs:=by unfold ao;rw[h];rfl
def xC{a b:Int}(h:b≠0):dh (.int a) (.int b)=.ok (.int (a.fmod b)):=by
 show(if decide (b≠0)=true then ai.ok (D.int (a.fmod b)) else .stuck)=_;rw[if_pos (decide_eq_true h)]
def DD{a b:Int}(h:eY a b=true):lZ (.int a) (.int b)=.ok (.int (a.fdiv b)):=by
 show(if eY a b=true then ai.ok (D.int (a.fdiv b)) else .stuck)=_;rw[if_pos h]
def pL(a b:Int):Qn b (a.fmod b)=Qn a b:=by
 rw[Int.fmod_def,Int.gcd_sub_mul_left_right,UH]
def zy{a b:Int}(h:b≠0):(a.fmod b).natAbs<b.natAbs:=by
 rcases Int.lt_or_gt_of_ne h with hb|hb
 .have h1:=TK (-a) (show 0 < -b by omega)
  have h2:=Sv (-a) (show 0 < -b by omega);rw[Int.neg_fmod_neg]at h1 h2;omega
 .have h1:=TK a hb
  have h2:=Sv a hb;omega
theorem lX:∀(n:Nat) (a b:Int),b.natAbs<n->∃g:Int,g.natAbs=Qn a b /\
  cn (ae (aa 1) (dC (.int 0)) fY) (aA (qS 0 1 (ag (aa 1) (ag (ae (aa 0) (aa 1) dh) aC))) ar) n [.sh (.int a),.sh (.int b)]=.ok (.nx [.sh (.int g),.sh (.int 0)])
 |0,a,b,h=>absurd h (Tn _)
 |n+1,a,b,h=>by
  unfold cn;have c:(ae (aa 1) (dC (.int 0)) fY) (gw [.sh (.int a),.sh (.int b)])=.ok (.bl (!(b==0))):=uf;rw[c]
  by_cases hb:b=0
  .subst hb
   exact⟨a,by simp,rfl⟩
  .have e:(!(b==0))=true:=by simp[hb]
   obtain⟨g,h1,h2⟩:=lX n b (a.fmod b) (by have:=zy (a:=a) hb;omega);refine⟨g,by rw[h1,pL],?_⟩;rw[←h2];rw[e];have st:(aA (qS 0 1 (ag (aa 1) (ag (ae (aa 0) (aa 1) dh) aC))) ar) [.sh (.int a),.sh (.int b)]=.ok (.nx [.sh (.int b),.sh (.int (a.fmod b))]):=by
    refine BJ ?_;unfold qS;have:(ag (aa 1) (ag (ae (aa 0) (aa 1) dh) aC)) [.sh (.int a),.sh (.int b)]=.ok [.int b,.int (a.fmod b)]:=by
     exact ma rfl (ma (xC hb) rfl)
    rw[this];rfl
   show(ai.bind _ _)=_;rw[st];rfl
def Ky(a b:Int):ju [.int a,.int b]=.ok (.int (Qn a b)):=by
 obtain⟨g,h1,h2⟩:=lX (b.natAbs+1) a b (RM _);have w:gN (jY 1) (ae (aa 1) (dC (.int 0)) fY) (aA (qS 0 1 (ag (aa 1) (ag (ae (aa 0) (aa 1) dh) aC))) ar) [.sh (.int a),.sh (.int b)]=.ok (.nx [.sh (.int g),.sh (.int 0)]):=h2;have r:eQ [.sh (.int a),.sh (.int b)]=.ok (.rt (.int (if g<0 then -g else g))):=by
  unfold eQ;rw[iC w];exact xc (xh rfl)
 show(eQ [.sh (.int a),.sh (.int b)]).bind _=_;rw[r];show ai.ok (D.int (if g<0 then -g else g))=_
 congr 2
 rw[←h1];split<;>omega
theorem nE:∀(n:Nat) (x y:D) (a b:Int) (r:Sl),0<=a->0<=b->b.natAbs<n->∃r',
  cn (ae (aa 3) (dC (.int 0)) fY) (aA (bq 4 (ae (aa 2) (aa 3) dh)) (aA (bq 2 (aa 3)) (aA (bq 3 (aa 4)) ar))) n [.sh x,.sh y,.sh (.int a),.sh (.int b),r]=.ok (.nx [.sh x,.sh y,.sh (.int (Qn a b)),.sh (.int 0),r'])
 |0,_,_,a,b,_,_,_,h=>absurd h (Tn _)
 |n+1,x,y,a,b,r,ha,hb0,h=>by
  unfold cn;have c:∀r,(ae (aa 3) (dC (.int 0)) fY) (gw [.sh x,.sh y,.sh (.int a),.sh (.int b),r])=.ok (.bl (!(b==0))):=λr=>uf;rw[c]
  by_cases hb:b=0
  .subst hb
   refine⟨r,?_⟩;have e:((Qn a 0:Nat):Int)=a:=by simp;omega
   rw[e];rfl
  .have e:(!(b==0))=true:=by simp[hb]
   have hp:0<b:=by omega
   obtain⟨r',h2⟩:=nE n x y b (a.fmod b) (.sh (.int (a.fmod b))) hb0 (Sv a hp) (by have:=zy (a:=a) hb;omega);refine⟨r',?_⟩;rw[pL]at h2;rw[←h2,e];have st:(aA (bq 4 (ae (aa 2) (aa 3) dh)) (aA (bq 2 (aa 3)) (aA (bq 3 (aa 4)) ar))) [.sh x,.sh y,.sh (.int a),.sh (.int b),r]=.ok (.nx [.sh x,.sh y,.sh (.int b),.sh (.int (a.fmod b)),.sh (.int (a.fmod b))]):=by
    have m:(ae (aa 2) (aa 3) dh) [.sh x,.sh y,.sh (.int a),.sh (.int b),r]=.ok (.int (a.fmod b)):=by
     exact xC hb
    rw[iC (BI m)];rfl
   show(ai.bind _ _)=_;rw[st];rfl
def kc(a b:Int):m_common_divisor [.int a,.int b]=.ok (.int (Qn a b)):=by
 have e:∀i:Int,(if i<0 then -i else i)=(i.natAbs:Int):=λi=>by split<;>omega
 obtain⟨r',h⟩:=nE ((b.natAbs:Int).natAbs+1) (.int a) (.int b) a.natAbs b.natAbs .no (TJ _) (TJ _) (RM _);have hg:Qn (a.natAbs:Int) (b.natAbs:Int)=Qn a b:=by simp[Qn]
 rw[hg]at h;have r:dH [.sh (.int a),.sh (.int b),.no,.no,.no]=.ok (.rt (.int (Qn a b))):=by
  unfold dH;rw[iC (ρ':=[.sh (.int a),.sh (.int b),.sh (.int (a.natAbs:Int)),.no,.no]) (by rw[←e a];rfl)];rw[iC (ρ':=[.sh (.int a),.sh (.int b),.sh (.int (a.natAbs:Int)),.sh (.int (b.natAbs:Int)),.no]) (by rw[←e b];rfl)];have w:gN (jY 3) (ae (aa 3) (dC (.int 0)) fY) (aA (bq 4 (ae (aa 2) (aa 3) dh)) (aA (bq 2 (aa 3)) (aA (bq 3 (aa 4)) ar))) [.sh (.int a),.sh (.int b),.sh (.int (a.natAbs:Int)),.sh (.int (b.natAbs:Int)),.no]=.ok (.nx [.sh (.int a),.sh (.int b),.sh (.int (Qn a b)),.sh (.int 0),r']):=h;rw[iC w];exact xc (xh rfl)
 show(dH [.sh (.int a),.sh (.int b),.no,.no,.no]).bind _=_;rw[r];rfl
def xn:(2:Nat) ^ 64<=Bb:=by rw[mZ];exact QW (by decide) (by decide)
def Ml{i:Int}(h:i.natAbs<18446744073709551616):i.natAbs<Bb:=PK h xn
def gb{i j:Int}(h:i.natAbs<18446744073709551616)(h':j.natAbs<18446744073709551616):dW i j=true:=by
 unfold dW;rw[Qg];exact⟨decide_eq_true (Ml h),decide_eq_true (Ml h')⟩
def eI{i j:Int}(h:i.natAbs<Bb)(h':j.natAbs<Bb):dW i j=true:=by
 unfold dW;rw[Qg];exact⟨decide_eq_true h,decide_eq_true h'⟩
def DJ{i j:Int}(h0:j≠0)(h:j.natAbs<B9):eY i j=true:=by
 unfold eY;rw[Qg,T5];exact⟨decide_eq_true h0,.inl (decide_eq_true h)⟩
def pX{i j:Int}(h0:j≠0)(h:i.natAbs<qO):eY i j=true:=by
 unfold eY;rw[Qg,T5];exact⟨decide_eq_true h0,.inr (decide_eq_true h)⟩
def kN{ds:ac}{k:Nat}{d:D}(h:ds[k]?=some d):aN (.lst ds) (.int (k:Int))=.ok d:=by
 unfold aN;simp only[eR h]
def eX{a b:Int}(hb:0<b):0<=a.fmod b/\a.fmod b<b:=⟨Sv a hb,TK a hb⟩
def sC{n k:Nat}(h:k<n):(DL.intsFrom 0 n).drop k=.int (k:Int)::(DL.intsFrom 0 n).drop (k+1):=by
 have hl:(DL.intsFrom 0 n).length=n:=by unfold DL.intsFrom;simp
 rw[QG (by rw[hl];exact h)]
 congr 1
 unfold DL.intsFrom;simp
def vU{n:Nat}:(DL.intsFrom 0 n).drop n=[]:=by
 have hl:(DL.intsFrom 0 n).length=n:=by unfold DL.intsFrom;simp
 exact List.drop_eq_nil_of_le (by omega)
def dZ{tg:Ev->D->ai Ev}{s:am}{d:D}{r:ac}{ρ ρ1 ρ2:Ev}(h1:tg ρ d=.ok ρ1)(h2:s ρ1=.ok (.nx ρ2)):bW tg s (d::r) ρ=bW tg s r ρ2:=by
 rw[bW,h1,A0,h2,A0]
def Mo:D->Bool
 |.int _=>true
 |_=>false
def gH(d:D):m_is_whole [d]=.ok (.bl (Mo d)):=by cases d<;>first|rfl|(rename_i k _;cases k<;>rfl)
def ic{a g:Int}(hg:0<g):a.fdiv g=a / g:=Int.fdiv_eq_ediv_of_nonneg a (by omega)
def lR{a b:Int}(h:b≠0):0<(Qn a b:Int):=by
 have:=Int.gcd_pos_of_ne_zero_right a h;omega
def B4{a b:Int}(hb:0<b)(h1:a.natAbs<qO)(h2:b.natAbs<qO):m_ratio [.int a,.int b]=.ok (.tup [.int (a / Qn a b),.int (b / Qn a b)]):=by
 have hg:=lR (a:=a) (b:=b) (by omega);have r:oB [.sh (.int a),.sh (.int b),.no]=.ok (.rt (.tup [.int (a / Qn a b),.int (b / Qn a b)])):=by
  unfold oB;rw[iC (ρ':=[.sh (.int a),.sh (.int b),.no]) (Jz (t:=ar) rfl)];rw[iC (ρ':=[.sh (.int a),.sh (.int b),.no]) (Jz (t:=ar) ((qo (x:=.int b) (y:=.int 0) rfl rfl).trans (Dn.trans (by rw[beq_eq_false_iff_ne.mpr (by omega)]))))];rw[iC (ρ':=[.sh (.int a),.sh (.int b),.sh (.int (Qn a b))]) (BI ((wF (xs:=[.int a,.int b]) rfl).trans (kc a b)))];rw[iC (ρ':=[.sh (.int a),.sh (.int b),.sh (.int (Qn a b))]) (Jz (t:=ar) (by
   show ai.ok (D.bl (decide (b<0)))=_;rw[decide_eq_false (by omega)]))]
  refine xc (xh ?_);refine(wF (xs:=[.int (a / Qn a b),.int (b / Qn a b)]) (ma ?_ (ma ?_ rfl))).trans rfl
  .rw[←ic hg]
   exact(qo (x:=.int a) (y:=.int (Qn a b)) rfl rfl).trans (DD (pX (by omega) h1))
  .rw[←ic hg]
   exact(qo (x:=.int b) (y:=.int (Qn a b)) rfl rfl).trans (DD (pX (by omega) h2))
 show(oB [.sh (.int a),.sh (.int b),.no]).bind _=_;rw[r];rfl
def N9(p q:Int):D:=.tup [.int p,.int q]
end Com
open Com
namespace Com
open PySem L2 DL
abbrev dS:=Int×Int
def fr(x:dS):D:=N9 x.1 x.2
def ym:Nat:=1000000000000000000000000000000000000000000000000000000000000
def K9:ym<=B9:=by rw[zT];exact Qh (show ym<=2 ^ 200 by decide) (QW (by decide) (by decide))
def Hl:ym<=qO:=by rw[m8];exact Qh (show ym<=2 ^ 200 by decide) (QW (by decide) (by decide))
def zS:ym<=Bb:=by rw[mZ];exact Qh (show ym<=2 ^ 200 by decide) (QW (by decide) (by decide))
def oC:qO<=Bb:=by rw[m8,mZ];exact QW (by decide) (by decide)
structure Low (x:dS):Prop where
 q1:1<=x.2
 g1:Qn x.1 x.2=1
structure ir (x:dS):Prop extends Low x where
 pN:x.1.natAbs<ym
 qN:x.2.natAbs<ym
def b6(a b:Int):dS:=(a / Qn a b,b / Qn a b)
def cU{a b:Int}(hb:0<b):Low (b6 a b):=by
 have hg:=lR (a:=a) (b:=b) (by omega);refine⟨?_,Int.gcd_ediv_gcd_ediv_gcd (by omega)⟩;have:=Int.ediv_gcd_ne_zero_if_ne_zero_right a (show b≠0 by omega);have h2:0<=b / (Qn a b:Int):=To (by omega) (by omega);show 1<=b / (Qn a b:Int);omega
def FG{a b:Int}:(b6 a b).1*b=a*(b6 a b).2:=by
 unfold b6;obtain⟨x,hx⟩:=SD a b;obtain⟨y,hy⟩:=TQ a b
 by_cases hg:(Qn a b:Int)=0
 .simp only[hg,Int.ediv_zero,Int.zero_mul,Int.mul_zero]
 .generalize hG:(Qn a b:Int)=G at *
  have e1:a / G=x:=by rw[hx];exact Tb x hg
  have e2:b / G=y:=by rw[hy];exact Tb y hg
  show a / G*b=a*(b / G);rw[e1,e2]
  calc x*b=x*(G*y):=by rw[←hy]
   _=G*x*y:=by grind
   _=a*y:=by rw[←hx]
def uk{a b:Int}:(b6 a b).1.natAbs<=a.natAbs:=Rh _ _
def uh{a b:Int}:(b6 a b).2.natAbs<=b.natAbs:=Rh _ _
def pz{x y:dS}(hx:Low x)(hy:Low y)(h:x.1*y.2=y.1*x.2):x=y:=by
 have d1:x.2∣y.2:=by
  have:x.2∣x.1*y.2:=⟨y.1,by rw[h];exact Ti _ _⟩
  rw[←T6,UH,hx.g1]at this;simpa using this
 have d2:y.2∣x.2:=by
  have:y.2∣y.1*x.2:=⟨x.1,by rw[←h];exact Ti _ _⟩
  rw[←T6,UH,hy.g1]at this;simpa using this
 have e:x.2=y.2:=Int.dvd_antisymm (by have:=hx.q1;omega) (by have:=hy.q1;omega) d1 d2;have e1:x.1=y.1:=by
  rw[e]at h;exact Int.eq_of_mul_eq_mul_right (by have:=hy.q1;omega) h
 exact Prod.ext e1 e
def vd{a b:Int}(hb:0<b)(h1:a.natAbs<qO)(h2:b.natAbs<qO):m_ratio [.int a,.int b]=.ok (fr (b6 a b)):=B4 hb h1 h2
def Mn{a b:Int}(hb:0<b)(h1:a.natAbs<ym)(h2:b.natAbs<ym):ir (b6 a b):=⟨cU hb,Qu uk h1,Qu uh h2⟩
def flt(x y:dS):Bool:=decide (x.1*y.2<y.1*x.2)
def aH{α:Type}{a b:α}(h:a=b):a=b:=h
def ID(t:am)(r:Fl):ai Fl:=match r with
 |.nx ρ'=>t ρ'
 |r=>.ok r
def LF(i:Nat)(ρ:Ev)(d:D):ai Fl:=.ok (.nx (ρ.set i (.sh d)))
def LH(d:D):ai Fl:=.ok (.rt d)
def HJ(ρ:Ev)(_:D):ai Fl:=.ok (.nx ρ)
def N2(s t:am)(ρ:Ev)(x:D):ai Fl:=match x with
 |.bl b=>if b=true then s ρ else t ρ
 |_=>.stuck
def L5(i:Nat)(ρ:Ev)(d:D):ai Fl:=match d with
 |.lst ds=>.ok (.nx (ρ.set i (.ow (.lst ds))))
 |_=>.stuck
def Jf(s:Option Sl)(k:ac->ai Fl):ai Fl:=match s with
 |some (.ow (.lst ds))=>k ds
 |_=>.stuck
def Na(i:Nat)(ρ:Ev)(ds:ac)(d:D):ai Fl:=if ds.length<line then .ok (.nx (ρ.set i (.ow (.lst (ds++[d]))))) else .stuck
def gZ(i:Nat)(ρ:Ev)(k:al)(ds:ac)(d:D):ai Fl:=(k ρ).bind (DL.putAt ρ i ds d)
def L4(i j:Nat)(ρ:Ev)(ds:ac):ai Fl:=match ds with
 |[x,y]=>.ok (.nx ((ρ.set i (.sh x)).set j (.sh y)))
 |_=>.stuck
def k2(g:al)(op:D->D->ai D)(ρ:Ev)(x:D):ai D:=(g ρ).bind (op x)
def xX(x:D)(xs:ac):ai (ac):=.ok (x::xs)
def HM(fa:Ev->ai (ac))(ρ:Ev)(x:D):ai (ac):=(fa ρ).bind (xX x)
def KS(g:al)(ρ:Ev)(x:D):ai D:=match x with
 |.bl true=>g ρ
 |.bl false=>.ok (.bl false)
 |_=>.stuck
def NX(g:al)(ρ:Ev)(x:D):ai D:=match x with
 |.bl true=>.ok (.bl true)
 |.bl false=>g ρ
 |_=>.stuck
def Mb(x:D):ai D:=match x with
 |.bl b=>.ok (.bl (!b))
 |_=>.stuck
def Jy(f g:al)(ρ:Ev)(x:D):ai D:=match x with
 |.bl true=>f ρ
 |.bl false=>g ρ
 |_=>.stuck
def Lo(s:Option Sl):ai D:=match s with
 |some (.sh d)=>.ok d
 |_=>.stuck
def Ah(s:Sl):Sl:=match s with
 |.ow d=>.sh d
 |.ox _ ds=>.sh (.tup ds)
 |x=>x
def IH(r:Fl):ai D:=match r with
 |.nx _=>.ok .non
 |.rt d=>.ok d
 |_=>.stuck
def OG(x:D):ai (Option Int):=match x with
 |.int i=>.ok (some i)
 |_=>.stuck
def BH(x:D)(l:Option Int)(h:Option Int):ai D:=oT x l h
def NS(hi:Ev->ai (Option Int))(ρ:Ev)(x:D)(l:Option Int):ai D:=(hi ρ).bind (BH x l)
def LD(lo hi:Ev->ai (Option Int))(ρ:Ev)(x:D):ai D:=(lo ρ).bind (NS hi ρ x)
def Mv(tg:Ev->D->ai Ev)(s:am)(ρ:Ev)(d:D):ai Fl:=match d with
 |.lst ds=>bW tg s ds ρ
 |_=>.stuck
def G9(op':D->D->ai D)(h:al)(ρ:Ev)(y z:D):ai D:=match z with
 |.bl true=>(h ρ).bind (op' y)
 |.bl false=>.ok (.bl false)
 |_=>.stuck
def KL(op op':D->D->ai D)(h:al)(ρ:Ev)(x y:D):ai D:=(op x y).bind (G9 op' h ρ y)
def OT(op op':D->D->ai D)(g h:al)(ρ:Ev)(x:D):ai D:=(g ρ).bind (KL op op' h ρ x)
section
variable {s t:am}{f g h:al}{fa:Ev->ai (ac)}{ρ r:Ev}{i j:Nat}{d x y:D}{ds xs:ac}{op op':D->D->ai D}{a b:Int}
def lS{α β:Type}{a:α}{k:α->ai β}:(ai.ok a).bind k=k a:=aH rfl
def JL:aA s t ρ=(s ρ).bind (ID t):=aH rfl
def F5:ID t (.nx ρ)=t ρ:=aH rfl
def F4:ID t (.rt d)=.ok (.rt d):=aH rfl
def Gf:ar ρ=.ok (.nx ρ):=aH rfl
def JK:bq i f ρ=(f ρ).bind (LF i ρ):=aH rfl
def F3:LF i ρ d=.ok (.nx (ρ.set i (.sh d))):=aH rfl
def JO:bD f ρ=(f (gw ρ)).bind LH:=aH rfl
def F8:LH d=.ok (.rt d):=aH rfl
def Gv:nh f ρ=(f (gw ρ)).bind (HJ ρ):=aH rfl
def Dj:HJ ρ d=.ok (.nx ρ):=aH rfl
def MH:dQ f s t ρ=(f (gw ρ)).bind (N2 s t ρ):=aH rfl
def J4:N2 s t ρ (.bl true)=s ρ:=aH rfl
def J3:N2 s t ρ (.bl false)=t ρ:=aH rfl
def JR:kI i f ρ=(f ρ).bind (L5 i ρ):=aH rfl
def Gd:L5 i ρ (.lst ds)=.ok (.nx (ρ.set i (.ow (.lst ds)))):=aH rfl
def Kb:ez i f ρ=Jf ρ[i]? λds=>(f ρ).bind (Na i ρ ds):=aH rfl
def Gb{k:ac->ai Fl}:Jf (some (.ow (.lst ds))) k=k ds:=aH rfl
def j6(h:decide (ds.length<=999)=true):Na i ρ ds d=.ok (.nx (ρ.set i (.ow (.lst (ds++[d]))))):=if_pos (Qu (of_decide_eq_true h) (by decide))
def JP:BP i f g ρ=Jf ρ[i]? λds=>(f ρ).bind (gZ i ρ g ds):=aH rfl
def F9:gZ i ρ g ds d=(g ρ).bind (DL.putAt ρ i ds d):=aH rfl
def J5:BQ i s ρ=s (unown i ρ):=aH rfl
def JQ:qS i j fa ρ=(fa ρ).bind (L4 i j ρ):=aH rfl
def Ga:L4 i j ρ [x,y]=.ok (.nx ((ρ.set i (.sh x)).set j (.sh y))):=aH rfl
def MP{o:D->ai D}:cu f o ρ=(f ρ).bind o:=aH rfl
def MO:ae f g op ρ=(f ρ).bind (k2 g op ρ):=aH rfl
def Ka:k2 g op ρ x=(g ρ).bind (op x):=aH rfl
def MN{m:ac->ai D}:ao fa m ρ=(fa ρ).bind m:=aH rfl
def JW:aC ρ=.ok []:=aH rfl
def Gw:ag f fa ρ=(f ρ).bind (HM fa ρ):=aH rfl
def Dl:HM fa ρ x=(fa ρ).bind (xX x):=aH rfl
def Dk:xX x xs=.ok (x::xs):=aH rfl
def Kc:gf f g ρ=(f ρ).bind (KS g ρ):=aH rfl
def Gy:KS g ρ (.bl true)=g ρ:=aH rfl
def Gx:KS g ρ (.bl false)=.ok (.bl false):=aH rfl
def MB:gV f g ρ=(f ρ).bind (NX g ρ):=aH rfl
def JU:NX g ρ (.bl true)=.ok (.bl true):=aH rfl
def JT:NX g ρ (.bl false)=g ρ:=aH rfl
def JV:cJ f ρ=(f ρ).bind Mb:=aH rfl
def Ge{c:Bool}:Mb (.bl c)=.ok (.bl (!c)):=aH rfl
def J2:rJ h f g ρ=(h ρ).bind (Jy f g ρ):=aH rfl
def Gr:Jy f g ρ (.bl true)=f ρ:=aH rfl
def Gq:Jy f g ρ (.bl false)=g ρ:=aH rfl
def JD:aa i ρ=Lo ρ[i]?:=aH rfl
def FU:Lo (some (.sh d))=.ok d:=aH rfl
def Ob:dC d ρ=.ok d:=aH rfl
def F2:gw []=[]:=aH rfl
def JJ{c:Sl}:gw (c::r)=Ah c::gw r:=aH rfl
def F1:Ah (.ow d)=.sh d:=aH rfl
def FY:Ah (.ox j ds)=.sh (.tup ds):=aH rfl
def F0:Ah (.sh d)=.sh d:=aH rfl
def FZ:Ah .no=.no:=aH rfl
def JN{n:Nat}:cM n s ds=(s (ds.map Sl.sh++Qd (n-ds.length) .no)).bind IH:=aH rfl
def F7:IH (.rt d)=.ok d:=aH rfl
def F6:IH (.nx ρ)=.ok .non:=aH rfl
def MA:fz f ρ=(f ρ).bind OG:=aH rfl
def JS:OG (.int a)=.ok (some a):=aH rfl
def MC:fM ρ=.ok none:=aH rfl
def My{lo hi:Ev->ai (Option Int)}:AR f lo hi ρ=(f ρ).bind (LD lo hi ρ):=aH rfl
def JI{lo hi:Ev->ai (Option Int)}:LD lo hi ρ x=(lo ρ).bind (NS hi ρ x):=aH rfl
def JH{hi:Ev->ai (Option Int)}{l:Option Int}:NS hi ρ x l=(hi ρ).bind (BH x l):=aH rfl
def JG{l l':Option Int}:BH (.lst ds) l l'=.ok (.lst (rK ds l l')):=aH rfl
def J6{tg:Ev->D->ai Ev}:qT f tg s ρ=(f ρ).bind (Mv tg s ρ):=aH rfl
def Gu{tg:Ev->D->ai Ev}:Mv tg s ρ (.lst ds)=bW tg s ds ρ:=aH rfl
def Dm:gQ op op' f g h ρ=(f ρ).bind (OT op op' g h ρ):=aH rfl
def MJ:OT op op' g h ρ x=(g ρ).bind (KL op op' h ρ x):=aH rfl
def J9:KL op op' h ρ x y=(op x y).bind (G9 op' h ρ y):=aH rfl
def J8:G9 op' h ρ y (.bl true)=(h ρ).bind (op' y):=aH rfl
def J7:G9 op' h ρ y (.bl false)=.ok (.bl false):=aH rfl
def JZ{o:Int->Int->D}:vT (λ_ _=>true) o (.int a) (.int b)=.ok (o a b):=aH rfl
def Ke:cj (.int a) (.int b)=.ok (.int (a+b)):=aH rfl
def zE{es:ac}(h:decide (ds.length+es.length<=1000)=true):cj (.lst ds) (.lst es)=.ok (.lst (ds++es)):=if_pos (Qh (of_decide_eq_true h) (by decide))
def MF{m:D->ai D}:m1 m [x]=m x:=aH rfl
def ME{m:D->D->ai D}:m2 m [x,y]=m x y:=aH rfl
def dm:bS (.lst ds)=.ok (.int ds.length):=aH rfl
def Gg:bS (.tup ds)=.ok (.int ds.length):=aH rfl
def JF(h:decide (ds.length<=1000)=true):eJ ds=.ok (.tup ds):=if_pos (Qh (of_decide_eq_true h) (by decide))
def JY(h:decide (ds.length<=1000)=true):du ds=.ok (.lst ds):=if_pos (Qh (of_decide_eq_true h) (by decide))
def rG{c:Bool}:c4 "bool" (.bl c)=.ok (.bl true):=aH rfl
def pQ:c4 "bool" (.int a)=.ok (.bl false):=aH rfl
def rq:c4 "int" (.non)=.ok (.bl false):=aH rfl
def ux{c:Bool}:c4 "int" (.bl c)=.ok (.bl true):=aH rfl
def rD:c4 "int" (.int a)=.ok (.bl true):=aH rfl
def rn{z:PY}:c4 "int" (.str z)=.ok (.bl false):=aH rfl
def rm:c4 "int" (.tup ds)=.ok (.bl false):=aH rfl
def rA:c4 "int" (.lst ds)=.ok (.bl false):=aH rfl
def rE{ks:bi}:c4 "int" (.dic ks ds)=.ok (.bl false):=aH rfl
def rh{z:PY}:c4 "str" (.str z)=.ok (.bl true):=aH rfl
def nW:c4 "tuple" (.tup ds)=.ok (.bl true):=aH rfl
def pP:c4 "list" (.lst ds)=.ok (.bl true):=aH rfl
def xV:c3 (.non) .non=.ok (.bl true):=aH rfl
def v9:gJ (.non) .non=.ok (.bl false):=aH rfl
def xU{z:PY}:c3 (.str z) .non=.ok (.bl false):=aH rfl
def xT:c3 (.tup ds) .non=.ok (.bl false):=aH rfl
def v8:gJ (.tup ds) .non=.ok (.bl true):=aH rfl
def cz(h:dW a b=true):cg (.int a) (.int b)=.ok (.int (a*b)):=if_pos h
def JX(h:(b==0)=false):dh (.int a) (.int b)=.ok (.int (a.fmod b)):=xC (λz=>by rw[z]at h;cases h)
def mL(h:eY a b=true):lZ (.int a) (.int b)=.ok (.int (a.fdiv b)):=if_pos h
def Mz{is:bm}:dJ ρ (i::is) (d::ds)=dJ (ρ.set i (.sh d)) is ds:=aH rfl
def JM:dJ ρ [] ds=ρ:=aH rfl
def Oz(i:Nat)(ρ:Ev)(s:Option Sl):Ev:=match s with
 |some (.ow d)=>ρ.set i (.sh d)
 |_=>ρ
def Mx:unown i ρ=Oz i ρ ρ[i]?:=aH rfl
def JE:Oz i ρ (some (.ow d))=ρ.set i (.sh d):=aH rfl
def v7{n:Nat}{j:Int}(h:xK ds.length j=some n):DL.putAt ρ i ds d (.int j)=.ok (.nx (ρ.set i (.ow (.lst (ds.set n d))))):=by
 unfold DL.putAt;simp only[h]
def zD{x0:D}:aN (.lst (x0::xs)) (.int 0)=.ok x0:=by
 unfold aN;simp only[show atI (x0::xs) 0=some x0 from eR (j:=0) rfl]
def Gn{x0:D}:aN (.tup (x0::xs)) (.int 0)=.ok x0:=by
 unfold aN;simp only[show atI (x0::xs) 0=some x0 from eR (j:=0) rfl]
def zC{x0 x1:D}:aN (.lst (x0::x1::xs)) (.int 1)=.ok x1:=by
 unfold aN;simp only[show atI (x0::x1::xs) 1=some x1 from eR (j:=1) rfl]
def Gm{x0 x1:D}:aN (.tup (x0::x1::xs)) (.int 1)=.ok x1:=by
 unfold aN;simp only[show atI (x0::x1::xs) 1=some x1 from eR (j:=1) rfl]
def Gp{x0 x1 x2:D}:aN (.lst (x0::x1::x2::xs)) (.int 2)=.ok x2:=by
 unfold aN;simp only[show atI (x0::x1::x2::xs) 2=some x2 from eR (j:=2) rfl]
def Gk{x0 x1 x2:D}:aN (.tup (x0::x1::x2::xs)) (.int 2)=.ok x2:=by
 unfold aN;simp only[show atI (x0::x1::x2::xs) 2=some x2 from eR (j:=2) rfl]
def Gj{x0 x1 x2 x3:D}:aN (.tup (x0::x1::x2::x3::xs)) (.int 3)=.ok x3:=by
 unfold aN;simp only[show atI (x0::x1::x2::x3::xs) 3=some x3 from eR (j:=3) rfl]
def Gi{x0 x1 x2 x3 x4:D}:aN (.tup (x0::x1::x2::x3::x4::xs)) (.int 4)=.ok x4:=by
 unfold aN;simp only[show atI (x0::x1::x2::x3::x4::xs) 4=some x4 from eR (j:=4) rfl]
def MM:((2:Nat):Int)=2:=aH rfl
def ML:((4:Nat):Int)=4:=aH rfl
def MK:((5:Nat):Int)=5:=aH rfl
end
def HH(fa:Ev->ai (ac))(ρ:Ev)(x:D):ai D:=match x with
 |.str z=>(fa ρ).bind (lQ z)
 |_=>.stuck
def Gh{f:al}{fa:Ev->ai (ac)}{ρ:Ev}:sQ f fa ρ=(f ρ).bind (HH fa ρ):=aH rfl
def Dh{fa:Ev->ai (ac)}{ρ:Ev}{z:PY}:HH fa ρ (.str z)=(fa ρ).bind (lQ z):=aH rfl
end Com
def bc{a b:Prop}(x:a)(y:b):a/\b:=⟨x,y⟩
def Lc:=(bc (bc (bc (bc (bc (bc @lS (bc @JL @F5)) (bc (bc @F4 @Gf) (bc @JK @F3))) (bc (bc @JO (bc @F8 @Gv)) (bc (bc @Dj @MH) (bc @J4 @J3)))) (bc (bc (bc @JR (bc @Gd @Kb)) (bc (bc @Gb @JP) (bc @F9 @J5))) (bc (bc @JQ (bc @Ga @MP)) (bc (bc @MO @Ka) (bc @MN @JW))))) (bc (bc (bc (bc @Gw (bc @Dl @Dk)) (bc (bc @Kc @Gy) (bc @Gx @MB))) (bc (bc @JU (bc @JT @JV)) (bc (bc @Ge @J2) (bc @Gr @Gq)))) (bc (bc (bc @JD (bc @FU @Ob)) (bc (bc @F2 @JJ) (bc @F1 @F0))) (bc (bc (bc @FZ @JN) (bc @F7 @F6)) (bc (bc @MA @JS) (bc @MC @My)))))) (bc (bc (bc (bc (bc @JI (bc @JH @JG)) (bc (bc @J6 @Gu) (bc @Dm @MJ))) (bc (bc @J9 (bc @J8 @J7)) (bc (bc @JZ @Ke) (bc @MF @ME)))) (bc (bc (bc @dm (bc @Gg @Dn)) (bc (bc @uf @JF) (bc @JY @zE))) (bc (bc @j6 (bc @JX @Mz)) (bc (bc @JM @Mx) (bc @JE @zD))))) (bc (bc (bc (bc @zC (bc @Gp @Gn)) (bc (bc @Gm @Gk) (bc @Gj @Gi))) (bc (bc @rG (bc @pQ @rq)) (bc (bc @ux @rD) (bc @rn @rm)))) (bc (bc (bc @rA (bc @rE @rh)) (bc (bc @nW @pP) (bc @xV @v9))) (bc (bc (bc @xU @xT) (bc @v8 @MM)) (bc (bc @ML @MK) (bc @Gh @Dh)))))))
local macro_rules|`(tactic|open_line with[$xs,*])=>`(tactic|simp only[Lc,PQ,Q3,Qj,SJ,Tu,Tt,QX,Se,RO,QU,TF,TH,Tf,Nat.reduceSub,Nat.reduceAdd,UB,Te,R6,RQ,decide_true,decide_false,Nat.reduceLeDiff,Nat.reduceBEq,Int.reduceBEq,beq_self_eq_true,DL.dOne,DL.mYes,Int.reduceLT,Int.reduceLE,Int.reduceSub,Int.reduceAdd,Int.reduceMul,Int.reduceNeg,Int.reduceToNat,Ur,$[$xs:term],*])
namespace Com
open PySem L2 DL
noncomputable def iq:am :=
 (aA (dQ (gV (cJ (cu (aa 0) (c4 "str"))) (cJ (gQ M9 M9 (dC (.int 1)) (ao (ag (aa 0) aC) (m1 bS)) (dC (.int 8)))))
 (aA (bD (dC (.bl false)))
 ar)
 ar)
 (aA (bD (ao (ag (cL 1 [] (ER (aa 0)) (bJ 0) mYes (ae (aa 0) (dC (.str "abcdefghijklmnopqrstuvwxyz")) A7)) aC) (m1 G6)))
 ar))
def m_is_name:ac->ai D:=cM 1 iq
noncomputable def dz:am :=
 (aA (dQ (gV (cJ (cu (aa 0) (c4 "tuple"))) (ae (ao (ag (aa 0) aC) (m1 bS)) (dC (.int 2)) fY))
 (aA (bD (dC (.bl false)))
 ar)
 ar)
 (aA (dQ (gV (cJ (ao (ag (ae (aa 0) (dC (.int 0)) aN) aC) m_is_whole)) (cJ (ao (ag (ae (aa 0) (dC (.int 1)) aN) aC) m_is_whole)))
 (aA (bD (dC (.bl false)))
 ar)
 ar)
 (aA (bD (gf (ae (ae (aa 0) (dC (.int 1)) aN) (dC (.int 1)) Oi) (ae (ao (ag (ae (aa 0) (dC (.int 0)) aN) (ag (ae (aa 0) (dC (.int 1)) aN) aC)) m_common_divisor) (dC (.int 1)) mS)))
 ar)))
def m_is_ratio:ac->ai D:=cM 1 dz
def K4:PY:="abcdefghijklmnopqrstuvwxyz"
def nu(c:Nat):Bool:=Ma ⟨#[c]⟩ K4
def nameB(z:PY):Bool:=decide (1<=z.length)&&(decide (z.length<=8)&&z.cps.toList.all nu)
def Mg:D->Bool
 |.str z=>nameB z
 |_=>false
def Nv:D->Bool
 |.str z=>decide (z.length<=line)
 |_=>true
theorem sU{b:Ev}{tg:Ev->D->ai Ev}{tt fe:al}{F:D->D}:∀{ds:ac},(∀d∈ds,∃ρ1,tg b d=.ok ρ1/\tt ρ1=.ok (.bl true)/\fe ρ1=.ok (F d))->bU b tg tt fe ds=.ok (ds.map F)
 |[],_=>rfl
 |d::r,h=>by
  obtain⟨ρ1,h1,h2,h3⟩:=h d Qf;rw[ik h1 h2 h3,sU (λe he=>h e (PV _ he))];rfl
theorem nH{α:Type}(F:α->Bool):∀(cs:List α),gK (cs.map λc=>D.bl (F c))=some (cs.map F)
 |[]=>rfl
 |c::r=>by
  show(gK (r.map λc=>D.bl (F c))).map (F c::·)=_;rw[nH F r];rfl
def xA{z:PY}(hz:z.length<=line):cL 1 [] (ER (aa 0)) (bJ 0) mYes (ae (aa 0) (dC (.str "abcdefghijklmnopqrstuvwxyz")) A7) [.sh (.str z)]=.ok (.lst (z.cps.toList.map λc=>.bl (nu c))):=by
 have hl:(jk z).length<=line:=by rw[kH];exact hz
 unfold cL;show(if(jk z).length<=line then _ else _)=_;rw[if_pos hl];have:bU (cY 1 [] [.sh (.str z)]) (bJ 0) mYes (ae (aa 0) (dC (.str "abcdefghijklmnopqrstuvwxyz")) A7) (jk z)=.ok (z.cps.toList.map λc=>D.bl (nu c)):=by
  unfold jk
  induction z.cps.toList with
  |nil=>rfl
  |cons c r ih=>
   rw[PQ,ik (x:=.bl (nu c)) rfl rfl rfl,ih];rfl
 rw[this]
def xM{d:D}(h:Nv d=true):m_is_name [d]=.ok (.bl (Mg d)):=by
 cases d with
 |str z=>
  have hz:z.length<=line:=of_decide_eq_true h;have hlen:bS (.str z)=.ok (.int z.length):=if_pos hz;show cM 1 iq _=.ok (.bl (nameB z));unfold nameB
  by_cases h1:1<=z.length
  .by_cases h8:z.length<=8
   .have e1:decide ((1:Int)<=(z.length:Int))=true:=decide_eq_true (by omega)
    have e2:decide ((z.length:Int)<=8)=true:=decide_eq_true (by omega);open_line with[iq,hlen,e1,e2,xA hz,G6,nH,decide_eq_true h1,decide_eq_true h8,Tc]
    simp[UG,Function.comp_def]
   .have e1:decide ((1:Int)<=(z.length:Int))=true:=decide_eq_true (by omega)
    have e2:decide ((z.length:Int)<=8)=false:=decide_eq_false (by omega);open_line with[iq,hlen,e1,e2,decide_eq_true h1,decide_eq_false h8,Sa,Ug]
  .have e1:decide ((1:Int)<=(z.length:Int))=false:=decide_eq_false (by omega)
   open_line with[iq,hlen,e1,decide_eq_false h1,Sa]
 |ob k _=>cases k<;>rfl
 |_=>rfl
def oZ:D->Bool
 |.tup [.int p,.int q]=>decide (1<=q)&&(Qn p q==1)
 |_=>false
def Kf{g:Nat}:((g:Int)==1)=(g==1):=by
 cases h:(g==1) with
 |true=>rw[eq_of_beq h];rfl
 |false=>
  have:g≠1:=λz=>by rw[z]at h;cases h
  exact beq_eq_false_iff_ne.mpr (by omega)
def Ie{xs:ac}:(∃x y,xs=[x,y])∨xs.length≠2:=by
 match xs with
 |[]=>exact .inr (by decide)
 |[x]=>exact .inr (by simp)
 |[x,y]=>exact .inl ⟨x,y,rfl⟩
 |x::y::z::r=>exact .inr (by simp)
theorem B3:∀{xs:ac},xs.length≠2->oZ (.tup xs)=false
 |[],_=>rfl
 |[x],_=>by cases x<;>rfl
 |[x,y],h=>absurd rfl h
 |x::y::z::r,_=>by cases x<;>cases y<;>rfl
def xl{x y:D}:oZ (.tup [x,y])=(Mo x&&(Mo y&&oZ (.tup [x,y]))):=by
 cases x<;>cases y<;>rfl
def um(d:D):m_is_ratio [d]=.ok (.bl (oZ d)):=by
 cases d with
 |tup xs=>
  rcases Ie (xs:=xs) with⟨x,y,rfl⟩|h
  .rw[xl]
   show cM 1 dz _=_;cases hx:Mo x with
   |false=>open_line with[dz,gH,hx,Sa]
   |true=>
    cases hy:Mo y with
    |false=>open_line with[dz,gH,hx,hy,Sa,Tc]
    |true=>
     cases x<;>first|(cases hx;done)|skip
     cases y<;>first|(cases hy;done)|skip
     rename_i p q;show _=ai.ok (D.bl (decide (1<=q)&&(Qn p q==1)))
     by_cases hq:1<=q
     .open_line with[dz,gH,hx,hy,kc,Tc,decide_eq_true hq,Kf]
     .open_line with[dz,gH,hx,hy,kc,Tc,decide_eq_false hq,Sa]
  .have e2:((xs.length:Int)==2)=false:=beq_eq_false_iff_ne.mpr (by omega)
   rw[B3 h];show cM 1 dz _=_;open_line with[dz,e2]
 |ob k _=>cases k<;>rfl
 |_=>rfl
def G7{α:Type}{F:α->D}{xs:List α}{lo hi:Option Int}:rK (xs.map F) lo hi=((xs.drop (HT.sIx xs.length 0 lo)).take (HT.sIx xs.length xs.length hi-HT.sIx xs.length 0 lo)).map F:=by
 unfold rK;rw[Pz,←List.map_drop,←List.map_take]
end Com
namespace DL
open PySem PySem.Spec PyProof.Rows L2
structure HR (k:Nat) (A:QV):Prop where
 dp:A.depth+3*k+5<recursionLimit
 un:A.units+16*k+200<RI
def da.h{k:Nat}{A:QV}(r:da k A):HR k A:=⟨r.dp,r.un⟩
structure O1 (P:Qw) (w:QK) (K:Px) (mg:PY->Option Pw) (base:Qo) (k:Nat) (f:Py) (fd:QI) (ps:bi) (sp:Sp):Prop where
 len:∀vs H Q E,sp vs H Q E->vs.length=ps.length
 run:∀(A:QV) (outer:List Ru) (s:PF) (H:Hp) (args:Args) (us:List Pw) (vs:ad) (Q:VK) (E:XK),HR k A->D8 P w K mg base A outer s H->BindsTo s fd args (ps.zip us)->bG vs us->sp vs H Q E ->
  Ss (Ql P w) A (.call (.ref f) args) (CR CX0 outer P w H s Q E) s
def O1.ok{P:Qw}{w:QK}{K:Px}{mg:PY->Option Pw}{base:Qo}{k:Nat}{f:Py}{fd:QI}{ps:bi}{sp:Sp}(F:O1 P w K mg base k f fd ps sp):gp P w K mg base CX0 k f fd ps sp :=
 ⟨F.len,λA outer s H args us vs Q E hr=>F.run A outer s H args us vs Q E (da.h hr)⟩
section
variable {X:Cx}{π:List (Py×Obj)}{σ:L2.St}{H:Hp}{s:PF}{h':Qo}
def zW{t':Nat}{fp:List Py}{T:Py}{xs:ad}(I:Inv X π σ H s)(k:∀b o,b∉fp->s.heap.get? b=some o->h'.get? b=some o)(hf:∀b∈fp,mj X π H b)(hT:s.heap.objs.size<=T)
  (new:cv X.prog X.w (upd H T (.tup xs)) h' T (.tup xs)):Inv X π σ (upd H T (.tup xs)) { s with heap:=h',toks:=t' }:=by
 have hn:H T=none:=I.hok.fresh hT;have nit:∀b u,H b=some u->b∉fp:=λb u e z=>by rw[(hf b z).1]at e;cases e
 refine I.step (g':=s.gens) (d':=s.drawn) (ch:=fp) (λb hb=>?_) (λb o _ _ hc e _=>k b o hc e) (λb o _ _ hc e _=>⟨o.slots,k b o hc e⟩) (λb o _ e n=>?_)
  (λb o hc e=>⟨o,k b o hc e⟩) (λb xs e=>by rw[au (bB e hn)];exact e) (λb o u e=>by rw[au (bB e hn)];exact e) (λb ps e=>⟨#[],by rw[au (bB e hn),e];simp⟩) (λm hm=>?_) (λb u e=>?_) I.bare
 .obtain⟨_,f1,_,f3,f4,f5⟩:=hf b hb
  exact⟨f3,f1,f4,f5⟩
 .rw[au (QD (PK (Qk e) hT))];exact n
 .obtain⟨o,es,ep,ho,r⟩:=hm
  exact⟨o,es,ep,k _ o (λz=>(hf _ z).2.1 rfl) ho,r⟩
 .by_cases hb:b=T
  .subst hb;rw[aG]at e;cases e;exact new
  .rw[au hb]at e
   refine(I.hok b u e).stay (λc v hc q=>k c v ?_ q) (λc q=>by rw[au (bB q hn)];exact q) λc xs q=>by rw[au (bB q hn)];exact q
   rcases hc with z|z
   .rw[z];exact nit b u e
   .exact nit c _ z
def EE{t':Nat}{fp:List Py}(I:Inv X π σ H s)(k:∀b o,b∉fp->s.heap.get? b=some o->h'.get? b=some o)(hf:∀b∈fp,mj X π H b):Inv X π σ H { s with heap:=h',toks:=t' }:=by
 have nit:∀b u,H b=some u->b∉fp:=λb u e z=>by rw[(hf b z).1]at e;cases e
 refine I.step (g':=s.gens) (d':=s.drawn) (ch:=fp) (λb hb=>?_) (λb o _ _ hc e _=>k b o hc e) (λb o _ _ hc e _=>⟨o.slots,k b o hc e⟩) (λb o _ e n=>n)
  (λb o hc e=>⟨o,k b o hc e⟩) (λb xs e=>e) (λb o u e=>e) (λb ps e=>⟨#[],by rw[e];simp⟩) (λm hm=>?_) (λb u e=>?_) I.bare
 .obtain⟨_,f1,_,f3,f4,f5⟩:=hf b hb
  exact⟨f3,f1,f4,f5⟩
 .obtain⟨o,es,ep,ho,r⟩:=hm
  exact⟨o,es,ep,k _ o (λz=>(hf _ z).2.1 rfl) ho,r⟩
 .refine(I.hok b u e).stay (λc v hc q=>k c v ?_ q) (λ_ q=>q) λ_ _ q=>q
  rcases hc with z|z
  .rw[z];exact nit b u e
  .exact nit c _ z
end
def OZ(K:Px)(a:Py):It :=
 ⟨λi H=>∃xs x,dR K H a xs/\xs[i]?=some x,λi H x H'=>∃p y,H p=none/\x=.ref p/\(∀xs,dR K H a xs->xs[i]?=some y)/\H'=upd H p (.tup [.int i,y]),λi H=>∃xs,dR K H a xs/\xs.length<=i⟩
def Aa{P:Qw}{w:QK}{K:Px}{elts:List Qc}{k:Nat}{pos:Pos}(a it e:Py)(hne:e≠it)(hae:a≠e)(hai:a≠it) :
  yj P w K (.Tuple elts k pos) (OZ K a) [e,it] e (λi h=>(∃old,IsEnum h e it i old)/\h.IsListIter it a i) where
 mem:=by simp
 obj:=λi h st b hb=>by
  obtain⟨⟨old,he⟩,o,h1,h2,h3⟩:=st;rcases P9.mp hb with rfl|hb
  .exact⟨_,he,λv z=>by cases z⟩
  .rcases P9.mp hb with rfl|hb
   .exact⟨o,h1,λv z=>by rw[h3]at z;cases z⟩
   .cases hb
 keep:=λi h h' st k=>by
  obtain⟨⟨old,he⟩,hi⟩:=st;exact⟨⟨old,k e (by simp) _ he⟩,hi.at λo y=>k it (by simp) o y⟩
 item:=by
  intro X hP hw hK hc i π s σ H E I hf st hg;subst hP hw hK;obtain⟨xs,x,hq,hx⟩:=hg;obtain⟨its,rv,p,hz⟩:=I.list hq;obtain⟨u,hu,ru⟩:=rv.get hx;have W:=WalksT.enumerate (prog:=X.prog) (w:=X.w) (I.ok.hd hc) e it a hne hae hai its.toArray;have hil:i<its.toArray.size:=by simpa using (PH.mp hu).1
  refine W.item i s _ _ hil ⟨st.1,st.2,p.isList⟩ λT vals h' tk hPt hT hTup hMid hk=>?_;refine⟨_,rfl,W.go elts k pos i T _ _ _ hMid λh'' st'' hk''=>?_⟩;obtain⟨t,y,hy,rfl⟩:=hPt;have hyu:y=u:=by
   have:its[i]?=some y:=by simpa using hy
   rw[hu]at this;cases this;rfl
  subst hyu;obtain⟨o,ho,hr⟩:=hTup;have ho':=hk'' T o (W.apart i T _ hMid) ho;refine⟨.ref T,upd H T (.tup [.int i,x]),zW (s:=s) (h':=h'') (t':=tk) I (λb o hb e=>hk'' b o hb (hk b o hb e)) hf hT ⟨by show 2<=sizeLine;decide,[.int i t,y],.cons ⟨t,rfl⟩ (.cons ru .nil),o,ho',hr⟩,rfl,⟨T,x,I.hok.fresh hT,rfl,λys hy=>by rw[I.list_inj hy hq];exact hx,rfl⟩,⟨st''.1,st''.2.1⟩,λb hb=>?_⟩;have hb0:=(hf b hb).1;obtain⟨ob,hob,_⟩:∃o,s.heap.get? b=some o/\∀v,o.data≠.cell v:=by
   obtain⟨⟨old,he⟩,o,h1,h2,h3⟩:=st;rcases P9.mp hb with rfl|hb
   .exact⟨_,he,λv z=>by cases z⟩
   .rcases P9.mp hb with rfl|hb
    .exact⟨o,h1,λv z=>by rw[h3]at z;cases z⟩
    .cases hb
  rw[au (QD (PK (Qk hob) hT))];exact hb0
 done:=by
  intro X hP hw hK hc i π s σ H E I hf st hg;subst hP hw hK;obtain⟨xs,hq,hx⟩:=hg;obtain⟨its,rv,p,hz⟩:=I.list hq;have hl:=rv.length;obtain⟨⟨old,he⟩,hi⟩:=st;exact wpAny_pyNext_enum_end (I.ok.hd hc) he hi p.isList (by simp;omega) λh' hx=>⟨rfl,EE (t':=s.toks) I (λb o hb e=>hx b o (λz=>hb (by simp[z])) e) hf⟩
 self:=λ_ _ _ _ _ st h=>by
  obtain⟨⟨old,he⟩,_⟩:=st;exact wpAny_pyIter_enum he h
section
variable {X:Cx}{E:XK}{elts:List Qc}{k:Nat}{tp:Pos}{e a b:Qc}{f g:al}
def Mr(K:Px)(ta:TA):TI:=λσ H R=>ta σ H λvs H1=>∃a,vs=[.ref a]/\(∃xs,dR K H1 a xs)/\R (OZ K a) H1
def Fd{ta:TA}{p pos:Pos}(hg:Gl X "enumerate")(hm:X.mg "enumerate"=none)(ha:PA X [a] ta)(hs:PM [a] X.env=[(false,eval a X.env)]:=by rfl):PI X (.Tuple elts k tp) (.Call (.Name "enumerate" p) [a] [] pos) (Mr X.K ta):=by
 intro π s σ H R I h;refine Call_ (pG I hg hm PyProof.Rows.Boot.«enumerate» (SO (cT (ha pos π s σ H _ I h) λus s1 z9=>?_) hs rfl));obtain⟨vs,H1,I1,r1,q1⟩:=z9;obtain⟨l,e,⟨xs,hq⟩,q⟩:=q1;subst e;cases r1 with
 |cons r rr=>
  cases rr;cases r;obtain⟨its,rv,p,hz⟩:=I1.list hq;have hlt:l<s1.heap.objs.size:=by obtain⟨o,n,e,_⟩:=p;exact Qk e
  refine call_enumerate_list p.isList λh' he hi hsz hk=>?_;refine wpAny_pyIter_enum he ?_;refine⟨s1.heap.objs.size+1,[s1.heap.objs.size+1,s1.heap.objs.size],_,_,H1,rfl,I1.kept (t':=s1.toks) hk,Aa l s1.heap.objs.size (s1.heap.objs.size+1) (Nat.succ_ne_self _) (QD (Nat.lt_succ_of_lt hlt)) (QD hlt),⟨⟨_,he⟩,hi⟩,λb hb=>?_,q⟩;have hb':s1.heap.objs.size<=b:=by
   rcases P9.mp hb with rfl|hb
   .omega
   .rcases P9.mp hb with rfl|hb
    .exact P4 _
    .cases hb
  exact I1.fpOk hb' (I1.hok.fresh hb')
def numbered(n:Nat):ac->ac
 |[]=>[]
 |d::ds=>.tup [.int n,d]::numbered (n+1) ds
theorem iH:∀(ds:ac) (n:Nat),(numbered n ds).length=ds.length
 |[],_=>rfl
 |d::ds,n=>by simp[numbered,iH ds]
theorem iI:∀(ds:ac) (n i:Nat),(numbered n ds)[i]?=(ds[i]?).map λd=>D.tup [.int (n+i:Nat),d]
 |[],_,_=>by simp[numbered]
 |d::ds,n,0=>by simp[numbered]
 |d::ds,n,i+1=>by simp only[numbered,QU];rw[iI ds (n+1) i,show n+1+i=n+(i+1) by omega]
def Ae(f:al):Ev->ai (ac):=λρ=>(f ρ).bind λd=>match d with
 |.lst ds=>.ok (numbered 0 ds)
 |_=>.stuck
def EF{K:Px}{H Ha:Hp}{p:Py}{vs:ad}{ds:ac}(hs:aB Ha H)(hp:H p=none)(r:Reps K Ha ds vs):∃H₀2,aU H Ha (upd H p (.tup vs)) H₀2/\Rep K H₀2 (.tup ds) (.ref p) :=
 ⟨upd Ha p (.tup vs),bw hs hp,aJ.mpr ⟨p,vs,rfl,jd.of aG,r.mono (bw (o:=.tup vs) hs hp).z⟩⟩
def uF{p pos:Pos}(hg:Gl X "enumerate")(hm:X.mg "enumerate"=none)(h:DE X E a f)(hn:Lh a=true:=by exact rfl):DI X E (.Tuple elts k tp) (.Call (.Name "enumerate" p) [a] [] pos) (Ae f):=by
 refine⟨iF (Fd hg hm (cO h.o eC (dU hn)) (dU hn)) λσ H R z9=>?_⟩;obtain⟨Ha,ρ,hs,hr,q⟩:=z9;refine⟨Ha,ρ,hs,hr,?_⟩;unfold Ae at q;cases e1:f ρ with
 |stuck|exn x=>rw[e1]at q;exact q
 |ok d=>
  rw[e1]at q;intro v H1 H01 g1 r1;cases d with
  |lst ds=>
   obtain⟨l,vs,rfl,hv,hrv⟩:=aF.mp r1;refine⟨l,rfl,⟨vs,aB.sqL g1.sub hv⟩,q _ H1 H01 g1 ⟨λi H' Ha' s1 s2 hi=>?_,λi H' Ha' x H2 d s1 s2 hd hy=>?_,λi H' Ha' s1 s2 hi=>?_⟩⟩
   .rw[iH]at hi
    exact⟨vs,vs[i]'(by rw[←hrv.length];exact hi),aB.sqL (s1.trans s2) hv,by simp⟩
   .obtain⟨p,y,hp,rfl,hy,rfl⟩:=hy
    rw[iI]at hd;cases ei:ds[i]? with
    |none=>rw[ei]at hd;cases hd
    |some d'=>
     rw[ei]at hd;cases hd;obtain⟨u,k1,k2⟩:=hrv.get ei;have:=hy vs (aB.sqL (s1.trans s2) hv);rw[k1]at this;cases this;exact EF s2 hp (Reps.cons (az.mpr (by simp)) (Reps.cons (k2.mono s1) Reps.nil))
   .rw[iH]at hi
    exact⟨vs,aB.sqL (s1.trans s2) hv,by rw[←hrv.length];exact hi⟩
  |_=>exact q.elim
end
section
variable {X:Cx}{E:XK}{He η:Hp}{e:Qc}{es:List Qc}{f:al}{fa:Ev->ai (ac)}{pos:Pos}
def aU.keeps{H Ha H1 H01:Hp}(g:aU H Ha H1 H01){p:Py}{o:HO}(h:H p=some o)(h0:Ha p=none):H01 p=none:=by
 cases q:H01 p with|none=>rfl|some u=>have:=g.nw p (by rw[q];simp) h0;rw[h]at this;cases this
end
end DL
namespace Com
open PySem L2 DL
def HI(tg:Ev->D->ai Ev)(s:am)(ρ:Ev)(ds:ac):ai Fl:=bW tg s ds ρ
def Hy(d:D):ai (ac):=match d with
 |.lst ds=>.ok (numbered 0 ds)
 |_=>.stuck
def Hw(d:D):ai (ac):=match d with
 |.lst ds=>.ok ds
 |_=>.stuck
def BE(d:D):ai (ac):=match d with
 |.tup ds=>.ok ds
 |_=>.stuck
def fN(n:Nat)(fr:bm)(tg:Ev->D->ai Ev)(tt fe:al)(ρ:Ev)(ds:ac):ai D:=if ds.length<=line then match bU (cY n fr ρ) tg tt fe ds with
  |.ok es=>.ok (.lst es)
  |_=>.stuck
 else .stuck
def C6(tg:Ev->D->ai Ev)(s:am)(ρ:Ev)(d:D):ai Fl:=match d with
 |.int j=>if -4611686018427387904<=j/\j<4611686018427387904 then bW tg s (intsFrom 0 j.toNat) ρ else .stuck
 |_=>.stuck
section
variable {s t:am}{f g h:al}{src:Ev->ai (ac)}{fa:Ev->ai (ac)}{ρ r:Ev}{i j n:Nat}{d x y:D}{ds es xs:ac}{a b:Int}{tg:Ev->D->ai Ev}{tt fe:al}{fr:bm}
def Gs:kr src tg s ρ=(src ρ).bind (HI tg s ρ):=aH rfl
def Di:HI tg s ρ ds=bW tg s ds ρ:=aH rfl
def FX:Ae f ρ=(f ρ).bind Hy:=aH rfl
def Df:Hy (.lst ds)=.ok (numbered 0 ds):=aH rfl
def FW:iz f ρ=(f ρ).bind Hw:=aH rfl
def De:Hw (.lst ds)=.ok ds:=aH rfl
def FV:Ad f ρ=(f ρ).bind BE:=aH rfl
def Dd:BE (.tup ds)=.ok ds:=aH rfl
def oo:cL n fr src tg tt fe ρ=(src ρ).bind (fN n fr tg tt fe ρ):=aH rfl
def we{is:bm}(h:(ds.length==is.length)=true):dN is ρ (.tup ds)=.ok (dJ ρ is ds):=by
 show(match (if ds.length=is.length then some ds else none) with|some ds=>ai.ok (dJ ρ is ds)|none=>.stuck)=_;rw[if_pos (eq_of_beq h)]
def lT:kq f tg s ρ=(f (gw ρ)).bind (C6 tg s ρ):=aH rfl
def eL{k:Nat}(h:k<=1000000):C6 tg s ρ (.int (k:Int))=bW tg s (intsFrom 0 k) ρ:=by
 unfold C6;dsimp only;rw[if_pos ⟨by omega,by omega⟩,S9]
def Dg{l h:Option Int}(c:(HT.sIx ds.length 0 l==0&&HT.sIx ds.length ds.length h==ds.length)=false):BH (.tup ds) l h=.ok (.tup (rK ds l h)):=by
 show(if _ then _ else _)=_;rw[if_neg (λz=>by rw[z.1,z.2]at c;simp at c)]
def MD:KH (.int a) (.int b)=.ok (.int (if b > a then b else a)):=aH rfl
def MG:kT (.bl true)=.ok (.int 1):=aH rfl
def J0:kT (.bl false)=.ok (.int 0):=aH rfl
def xS:rH (.int 10) (.int 18)=.ok (.int 1000000000000000000):=aH rfl
def wA{F:D->D}(hl:ds.length<=1000000)(h:∀d∈ds,∃ρ1,tg (cY n fr ρ) d=.ok ρ1/\tt ρ1=.ok (.bl true)/\fe ρ1=.ok (F d)):fN n fr tg tt fe ρ ds=.ok (.lst (ds.map F)):=by
 unfold fN;rw[if_pos (show ds.length<=line from hl),sU h]
theorem nF{B:Ev}{F:D->D}{p:D->Bool}:∀{ds:ac},(∀d∈ds,∃ρ1,tg B d=.ok ρ1/\tt ρ1=.ok (.bl (p d))/\(p d=true->fe ρ1=.ok (F d)))->bU B tg tt fe ds=.ok ((ds.filter p).map F)
 |[],_=>rfl
 |d::ds,h=>by
  obtain⟨ρ1,h1,h2,h3⟩:=h d Qf;have ih:=nF (ds:=ds) λd hd=>h d (PV _ hd);unfold bU;rw[h1,A0,h2,A0];cases hp:p d with
  |true=>
   show(fe ρ1).bind _=_;rw[h3 hp,A0,ih,A0,Uv hp];rfl
  |false=>
   show bU B tg tt fe ds=_;rw[ih,Uw (by rw[hp];decide)]
def nC{F:D->D}{p:D->Bool}(hl:ds.length<=1000000)(h:∀d∈ds,∃ρ1,tg (cY n fr ρ) d=.ok ρ1/\tt ρ1=.ok (.bl (p d))/\(p d=true->fe ρ1=.ok (F d))):fN n fr tg tt fe ρ ds=.ok (.lst ((ds.filter p).map F)):=by
 unfold fN;rw[if_pos (show ds.length<=line from hl),nF h]
end
def Hn:ym<=2 ^ 200:=by decide
def un(s x:dS):dS:=(s.1*x.2+x.1*s.2,s.2*x.2)
end Com
def Nk:=(bc (bc (bc (bc @FY @Gs) (bc @Di @FX)) (bc (bc @Df @FW) (bc @De @FV))) (bc (bc (bc @Dd @oo) (bc @we @lT)) (bc (bc @Dg @MD) (bc @MG (bc @J0 @xS)))))
local macro_rules|`(tactic|open_line with[$xs,*])=>`(tactic|simp only[Lc,Nk,PQ,Q3,Qj,SJ,Tu,Tt,QX,Se,RO,QU,TF,TH,Tf,Nat.reduceSub,Nat.reduceAdd,UB,Te,R6,RQ,decide_true,decide_false,Nat.reduceLeDiff,Nat.reduceBEq,Int.reduceBEq,beq_self_eq_true,DL.dOne,DL.mYes,Int.reduceLT,Int.reduceLE,Int.reduceSub,Int.reduceAdd,Int.reduceMul,Int.reduceNeg,Int.reduceToNat,Ur,$[$xs:term],*])
namespace Com
open PySem L2 DL
def pA{a b:Int}(ha:0<=a)(hb:0<b):0<=(b6 a b).1:=To ha (by omega)
def FH{a b:Int}(ha:0<a)(hb:0<b):0<(b6 a b).1:=by
 have hg:0<(Qn a b:Int):=lR (by omega);have hd:(Qn a b:Int)∣a:=SD ..;exact SV ha (by omega) hd
def Mm{a:Int}(h0:0<=a)(h1:a<(ym:Int)):a.natAbs<qO:=PK (show a.natAbs<ym by omega) Hl
def oj{i:Nat}{body:am}(P:Nat->Ev->Prop){n:Nat}(h:∀k,k<n->∀ρ,P k ρ->∃ρ2,body (ρ.set i (.sh (.int (k:Int))))=.ok (.nx ρ2)/\P (k+1) ρ2){ρ:Ev}(h0:P 0 ρ):∃ρ',bW (bJ i) body (intsFrom 0 n) ρ=.ok (.nx ρ')/\P n ρ':=by
 have key:∀(m k:Nat) (ρ:Ev),k+m=n->P k ρ->∃ρ',bW (bJ i) body ((intsFrom 0 n).drop k) ρ=.ok (.nx ρ')/\P n ρ':=by
  intro m
  induction m with
  |zero=>
   intro k ρ hk hp;have:k=n:=by omega
   subst this;rw[vU];exact⟨ρ,rfl,hp⟩
  |succ m ih=>
   intro k ρ hk hp;obtain⟨ρ2,h1,h2⟩:=h k (by omega) ρ hp;rw[sC (by omega),dZ (tg:=bJ i) rfl h1];exact ih (k+1) ρ2 (by omega) h2
 exact key n 0 ρ (by omega) h0
def uu{tg:Ev->D->ai Ev}{body:am}{ds:ac}(P:Nat->Ev->Prop)(h:∀k d,ds[k]?=some d->∀ρ,P k ρ->∃ρ1 ρ2,tg ρ d=.ok ρ1/\body ρ1=.ok (.nx ρ2)/\P (k+1) ρ2){ρ:Ev}(h0:P 0 ρ):∃ρ',bW tg body ds ρ=.ok (.nx ρ')/\P ds.length ρ':=by
 have key:∀(m k:Nat) (ρ:Ev),k+m=ds.length->P k ρ->∃ρ',bW tg body (ds.drop k) ρ=.ok (.nx ρ')/\P ds.length ρ':=by
  intro m
  induction m with
  |zero=>
   intro k ρ hk hp;have:k=ds.length:=by omega
   subst this;rw[Sd];exact⟨ρ,rfl,hp⟩
  |succ m ih=>
   intro k ρ hk hp;have hlt:k<ds.length:=by omega
   obtain⟨ρ1,ρ2,h1,h2,h3⟩:=h k ds[k] (PL hlt) ρ hp;rw[QG hlt,dZ h1 h2];exact ih (k+1) ρ2 (by omega) h3
 exact key ds.length 0 ρ (by omega) h0
def uN:("abcdefghijklmnopqrstuvwxyz" : PY).cps.toList=(Q5 26).map (97 + ·):=by decide +kernel
def K3:∀n,n<26->nu (97+n)=true:=by decide +kernel
def K2{v:Int}(h0:0<=v)(h1:v<26):aN (.str "abcdefghijklmnopqrstuvwxyz") (.int v)=.ok (.str ⟨#[97+v.toNat]⟩):=by
 obtain⟨n,rfl⟩:=Q7 h0;have hn:n<26:=by omega
 have e:atI ("abcdefghijklmnopqrstuvwxyz" : PY).cps.toList ((n:Nat):Int)=some (97+n):=eR (by rw[uN];simp[hn]);show(if("abcdefghijklmnopqrstuvwxyz" : PY).length<=line then(match atI ("abcdefghijklmnopqrstuvwxyz" : PY).cps.toList ((n:Nat):Int) with|some c=>ai.ok (D.str ⟨#[c]⟩)|none=>.stuck) else .stuck)=_;rw[if_pos (by decide),e];rfl
theorem zm:∀cs:bm,Str.join "" (cs.map λc=>(⟨#[c]⟩:PY))=⟨cs.toArray⟩
 |[]=>rfl
 |[c]=>rfl
 |c::d::cs=>by
  show(⟨#[c]⟩:PY)++""++Str.join "" ((d::cs).map λc=>(⟨#[c]⟩:PY))=_;rw[zm (d::cs)];apply Str.ext';show(#[c]++("" : PY).cps)++(d::cs).toArray=_;have:("" : PY).cps=#[]:=rfl;rw[this];simp
theorem yA:∀cs:bm,gL (cs.map λc=>D.str ⟨#[c]⟩)=some (cs.map λc=>(⟨#[c]⟩:PY))
 |[]=>rfl
 |c::cs=>by
  show(gL (cs.map λc=>D.str ⟨#[c]⟩)).map _=_;rw[yA cs];rfl
def xJ{cs:bm}(h:cs.length<=1000):lQ "" [.lst (cs.map λc=>D.str ⟨#[c]⟩)]=.ok (.str ⟨cs.toArray⟩):=by
 have Nv:gG "" (cs.map λc=>(⟨#[c]⟩:PY))=true:=by
  unfold gG;have e:((cs.map λc=>(⟨#[c]⟩:PY)).map (·.length)).sum=cs.length:=by
   clear h
   induction cs with
   |nil=>rfl
   |cons c cs ih=>
    simp only[PQ,SG,Qj,ih];show 1+cs.length=_;omega
  rw[e,Qg];exact⟨by decide,decide_eq_true (by rw[Pz];omega)⟩
 show(match gL (cs.map λc=>D.str ⟨#[c]⟩) with|some ys=>if gG "" ys=true then ai.ok (D.str (T7 "" ys)) else .stuck|none=>.stuck)=_;rw[yA];show(if gG "" _=true then ai.ok (D.str (T7 "" _)) else .stuck)=_;rw[if_pos Nv];show ai.ok (D.str (Builtin.Str.glued "" _))=_;rw[StrLaws.glued_eq_join,zm]
structure mf (zs:bi):Prop where
 nd:zs.Nodup
 nm:∀z∈zs,nameB z=true
def KJ(a:bm):(⟨a.toArray⟩:PY).length=a.length:=by show a.toArray.size=_;simp
structure jJ where
 a:PY
 b:PY
 w:PY
 l:dS
 o:Option dS
def bx:Option dS->D
 |none=>.non
 |some x=>fr x
def bC(t:jJ):D:=.tup [.str t.a,.str t.b,.str t.w,fr t.l,bx t.o]
structure nL (zs:bi) (t:jJ):Prop where
 a:t.a∈zs
 b:t.b∈zs
 ne:t.a≠t.b
 w:t.w="one"∨t.w="both"
 l:ir t.l
 l0:0<=t.l.1
 o:∀x,t.o=some x->ir x/\0<x.1
def tN{zs:bi}{k:Int}(h0:0<=k)(h1:k<zs.length):∃z,zs[k.toNat]?=some z/\aN (.lst (zs.map D.str)) (.int k)=.ok (.str z):=by
 obtain⟨n,rfl⟩:=Q7 h0;have hn:n<zs.length:=by omega
 refine⟨zs[n],by simp[hn],kN ?_⟩;rw[PN,PL hn];rfl
def Er{k:Int}(h0:0<=k)(h1:k<2):∃z:PY,(z="one"∨z="both")/\aN (.lst [.str "one",.str "both"]) (.int k)=.ok (.str z):=by
 have:k=0∨k=1:=by omega
 rcases this with rfl|rfl
 .exact⟨_,.inl rfl,zD⟩
 .exact⟨_,.inr rfl,zC⟩
def tf{n d e:Int}(h2:2<=n)(d0:0<=d)(d1:d<n)(e0:0<=e)(e1:e<n-1):(0<=(d+1+e).fmod n/\(d+1+e).fmod n<n)/\(d+1+e).fmod n≠d:=by
 refine⟨eX (by omega),?_⟩;rw[Q0 _ (by omega)]
 by_cases h:d+1+e<n
 .rw[TR (by omega) h];omega
 .have:(d+1+e) % n=d+1+e-n:=by
   rw[←Int.sub_emod_right (d+1+e) n,TR (by omega) (by omega)]
  rw[this];omega
def pv{α:Type}{zs:List α}(nd:zs.Nodup){i j:Nat}{x y:α}(hi:zs[i]?=some x)(hj:zs[j]?=some y)(hij:i≠j):x≠y:=by
 intro e;subst e;obtain⟨h1,e1⟩:=PH.mp hi;obtain⟨h2,e2⟩:=PH.mp hj;exact hij ((List.getElem_inj nd).mp (e1.trans e2.symm))
def nI:am :=
 (aA (bD (gf (ao (ag (aa 0) aC) m_is_ratio) (ae (ae (aa 0) (dC (.int 0)) aN) (dC (.int 0)) Oi)))
 ar)
def m_is_length:ac->ai D:=cM 1 nI
def qt:am :=
 (aA (bD (gV (ae (aa 0) (dC (.non)) c3) (gf (ao (ag (aa 0) aC) m_is_ratio) (ae (ae (aa 0) (dC (.int 0)) aN) (dC (.int 0)) KI))))
 ar)
def m_is_worth:ac->ai D:=cM 1 qt
noncomputable def wH:am :=
 (aA (dQ (gV (cJ (cu (aa 0) (c4 "tuple"))) (ae (ao (ag (aa 0) aC) (m1 bS)) (dC (.int 5)) fY))
 (aA (bD (dC (.bl false)))
 ar)
 ar)
 (aA (dQ (gV (cJ (ao (ag (ae (aa 0) (dC (.int 0)) aN) aC) m_is_name)) (gV (cJ (ao (ag (ae (aa 0) (dC (.int 1)) aN) aC) m_is_name)) (ae (ae (aa 0) (dC (.int 0)) aN) (ae (aa 0) (dC (.int 1)) aN) mS)))
 (aA (bD (dC (.bl false)))
 ar)
 ar)
 (aA (dQ (gV (cJ (cu (ae (aa 0) (dC (.int 2)) aN) (c4 "str"))) (ae (ae (aa 0) (dC (.int 2)) aN) (dC (.tup [(.str "one"),(.str "both")])) c9))
 (aA (bD (dC (.bl false)))
 ar)
 ar)
 (aA (bD (gf (ao (ag (ae (aa 0) (dC (.int 3)) aN) aC) m_is_length) (ao (ag (ae (aa 0) (dC (.int 4)) aN) aC) m_is_worth)))
 ar))))
def m_is_tie:ac->ai D:=cM 1 wH
noncomputable def ip:am :=
 (aA (dQ (gV (cJ (cu (aa 0) (c4 "list"))) (cJ (gQ M9 M9 (dC (.int 2)) (ao (ag (aa 0) aC) (m1 bS)) (dC (.int 7)))))
 (aA e8
 ar)
 ar)
 (aA (kr (Ae (aa 0)) (dN [1,2])
 (aA (dQ (gV (cJ (ao (ag (aa 2) aC) m_is_name)) (ae (aa 2) (AR (aa 0) fM (fz (aa 1))) A7))
 (aA e8
 ar)
 ar)
 ar))
 ar))
def m_look_at_places:ac->ai D:=cM 3 ip
noncomputable def jG:am :=
 (aA (dQ (gV (cJ (cu (aa 0) (c4 "list"))) (ae (ao (ag (aa 0) aC) (m1 bS)) (dC (.int 14)) KI))
 (aA e8
 ar)
 ar)
 (aA (kr (Ae (aa 0)) (dN [2,3])
 (aA (dQ (gV (cJ (ao (ag (aa 3) aC) m_is_tie)) (gV (ae (ae (aa 3) (dC (.int 0)) aN) (aa 1) c9) (ae (ae (aa 3) (dC (.int 1)) aN) (aa 1) c9)))
 (aA e8
 ar)
 ar)
 ar))
 ar))
def m_look_at_ties:ac->ai D:=cM 4 jG
def qu:am :=
 (aA (bD (gf (ao (ag (aa 0) aC) m_is_name) (ae (aa 0) (aa 1) A7)))
 ar)
def m_is_place:ac->ai D:=cM 2 qu
noncomputable def kD:am :=
 (aA (dQ (gV (cJ (cu (aa 0) (c4 "tuple"))) (ae (ao (ag (aa 0) aC) (m1 bS)) (dC (.int 4)) fY))
 (aA e8
 ar)
 ar)
 (aA (nh (ao (ag (ae (aa 0) (dC (.int 0)) aN) aC) m_look_at_places))
 (aA (nh (ao (ag (ae (aa 0) (dC (.int 1)) aN) (ag (ae (aa 0) (dC (.int 0)) aN) aC)) m_look_at_ties))
 (aA (dQ (cJ (ao (ag (ae (aa 0) (dC (.int 2)) aN) (ag (ae (aa 0) (dC (.int 0)) aN) aC)) m_is_place))
 (aA e8
 ar)
 ar)
 (aA (dQ (gV (cJ (ao (ag (ae (aa 0) (dC (.int 3)) aN) (ag (ae (aa 0) (dC (.int 0)) aN) aC)) m_is_place)) (ae (ae (aa 0) (dC (.int 3)) aN) (ae (aa 0) (dC (.int 2)) aN) mS))
 (aA e8
 ar)
 ar)
 ar)))))
def m_look_at_web:ac->ai D:=cM 1 kD
structure cG where
 ps:bi
 ts:List jJ
 fi:PY
 la:PY
def aL(w:cG):D:=.tup [.lst (w.ps.map D.str),.lst (w.ts.map bC),.str w.fi,.str w.la]
structure cH (w:cG):Prop where
 n2:2<=w.ps.length
 n7:w.ps.length<=7
 nm:mf w.ps
 t14:w.ts.length<=14
 ts:∀t∈w.ts,nL w.ps t
 fi:w.fi∈w.ps
 la:w.la∈w.ps
 ne:w.fi≠w.la
def jX{z:PY}(h:nameB z=true):m_is_name [.str z]=.ok (.bl true):=by
 have hl:z.length<=8:=by
  unfold nameB at h;simp only[Qg,decide_eq_true_eq]at h;exact h.2.1
 rw[xM (show Nv (.str z)=true from decide_eq_true (Qh hl (by decide)))];show ai.ok (D.bl (nameB z))=_;rw[h]
def oY{x:dS}(h:Low x):m_is_ratio [fr x]=.ok (.bl true):=by
 rw[um];show ai.ok (D.bl (oZ (.tup [.int x.1,.int x.2])))=_;have h1:=h.q1;have h2:=h.g1;show ai.ok (D.bl (decide (1<=x.2)&&(Qn x.1 x.2==1)))=_;rw[decide_eq_true h1,h2];rfl
def vP{x:dS}(h:Low x)(h0:0<=x.1):m_is_length [fr x]=.ok (.bl true):=by
 have e:fr x=.tup [.int x.1,.int x.2]:=rfl;have h1:=oY h;rw[e]at h1 ⊢;open_line with[m_is_length,nI,h1,decide_eq_true h0,decide_eq_true (show x.1≥0 from h0)]
def wO{o:Option dS}(h:∀x,o=some x->Low x/\0<x.1):m_is_worth [bx o]=.ok (.bl true):=by
 cases o with
 |none=>rfl
 |some x=>
  obtain⟨hx,h0⟩:=h x rfl;have e:bx (some x)=.tup [.int x.1,.int x.2]:=rfl;have h1:=oY hx;rw[show fr x=.tup [.int x.1,.int x.2] from rfl]at h1;rw[e];open_line with[m_is_worth,qt,h1,decide_eq_true h0]
def zF{x y:PY}:mS (.str x) (.str y)=.ok (.bl (x==y)):=by unfold mS;rw[if_pos ⟨rfl,rfl⟩,cV]
def Bx{zs:bi}{t:jJ}(nm:mf zs)(h:nL zs t):m_is_tie [bC t]=.ok (.bl true):=by
 obtain⟨a,b,w,l,o⟩:=t;obtain⟨ha,hb,hne,hw,hl,hl0,ho⟩:=h;have h1:=jX (nm.nm a ha);have h2:=jX (nm.nm b hb);have h3:=vP hl.toLow hl0;have h4:=wO (o:=o) λx hx=>⟨(ho x hx).1.toLow,(ho x hx).2⟩
 have h5:(a==b)=false:=beq_eq_false_iff_ne.mpr hne;have h6:c9 (.str w) (.tup [.str "one",.str "both"])=.ok (.bl false):=by
  rcases hw with rfl|rfl<;>rfl
 have e:bC ⟨a,b,w,l,o⟩=.tup [.str a,.str b,.str w,fr l,bx o]:=rfl;rw[e];open_line with[m_is_tie,wH,h1,h2,zF,h5,h6,h3,h4]
def zO{zs:bi}{z:PY}:(zs.map D.str).any (λd=>cV d (.str z))=decide (z∈zs):=by
 induction zs with
 |nil=>rfl
 |cons y zs ih=>
  rw[PQ,R5,ih];show((y==z)||decide (z∈zs))=_
  by_cases h:y=z
  .subst h;simp
  .have:(y==z)=false:=beq_eq_false_iff_ne.mpr h
   rw[this,Uq];have:z∈y::zs↔z∈zs:=by simp[Qx h]
   exact decide_eq_decide.mpr this.symm
def rR{n:Nat}{zs:bi}:(zs.map D.str).all (br n)=true:=P7.mpr λd hd=>by
 obtain⟨z,_,rfl⟩:=Qp.mp hd;cases n<;>rfl
def oi{zs:bi}{z:PY}:A7 (.str z) (.lst (zs.map D.str))=.ok (.bl (decide (z∈zs))):=by
 have e:Ed (.str z) (.lst (zs.map D.str))=some (decide (z∈zs)):=(if_pos ⟨rfl,rR⟩).trans (congrArg some zO);unfold A7;rw[e]
def xw{zs:bi}{z:PY}:c9 (.str z) (.lst (zs.map D.str))=.ok (.bl (!(decide (z∈zs)))):=by
 have e:Ed (.str z) (.lst (zs.map D.str))=some (decide (z∈zs)):=(if_pos ⟨rfl,rR⟩).trans (congrArg some zO);unfold c9;rw[e]
def o7{zs:bi}{z:PY}(h:nameB z=true)(hz:z∈zs):m_is_place [.str z,.lst (zs.map D.str)]=.ok (.bl true):=by
 open_line with[m_is_place,qu,jX h,oi,decide_eq_true hz]
def lO{α:Type}{F:α->D}{xs:List α}{k:Nat}{d:D}(h:(numbered 0 (xs.map F))[k]?=some d):∃x,xs[k]?=some x/\d=.tup [.int (k:Int),F x]:=by
 rw[iI,PN]at h;cases e:xs[k]? with
 |none=>rw[e]at h;cases h
 |some x=>
  rw[e]at h;cases h;exact⟨x,rfl,by simp⟩
def DX{α:Type}{F:α->D}{xs:List α}{k:Nat}(h:k<=xs.length):rK (xs.map F) none (some (k:Int))=(xs.take k).map F:=by
 rw[G7,HT.sIx_none,HT.sIx_nat,Nat.min_eq_left h,R9,Tf]
def An{zs:bi}(h2:2<=zs.length)(h7:zs.length<=7)(nm:mf zs):m_look_at_places [.lst (zs.map D.str)]=.ok .non:=by
 obtain⟨ρ',hl,_⟩:=uu (ds:=numbered 0 (zs.map D.str)) (tg:=dN [1,2]) (ρ:=[.sh (.lst (zs.map D.str)),.no,.no])
  (body:=(aA (dQ (gV (cJ (ao (ag (aa 2) aC) m_is_name)) (ae (aa 2) (AR (aa 0) fM (fz (aa 1))) A7)) (aA e8 ar) ar) ar))
  (λk ρ=>∃a b,ρ=[.sh (.lst (zs.map D.str)),a,b]) (by
   rintro k d hd ρ ⟨a,b,rfl⟩;obtain⟨z,hz,rfl⟩:=lO hd;refine⟨_,[.sh (.lst (zs.map D.str)),.sh (.int (k:Int)),.sh (.str z)],we rfl,?_,_,_,rfl⟩;have hk:k<zs.length:=(PH.mp hz).1;have hnot:decide (z∈zs.take k)=false:=decide_eq_false λhm=>by
    obtain⟨j,hj⟩:=List.mem_iff_getElem?.mp hm;have hjk:j<k:=by have:=(PH.mp hj).1;simp at this;omega
    rw[Uk hjk]at hj;exact pv nm.nd hj hz (by omega) rfl
   open_line with[jX (nm.nm z (PU hz)),DX (Th hk),oi,hnot]) ⟨.no,.no,rfl⟩
 have e1:decide ((2:Int)<=(zs.length:Int))=true:=decide_eq_true (by omega);have e2:decide ((zs.length:Int)<=7)=true:=decide_eq_true (by omega);open_line with[m_look_at_places,ip,Pz,e1,e2,hl]
def n9{zs:bi}{ts:List jJ}(h14:ts.length<=14)(nm:mf zs)(ht:∀t∈ts,nL zs t):m_look_at_ties [.lst (ts.map bC),.lst (zs.map D.str)]=.ok .non:=by
 obtain⟨ρ',hl,_⟩:=uu (ds:=numbered 0 (ts.map bC)) (tg:=dN [2,3]) (ρ:=[.sh (.lst (ts.map bC)),.sh (.lst (zs.map D.str)),.no,.no])
  (body:=(aA (dQ (gV (cJ (ao (ag (aa 3) aC) m_is_tie)) (gV (ae (ae (aa 3) (dC (.int 0)) aN) (aa 1) c9) (ae (ae (aa 3) (dC (.int 1)) aN) (aa 1) c9))) (aA e8 ar) ar) ar))
  (λk ρ=>∃a b,ρ=[.sh (.lst (ts.map bC)),.sh (.lst (zs.map D.str)),a,b]) (by
   rintro k d hd ρ ⟨a,b,rfl⟩;obtain⟨t,ht',rfl⟩:=lO hd;refine⟨_,[.sh (.lst (ts.map bC)),.sh (.lst (zs.map D.str)),.sh (.int (k:Int)),.sh (bC t)],we rfl,?_,_,_,rfl⟩;have hT:=ht t (PU ht');have h1:=Bx nm hT;rw[show bC t=.tup [.str t.a,.str t.b,.str t.w,fr t.l,bx t.o] from rfl]at h1 ⊢;open_line with[h1,xw,decide_eq_true hT.a,decide_eq_true hT.b]) ⟨.no,.no,rfl⟩
 have e1:decide ((14:Int)<(ts.length:Int))=false:=decide_eq_false (by omega);open_line with[m_look_at_ties,jG,Pz,e1,decide_eq_false (show ¬(ts.length:Int) > 14 by omega),hl]
def Bj{w:cG}(h:cH w):m_look_at_web [aL w]=.ok .non:=by
 obtain⟨ps,ts,fi,la⟩:=w;have h1:=An h.n2 h.n7 h.nm;have h2:=n9 h.t14 h.nm h.ts;have h3:=o7 (h.nm.nm fi h.fi) h.fi;have h4:=o7 (h.nm.nm la h.la) h.la;have h5:(la==fi)=false:=beq_eq_false_iff_ne.mpr (Qx h.ne);rw[show aL ⟨ps,ts,fi,la⟩=.tup [.lst (ps.map D.str),.lst (ts.map bC),.str fi,.str la] from rfl];open_line with[m_look_at_web,kD,h1,h2,h3,h4,zF,h5]
noncomputable def jb:am :=
 (aA (bq 1 (dC (.int 1)))
 (aA (qT (aa 0) (bJ 2)
 (aA (bq 1 (ae (ae (aa 1) (ao (ag (aa 1) (ag (ae (aa 2) (dC (.int 1)) aN) aC)) m_common_divisor) lZ) (ae (aa 2) (dC (.int 1)) aN) cg))
 ar))
 (aA (bD (aa 1))
 ar)))
def m_shared_bottom:ac->ai D:=cM 3 jb
def qv:am :=
 (aA (bD (ae (ae (aa 0) (dC (.int 0)) aN) (ae (aa 1) (ae (aa 0) (dC (.int 1)) aN) lZ) cg))
 ar)
def m_as_whole:ac->ai D:=cM 2 qv
noncomputable def jE:am :=
 (aA (bq 1 (ao (ag (cL 1 [] (iz (aa 0)) (bJ 0) (ae (aa 0) (dC (.non)) gJ) (aa 0)) aC) m_shared_bottom))
 (aA (bD (ao (ag (cL 1 [1] (iz (aa 0)) (bJ 0) mYes (rJ (ae (aa 0) (dC (.non)) c3) (dC (.non)) (ao (ag (aa 0) (ag (aa 1) aC)) m_as_whole))) (ag (aa 1) aC)) eJ))
 ar))
def m_on_one_scale:ac->ai D:=cM 2 jE
def bT(ks:bm):D:=.lst (ks.map λ(k:Nat)=>D.int (k:Int))
def wW{w:cG}{k:Nat}{t:jJ}(h:w.ts[k]?=some t):aN (.lst (w.ts.map bC)) (.int (k:Int))=.ok (bC t):=kN (by rw[PN,h];rfl)
def fE(b:Int)(x:dS):Int:=b / (Qn b x.2:Int)*x.2
def Hc(xs:List dS):Int:=xs.foldl fE 1
structure tE (k:Nat) (b:Int):Prop where
 pos:0<b
 bd:b.natAbs<=2 ^ (200*k)
def tX{k:Nat}(h:k<=60):2 ^ (200*k)<qO:=by rw[m8];exact UX (by decide) (by omega)
def pM{a b:Int}(h:b≠0):0<(Qn a b:Int):=lR h
def tE.step{k:Nat}{b:Int}{x:dS}(h:tE k b)(hx:ir x):tE (k+1) (fE b x)/\b∣fE b x/\x.2∣fE b x:=by
 have q1:=hx.q1;have hg:0<(Qn b x.2:Int):=pM (by omega);have hd:(Qn b x.2:Int)∣b:=SD ..;have hd2:(Qn b x.2:Int)∣x.2:=TQ ..;have hq:0<b / (Qn b x.2:Int):=SV h.pos (by omega) hd;refine⟨⟨SI hq (by omega),?_⟩,?_,⟨b / (Qn b x.2:Int),by unfold fE;rw[Ti]⟩⟩
 .unfold fE
  rw[Uc,show 200*(k+1)=200*k+200 by omega,TY];refine Nat.mul_le_mul (Qh (Rh _ _) h.bd) (Qh (Th hx.qN) Hn)
 .obtain⟨c,hc⟩:=hd
  obtain⟨d,hd'⟩:=hd2;refine⟨d,?_⟩;unfold fE;generalize (Qn b x.2:Int)=g at *;have e1:b / g=c:=by rw[hc];exact Tb c (by omega)
  rw[e1,hd',hc,←Uo,Ti c g]
def D0{xs:List dS}(hx:∀x∈xs,ir x):∀(b:Int) (k:Nat),tE k b->tE (k+xs.length) (xs.foldl fE b)/\b∣xs.foldl fE b/\∀x∈xs,x.2∣xs.foldl fE b:=by
 induction xs with
 |nil=>intro b k h;exact⟨h,Int.dvd_refl b,λx hx=>nomatch hx⟩
 |cons x xs ih=>
  intro b k h;obtain⟨h1,h2,h3⟩:=h.step (hx x Qf);obtain⟨k1,k2,k3⟩:=ih (λy hy=>hx y (PV _ hy)) _ _ h1;refine⟨?_,Int.dvd_trans h2 k2,λy hy=>?_⟩
  .rw[Qj,show k+(xs.length+1)=k+1+xs.length by omega];exact k1
  .rcases P9.mp hy with rfl|hy
   .exact Int.dvd_trans h3 k2
   .exact k3 y hy
def D1{L:Sl}:∀(xs:List dS) (k:Nat) (b:Int) (z:Sl),tE k b->k+xs.length<=60->(∀x∈xs,ir x)->∃z',bW (bJ 2) (aA (bq 1 (ae (ae (aa 1) (ao (ag (aa 1) (ag (ae (aa 2) (dC (.int 1)) aN) aC)) m_common_divisor) lZ) (ae (aa 2) (dC (.int 1)) aN) cg)) ar) (xs.map fr) [L,.sh (.int b),z] =
  .ok (.nx [L,.sh (.int (xs.foldl fE b)),z']):=by
 intro xs
 induction xs with
 |nil=>intro k b z _ _ _;exact⟨z,rfl⟩
 |cons x xs ih=>
  intro k b z h hk hx;have hxx:=hx x Qf;have q1:=hxx.q1;obtain⟨h1,h2,h3⟩:=h.step hxx;simp only[Qj]at hk;obtain⟨z',hz'⟩:=ih (k+1) _ (.sh (fr x)) h1 (by omega) (λy hy=>hx y (PV _ hy));refine⟨z',?_⟩;have hg:0<(Qn b x.2:Int):=pM (by omega);have hdiv:eY b (Qn b x.2:Int)=true:=pX (by omega) (Qu h.bd (tX (by omega)));have hb13:(b / (Qn b x.2:Int)).natAbs<qO:=Qu (Qh (Rh _ _) h.bd) (tX (by omega));have hmul:dW (b / (Qn b x.2:Int)) x.2=true:=eI (PK hb13 oC) (PK hxx.qN zS);rw[PQ,dZ (ρ1:=[L,.sh (.int b),.sh (fr x)]) (ρ2:=[L,.sh (.int (fE b x)),.sh (fr x)]) rfl ?_]
  .exact hz'
  .rw[show fr x=.tup [.int x.1,.int x.2] from rfl]
   open_line with[kc,mL hdiv,ic hg,cz hmul]
   rfl
def AZ{xs:List dS}(hl:xs.length<=60)(hx:∀x∈xs,ir x):m_shared_bottom [.lst (xs.map fr)]=.ok (.int (Hc xs)):=by
 obtain⟨z',hz⟩:=D1 (L:=.sh (.lst (xs.map fr))) xs 0 1 .no ⟨by decide,by decide⟩ (by omega) hx;open_line with[m_shared_bottom,jb,hz]
 rfl
def wI(b:Int):Option dS->D
 |none=>.non
 |some x=>.int (x.1*(b / x.2))
def fZ(os:List (Option dS)):List dS:=os.filterMap id
def Ax{os:List (Option dS)}{x:dS}:x∈fZ os↔some x∈os:=by unfold fZ;simp
def Bi{x:dS}{b:Int}(hx:ir x)(hb:b.natAbs<qO):m_as_whole [fr x,.int b]=.ok (.int (x.1*(b / x.2))):=by
 have q1:=hx.q1;have hdiv:eY b x.2=true:=DJ (by omega) (PK hx.qN K9);have hmul:dW x.1 (b / x.2)=true:=eI (PK hx.pN zS) (PK (Qu (Rh _ _) hb) oC);rw[show fr x=.tup [.int x.1,.int x.2] from rfl];open_line with[m_as_whole,qv,mL hdiv,ic (show 0<x.2 by omega),cz hmul]
theorem iA:∀os:List (Option dS),(os.map bx).filter (λd=>!(sA d))=(fZ os).map fr
 |[]=>rfl
 |none::os=>by
  rw[PQ,Uw (by decide),iA os];rfl
 |some x::os=>by
  have:sA (bx (some x))=false:=rfl;rw[PQ,Uv (by rw[this];rfl),iA os];rfl
def BN{os:List (Option dS)}(hl:os.length<=60)(hx:∀x,some x∈os->ir x):m_on_one_scale [.lst (os.map bx)]=.ok (.tup [.lst (os.map (wI (Hc (fZ os)))),.int (Hc (fZ os))]):=by
 have hxs:∀x∈fZ os,ir x:=λx h=>hx x (Ax.mp h);have hls:(fZ os).length<=60:=Qh (List.length_filterMap_le _ _) hl;have h1:=AZ hls hxs;obtain⟨B,_,_⟩:=D0 hxs 1 0 ⟨by decide,by decide⟩;have hb:(Hc (fZ os)).natAbs<qO:=Qu B.bd (tX (by omega));have c1:fN 1 [] (bJ 0) (ae (aa 0) (dC (.non)) gJ) (aa 0) [.sh (.lst (os.map bx)),.no] (os.map bx)=.ok (.lst ((fZ os).map fr)):=by
  rw[nC (F:=id) (p:=λd=>!(sA d)) (by rw[Pz];omega)]
  .rw[List.map_id,iA]
  .intro d hd
   exact⟨[.sh d],rfl,rfl,λ_=>rfl⟩
 have c2:fN 1 [1] (bJ 0) mYes (rJ (ae (aa 0) (dC (.non)) c3) (dC (.non)) (ao (ag (aa 0) (ag (aa 1) aC)) m_as_whole)) [.sh (.lst (os.map bx)),.sh (.int (Hc (fZ os)))] (os.map bx)=.ok (.lst (os.map (wI (Hc (fZ os))))):=by
  rw[wA (F:=λd=>match d with|.tup [.int p,.int q]=>.int (p*(Hc (fZ os) / q))|_=>.non) (by rw[Pz];omega)]
  .congr 2
   rw[QH];apply Sh;intro o _;cases o<;>rfl
  .intro d hd
   obtain⟨o,ho,rfl⟩:=Qp.mp hd;refine⟨[.sh (bx o),.sh (.int (Hc (fZ os)))],rfl,rfl,?_⟩;cases o with
   |none=>rfl
   |some x=>
    have hw:=Bi (hx x ho) hb;rw[show fr x=.tup [.int x.1,.int x.2] from rfl]at hw;rw[show bx (some x)=.tup [.int x.1,.int x.2] from rfl];open_line with[hw]
 open_line with[m_on_one_scale,jE,c1,h1,c2]
def oH{c:al}{s:am}{n:Nat}{ρ ρ2:Ev}(h1:c (gw ρ)=.ok (.bl true))(h2:s ρ=.ok (.nx ρ2)):cn c s (n+1) ρ=cn c s n ρ2:=by
 conv=>lhs;unfold cn
 rw[h1,h2];rfl
def ml{c:al}{s:am}{n:Nat}{ρ:Ev}(h1:c (gw ρ)=.ok (.bl false)):cn c s (n+1) ρ=.ok (.nx ρ):=by
 conv=>lhs;unfold cn
 rw[h1];rfl
end Com
namespace DL
open PySem PySem.Spec PyProof.Rows L2
noncomputable def LV(K:Px) (E:XK) (He η Ha:Hp) (r:ai Fl) (D:eV):Prop:=match r with
 |.ok (.rt (.lst es))=>∀p us H Ha',aU He η H Ha'->He p=none->Ha' p=none->H p=some (.lst us)->Reps K Ha' es us->D.rt (.ref p) H
 |.exn x=>∀C ox H Ha',aU He η H Ha'->wN K Ha' x C ox->E C ox H
 |_=>False
def O7(K:Px)(E:XK)(He η:Hp)(g:am):TS:=λD σ H=>∃Ha ρ,cZ K He η Ha σ H ρ/\LV K E He η Ha (g ρ) D
structure A4 (X:Cx) (E:XK) (He η:Hp) (st:List Q1) (g:am):Prop where
 o:qL X st (O7 X.K E He η g)
section
variable {X:Cx}{E:XK}{He η:Hp}{st:Q1}{rest:List Q1}{e:Qc}{es:List Qc}{f:al}{fa:Ev->ai (ac)}{s t:am}{pos:Pos}
def BL(t:am)(r:Fl):ai Fl:=match r with
 |.nx ρ=>t ρ
 |_=>.stuck
def fL(s t:am):am:=λρ=>(s ρ).bind (BL t)
def fX(h1:DS X E He η st s)(h2:A4 X E He η rest t):A4 X E He η (st::rest) (fL s t):=by
 refine⟨?_⟩;refine cq (bV h1.o h2.o) λD σ H z9=>?_;obtain⟨Ha,ρ,h,q⟩:=z9;refine⟨Ha,ρ,h,?_⟩
 unfold fL at q;cases e1:s ρ with
 |stuck|exn x=>rw[e1]at q;exact q
 |ok r=>
  rw[e1]at q;cases r with|nx ρ'=>exact λσ' H' Ha' s' h'=>⟨Ha',ρ',h',q⟩|rt d|bk ρ'|ct ρ'=>exact q.elim
def IK(s:Option Sl):ai Fl:=match s with
 |some (.ow (.lst ds))=>.ok (.rt (.lst ds))
 |_=>.stuck
def yE(i:Nat):am:=λρ=>IK ρ[i]?
def Dw{i:Nat}{x:PY}{p1:Pos}(hN:X.N[i]?=some x)(hv:wJ X.env.scope x)(hd:(x==("__debug__" : PY))=false:=by decide)(hcd:(x==("__classdict__" : PY))=false:=by decide) :
  A4 X E He η [.Return (some (.Name x p1)) pos] (yE i):=by
 refine⟨?_⟩;refine cq (bV (my (eA hN hv hd hcd)) fj) λD σ H ⟨Ha,ρ,h,q⟩=>?_;unfold yE at q;cases e1:ρ[i]? with
 |none=>rw[e1]at q;exact q.elim
 |some s=>
  rw[e1]at q;cases s with
  |ow d=>
   cases d with
   |lst ds=>
    obtain⟨p,h1,h2,h3,vs,h4,h5⟩:=h.ow i _ e1;exact⟨.ref p,h1,q p vs H Ha h.g h2 h3 h4 h5⟩
   |_=>exact q.elim
  |_=>exact q.elim
end
def CB(r:Fl):ai D:=match r with
 |.rt (.lst es)=>.ok (.lst es)
 |_=>.stuck
def nQ(n:Nat)(s:am)(ds:ac):ai D:=(s (ds.map Sl.sh++Qd (n-ds.length) .no)).bind CB
def BV{n:Nat}{s:am}{ds:ac}{d:D}(h:nQ n s ds=.ok d):∃es,d=.lst es:=by
 unfold nQ at h;cases e:s (ds.map Sl.sh++Qd (n-ds.length) .no) with
 |stuck|exn x=>rw[e]at h;cases h
 |ok r=>
  rw[e]at h;cases r with
  |rt d'=>
   cases d' with|lst es=>cases h;exact⟨es,rfl⟩| _=>cases h
  |_=>cases h
noncomputable def LU(K:Px) (E:XK) (H Ha:Hp) (r:ai D) (Q:VK):Prop:=match r with
 |.ok (.lst es)=>∀p us H' Ha',aU H Ha H' Ha'->H p=none->Ha' p=none->H' p=some (.lst us)->Reps K Ha' es us->Q (.ref p) H'
 |.exn x=>∀C ox H' Ha',aU H Ha H' Ha'->wN K Ha' x C ox->E C ox H'
 |_=>False
def Hz(K:Px)(n:Nat)(m:ac->ai D):Sp:=λvs H Q E=>vs.length=n/\∃Ha ds,aB Ha H/\Reps K Ha ds vs/\LU K E H Ha (m ds) Q
def EV{K:Px}{n:Nat}{m:ac->ai D}(hm:∀ds d,m ds=.ok d->∃es,d=.lst es):∀vs H Q E,spD K n m vs H Q E->Hz K n m vs H Q E:=λvs H Q E ⟨h1,Ha,ds,h2,h3,q⟩=>⟨h1,Ha,ds,h2,h3,by
 cases e:m ds with
 |stuck|exn x=>rw[e]at q;exact q
 |ok d=>
  obtain⟨es,rfl⟩:=hm ds d e;rw[e]at q;intro p us H' Ha' g hp h0 hv r;have z:aB Ha' (upd Ha' p (.lst us)):=λb o eb=>by rw[au (by intro z;subst z;rw[h0]at eb;cases eb)];exact eb
  refine q (.ref p) H' (upd Ha' p (.lst us)) ⟨g.s,g.z.trans z,λb o eb=>?_,λb h1 h2=>?_⟩ (aF.mpr ⟨p,us,rfl,dR.of aG,r.mono z⟩)
  .by_cases hb:b=p
   .subst hb;rw[aG]at eb;cases eb;exact hv
   .rw[au hb]at eb;exact g.sub _ _ eb
  .by_cases hb:b=p
   .subst hb;exact hp
   .rw[au hb]at h1;exact g.nw b h1 h2⟩
def xQ{P:Qw}{w:QK}{K:Px}{mg:PY->Option Pw}{base:Qo}{x qual:PY}{st:Q1}{f:Py}{fd:QI}{N ps:bi}{k:Nat}{s:am}(F:Eh K x qual st f fd)(S:fS N ps (defScope st))
  (hbody:∀(cdv:Pw) (A:QV) (outer:List Ru) (s0:PF) (H Ha:Hp) (E:XK),da k (A.deeper (envOfC qual (defScope st) s0.heap.objs.size f cdv)) ->
   A4 (l3 CX0 P w K mg base N qual (defScope st) f cdv A outer s0 H E).nox E H Ha (defBody st) s):gp P w K mg base CX0 (k+1) f fd ps (Hz K ps.length (nQ N.length s)):=by
 have hpl:ps.length<=N.length:=by have:=congrArg S0 S.pre;rw[QO]at this;omega
 refine F.ok S (λvs H Q E h=>h.1) λcdv A outer s0 H vs Q E hr h=>?_;obtain⟨hn,Ha,ds,hs,hv,q⟩:=h;refine⟨_,(hbody cdv A outer s0 H Ha E hr).o,Ha,ds.map Sl.sh++Qd (N.length-ds.length) .no,?_,?_⟩
 .refine⟨aU.refl hs,ji hv,λi d e=>?_,λi j d d' hij e=>?_,?_,OX.none mv kG⟩
  .by_cases hi:i<ds.length
   .rw[P0 (by simpa using hi),PN]at e
    cases q:ds[i]? with|none|some d'=>rw[q]at e;cases e
   .rw[P6 (by simpa using hi),Qb]at e
    split at e<;>cases e
  .by_cases hi:i<ds.length
   .rw[P0 (by simpa using hi),PN]at e
    cases q:ds[i]? with|none|some d'=>rw[q]at e;cases e
   .rw[P6 (by simpa using hi),Qb]at e
    split at e<;>cases e
  .unfold L2.start
   have:=hv.length;simp only[Qs,Pz,Qy];omega
 .unfold nQ at q
  cases e1:s (ds.map Sl.sh++Qd (N.length-ds.length) .no) with
  |stuck|exn x=>rw[e1]at q;exact q
  |ok r=>
   rw[e1]at q;cases r with
   |rt d=>
    cases d with|lst es=>exact λp us H' Ha' g hp h0 hv' rr=>q p us H' Ha' g hp h0 hv' rr| _=>exact q.elim
   |_=>exact q.elim
section
variable {X:Cx}{E:XK}{He η:Hp}{e:Qc}{es:List Qc}{f:al}{fa:Ev->ai (ac)}{pos:Pos}
def G0{CX:qK}{k n:Nat}{fn:Py}{fd:QI}{ps:bi}{m:ac->ai D}{x:PY}{p:Pos}(F:gp X.prog X.w X.K X.mg X.base CX k fn fd ps (Hz X.K n m))(hr:da k X.A)(hg:Gl X x)(hm:X.mg x=some (.ref fn))
  (hk:Td X.K (.ref fn)=true)(hb:kF X.K fd ps [])(hx:fK CX X E)(ha:DA X E (e::es) fa)(hn:(e::es).length=n:=by rfl)(hl:∀ρ ds,fa ρ=.ok ds->ds.length=(e::es).length)
  (hdb:(x==("__debug__" : PY))=false:=by decide)(he:PM (e::es) X.env=(false,eval e X.env)::PM es X.env:=by exact ba rfl)(hpl:(QZ pos (PM es X.env)).any (·.1)=false:=by exact bX rfl) :
  DF X E (.Call (.Name x p) (e::es) [] pos) (ao fa m):=by
 refine⟨?_⟩;refine aW (lG F hr hg hm hk hb .nil hx ha.o hdb he hpl) λσ H Q h=>?_;obtain⟨Ha,ρ,hs,hr,q⟩:=h;refine⟨Ha,ρ,hs,hr,?_⟩;unfold ao at q;cases e1:fa ρ with
 |stuck|exn x=>rw[e1]at q;exact q
 |ok ds=>
  rw[e1]at q;intro v H1 H01 g1 r1;refine⟨?_,H01,ds,g1.sub,by simpa using r1,?_⟩
  .have:=r1.length
   have:=hl ρ ds e1;simp only[QC];omega
  .replace q:match m ds with
    |.ok (.lst ds)=>∀p vs H' Ha',aU H Ha H' Ha'->H p=none->Ha' p=none->H' p=some (.lst vs)->Reps X.K Ha' ds vs->Q (.ref p) H'
    |.ok _=>False
    |.exn x=>∀C ox H' Ha',aU H Ha H' Ha'->wN X.K Ha' x C ox->E C ox H'
    |.stuck=>False:=q
   cases e2:m ds with
   |stuck=>rw[e2]at q;exact q|exn x=>rw[e2]at q;exact λC ox H' Ha' g ex=>q C ox H' Ha' (g1.trans g) ex
   |ok d=>
    rw[e2]at q;cases d with|lst es=>exact λp us H' Ha' g hp h0 hv rr=>q p us H' Ha' (g1.trans g) (g1.s.free hp) h0 hv rr| _=>exact q.elim
end
section
variable {X:Cx}{E:XK}{He η:Hp}{e a b:Qc}{es:List Qc}{f g:al}{fa:Ev->ai (ac)}{pos:Pos}
def G5(x y:D):ai D:=match x,y with
 |.int i,.int j=>.ok (.int (if j<i then j else i))
 |_,_=>.stuck
def KN:jP X E (λxs H Q=>∃i j,xs=[.int i,.int j]/\Q (.int (if j<i then j else i)) H) (m2 G5):=HN λx y v u H Ha Q hs r r' q=>by
 cases x with
 |int i=>
  cases y with|int j=>exact⟨i,j,by rw[az.mp r,az.mp r'],bA hs q (ri _)⟩| _=>exact q.elim
 |_=>exact q.elim
end
end DL
namespace Cod
open PySem L2 DL Com
def KY{c:Int}:AS (.int c)=.ok (.int (c.natAbs:Int)):=by
 show ai.ok (D.int (if c<0 then -c else c))=_
 congr 2
 split<;>omega
noncomputable def qC:am :=
 (aA (bq 2 (ao (ag (aa 0) aC) (m1 AS)))
 (aA (bq 3 (aa 1))
 (aA (gN (jY 3) (ae (aa 3) (dC (.int 0)) fY)
 (aA (qS 2 3 (ag (aa 3) (ag (ae (aa 2) (aa 3) dh) aC)))
 ar))
 (aA (bD (ao (ag (ae (aa 0) (aa 2) lZ) (ag (ae (aa 1) (aa 2) lZ) aC)) eJ))
 ar))))
def bj:ac->ai D:=cM 4 qC
theorem vO{A B:Sl}:∀(n:Nat) (a b:Int),0<=a->0<=b->b.natAbs<n->cn (ae (aa 3) (dC (.int 0)) fY) (aA (qS 2 3 (ag (aa 3) (ag (ae (aa 2) (aa 3) dh) aC))) ar) n [A,B,.sh (.int a),.sh (.int b)]=.ok (.nx [A,B,.sh (.int (Qn a b:Int)),.sh (.int 0)])
 |0,a,b,_,_,h=>absurd h (Tn _)
 |n+1,a,b,ha,hb,h=>by
  by_cases h0:b=0
  .subst h0
   have hc:(ae (aa 3) (dC (.int 0)) fY) (gw [A,B,.sh (.int a),.sh (.int 0)])=.ok (.bl false):=by
    cases A<;>cases B<;>rfl
   rw[ml hc];have:((Qn a 0:Nat):Int)=a:=by rw[Int.gcd_zero_right];omega
   rw[this]
  .have hc:(ae (aa 3) (dC (.int 0)) fY) (gw [A,B,.sh (.int a),.sh (.int b)])=.ok (.bl true):=by
    have:(b==0)=false:=beq_eq_false_iff_ne.mpr h0;cases A<;>cases B<;>open_line with[this]
   have f:=eX (a:=a) (b:=b) (by omega);have hb0:(b==0)=false:=beq_eq_false_iff_ne.mpr h0;rw[oH (ρ2:=[A,B,.sh (.int b),.sh (.int (a.fmod b))]) hc ?_,vO n b (a.fmod b) (by omega) f.1 (by omega)]
   .rw[pL]
   .cases A<;>cases B<;>open_line with[hb0]
def low_ok{a b:Int}(hb:0<b)(h1:a.natAbs<qO)(h2:b.natAbs<qO):bj [.int a,.int b]=.ok (fr (b6 a b)):=by
 have hg:0<(Qn a b:Int):=lR (by omega);have hgn:(Qn (a.natAbs:Int) b:Int)=(Qn a b:Int):=by
  congr 1
 have hl:=vO (A:=.sh (.int a)) (B:=.sh (.int b)) (b.natAbs+1) (a.natAbs:Int) b (by omega) (by omega) (RM _);rw[hgn]at hl;have hwh:∀(c:al) (s:am),gN (jY 3) c s [.sh (.int a),.sh (.int b),.sh (.int (a.natAbs:Int)),.sh (.int b)]=cn c s (b.natAbs+1) [.sh (.int a),.sh (.int b),.sh (.int (a.natAbs:Int)),.sh (.int b)]:=λ_ _=>rfl;have d1:(Qn a b:Int)∣a:=SD ..;have d2:(Qn a b:Int)∣b:=TQ ..;have q1:eY a (Qn a b:Int)=true:=pX (by omega) h1;have q2:eY b (Qn a b:Int)=true:=pX (by omega) h2;have e1:a.fdiv (Qn a b:Int)=a / (Qn a b:Int):=ic hg;have e2:b.fdiv (Qn a b:Int)=b / (Qn a b:Int):=ic hg;open_line with[bj,qC,KY,hwh,hl,mL q1,mL q2,e1,e2]
 rfl
def S(cs:bm):PY:=⟨cs.toArray⟩
def S_inj{a b:bm}(h:S a=S b):a=b:=by
 have:=congrArg (λs:PY=>s.cps.toList) h;simpa[S] using this
def Nc(a:bm):(S a).length=a.length:=KJ a
structure IsNm (cs:bm):Prop where
 l1:1<=cs.length
 l8:cs.length<=8
 ab:∀x∈cs,nu x=true
def IsNm.nameB{cs:bm}(h:IsNm cs):Com.nameB (S cs)=true:=by
 unfold Com.nameB;rw[Nc];simp only[Qg,decide_eq_true_eq];exact⟨h.l1,h.l8,P7.mpr λx hx=>h.ab x (by simpa[S] using hx)⟩
def nmsD(css:List (bm)):ac:=css.map λcs=>D.str (S cs)
theorem nodup_le{α:Type}[DecidableEq α]:∀{l m:List α},l.Nodup->(∀x∈l,x∈m)->l.length<=m.length
 |[],_,_,_=>R8 _
 |a::l,m,nd,h=>by
  rw[Rq]at nd;have ha:=h a Qf;have:=nodup_le (l:=l) (m:=m.erase a) nd.2 λx hx=>by
   have hne:x≠a:=λz=>nd.1 (z▸hx);exact(List.mem_erase_of_ne hne).mpr (h x (PV _ hx))
  rw[List.length_erase_of_mem ha]at this;have:=List.length_pos_of_mem ha;simp only[Qj];omega
def first(es:List Int)(m:Nat):bm:=(Q5 m).map λj=>97+((es[2+j]?).getD 0).toNat
end Cod
namespace DL
open PySem PySem.Spec PyProof.Rows L2
def Pk(x:D):ai D:=match x with
 |.lst ds=>.ok (.lst ds.reverse)
 |_=>.stuck
def nY(f:al)(lo hi:Ev->ai (Option Int)):al:=λρ=>(f ρ).bind λx=>(lo ρ).bind λl=>(hi ρ).bind λh=>match x with
 |.lst ds=>.ok (.lst (rK ds l h))
 |_=>.stuck
section
variable {X:Cx}{E:XK}{a:Qc}{f:al}{pos p2:Pos}
def wq{lo hi:Option Qc}{fl fh:Ev->ai (Option Int)}(ha:DE X E a f)(hl:DO X E lo fl)(hh:DO X E hi fh):DF X E (.Subscript a (.Slice lo hi none p2) pos) (nY f fl fh):=by
 refine⟨aW (vi yC ha.o hl.o hh.o) λσ H Q z9=>?_⟩;obtain⟨Ha,ρ,hs,hr,q⟩:=z9;refine⟨Ha,ρ,hs,hr,?_⟩;unfold nY at q;cases e1:f ρ with
 |stuck|exn x=>rw[e1]at q;exact q
 |ok x=>
  rw[e1]at q;intro v H1 H01 g1 r1;refine⟨H01,ρ,g1.sub,hr.mono g1.z,?_⟩;simp only[ai.bind]at q;cases e2:fl ρ with
  |stuck=>rw[e2]at q;exact q|exn x=>rw[e2]at q;exact λC ox H' Ha' g' ex=>q C ox H' Ha' (g1.trans g') ex
  |ok l=>
   rw[e2]at q;intro H2 H02 g2;refine⟨H02,ρ,g2.sub,(hr.mono g1.z).mono g2.z,?_⟩;simp only[ai.bind]at q;cases e3:fh ρ with
   |stuck=>rw[e3]at q;exact q|exn x=>rw[e3]at q;exact λC ox H' Ha' g' ex=>q C ox H' Ha' ((g1.trans g2).trans g') ex
   |ok h=>
    rw[e3]at q;intro H3 H03 g3;simp only[ai.bind]at q;have g:=(g1.trans g2).trans g3;cases x with
    |lst ds=>
     simp only at q;obtain⟨b,vs,rfl,h1,h2⟩:=aF.mp ((r1.mono g2.z).mono g3.z);refine⟨b,vs,rfl,aB.sqL g3.sub h1,λp hp=>?_⟩;have h0:H03 p=none:=g3.sub.free hp;refine q p _ _ H03 (g.trans ⟨λb o q=>by rw[au (bB q hp)];exact q,aB.refl _,λb o q=>?_,λa h1 h2=>absurd h2 h1⟩) (g.s.free hp) h0 aG (h2.cut l h);rw[au (by intro z;subst z;rw[h0]at q;cases q)];exact g3.sub _ _ q
    |_=>exact q.elim
end
def OQ{α:Type}{us:List α}(h:us.length=1):∃a,us=[a]:=List.length_eq_one_iff.mp h
def OP{α:Type}{us:List α}(h:us.length=2):∃a b,us=[a,b]:=by
 cases us with|nil=>cases h|cons a us=>obtain⟨b,rfl⟩:=OQ (UA h);exact⟨a,b,rfl⟩
def OO{α:Type}{us:List α}(h:us.length=3):∃a b c,us=[a,b,c]:=by
 cases us with|nil=>cases h|cons a us=>obtain⟨b,c,rfl⟩:=OP (UA h);exact⟨a,b,c,rfl⟩
def Ph{α:Type}{us:List α}(h:us.length=4):∃a b c d,us=[a,b,c,d]:=by
 cases us with|nil=>cases h|cons a us=>obtain⟨b,c,d,rfl⟩:=OO (UA h);exact⟨a,b,c,d,rfl⟩
def AJ(a:Py)(H:Hp):Hp:=λb=>if b=a then none else H b
def fH{a b:Py}{H:Hp}(h:b≠a):AJ a H b=H b:=if_neg h
def dw{a:Py}{H:Hp}:AJ a H a=none:=if_pos rfl
structure fF (K:Px) (He η Ha:Hp) (σ:L2.St) (H:Hp) (ρ:Ev) (a:Py) (st:ac) (vs:ad):Prop where
 ha:He a=none
 h0:η a=none
 hl:H a=some (.lst vs)
 r:Reps K Ha st vs
 s:cZ K (upd He a (.lst vs)) η Ha σ H ρ
def OX.he{K:Px}{He He' Ha H:Hp}{σ:L2.St}{ρ:Ev}(hn:∀b,He b=SX->He' b=SX)(h:OX K He Ha σ H ρ):OX K He' Ha σ H ρ:=⟨λi j ds e=>by
 obtain⟨a,P,h1,⟨vs,r1,r2,r3,r4,r5⟩,h2⟩:=h.1 i j ds e;exact⟨a,P,h1,⟨vs,hn _ r1,r2,r3,λk ok=>let ⟨es,us,q1,q⟩:=r4 k ok;⟨es,us,hn _ q1,q⟩,r5⟩,h2⟩,h.2⟩
section
variable {K:Px}{He η Ha H:Hp}{σ:L2.St}{ρ:Ev}{a:Py}{st st':ac}{vs us:ad}
def fF.n0(h:fF K He η Ha σ H ρ a st vs):Ha a=none:=by
 cases q:Ha a with
 |none=>rfl
 |some o=>
  have:=h.s.g.nw a (by rw[q];simp) h.h0;rw[aG]at this;cases this
def fF.back(h:fF K He η Ha σ H ρ a st vs){σ':L2.St}{H' Ha':Hp}{ρ':Ev}(z:aB Ha Ha')(s':cZ K (upd He a (.lst vs)) η Ha' σ' H' ρ'):fF K He η Ha' σ' H' ρ' a st vs :=
 ⟨h.ha,h.h0,s'.g.s _ _ aG,h.r.mono z,s'⟩
def fF.change(h:fF K He η Ha σ H ρ a st vs){H' Ha':Hp}(g:aU (AJ a H) Ha H' Ha')(n:Ha' a=none)(hl:H' a=some (.lst us))(r:Reps K Ha' st' us):fF K He η Ha' σ H' ρ a st' us:=by
 have hne:∀b,upd He a (.lst us) b=none->b≠a/\He b=none:=λb e=>by
  by_cases c:b=a
  .subst c;rw[aG]at e;cases e
  .rw[au c]at e;exact⟨c,e⟩
 have hnn:∀b,upd He a (.lst vs) b=none->upd He a (.lst us) b=none:=λb e=>by
  by_cases c:b=a
  .subst c;rw[aG]at e;cases e
  .rw[au c]at e ⊢;exact e
 have gone:∀b o,b≠a->H b=some o->H' b=some o:=λb o c e=>g.s _ _ (by rw[fH c];exact e);have n':∀b,Ha b=none->(∃o,H b=some o/\b≠a)->Ha' b=none:=λb e ⟨o,e1,c⟩=>by
  cases q:Ha' b with
  |none=>rfl
  |some u=>
   have:=g.nw b (by rw[q];simp) e;rw[fH c,e1]at this;cases this
 refine⟨h.ha,h.h0,hl,r,⟨⟨λb o e=>?_,h.s.g.z.trans g.z,g.sub,λb h1 h2=>?_⟩,h.s.rd.mono g.z,λi d e=>?_,h.s.ap,h.s.ln,(h.s.ex.he hnn).upd (λj s e=>.inl ⟨e,rfl⟩) g.z (λb ws hb e=>gone b _ (hne b hb).1 e) λp ws hp q0 hq _=>⟨gone p _ (hne p hp).1 hq,n' p q0 ⟨_,hq,(hne p hp).1⟩⟩⟩⟩
 .by_cases c:b=a
  .subst c;rw[aG]at e;cases e;exact hl
  .rw[au c]at e
   exact gone b o c (h.s.g.s _ _ (by rw[au c];exact e))
 .by_cases c:b=a
  .subst c;exact absurd n h1
  .rw[au c]
   cases q:Ha b with
   |some u=>
    have:=h.s.g.nw b (by rw[q];simp) h2;rw[au c]at this;exact this
   |none=>
    have:=g.nw b h1 q;rw[fH c]at this;cases q2:He b with|none=>rfl|some u=>rw[h.s.g.s b u (by rw[au c];exact q2)]at this;cases this
 .obtain⟨b,k1,k2,k3,k4⟩:=h.s.ow i d e
  cases d with
  |lst ds=>
   obtain⟨ws,k5,k6⟩:=k4;have c:b≠a:=(hne b (hnn b k2)).1;exact⟨b,k1,hnn b k2,n' b k3 ⟨_,k5,c⟩,ws,gone b _ c k5,k6.mono g.z⟩
  |dic ks ds=>
   obtain⟨ws,k5,kl,k6⟩:=k4;have c:b≠a:=(hne b (hnn b k2)).1;exact⟨b,k1,hnn b k2,n' b k3 ⟨_,k5,c⟩,ws,gone b _ c k5,kl,k6.mono g.z⟩
  |ob kk ds=>
   cases kk with
   |dint ks=>
    obtain⟨ws,k5,kl,k6⟩:=k4;have c:b≠a:=(hne b (hnn b k2)).1;exact⟨b,k1,hnn b k2,n' b k3 ⟨_,k5,c⟩,ws,gone b _ c k5,kl,k6.mono g.z⟩
   |_=>exact k4.elim
  |_=>exact k4.elim
end
noncomputable def tM(K:Px) (He η:Hp) (a:Py) (f:Ev->ac->ai (D×ac)):TE:=λσ H Q=>∃Ha ρ st vs,fF K He η Ha σ H ρ a st vs/\match f ρ st with
 |.ok (d,st')=>∀v H' Ha' us,aB Ha Ha'->fF K He η Ha' σ H' ρ a st' us->Rep K Ha' d v->Q v H'
 |.exn _=>False
 |.stuck=>False
noncomputable def Pb(K:Px) (He η:Hp) (a:Py) (f:Ev->ac->ai (ac×ac)):TA:=λσ H Q=>∃Ha ρ st vs,fF K He η Ha σ H ρ a st vs/\match f ρ st with
 |.ok (ds,st')=>∀xs H' Ha' us,aB Ha Ha'->fF K He η Ha' σ H' ρ a st' us->Reps K Ha' ds xs->Q xs H'
 |.exn _=>False
 |.stuck=>False
noncomputable def O9(K:Px) (He η:Hp) (a:Py) (f:Ev->ac->ai (D×ac)):TT:=λσ H Q=>∃Ha ρ st vs,fF K He η Ha σ H ρ a st vs/\match f ρ st with
 |.ok (.bl b,st')=>∀H' Ha' us,aB Ha Ha'->fF K He η Ha' σ H' ρ a st' us->Q b H'
 |.ok _=>False
 |.exn _=>False
 |.stuck=>False
structure DM (X:Cx) (He η:Hp) (a:Py) (e:Qc) (f:Ev->ac->ai (D×ac)):Prop where
 o:PE X e (tM X.K He η a f)
structure Ld (X:Cx) (He η:Hp) (a:Py) (es:List Qc) (f:Ev->ac->ai (ac×ac)):Prop where
 o:PA X es (Pb X.K He η a f)
structure NF (X:Cx) (He η:Hp) (a:Py) (e:Qc) (f:Ev->ac->ai (D×ac)):Prop where
 o:PT X e (O9 X.K He η a f)
def mP(f:al):Ev->ac->ai (D×ac):=λρ st=>(f ρ).bind λd=>.ok (d,st)
def sG(st:ac)(d:D):ai (D×ac):=if uw d=true then .ok (d,st) else .stuck
def jy(s:Option Sl)(a:Py):Bool:=match s with
 |some (.pt b)=>b==a
 |_=>false
def vw(i:Nat)(ρ:Ev)(st:ac):Ev:=(gw ρ).set i (.sh (.lst st))
def mV(i:Nat)(a:Py)(f:al):Ev->ac->ai (D×ac):=λρ st=>if jy ρ[i]? a=true then(f (vw i ρ st)).bind (sG st) else .stuck
section
variable {X:Cx}{E:XK}{He η:Hp}{a:Py}{e b:Qc}{es:List Qc}{pos:Pos}{f:al}{fm gm:Ev->ac->ai (D×ac)}{fa:Ev->ac->ai (ac×ac)}
def aS(he:DE X E e f):DM X He η a e (mP f):=⟨aW he.o λσ H Q ⟨Ha,ρ,st,vs,h,q⟩=>⟨Ha,ρ,h.s.g.sub,h.s.rd,by
 unfold mP at q;cases e1:f ρ with
 |stuck=>rw[e1]at q;exact q|exn x=>rw[e1]at q;exact q.elim
 |ok d=>
  rw[e1]at q;exact λv H' Ha' g rp=>q v H' Ha' vs g.z (h.back g.z (h.s.grow g)) rp⟩⟩
def fF.view{K:Px}{Ha H:Hp}{σ:L2.St}{ρ:Ev}{i:Nat}{st:ac}{vs:ad}(h:fF K He η Ha σ H ρ a st vs)(hp:jy ρ[i]? a=true):aB (upd (frz (upd He a (.lst vs)) Ha H) a (.lst vs)) H/\aB (frz (upd He a (.lst vs)) Ha H) (upd (frz (upd He a (.lst vs)) Ha H) a (.lst vs))/\Reads K (upd (frz (upd He a (.lst vs)) Ha H) a (.lst vs)) σ (vw i ρ st):=by
 have hz:frz (upd He a (.lst vs)) Ha H a=none:=by unfold frz;rw[aG];exact h.n0
 have z:aB (frz (upd He a (.lst vs)) Ha H) (upd (frz (upd He a (.lst vs)) Ha H) a (.lst vs)):=λb o e=>by rw[au (by intro z;subst z;rw[hz]at e;cases e)];exact e
 refine⟨λb o e=>?_,z,λj d e=>?_⟩
 .by_cases c:b=a
  .subst c;rw[aG]at e;cases e;exact h.hl
  .rw[au c]at e;exact h.s.frz_le _ _ e
 .unfold vw at e
  by_cases c:i=j
  .subst c
   unfold jy at hp;cases q:ρ[i]? with
   |none=>rw[q]at hp;cases hp
   |some s=>
    rw[q]at hp;cases s with
    |pt b=>
     have hb:b=a:=eq_of_beq hp;subst hb;have hil:i<(gw ρ).length:=by unfold gw;rw[Pz];exact(PH.mp q).1
     rw[PZ hil]at e;cases e;exact⟨_,h.s.ex.2 i b q,aF.mpr ⟨b,vs,rfl,dR.of aG,(h.r.mono h.s.frz_sub).mono z⟩⟩
    |_=>cases hp
  .rw[PB c]at e
   obtain⟨v,h1,h2⟩:=h.s.looks j d e;exact⟨v,h1,h2.mono z⟩
def fF.behind{K:Px}{Ha H H' J:Hp}{σ:L2.St}{ρ:Ev}{st:ac}{vs:ad}(h:fF K He η Ha σ H ρ a st vs)(g:aU H (upd (frz (upd He a (.lst vs)) Ha H) a (.lst vs)) H' J):aB Ha J/\aB Ha (gU Ha J)/\fF K He η (gU Ha J) σ H' ρ a st vs:=by
 have hz:frz (upd He a (.lst vs)) Ha H a=none:=by unfold frz;rw[aG];exact h.n0
 have z0:aB (frz (upd He a (.lst vs)) Ha H) (upd (frz (upd He a (.lst vs)) Ha H) a (.lst vs)):=λb o e=>by rw[au (by intro z;subst z;rw[hz]at e;cases e)];exact e
 have hJ:aB Ha J:=h.s.frz_sub.trans (z0.trans g.z);have z:aB Ha (gU Ha J):=λb o e=>by unfold gU;rw[e]
 refine⟨hJ,z,h.back z ?_⟩;have ja:J a=some (.lst vs):=g.z _ _ aG;have g':aU H (frz (upd He a (.lst vs)) Ha H) H' (AJ a J):=⟨g.s,λb o e=>by
   have c:b≠a:=by intro c;subst c;rw[hz]at e;cases e
   rw[fH c];exact g.z _ _ (z0 _ _ e),λb o e=>by
   by_cases c:b=a
   .subst c;rw[dw]at e;cases e
   .rw[fH c]at e;exact g.sub _ _ e,λb h1 h2=>by
   by_cases c:b=a
   .subst c;exact absurd dw h1
   .rw[fH c]at h1;exact g.nw b h1 (by rw[au c];exact h2)⟩
 have hs:=h.s.behind g';have e:gU Ha (AJ a J)=gU Ha J:=by
  funext b;unfold gU
  by_cases c:b=a
  .subst c;rw[h.n0,dw,ja]
  .rw[fH c]
 rw[e]at hs;exact hs
def lW{i:Nat}(he:DE X E e f):DM X He η a e (mV i a f):=⟨aW he.o λσ H Q z9=>by
 obtain⟨Ha,ρ,st,vs,h,q⟩:=z9;unfold mV at q
 by_cases hp:jy ρ[i]? a=true
 .rw[if_pos hp]at q
  obtain⟨v1,v2,v3⟩:=h.view hp;refine⟨_,vw i ρ st,v1,v3,?_⟩;cases e1:f (vw i ρ st) with
  |stuck=>rw[e1]at q;exact q|exn x=>rw[e1]at q;exact q.elim
  |ok d=>
   rw[e1]at q;intro v H' J g rp;obtain⟨hJ,z,hm⟩:=h.behind g;replace q:match sG st d with
    |.ok (d,st')=>∀v H' Ha' us,aB Ha Ha'->fF X.K He η Ha' σ H' ρ a st' us->Rep X.K Ha' d v->Q v H'
    |.exn _=>False
    |.stuck=>False:=q
   unfold sG at q
   by_cases fl:uw d=true
   .rw[if_pos fl]at q
    exact q v H' (gU Ha J) vs z hm (rp.flat_to (Hg hJ) fl)
   .rw[if_neg fl]at q;exact q.elim
 .rw[if_neg hp]at q;exact q.elim⟩
def mB(f g:Ev->ac->ai (D×ac))(op:D->D->ai D):Ev->ac->ai (D×ac):=λρ st=>(f ρ st).bind λp=>(g ρ p.2).bind λq=>(op p.1 q.1).bind λd=>.ok (d,q.2)
def iu{r:R2}{op:D->D->ai D}(ho:qM X.K E r op)(σ:L2.St)(H:Hp)(Q:VK)(h:tM X.K He η a (mB fm gm op) σ H Q):EM r (tM X.K He η a fm) (tM X.K He η a gm) σ H Q:=by
 obtain⟨Ha,ρ,st,vs,h,q⟩:=h;refine⟨Ha,ρ,st,vs,h,?_⟩;unfold mB at q;cases e1:fm ρ st with
 |stuck|exn x=>rw[e1]at q;exact q
 |ok p=>
  obtain⟨x,s1⟩:=p;rw[e1]at q;intro v H1 H01 us z1 h1 r1;refine⟨H01,ρ,s1,us,h1,?_⟩;simp only[ai.bind]at q;cases e2:gm ρ s1 with
  |stuck|exn x=>rw[e2]at q;exact q
  |ok p2=>
   obtain⟨y,s2⟩:=p2;rw[e2]at q;intro u H2 H02 us2 z2 h2 r2;refine ho x y v u H2 H02 Q h2.s.g.sub (r1.mono z2) r2 ?_;simp only at q;cases e3:op x y with
   |stuck=>rw[e3]at q;exact q|exn x=>rw[e3]at q;exact q.elim
   |ok d=>
    rw[e3]at q;exact λv' H' Ha' g rp=>q v' H' Ha' us2 ((z1.trans z2).trans g.z) (h2.back g.z (h2.s.grow g)) rp
def HK{op:Operator}{r:R2}{o:D->D->ai D}(h:eT X (binaryOp op) r)(ho:qM X.K E r o){l:Qc}(ha:DM X He η a l fm)(hb:DM X He η a b gm):DM X He η a (.BinOp l op b pos) (mB fm gm o):=⟨aW (HE h ha.o hb.o) (iu ho)⟩
def Kx{op:CmpOp}{r:R2}{o:D->D->ai D}(h:eT X (Qz op) r)(ho:qM X.K E r o){l:Qc}(ha:DM X He η a l fm)(hb:DM X He η a b gm)(hm:behindInMarks op b=false):DM X He η a (.Compare l [op] [b] pos) (mB fm gm o):=⟨aW (yS h ha.o hb.o hm) (iu ho)⟩
def M3{r:R2}{o:D->D->ai D}(h:D7 X r)(ho:qM X.K E r o){l:Qc}(ha:DM X He η a l fm)(hb:DM X He η a b gm)(hs:ki b:=by intro _ _;rfl):DM X He η a (.Subscript l b pos) (mB fm gm o):=⟨aW (Cu h ha.o hb.o hs) (iu ho)⟩
def dE:Ev->ac->ai (ac×ac):=λ_ st=>.ok ([],st)
def bR(f:Ev->ac->ai (D×ac))(fa:Ev->ac->ai (ac×ac)):Ev->ac->ai (ac×ac):=λρ st=>(f ρ st).bind λp=>(fa ρ p.2).bind λq=>.ok (p.1::q.1,q.2)
def bQ:Ld X He η a [] dE:=⟨oe eC λσ H Q ⟨Ha,ρ,st,vs,h,q⟩=>q [] H Ha vs (aB.refl _) h Reps.nil⟩
def bg(ha:DM X He η a e fm)(hr:Ld X He η a es fa)(hs:PM (e::es) X.env=(false,eval e X.env)::PM es X.env:=by exact ba rfl):Ld X He η a (e::es) (bR fm fa):=⟨oe (cO ha.o hr.o hs) λσ H Q ⟨Ha,ρ,st,vs,h,q⟩=>⟨Ha,ρ,st,vs,h,by
 unfold bR at q;cases e1:fm ρ st with
 |stuck|exn x=>rw[e1]at q;exact q
 |ok p=>
  obtain⟨x,s1⟩:=p;rw[e1]at q;intro v H1 H01 us z1 h1 r1;refine⟨H01,ρ,s1,us,h1,?_⟩;simp only[ai.bind]at q;cases e2:fa ρ s1 with
  |stuck|exn x=>rw[e2]at q;exact q
  |ok p2=>
   obtain⟨ys,s2⟩:=p2;rw[e2]at q;exact λxs H2 H02 us2 z2 h2 r2=>q _ H2 H02 us2 (z1.trans z2) h2 (Reps.cons (r1.mono z2) r2)⟩⟩
def mA(fa:Ev->ac->ai (ac×ac))(m:ac->ai D):Ev->ac->ai (D×ac):=λρ st=>(fa ρ st).bind λp=>(m p.1).bind λd=>.ok (d,p.2)
end
inductive cw where
 |nx (ρ:Ev) (st:ac)|rt (d:D) (st:ac)|bk (ρ:Ev) (st:ac)|ct (ρ:Ev) (st:ac)
structure Nh (K:Px) (He η Ha H:Hp) (a:Py) (st:ac):Prop where
 g:aU He η H Ha
 n:Ha a=none
 l:∃us,H a=some (.lst us)/\Reps K Ha st us
noncomputable def c5(K:Px) (He η:Hp) (a:Py) (Ha:Hp) (r:ai cw) (D:eV):Prop:=match r with
 |.ok (.nx ρ st)=>∀σ H Ha' vs,aB Ha Ha'->fF K He η Ha' σ H ρ a st vs->D.nx σ H
 |.ok (.rt d st)=>∀v H Ha',aB Ha Ha'->Nh K He η Ha' H a st->Rep K Ha' d v->D.rt v H
 |.ok (.bk ρ st)=>∀σ H Ha' vs,aB Ha Ha'->fF K He η Ha' σ H ρ a st vs->D.bk σ H
 |.ok (.ct ρ st)=>∀σ H Ha' vs,aB Ha Ha'->fF K He η Ha' σ H ρ a st vs->D.ct σ H
 |.exn _=>False
 |.stuck=>False
def c5.grow{K:Px}{He η Ha Hb:Hp}{a:Py}{r:ai cw}{D:eV}(h:c5 K He η a Ha r D)(s:aB Ha Hb):c5 K He η a Hb r D:=by
 cases r with
 |ok f=>
  cases f with|nx ρ st=>exact λσ H Ha' vs s'=>h σ H Ha' vs (s.trans s')|rt d st=>exact λv H Ha' s'=>h v H Ha' (s.trans s')|bk ρ st=>exact λσ H Ha' vs s'=>h σ H Ha' vs (s.trans s')|ct ρ st=>exact λσ H Ha' vs s'=>h σ H Ha' vs (s.trans s')
 |exn x=>exact h
 |stuck=>exact h
def Np(K:Px)(He η:Hp)(a:Py)(g:Ev->ac->ai cw):TS:=λD σ H=>∃Ha ρ st vs,fF K He η Ha σ H ρ a st vs/\c5 K He η a Ha (g ρ st) D
structure SM (X:Cx) (He η:Hp) (a:Py) (st:Q1) (g:Ev->ac->ai cw):Prop where
 o:PS X st (Np X.K He η a g)
structure A8 (X:Cx) (He η:Hp) (a:Py) (st:List Q1) (g:Ev->ac->ai cw):Prop where
 o:qL X st (Np X.K He η a g)
section
variable {X:Cx}{E:XK}{He η:Hp}{a:Py}{st:Q1}{rest:List Q1}{e b:Qc}{es:List Qc}{pos:Pos}{f:al}{fm gm:Ev->ac->ai (D×ac)}{s t:Ev->ac->ai cw}
def cK:Ev->ac->ai cw:=λρ st=>.ok (.nx ρ st)
def zh(t:Ev->ac->ai cw)(r:cw):ai cw:=match r with
 |.nx ρ st=>t ρ st
 |r=>.ok r
def bM(s t:Ev->ac->ai cw):Ev->ac->ai cw:=λρ st=>(s ρ st).bind (zh t)
def cm:A8 X He η a [] cK:=⟨cq fj λD σ H ⟨Ha,ρ,st,vs,h,q⟩=>q σ H Ha vs (aB.refl _) h⟩
def aK(h1:SM X He η a st s)(h2:A8 X He η a rest t):A8 X He η a (st::rest) (bM s t):=by
 refine⟨?_⟩;refine cq (bV h1.o h2.o) λD σ H z9=>?_;obtain⟨Ha,ρ,st,vs,h,q⟩:=z9;refine⟨Ha,ρ,st,vs,h,?_⟩
 unfold bM at q;cases e1:s ρ st with
 |stuck|exn x=>rw[e1]at q;exact q
 |ok r=>
  rw[e1]at q;cases r with|nx ρ' st'=>exact λσ' H' Ha' vs' s' h'=>⟨Ha',ρ',st',vs',h',c5.grow (r:=t ρ' st') q s'⟩|rt d st'|bk ρ' st'|ct ρ' st'=>exact q
def xE(st:ac)(r:Fl):ai cw:=match r with
 |.nx ρ=>.ok (.nx ρ st)
 |.bk ρ=>.ok (.bk ρ st)
 |.ct ρ=>.ok (.ct ρ st)
 |.rt _=>.stuck
def eW(g:am):Ev->ac->ai cw:=λρ st=>(g ρ).bind (xE st)
def dk{g:am}(h:∀vs,DS X E (upd He a (.lst vs)) η st g):SM X He η a st (eW g):=by
 refine⟨?_⟩;rintro π sh σ H D I ⟨Ha,ρ,st,vs,hm,q⟩;refine(h vs).o π sh σ H D I ⟨Ha,ρ,hm.s,?_⟩;unfold eW at q;cases e1:g ρ with
 |stuck=>rw[e1]at q;exact q|exn x=>rw[e1]at q;exact q.elim
 |ok r=>
  rw[e1]at q;cases r with|nx ρ'=>exact λσ' H' Ha' z h'=>q σ' H' Ha' vs z (hm.back z h')|bk ρ'=>exact λσ' H' Ha' z h'=>q σ' H' Ha' vs z (hm.back z h')|ct ρ'=>exact λσ' H' Ha' z h'=>q σ' H' Ha' vs z (hm.back z h')|rt d=>exact q.elim
def CO(i:Nat)(ρ:Ev)(p:D×ac):ai cw:=.ok (.nx (ρ.set i (.sh p.1)) p.2)
def e9(i:Nat)(f:Ev->ac->ai (D×ac)):Ev->ac->ai cw:=λρ st=>(f ρ st).bind (CO i ρ)
def df{i:Nat}{x:PY}{pos':Pos}(hN:X.N.Nodup)(hi:X.N[i]?=some x)(hx:wM X.env.scope x)(he:DM X He η a e fm)(hs:QY e (some (.Name x pos')) pos.line X.env=pure false:=by rfl)
  (hf:X.fn x=true∨X.env.scope.names.lookup x=some .local := by first|exact .inl rfl|exact .inr rfl|assumption):SM X He η a (.Assign [.Name x pos'] e pos) (e9 i fm):=by
 refine⟨?_⟩;refine bP (iE hN hi hx he.o hs hf) λD σ H z9=>?_;obtain⟨Ha,ρ,st,vs,h,q⟩:=z9;refine⟨Ha,ρ,st,vs,h,?_⟩
 unfold e9 at q;cases e1:fm ρ st with
 |stuck|exn x=>rw[e1]at q;exact q
 |ok p=>
  obtain⟨d,st'⟩:=p;rw[e1]at q;exact λv H' Ha' us z h' rp=>q _ H' Ha' us z (h'.back (aB.refl _) (h'.s.put rp))
def CP(p:D×ac):ai cw:=.ok (.rt p.1 p.2)
def Fy(f:Ev->ac->ai (D×ac)):Ev->ac->ai cw:=λρ st=>(f ρ st).bind CP
def fF.out{K:Px}{Ha H:Hp}{σ:L2.St}{ρ:Ev}{st:ac}{vs:ad}(h:fF K He η Ha σ H ρ a st vs){J:Hp}(z:aB Ha J)(hs:aB J H)(hw:∀b,J b≠none->Ha b=none->upd He a (.lst vs) b=none)(n:J a=none):Nh K He η J H a st :=
 ⟨⟨λb o e=>h.s.g.s _ _ (by rw[au (by intro c;subst c;rw[h.ha]at e;cases e)];exact e),h.s.g.z.trans z,hs,λb h1 h2=>by
  have key:upd He a (.lst vs) b=none:=by
   cases q:Ha b with|none=>exact hw b h1 q|some o=>exact h.s.g.nw b (by rw[q];simp) h2
  by_cases c:b=a
  .subst c;exact h.ha
  .rw[au c]at key;exact key⟩,n,vs,h.hl,h.r.mono z⟩
def Iw(he:DM X He η a e fm):SM X He η a (.Return (some e) pos) (Fy fm):=by
 refine⟨?_⟩;refine bP (my he.o) λD σ H z9=>?_;obtain⟨Ha,ρ,st,vs,h,q⟩:=z9;refine⟨Ha,ρ,st,vs,h,?_⟩
 unfold Fy at q;cases e1:fm ρ st with
 |stuck|exn x=>rw[e1]at q;exact q
 |ok p=>
  obtain⟨d,st'⟩:=p;rw[e1]at q;exact λv H' Ha' us z h' rp=>q v H' Ha' z (h'.out (aB.refl _) h'.s.g.sub (λb h1 h2=>absurd h2 h1) h'.n0) rp
def gD(f:al):Ev->ac->ai cw:=λρ st=>(f (gw ρ)).bind λd=>.ok (.rt d st)
def gu(he:DE X E e f):SM X He η a (.Return (some e) pos) (gD f):=by
 refine⟨?_⟩;refine bP (my he.o) λD σ H z9=>?_;obtain⟨Ha,ρ,st,vs,h,q⟩:=z9;refine⟨frz (upd He a (.lst vs)) Ha H,gw ρ,h.s.frz_le,h.s.looks,?_⟩
 unfold gD at q;cases e1:f (gw ρ) with
 |stuck=>rw[e1]at q;exact q|exn x=>rw[e1]at q;exact q.elim
 |ok d=>
  rw[e1]at q;intro v H' J g rp;have hz:frz (upd He a (.lst vs)) Ha H a=none:=by unfold frz;rw[aG];exact h.n0
  have z:aB Ha J:=h.s.frz_sub.trans g.z;have n:J a=none:=by
   cases qq:J a with|none=>rfl|some o=>have:=g.nw a (by rw[qq];simp) hz;rw[h.hl]at this;cases this
  have hg:=h.s.frz_grow.trans g;refine q v H' J z ⟨⟨λb o e=>hg.s _ _ (by rw[au (by intro c;subst c;rw[h.ha]at e;cases e)];exact e),hg.z,hg.sub,λb h1 h2=>?_⟩,n,vs,g.s _ _ h.hl,h.r.mono z⟩ rp;have key:=hg.nw b h1 h2
  by_cases c:b=a
  .subst c;exact h.ha
  .rw[au c]at key;exact key
def Fz(s t:Ev->ac->ai cw)(ρ:Ev)(p:D×ac):ai cw:=match p.1 with
 |.bl b=>if b=true then s ρ p.2 else t ρ p.2
 |_=>.stuck
def FA(c:Ev->ac->ai (D×ac))(s t:Ev->ac->ai cw):Ev->ac->ai cw:=λρ st=>(c ρ st).bind (Fz s t ρ)
def u4{c:Qc}{sa sb:List Q1}(hc:NF X He η a c fm)(ha:A8 X He η a sa s)(hb:A8 X He η a sb t):SM X He η a (.If c sa sb pos) (FA fm s t):=by
 refine⟨?_⟩;refine bP (yO hc.o ha.o hb.o) λD σ H z9=>?_;obtain⟨Ha,ρ,st,vs,h,q⟩:=z9;refine⟨Ha,ρ,st,vs,h,?_⟩
 unfold FA at q;cases e1:fm ρ st with
 |stuck|exn x=>rw[e1]at q;exact q
 |ok p=>
  obtain⟨d,st'⟩:=p;rw[e1]at q;cases d with
  |bl b=>
   intro H' Ha' us z h';replace q:c5 X.K He η a Ha (if b=true then s ρ st' else t ρ st') D:=q;cases b with|true=>rw[if_pos rfl]at q ⊢;exact⟨Ha',ρ,st',us,h',q.grow z⟩|false=>rw[if_neg Rk]at q ⊢;exact⟨Ha',ρ,st',us,h',q.grow z⟩
  |_=>exact q.elim
end
section
variable {X:Cx}{E:XK}{He η:Hp}{a:Py}{st:Q1}{e l b:Qc}{rest es:List Qc}{pos:Pos}{f:al}{fm gm:Ev->ac->ai (D×ac)}{s t:Ev->ac->ai cw}
def uC{op:CmpOp}{r:R2}{o:D->D->ai D}(h:eT X (Qz op) r)(ho:qM X.K E r o)(ha:DM X He η a l fm)(hb:DM X He η a b gm)(hm:behindInMarks op b=false):NF X He η a (.Compare l [op] [b] pos) (mB fm gm o):=by
 refine⟨?_⟩;refine iD (yN h ha.o hb.o hm) λσ H Q h=>?_;have w:tM X.K He η a (mB fm gm o) σ H λx H'=>∃k,x=.bl k/\Q k H':=by
  obtain⟨Ha,ρ,st,vs,h,q⟩:=h;refine⟨Ha,ρ,st,vs,h,?_⟩;cases e1:mB fm gm o ρ st with
  |stuck|exn x=>rw[e1]at q;exact q
  |ok p=>
   obtain⟨d,st'⟩:=p;rw[e1]at q;intro v H1 H01 us z h1 r1;cases d with|bl b=>rw[aI.mp r1];exact⟨b,rfl,q H1 H01 us z h1⟩| _=>exact q.elim
 exact iu ho σ H _ w
def mT(f:al):Ev->ac->ai (D×ac):=λρ st=>(f (gw ρ)).bind λd=>.ok (d,st)
def Dy(h:DT X E e f):NF X He η a e (mT f):=⟨iD h.o λσ H Q ⟨Ha,ρ,st,vs,h,q⟩=>⟨frz (upd He a (.lst vs)) Ha H,gw ρ,h.s.frz_le,h.s.looks,by
 unfold mT at q;cases e1:f (gw ρ) with
 |stuck=>rw[e1]at q;exact q|exn x=>rw[e1]at q;exact q.elim
 |ok d=>
  rw[e1]at q;cases d with
  |bl b=>exact λH' J g=>q H' Ha vs (aB.refl _) (h.back (aB.refl _) (h.s.same g.s))
  |_=>exact q.elim⟩⟩
def Nu(i:Nat)(a:Py)(f:al):Ev->ac->ai (D×ac):=λρ st=>if jy ρ[i]? a=true then(f (vw i ρ st)).bind λd=>.ok (d,st) else .stuck
def Dx{i:Nat}(h:DT X E e f):NF X He η a e (Nu i a f):=⟨iD h.o λσ H Q z9=>by
 obtain⟨Ha,ρ,st,vs,h,q⟩:=z9;unfold Nu at q
 by_cases hp:jy ρ[i]? a=true
 .rw[if_pos hp]at q
  obtain⟨v1,v2,v3⟩:=h.view hp;refine⟨_,vw i ρ st,v1,v3,?_⟩;cases e1:f (vw i ρ st) with
  |stuck=>rw[e1]at q;exact q|exn x=>rw[e1]at q;exact q.elim
  |ok d=>
   rw[e1]at q;cases d with|bl b=>exact λH' J g=>q H' Ha vs (aB.refl _) (h.back (aB.refl _) (h.s.same g.s))| _=>exact q.elim
 .rw[if_neg hp]at q;exact q.elim⟩
noncomputable def forM(tg:Ev->D->ai Ev) (body:Ev->ac->ai cw):ac->Ev->ac->ai cw
 |[],ρ,st=>.ok (.nx ρ st)
 |d::r,ρ,st=>(tg ρ d).bind λρ1=>(body ρ1 st).bind λx=>match x with
  |.nx ρ2 s2=>forM tg body r ρ2 s2
  |.ct ρ2 s2=>forM tg body r ρ2 s2
  |.bk ρ2 s2=>.ok (.nx ρ2 s2)
  |.rt d s=>.ok (.rt d s)
def NO(K:Px)(He η:Hp)(a:Py)(tg:Ev->D->ai Ev):TG:=λv σ H Q=>∃Ha ρ st vs d,fF K He η Ha σ H ρ a st vs/\Rep K Ha d v/\match tg ρ d with
  |.ok ρ'=>∀σ' H' Ha',aB Ha Ha'->fF K He η Ha' σ' H' ρ' a st vs->Q σ' H'
  |_=>False
def LX{tgt:Qc}{tg:Ev->D->ai Ev}(hg:∀vs,DG X E (upd He a (.lst vs)) η tgt tg):PG X tgt (NO X.K He η a tg):=by
 rintro π sh σ H v u Q I r ⟨Ha,ρ,st,vs,d,h,rp,q⟩;refine(hg vs).o π sh σ H v u Q I r ⟨Ha,ρ,d,h.s,rp,?_⟩;cases e1:tg ρ d with
 |stuck|exn x=>rw[e1]at q;exact q
 |ok ρ'=>
  rw[e1]at q;exact λσ' H' Ha' z h'=>q σ' H' Ha' z (h.back z h')
def mh(K:Px)(He η:Hp)(a:Py)(Hb:Hp)(tg:Ev->D->ai Ev)(s:Ev->ac->ai cw)(ds:ac)(D':eV)(i:Nat)(σ:L2.St)(H:Hp):Prop :=
 ∃Ha ρ st vs,aB Hb Ha/\fF K He η Ha σ H ρ a st vs/\c5 K He η a Ha (forM tg s (ds.drop i) ρ st) D'
def mh.done{K:Px}{Hb:Hp}{tg:Ev->D->ai Ev}{ds:ac}{D':eV}{σ:L2.St}{H:Hp}(h:mh K He η a Hb tg s ds D' ds.length σ H):D'.nx σ H:=by
 obtain⟨Ha,ρ,st,vs,z,h,q⟩:=h;rw[Sd]at q;unfold forM at q;exact q σ H Ha vs (aB.refl _) h
end
section
variable {X:Cx}{E:XK}{He η:Hp}{a:Py}{st:Q1}{e l b:Qc}{rest es:List Qc}{pos:Pos}{f:al}{fm gm:Ev->ac->ai (D×ac)}{fa:Ev->ac->ai (ac×ac)}{s t:Ev->ac->ai cw}
def sq(i:Nat)(ρ:Ev)(ds:ac)(p:D×ac):ai cw:=if ds.length<line then .ok (.nx (ρ.set i (.ow (.lst (ds++[p.1])))) p.2) else .stuck
def Fm(s:Option Sl)(k:ac->ai cw):ai cw:=match s with
 |some (.ow (.lst ds))=>k ds
 |_=>.stuck
def CQ(i:Nat)(f:Ev->ac->ai (D×ac)):Ev->ac->ai cw:=λρ st=>Fm ρ[i]? λds=>(f ρ st).bind (sq i ρ ds)
def Ag{i:Nat}{x:PY}{p1 p2 p3:Pos}(hN:X.N[i]?=some x)(hv:wJ X.env.scope x)(he:DM X He η a e fm)
  (hd:(x==("__debug__" : PY))=false:=by decide)(hcd:(x==("__classdict__" : PY))=false:=by decide)
  (hbase:R4 (.Name x p1) "append" X.env (eval (.Name x p1) X.env)=eval (.Name x p1) X.env:=by rfl)
  (hfew:((QZ p3 (PM [e] X.env)).all (λx=>!x.1)&&(SS p3 (RS [] X.env)).all (λx=>x.1.isSome)
  &&decide ([e].length+([]:List RH).length+(if([]:List RH).isEmpty then 0 else 1)<30))=true:=by exact fA rfl)
  (hline:(p2.endLine==p3.line)=true:=by rfl) (hs:PM [e] X.env=(false,eval e X.env)::PM [] X.env:=by exact ba rfl) (hplain:(QZ p3 (PM [] X.env)).any (·.1)=false:=by exact bX rfl)
  (hw:QY (.Call (.Attribute (.Name x p1) "append" p2) [e] [] p3) none pos.line X.env=pure false:=by rfl) :
  SM X He η a (.Expr (.Call (.Attribute (.Name x p1) "append" p2) [e] [] p3) pos) (CQ i fm):=by
 refine⟨?_⟩;refine bP (jS (rZ RK RD RC fW (eA hN hv hd hcd) (cO he.o eC hs) hbase hfew hline hs hplain) hw) λD σ H ⟨Ha,ρ,st,vs,h,q⟩=>?_;unfold CQ Fm at q;cases e0:ρ[i]? with
 |none=>rw[e0]at q;exact q.elim
 |some sl=>
  rw[e0]at q;cases sl with
  |ow d=>
   cases d with
   |lst ds=>
    obtain⟨p,k1,k2,k3,ws,k4,k5⟩:=h.s.ow i _ e0;refine⟨.ref p,k1,.inl ⟨rfl,ws,dR.of k4⟩,?_⟩;refine⟨Ha,ρ,st,vs,h,?_⟩;replace q:c5 X.K He η a Ha ((fm ρ st).bind (sq i ρ ds)) D:=q;cases e1:fm ρ st with
    |stuck|exn x=>rw[e1]at q;exact q
    |ok pr=>
     obtain⟨d,st'⟩:=pr;rw[e1]at q;intro v H' Ha' us z h' rp;obtain⟨p',k1',k2',k3',ws',k4',k5'⟩:=h'.s.ow i _ e0;rw[k1]at k1';cases k1';replace q:c5 X.K He η a Ha (sq i ρ ds (d,st')) D:=q;unfold sq at q
     by_cases hl:ds.length<line
     .rw[if_pos hl]at q
      refine⟨p,ws',v,rfl,rfl,k4',by rw[←k5'.length];exact PK hl (by decide),?_⟩;have hpa:p≠a:=by intro c;subst c;rw[aG]at k2';cases k2'
      exact q σ _ Ha' us z ⟨h'.ha,h'.h0,by rw[au (Qx hpa)];exact h'.hl,h'.r,h'.s.write e0 k1 (k5'.app (Reps.cons rp Reps.nil))⟩
     .rw[if_neg hl]at q;exact q.elim
   |_=>exact q.elim
  |_=>exact q.elim
def lE(ρ:Ev)(d:D)(p:D×ac):ai cw:=match p.1 with
 |.int j=>match xK p.2.length j with
  |some n=>.ok (.nx ρ (p.2.set n d))
  |none=>.stuck
 |_=>.stuck
def vM(i:Nat)(a:Py)(f k:Ev->ac->ai (D×ac)):Ev->ac->ai cw:=λρ st=>if jy ρ[i]? a=true then(f ρ st).bind λp=>(k ρ p.2).bind (lE ρ p.1) else .stuck
def zp{s:Option Sl}{a:Py}(h:jy s a=true):s=some (.pt a):=by
 unfold jy at h;split at h
 .rw[eq_of_beq h]
 .cases h
def w8{i:Nat}{x:PY}{p1 p2:Pos}(hN:X.N[i]?=some x)(hv:wJ X.env.scope x)(he:DM X He η a e fm)(hk:DM X He η a b gm)
  (hd:(x==("__debug__" : PY))=false:=by decide)(hcd:(x==("__classdict__" : PY))=false:=by decide)
  (ha:∀v,assign (.Subscript (.Name x p1) b p2) X.env v=(do
   let ov ←SN [v] (eval (.Name x p1) X.env)
   let iv ←SN [v,ov] (eval b X.env)
   standAt p2
   SN [v,ov,iv] (setItem ov iv v)
   release [v,ov,iv] []):=by intro _;rfl)
  (hs:swapsWithSole [.Subscript (.Name x p1) b p2] e pos.line X.env=pure false:=by rfl) (hw:swappedStores [.Subscript (.Name x p1) b p2] e X.env=pure none:=by rfl)
  (h1:(assignEach [.Subscript (.Name x p1) b p2] X.env).map (·.2)=[assign (.Subscript (.Name x p1) b p2) X.env]:=by rfl) :
  SM X He η a (.Assign [.Subscript (.Name x p1) b p2] e pos) (vM i a fm gm):=by
 refine⟨?_⟩;refine bP (Ci he.o (Cp (eA hN hv hd hcd) hk.o u6 ha) hs hw h1) λD σ H z9=>?_;obtain⟨Ha,ρ,st,vs,h,q⟩:=z9;refine⟨Ha,ρ,st,vs,h,?_⟩
 unfold vM at q
 by_cases hp:jy ρ[i]? a=true
 .rw[if_pos hp]at q
  have hσ:=h.s.ex.2 i a (zp hp);cases e1:fm ρ st with
  |stuck|exn x=>rw[e1]at q;exact q
  |ok pr=>
   obtain⟨d,s1⟩:=pr;rw[e1]at q;intro v H1 H01 us1 z1 h1' r1;refine⟨.ref a,hσ,H01,ρ,s1,us1,h1',?_⟩;replace q:c5 X.K He η a Ha ((gm ρ s1).bind (lE ρ d)) D:=q;cases e2:gm ρ s1 with
   |stuck|exn x=>rw[e2]at q;exact q
   |ok pr2=>
    obtain⟨j,s2⟩:=pr2;rw[e2]at q;intro u H2 H02 us2 z2 h2 r2;replace q:c5 X.K He η a Ha (lE ρ d (j,s2)) D:=q;unfold lE at q;cases j with
    |int n=>
     cases en:xK s2.length n with
     |none=>simp only[en]at q;exact q.elim
     |some m=>
      simp only[en]at q;refine⟨a,us2,n,m,rfl,az.mp r2,h2.hl,by rw[←h2.r.length];exact en,?_⟩;refine q σ _ H02 (us2.set m v) (z1.trans z2) (h2.change (H':=upd H2 a (.lst (us2.set m v))) ⟨λb o e=>?_,aB.refl _,λb o e=>?_,λb k1 k2=>absurd k2 k1⟩ h2.n0 aG (h2.r.set (r1.mono z2) m))
      .have c:b≠a:=by intro c;subst c;rw[dw]at e;cases e
       rw[au c];rw[fH c]at e;exact e
      .have c:b≠a:=by intro c;subst c;rw[h2.n0]at e;cases e
       rw[au c];exact h2.s.g.sub _ _ e
    |_=>exact q.elim
 .rw[if_neg hp]at q;exact q.elim
variable {CX:qK}{k n:Nat}{fn:Py}{fd:QI}{ps:bi}{x:PY}{p:Pos}
def GX{m:ac->ai D}(F:gp X.prog X.w X.K X.mg X.base CX k fn fd ps (spD X.K n m))(hr:da k X.A)(hg:Gl X x)(hm:X.mg x=some (.ref fn))
  (hk:Td X.K (.ref fn)=true)(hb:kF X.K fd ps [])(hx:fK CX X E)(ha:Ld X He η a (e::es) fa)(hn:(e::es).length=n:=by rfl)(hl:∀ρ st ds,fa ρ st=.ok ds->ds.1.length=(e::es).length)
  (hdb:(x==("__debug__" : PY))=false:=by decide)(he:PM (e::es) X.env=(false,eval e X.env)::PM es X.env:=by exact ba rfl)(hpl:(QZ pos (PM es X.env)).any (·.1)=false:=by exact bX rfl) :
  DM X He η a (.Call (.Name x p) (e::es) [] pos) (mA fa m):=by
 refine⟨?_⟩;refine aW (lG F hr hg hm hk hb .nil hx ha.o hdb he hpl) λσ H Q z9=>?_;obtain⟨Ha,ρ,st,vs,h,q⟩:=z9;refine⟨Ha,ρ,st,vs,h,?_⟩
 unfold mA at q;cases e1:fa ρ st with
 |stuck|exn x=>rw[e1]at q;exact q
 |ok pr=>
  obtain⟨ds,s1⟩:=pr;rw[e1]at q;intro xs H1 H01 us z1 h1 r1;refine⟨?_,H01,ds,h1.s.g.sub,by simpa using r1,?_⟩
  .have:=r1.length
   have:=hl ρ st _ e1;simp only[QC]at *;omega
  .simp only[ai.bind]at q
   cases e2:m ds with
   |stuck=>rw[e2]at q;exact q|exn x=>rw[e2]at q;exact q.elim
   |ok d=>
    rw[e2]at q;exact λv' H' Ha' g rp=>q v' H' Ha' us (z1.trans g.z) (h1.back g.z (h1.s.grow g)) rp
noncomputable def EU(K:Px) (n:Nat) (m:Py->ac->ac->ai (D×ac)):Sp:=λvs H Q E=>vs.length=n+1/\∃Ha ds a st us0 vs0,vs=.ref a::vs0/\aB Ha H/\Reps K Ha ds vs0/\Ha a=none/\H a=some (.lst us0)/\Reps K Ha st us0/\match m a st ds with
 |.ok (d,st')=>∀v H' Ha' us,aU (AJ a H) Ha H' Ha'->Ha' a=none->H' a=some (.lst us)->Reps K Ha' st' us->Rep K Ha' d v->Q v H'
 |.exn _=>False
 |.stuck=>False
def yd(a:Py)(m:Py->ac->ac->ai (D×ac))(p:ac×ac):ai (D×ac):=m a p.2 p.1
def cC(i:Nat)(a:Py)(fa:Ev->ac->ai (ac×ac))(m:Py->ac->ac->ai (D×ac)):Ev->ac->ai (D×ac):=λρ st=>if jy ρ[i]? a=true then(fa ρ st).bind (yd a m) else .stuck
def DB{i:Nat}{y:PY}{p1:Pos}{m:Py->ac->ac->ai (D×ac)}(F:gp X.prog X.w X.K X.mg X.base CX k fn fd ps (EU X.K n m))(hr:da k X.A)(hg:Gl X x)(hm:X.mg x=some (.ref fn))
  (hk:Td X.K (.ref fn)=true)(hb:kF X.K fd ps [])(hx:fK CX X E)(hN:X.N[i]?=some y)(hv:wJ X.env.scope y)(ha:Ld X He η a es fa)(hl:∀ρ st ds,fa ρ st=.ok ds->ds.1.length=n)
  (hd:(y==("__debug__" : PY))=false:=by decide)(hcd:(y==("__classdict__" : PY))=false:=by decide)(hdb:(x==("__debug__" : PY))=false:=by decide)(he:PM (.Name y p1::es) X.env=(false,eval (.Name y p1) X.env)::PM es X.env:=by exact ba rfl)(hpl:(QZ pos (PM es X.env)).any (·.1)=false:=by exact bX rfl) :
  DM X He η a (.Call (.Name x p) (.Name y p1::es) [] pos) (cC i a fa m):=by
 refine⟨?_⟩;refine aW (lG F hr hg hm hk hb .nil hx (cO (eA hN hv hd hcd) ha.o he) hdb he hpl) λσ H Q ⟨Ha,ρ,st,vs,h,q⟩=>?_;unfold cC at q
 by_cases hp:jy ρ[i]? a=true
 .rw[if_pos hp]at q
  have hσ:=h.s.ex.2 i a (zp hp);refine⟨.ref a,hσ,Ha,ρ,st,vs,h,?_⟩;cases e1:fa ρ st with
  |stuck|exn x=>rw[e1]at q;exact q
  |ok pr=>
   obtain⟨ds,s1⟩:=pr;rw[e1]at q;intro xs H1 H01 us z1 h1 r1;refine⟨?_,H01,ds,a,s1,us,xs,by simp,h1.s.g.sub,r1,h1.n0,h1.hl,h1.r,?_⟩
   .have:=r1.length
    have:=hl ρ st _ e1;simp only[QC,Qj]at *;omega
   .replace q:match m a s1 ds with
     |.ok (d,st')=>∀v H' Ha' us,aB Ha Ha'->fF X.K He η Ha' σ H' ρ a st' us->Rep X.K Ha' d v->Q v H'
     |.exn _=>False
     |.stuck=>False:=q
    cases e2:m a s1 ds with
    |stuck|exn x=>rw[e2]at q;exact q
    |ok pr2=>
     obtain⟨d,s2⟩:=pr2;rw[e2]at q;exact λv H' Ha' us' g n' hl' r' rp=>q v H' Ha' us' (z1.trans g.z) (h1.change g n' hl' r') rp
 .rw[if_neg hp]at q;exact q.elim
end
def BU(r:cw):ai (D×ac):=match r with
 |.nx _ st=>.ok (.non,st)
 |.rt d st=>.ok (d,st)
 |_=>.stuck
def tT(n:Nat)(s:Py->Ev->ac->ai cw)(a:Py)(st ds:ac):ai (D×ac):=(s a (.pt a::ds.map Sl.sh++Qd (n-(ds.length+1)) .no) st).bind BU
def xP{P:Qw}{w:QK}{K:Px}{mg:PY->Option Pw}{base:Qo}{x qual:PY}{st:Q1}{f:Py}{fd:QI}{N ps:bi}{k n:Nat}{s:Py->Ev->ac->ai cw}(F:Eh K x qual st f fd)(S:fS N ps (defScope st))(hn:ps.length=n+1)
  (hbody:∀(cdv:Pw) (A:QV) (outer:List Ru) (s0:PF) (H He Ha:Hp) (a:Py) (E:XK),da k (A.deeper (envOfC qual (defScope st) s0.heap.objs.size f cdv)) ->
   A8 (l3 CX0 P w K mg base N qual (defScope st) f cdv A outer s0 H E).nox He Ha a (defBody st) (s a)):gp P w K mg base CX0 (k+1) f fd ps (EU K n (tT N.length s)):=by
 have hpl:ps.length<=N.length:=by have:=congrArg S0 S.pre;rw[QO]at this;omega
 refine F.ok S (λvs H Q E h=>h.1.trans hn.symm) λcdv A outer s0 H vs Q E hr h=>?_;obtain⟨hlen,Ha,ds,a,sl,us0,vs0,rfl,hs,hv,h0,hl,hst,q⟩:=h;have lv:=hv.length;have hσ:start N (.ref a::vs0)=some (.ref a)::(vs0.map some++Qd (N.length-(vs0.length+1)) none):=by
  unfold L2.start;simp
 have hρ0:∀(i:Nat) (z:Sl),(Sl.pt a::ds.map Sl.sh++Qd (N.length-(ds.length+1)) Sl.no)[i]?=some z->z=.no∨(i=0/\z=.pt a)∨∃j d,i=j+1/\ds[j]?=some d/\z=.sh d:=λi z e=>by
  cases i with
  |zero=>simp at e;exact .inr (.inl ⟨rfl,e.symm⟩)
  |succ j=>
   rw[Se,QU]at e
   by_cases hj:j<ds.length
   .rw[P0 (by simpa using hj),PN,PL hj]at e
    cases e;exact .inr (.inr ⟨j,ds[j],rfl,PL hj,rfl⟩)
   .rw[P6 (by simpa using hj),Qb]at e
    split at e
    .cases e;exact .inl rfl
    .cases e
 refine⟨_,(hbody cdv A outer s0 H (AJ a H) Ha a E hr).o,Ha,.pt a::ds.map Sl.sh++Qd (N.length-(ds.length+1)) .no,sl,us0,⟨dw,h0,hl,hst,?_⟩,?_⟩
 .refine⟨⟨λb o e=>?_,aB.refl _,hs,λb h1 h2=>absurd h2 h1⟩,λi d e=>?_,λi d e=>?_,λi j d d' hij e=>?_,?_,⟨λi j es e=>?_,λi b e=>?_⟩⟩
  .by_cases c:b=a
   .subst c;rw[aG]at e;cases e;exact hl
   .rw[au c,fH c]at e;exact e
  .rcases hρ0 i _ e with h|⟨_,h⟩|⟨j,d',rfl,hd,h⟩
   .cases h
   .cases h
   .cases h
    obtain⟨v,h1,h2⟩:=hv.get hd;refine⟨v,?_,h2⟩;rw[hσ,QU,P0 (by rw[Pz];exact(PH.mp h1).1),PN,h1];rfl
  .rcases hρ0 i _ e with h|⟨_,h⟩|⟨j,d',rfl,hd,h⟩<;>cases h
  .rcases hρ0 i _ e with h|⟨_,h⟩|⟨j,d',rfl,hd,h⟩<;>cases h
  .rw[hσ]
   simp only[Qj,Qs,Pz,Qy];omega
  .rcases hρ0 i _ e with h|⟨_,h⟩|⟨j,d',rfl,hd,h⟩<;>cases h
  .rcases hρ0 i _ e with h|⟨rfl,h⟩|⟨j,d',rfl,hd,h⟩
   .cases h
   .cases h;rw[hσ];rfl
   .cases h
 .unfold tT at q
  cases e1:s a (.pt a::ds.map Sl.sh++Qd (N.length-(ds.length+1)) .no) sl with
  |stuck|exn x=>rw[e1]at q;exact q
  |ok r=>
   rw[e1]at q;cases r with
   |nx ρ' st'=>exact λσ' H' Ha' us z h'=>q .non H' Ha' us ⟨λb o e=>h'.s.g.s _ _ (by rw[au (by intro c;subst c;rw[dw]at e;cases e)];exact e),h'.s.g.z,h'.s.g.sub,λb h1 h2=>by
      have:=h'.s.g.nw b h1 h2
      by_cases c:b=a
      .subst c;exact dw
      .rw[au c]at this;exact this⟩ h'.n0 h'.hl h'.r (aM.mpr rfl)
   |rt d st'=>exact λv H' Ha' z o rp=>let ⟨us,l1,l2⟩:=o.l;q v H' Ha' us o.g o.n l1 l2 rp
   |bk ρ' st'|ct ρ' st'=>exact q.elim
section
variable {K:Px}{He η Ha H:Hp}{σ:L2.St}{ρ:Ev}
def cZ.enter(h:cZ K He η Ha σ H ρ){i:Nat}{p:Py}{ds:ac}{vs:ad}(hi:i<ρ.length)(he:He p=none)(h0:Ha p=none)(hl:H p=some (.lst vs))(r:Reps K Ha ds vs)
  (ho:∀(j:Nat) (d:D) (q:Py),ρ[j]?=some (.ow d)->σ[j]?=some (some (.ref q))->q≠p)(hx:∀(j k:Nat) (es:ac),ρ[j]?≠some (.ox k es)):fF K He η Ha (σ.set i (some (.ref p))) H (ρ.set i (.pt p)) p ds vs:=by
 have key:∀(j:Nat) (s:Sl),(ρ.set i (.pt p))[j]?=some s->(j=i/\s=.pt p)∨(j≠i/\ρ[j]?=some s):=λj s e=>by
  by_cases hj:i=j
  .subst hj;rw[PZ hi]at e;cases e;exact .inl ⟨rfl,rfl⟩
  .rw[PB hj]at e;exact .inr ⟨λz=>hj z.symm,e⟩
 have h0e:η p=none:=h.g.z.free h0;refine⟨he,h0e,hl,r,⟨⟨λb o e=>?_,h.g.z,h.g.sub,λb h1 h2=>?_⟩,λj d e=>?_,λj d e=>?_,λj k d d' hn e1 e2=>?_,by simp[h.ln],⟨λj k es e=>?_,λj b e=>?_⟩⟩⟩
 .by_cases c:b=p
  .subst c;rw[aG]at e;cases e;exact hl
  .rw[au c]at e;exact h.g.s _ _ e
 .have c:b≠p:=by intro c;subst c;exact h1 h0
  rw[au c];exact h.g.nw b h1 h2
 .rcases key j _ e with⟨_,e'⟩|⟨hj,e'⟩
  .cases e'
  .obtain⟨v,h1,h2⟩:=h.rd j d e'
   exact⟨v,by rw[PB (Qx hj)];exact h1,h2⟩
 .rcases key j _ e with⟨_,e'⟩|⟨hj,e'⟩
  .cases e'
  .obtain⟨q,h1,h2,h3,h4⟩:=h.ow j d e'
   exact⟨q,by rw[PB (Qx hj)];exact h1,by rw[au (ho j d q e' h1)];exact h2,h3,h4⟩
 .rcases key j _ e1 with⟨_,e'⟩|⟨hj,e1'⟩
  .cases e'
  rcases key k _ e2 with⟨_,e'⟩|⟨hk,e2'⟩
  .cases e'
  rw[PB (Qx hj),PB (Qx hk)];exact h.ap j k d d' hn e1' e2'
 .rcases key j _ e with⟨_,e'⟩|⟨hj,e'⟩
  .cases e'
  .exact absurd e' (hx j k es)
 .rcases key j _ e with⟨rfl,e'⟩|⟨hj,e'⟩
  .cases e'
   rw[PZ (by rw[←h.ln];exact hi)]
  .rw[PB (Qx hj)];exact h.ex.2 j b e'
def uJ(i:Nat)(ρ:Ev):Ev:=ρ.take i++Qd (ρ.length-i) .no
def DY{i:Nat}{ρ:Ev}:(uJ i ρ).length=ρ.length:=by
 unfold uJ;rw[Qs,QO,Qy];omega
def G8{i:Nat}{ρ:Ev}{j:Nat}{s:Sl}(e:(uJ i ρ)[j]?=some s):s=.no∨ρ[j]?=some s:=by
 unfold uJ at e
 by_cases hj:j<(ρ.take i).length
 .rw[P0 hj]at e
  rw[List.getElem?_take]at e;split at e
  .exact .inr e
  .cases e
 .rw[P6 (by omega),Qb]at e
  split at e
  .cases e;exact .inl rfl
  .cases e
def fF.leave{a:Py}{st:ac}{vs:ad}(h:fF K He η Ha σ H ρ a st vs)(i:Nat):cZ K He η Ha σ H (uJ i ρ):=by
 have hn:∀b,upd He a (.lst vs) b=none->He b=none:=λb e=>by
  by_cases c:b=a
  .subst c;exact h.ha
  .rw[au c]at e;exact e
 have key:∀(j:Nat) (s:Sl),(uJ i ρ)[j]?=some s->s=.no∨ρ[j]?=some s:=λj s e=>G8 e;refine⟨⟨λb o e=>h.s.g.s _ _ (by rw[au (by intro c;subst c;rw[h.ha]at e;cases e)];exact e),h.s.g.z,h.s.g.sub,λb h1 h2=>hn b (h.s.g.nw b h1 h2)⟩,λj d e=>?_,λj d e=>?_,λj k d d' hij e1 e2=>?_,by rw[DY];exact h.s.ln,(h.s.ex.he hn).upd (λj s e=>?_) (aB.refl _) (λ_ _ _ e=>e) λp us _ q0 hq _=>⟨hq,q0⟩⟩
 .rcases key j _ e with h'|h'
  .cases h'
  .exact h.s.rd j d h'
 .rcases key j _ e with h'|h'
  .cases h'
  .obtain⟨q,h1,h2,h3⟩:=h.s.ow j d h'
   exact⟨q,h1,hn q h2,h3⟩
 .rcases key j _ e1 with h'|h'
  .cases h'
  rcases key k _ e2 with h''|h''
  .cases h''
  exact h.s.ap j k d d' hij h' h''
 .rcases key j _ e with h'|h'
  .exact .inr (.inr (.inl h'))
  .exact .inl ⟨h',rfl⟩
end
open Classical in
noncomputable def xF(F:Py->ai Fl):ai Fl:=if h:∃r,∀a,F a=r then h.choose else .stuck
def FD{F:Py->ai Fl}{r:ai Fl}(h:∀a,F a=r):xF F=r:=by
 have hx:∃r,∀a,F a=r:=⟨r,h⟩
 unfold xF;rw[dif_pos hx];exact(hx.choose_spec 0).symm.trans (h 0)
def FC{F:Py->ai Fl}(h:xF F≠.stuck)(a:Py):F a=xF F:=by
 unfold xF at h ⊢
 by_cases hx:∃r,∀a,F a=r
 .rw[dif_pos hx];exact hx.choose_spec a
 .rw[dif_neg hx]at h;exact absurd rfl h
def zB(i:Nat)(r:ai cw):ai Fl:=match r with
 |.ok (.nx ρ _)=>.ok (.nx (uJ i ρ))
 |.ok (.rt d _)=>.ok (.rt d)
 |.ok (.bk ρ _)=>.ok (.bk (uJ i ρ))
 |.ok (.ct ρ _)=>.ok (.ct (uJ i ρ))
 |_=>.stuck
def Mc(ρ:Ev):Bool:=ρ.all λs=>match s with
 |.ox _ _=>false
 |_=>true
noncomputable def uy(i:Nat) (s:Py->Ev->ac->ai cw) (ρ:Ev) (d:D):ai Fl:=match d with
 |.lst ds=>if Mc ρ=true/\i<ρ.length then xF λa=>zB i (s a (ρ.set i (.pt a)) ds) else .stuck
 |_=>.stuck
noncomputable def kJ(i:Nat) (f:al) (s:Py->Ev->ac->ai cw):am:=λρ=>(f ρ).bind (uy i s ρ)
section
variable {X:Cx}{E:XK}{He η:Hp}{st:Q1}{rest:List Q1}{e:Qc}{es:List Qc}{pos:Pos}{f:al}{s:Py->Ev->ac->ai cw}
def AK{i:Nat}{x:PY}{pos':Pos}(hN:X.N.Nodup)(hi:X.N[i]?=some x)(hx:wM X.env.scope x)(he:DF X E e f)(hr:∀a,A8 X He η a rest (s a))(hs:QY e (some (.Name x pos')) pos.line X.env=pure false:=by rfl)
  (hf:X.fn x=true∨X.env.scope.names.lookup x=some .local := by first|exact .inl rfl|exact .inr rfl|assumption):Ba X E He η (.Assign [.Name x pos'] e pos::rest) (kJ i f s):=by
 refine⟨?_⟩;have h2:qL X rest λG σ H=>∃p,Np X.K He η p (s p) G σ H:=λπ sh σ H G I ⟨p,h⟩=>(hr p).o π sh σ H G I h;refine cq (bV (iE hN hi hx he.o hs hf) h2) λG σ H z9=>?_;obtain⟨Ha,ρ,h,q⟩:=z9;refine⟨Ha,ρ,h.g.sub,h.rd,?_⟩
 unfold kJ at q;cases e1:f ρ with
 |stuck=>rw[e1]at q;exact q|exn x=>rw[e1]at q;exact λC ox H' Ha' g ex=>q C ox H' Ha' (h.g.trans g) ex
 |ok d=>
  rw[e1]at q;replace q:b3 X.K E He η Ha (uy i s ρ d) G:=q;unfold uy at q;cases d with
  |lst ds=>
   simp only at q
   by_cases hc:Mc ρ=true/\i<ρ.length
   .rw[if_pos hc]at q
    intro p vs H' Ha' g hp h0 hv rp;have hg:=h.grow g;have hnx:∀(j k:Nat) (es:ac),ρ[j]?≠some (.ox k es):=λj k es e=>by
     have:=P7.mp hc.1 _ (PU e);cases this
    have hm:=hg.enter (i:=i) (p:=p) (ds:=ds) (vs:=vs) hc.2 (h.g.s.free hp) h0 hv rp (λj d q' ej es'=>by
     obtain⟨q2,k1,_,_,k4⟩:=h.ow j d ej;rw[es']at k1;cases k1;cases d with
     |lst ds'|dic ks' ds'=>obtain⟨ws,k5,_⟩:=k4;intro c;subst c;rw[hp]at k5;cases k5
     |ob kk ds'=>
      cases kk with|dint ks'=>obtain⟨ws,k5,_⟩:=k4;intro c;subst c;rw[hp]at k5;cases k5| _=>exact k4.elim
     |_=>exact k4.elim) hnx
    have hns:xF (λa=>zB i (s a (ρ.set i (.pt a)) ds))≠.stuck:=λz=>by rw[z]at q;exact q
    have hF:=FC hns p;rw[←hF]at q;refine⟨p,Ha',_,ds,vs,hm,?_⟩;replace q:=b3.grow q g.z;unfold zB at q;cases e2:s p (ρ.set i (.pt p)) ds with
    |stuck=>rw[e2]at q;exact q|exn x=>rw[e2]at q;exact q.elim
    |ok r=>
     rw[e2]at q;cases r with|nx ρ' st'=>exact λσ' H2 H02 us z h'=>q σ' H2 H02 z (h'.leave i)|rt d st'=>exact λv H2 H02 z o rp=>q v H2 H02 o.g rp|bk ρ' st'=>exact λσ' H2 H02 us z h'=>q σ' H2 H02 z (h'.leave i)|ct ρ' st'=>exact λσ' H2 H02 us z h'=>q σ' H2 H02 z (h'.leave i)
   .rw[if_neg hc]at q;exact q.elim
  |_=>exact q.elim
end
noncomputable def Pa(K:Px) (He η:Hp) (a:Py) (src:Ev->ac->ai (ac×ac)):TI:=λσ H R=>∃Ha ρ st vs,fF K He η Ha σ H ρ a st vs/\match src ρ st with
 |.ok (ds,st')=>∀J H' Ha' us,aB Ha Ha'->fF K He η Ha' σ H' ρ a st' us->Lb K ds J Ha'->R J H'
 |.exn _=>False
 |.stuck=>False
structure MI (X:Cx) (He η:Hp) (a:Py) (tg iter:Qc) (src:Ev->ac->ai (ac×ac)):Prop where
 o:PI X tg iter (Pa X.K He η a src)
def CN(src:Ev->ai (ac)):Ev->ac->ai (ac×ac):=λρ st=>(src ρ).bind λds=>.ok (ds,st)
def ug(p:D×ac):ai (ac×ac):=match p.1 with
 |.int j=>if -4611686018427387904<=j/\j<4611686018427387904 then .ok (intsFrom 0 j.toNat,p.2) else .stuck
 |_=>.stuck
def zg(f:Ev->ac->ai (D×ac)):Ev->ac->ai (ac×ac):=λρ st=>(f ρ st).bind ug
section
variable {X:Cx}{E:XK}{He η:Hp}{a:Py}{st:Q1}{e l b tgt iter:Qc}{rest es:List Qc}{pos:Pos}{f:al}{fm gm:Ev->ac->ai (D×ac)}{fa:Ev->ac->ai (ac×ac)}{s t:Ev->ac->ai cw}
def zf{src:Ev->ai (ac)}(h:DI X E tgt iter src):MI X He η a tgt iter (CN src):=⟨iF h.o λσ H R ⟨Ha,ρ,st,vs,h,q⟩=>⟨Ha,ρ,h.s.g.sub,h.s.rd,by
 unfold CN at q;cases e1:src ρ with
 |stuck=>rw[e1]at q;exact q|exn x=>rw[e1]at q;exact q.elim
 |ok ds=>
  rw[e1]at q;exact λJ H' Ha' g it=>q J H' Ha' vs g.z (h.back g.z (h.s.grow g)) it⟩⟩
def Aw{p pos2:Pos}(hgl:Gl X "range")(hm:X.mg "range"=none)(hi:DM X He η a iter fm)(hst:PM [iter] X.env=[(false,eval iter X.env)]:=by exact dU rfl):MI X He η a tgt (.Call (.Name "range" p) [iter] [] pos2) (zg fm):=by
 refine⟨iF (jT hgl hm (cO hi.o eC hst) hst) λσ H R z9=>?_⟩;obtain⟨Ha,ρ,st,vs,h,q⟩:=z9;refine⟨Ha,ρ,st,vs,h,?_⟩;unfold zg at q;cases e1:fm ρ st with
 |stuck|exn x=>rw[e1]at q;exact q
 |ok pr=>
  obtain⟨d,s1⟩:=pr;rw[e1]at q;intro v H1 H01 us z h1 r1;cases d with
  |int j=>
   rw[az.mp r1];replace q:match (if -4611686018427387904<=j/\j<4611686018427387904 then ai.ok (intsFrom 0 j.toNat,s1) else .stuck) with
    |.ok (ds,st')=>∀J H' Ha' us,aB Ha Ha'->fF X.K He η Ha' σ H' ρ a st' us->Lb X.K ds J Ha'->R J H'
    |.exn _=>False
    |.stuck=>False:=q
   by_cases hj:-4611686018427387904<=j/\j<4611686018427387904
   .rw[if_pos hj]at q
    exact⟨j,rfl,hj.1,hj.2,q _ H1 H01 us z h1 sv⟩
   .rw[if_neg hj]at q;exact q.elim
  |_=>exact q.elim
def mh.step2{K:Px}{Hb Ha:Hp}{ρ:Ev}{st:ac}{vs:ad}{tg:Ev->D->ai Ev}{ds:ac}{D':eV}{i:Nat}{σ:L2.St}{H:Hp}{d:D}{v:V}(z:aB Hb Ha)(h:fF K He η Ha σ H ρ a st vs)(q:c5 K He η a Ha (forM tg s (ds.drop i) ρ st) D')(hd:ds[i]?=some d)(rv:Rep K Ha d v)
  (he:∀ρ,tg ρ d=.stuck∨∃ρ',tg ρ d=.ok ρ') :
  NO K He η a tg v σ H λσ2 H2=>Np K He η a s { D' with nx:=mh K He η a Hb tg s ds D' (i+1),ct:=mh K He η a Hb tg s ds D' (i+1),bk:=D'.nx } σ2 H2:=by
 have hi:i<ds.length:=(PH.mp hd).1;have hdr:ds.drop i=d::ds.drop (i+1):=by
  rw[QG hi];rw[PL hi]at hd;cases hd;rfl
 rw[hdr]at q;refine⟨Ha,ρ,st,vs,d,h,rv,?_⟩;unfold forM at q;rcases he ρ with e1|⟨ρ1,e1⟩
 .rw[e1]at q;exact q.elim
 .rw[e1]at q ⊢
  intro σ' H' Ha' z' h';refine⟨Ha',ρ1,st,vs,h',?_⟩;replace q:=c5.grow (r:=(s ρ1 st).bind λx=>match x with
   |.nx ρ2 s2=>forM tg s (ds.drop (i+1)) ρ2 s2
   |.ct ρ2 s2=>forM tg s (ds.drop (i+1)) ρ2 s2
   |.bk ρ2 s2=>.ok (.nx ρ2 s2)
   |.rt d s=>.ok (.rt d s)) q z'
  cases e2:s ρ1 st with
  |stuck|exn x=>rw[e2]at q;exact q
  |ok r=>
   rw[e2]at q;cases r with|nx ρ2 s2=>exact λσ3 H3 H03 vs3 z3 h3=>⟨H03,ρ2,s2,vs3,(z.trans z').trans z3,h3,c5.grow (r:=forM tg s (ds.drop (i+1)) ρ2 s2) q z3⟩|ct ρ2 s2=>exact λσ3 H3 H03 vs3 z3 h3=>⟨H03,ρ2,s2,vs3,(z.trans z').trans z3,h3,c5.grow (r:=forM tg s (ds.drop (i+1)) ρ2 s2) q z3⟩|bk ρ2 s2|rt d s2=>exact q
def vN(src:Ev->ac->ai (ac×ac))(tg:Ev->D->ai Ev)(s:Ev->ac->ai cw):Ev->ac->ai cw:=λρ st=>(src ρ st).bind λp=>forM tg s p.1 ρ p.2
def yB{body:List Q1}{tg:Ev->D->ai Ev}{src:Ev->ac->ai (ac×ac)}(hp:PassesOwn (Ql X.prog X.w) X.A X.env X.xe)(hc:X.calm=true)(hi:MI X He η a tgt iter src)(hg:∀vs,DG X E (upd He a (.lst vs)) η tgt tg)(ht:tq tg)(hb:A8 X He η a body s)
  (hs:∀x,foldedSetIterable iter X.env x=pure x:=by intro _;rfl):SM X He η a (.For tgt iter body [] pos) (vN src tg s):=by
 refine⟨bP (mz hp hc hi.o (LX hg) hb.o hs) λD' σ H z9=>?_⟩;obtain⟨Ha,ρ,st,vs,h,q⟩:=z9;refine⟨Ha,ρ,st,vs,h,?_⟩;unfold vN at q;cases e1:src ρ st with
 |stuck|exn x=>rw[e1]at q;exact q
 |ok pr=>
  obtain⟨ds,s1⟩:=pr;rw[e1]at q;intro J H1 H01 us z h1 it;have q1:c5 X.K He η a H01 (forM tg s ds ρ s1) D':=c5.grow (r:=forM tg s ds ρ s1) q z;refine⟨λi m σ' H'=>m+i=ds.length/\mh X.K He η a H01 tg s ds D' i σ' H',⟨ds.length,rfl,H01,ρ,s1,us,aB.refl _,h1,q1⟩,?_⟩;rintro i m σ' H' ⟨hm,Ha',ρ',st',vs',z',h',hq⟩
  by_cases hlt:i<ds.length
  .refine .inr ⟨it.go i H' Ha' z' h'.s.g.sub hlt,λσ2 H2=>mh X.K He η a H01 tg s ds D' (i+1) σ2 H2,λσ2 H2 hl=>⟨m-1,by omega,by omega,hl⟩,λx H2 hy=>?_⟩
   obtain⟨H₀2,g2,rp⟩:=it.yld i H' Ha' x H2 ds[i] z' h'.s.g.sub (PL hlt) hy;exact mh.step2 (z'.trans g2.z) (h'.back g2.z (h'.s.grow g2)) (c5.grow (r:=forM tg s (ds.drop i) ρ' st') hq g2.z) (PL hlt) rp λρ=>ht ρ _
  .have e:i=ds.length:=by omega
   refine .inl ⟨it.stop i H' Ha' z' h'.s.g.sub (by omega),?_⟩;subst e;exact mh.done ⟨Ha',ρ',st',vs',z',h',hq⟩
end
def IC(s:Option Sl):Sl:=match s with
 |some (.sh d)=>.sh d
 |some (.pt b)=>.pt b
 |_=>.no
def eZ(n:Nat)(fr:bm)(ρ:Ev):Ev:=Qd n .no++fr.map λ(i:Nat)=>IC ρ[i]?
def ij(b:Ev)(tg:Ev->D->ai Ev)(fm:Ev->ac->ai (D×ac)):ac->ac->ai (ac×ac)
 |[],st=>.ok ([],st)
 |d::r,st=>(tg b d).bind λρ1=>(fm ρ1 st).bind λp=>(ij b tg fm r p.2).bind λq=>.ok (p.1::q.1,q.2)
def qc(b:Ev)(tg:Ev->D->ai Ev)(fm:Ev->ac->ai (D×ac))(p:ac×ac):ai (D×ac):=if p.1.length<=line then(ij b tg fm p.1 p.2).bind λq=>.ok (.lst q.1,q.2) else .stuck
def nD(n:Nat)(fr:bm)(src:Ev->ac->ai (ac×ac))(tg:Ev->D->ai Ev)(fm:Ev->ac->ai (D×ac)):Ev->ac->ai (D×ac):=λρ st=>(src ρ st).bind (qc (eZ n fr ρ) tg fm)
def A2{n:Nat}{fr:bm}{ρ:Ev}:(eZ n fr ρ).length=n+fr.length:=by unfold eZ;simp
def qp{n:Nat}{fr:bm}{ρ:Ev}{k:Nat}(h:k<n):(eZ n fr ρ)[k]?=some .no:=by
 unfold eZ;rw[P0 (by simpa using h),Qb,if_pos h]
def qr{n:Nat}{fr:bm}{ρ:Ev}{k:Nat}{s:Sl}(h:¬k<n)(e:(eZ n fr ρ)[k]?=some s):∃j,fr[k-n]?=some j/\s=IC ρ[j]?:=by
 unfold eZ at e;rw[P6 (by simpa using h),Qy,PN]at e;cases hf:fr[k-n]? with|none=>rw[hf]at e;cases e|some j=>rw[hf]at e;cases e;exact⟨j,rfl,rfl⟩
def IA{s:Option Sl}{d:D}(h:Sl.sh d=IC s):s=some (.sh d):=by
 unfold IC at h;split at h<;>cases h
 rfl
def IB{s:Option Sl}{b:Py}(h:Sl.pt b=IC s):s=some (.pt b):=by
 unfold IC at h;split at h<;>cases h
 rfl
def D2{n:Nat}{fr:bm}{σ:L2.St}{k j:Nat}{v:V}(h:¬k<n)(hf:fr[k-n]?=some j)(hs:σ[j]?=some (some v)):(iZ n fr σ)[k]?=some (some v):=by
 unfold iZ;rw[P6 (by simpa using h),Qy,PN,hf];simp[hs]
def tw{K:Px}{He η Ha H:Hp}{σ:L2.St}{ρ:Ev}{a:Py}{st:ac}{vs:ad}(ha:He a=none)(h0:η a=none)(hl:H a=some (.lst vs))(r:Reps K Ha st vs)(g:aU (upd He a (.lst vs)) η H Ha)(rd:Reads K Ha σ ρ)
  (no:∀(j:Nat) (s:Sl),ρ[j]?=some s->s=.no∨(∃d,s=.sh d)∨∃b,s=.pt b/\σ[j]?=some (some (.ref b)))(ln:ρ.length=σ.length):fF K He η Ha σ H ρ a st vs:=by
 refine⟨ha,h0,hl,r,⟨g,rd,λi d e=>?_,λi j d d' _ e=>?_,ln,OX.none (λi j ds e=>?_) λi b e=>?_⟩⟩
 .rcases no i _ e with h|⟨_,h⟩|⟨_,h,_⟩<;>cases h
 .rcases no i _ e with h|⟨_,h⟩|⟨_,h,_⟩<;>cases h
 .rcases no i _ e with h|⟨_,h⟩|⟨_,h,_⟩<;>cases h
 .rcases no i _ e with h|⟨_,h⟩|⟨_,h,h'⟩
  .cases h
  .cases h
  .cases h;exact h'
def C4(K:Px)(a:Py)(tg:Ev->D->ai Ev):TG:=λv σ H Q=>∃He η,NO K He η a tg v σ H Q
def BC(K:Px)(a:Py)(fm:Ev->ac->ai (D×ac)):TE:=λσ H Q=>∃He η,tM K He η a fm σ H Q
def ya{b:Ev}{tg:Ev->D->ai Ev}{fm:Ev->ac->ai (D×ac)}{d:D}{r st es stF:ac}(h:ij b tg fm (d::r) st=.ok (es,stF)):∃ρ1 y s1 rest,tg b d=.ok ρ1/\fm ρ1 st=.ok (y,s1)/\ij b tg fm r s1=.ok (rest,stF)/\es=y::rest:=by
 unfold ij at h;cases e1:tg b d with
 |stuck|exn x=>rw[e1]at h;cases h
 |ok ρ1=>
  rw[e1]at h;simp only[ai.bind]at h;cases e2:fm ρ1 st with
  |stuck|exn x=>rw[e2]at h;cases h
  |ok p=>
   obtain⟨y,s1⟩:=p;rw[e2]at h;simp only at h;cases e3:ij b tg fm r s1 with
   |stuck|exn x=>rw[e3]at h;cases h
   |ok q=>
    obtain⟨rest,sF⟩:=q;rw[e3]at h;cases h;exact⟨ρ1,y,s1,rest,rfl,e2,e3,rfl⟩
def wz{K:Px}{n:Nat}{fr:bm}{tg:Ev->D->ai Ev}{fm:Ev->ac->ai (D×ac)}{a:Py}{σ:L2.St}{ρ:Ev}{He η H1 H01:Hp}{st0 ds es stF:ac}{us0:ad}{J:It}{Q:VK}(h1:fF K He η H01 σ H1 ρ a st0 us0)(it:Lb K ds J H01)(hl:ds.length<=line)
  (e2:ij (eZ n fr ρ) tg fm ds st0=.ok (es,stF))(hok:wK n tg)
  (q:∀p xs H' Ha' us',aU (AJ a H1) H01 H' Ha'->Ha' a=none->H' a=some (.lst us')->Reps K Ha' stF us'->H1 p=none->Ha' p=none->H' p=some (.lst xs)->Reps K Ha' es xs->Q (.ref p) H') :
  oQ n fr (C4 K a tg) BB (BC K a fm) J σ H1 Q:=by
 intro Da hDa;have h0D:H01 Da=none:=h1.s.g.sub.free hDa;have aD:a≠Da:=λz=>by have:=h1.hl;rw[z,hDa]at this;cases this
 have nob:∀{σ':L2.St}(_:∀(k:Nat),¬k<n->∀b,(eZ n fr ρ)[k]?=some (.pt b)->σ'[k]?=some (some (.ref b))) (j:Nat) (s:Sl),(eZ n fr ρ)[j]?=some s->s=.no∨(∃d,s=.sh d)∨∃b,s=.pt b/\σ'[j]?=some (some (.ref b)):=λ{σ'} hp j s e=>by
  by_cases hj:j<n
  .rw[qp hj]at e;cases e;exact .inl rfl
  .obtain⟨i,_,hs⟩:=qr hj e
   cases s with
   |no=>exact .inl rfl|sh d=>exact .inr (.inl ⟨d,rfl⟩)|pt b=>exact .inr (.inr ⟨b,rfl,hp j hj b e⟩)
   |_=>unfold IC at hs;split at hs<;>cases hs
 refine⟨λi m ys σ' H'=>m=ds.length-i/\i<=ds.length/\∃Ha' st' us' es1 rest,fF K (upd (AJ a H1) Da (.lst ys)) H01 Ha' σ' H' (eZ n fr ρ) a st' us'/\Reps K Ha' es1 ys/\es1.length=i/\ij (eZ n fr ρ) tg fm (ds.drop i) st'=.ok (rest,stF)/\es=es1++rest,
  ⟨ds.length,by simp,R8 _,H01,st0,us0,[],es,?_,Reps.nil,rfl,by rw[R9];exact e2,rfl⟩,?_⟩
 .refine tw (by rw[au aD];exact dw) h1.n0 (by rw[au aD];exact h1.hl) h1.r ⟨λb o e=>?_,aB.refl _,λb o e=>?_,λb k1 k2=>absurd k2 k1⟩ (λk d e=>?_) (nob λk hk b e=>?_) (by unfold iZ;rw[A2];simp)
  .by_cases c:b=a
   .subst c;rw[aG]at e;cases e;rw[au aD];exact h1.hl
   .rw[au c]at e
    by_cases c2:b=Da
    .subst c2;rw[aG]at e ⊢;exact e
    .rw[au c2]at e ⊢;rw[fH c]at e;exact e
  .rw[au (by intro z;subst z;rw[h0D]at e;cases e)];exact h1.s.g.sub _ _ e
  .by_cases hk:k<n
   .rw[qp hk]at e;cases e
   .obtain⟨j,hf,hs⟩:=qr hk e
    obtain⟨v,k1,k2⟩:=h1.s.rd j d (IA hs);exact⟨v,D2 hk hf k1,k2⟩
  .obtain⟨j,hf,hs⟩:=qr hk e
   exact D2 hk hf (h1.s.ex.2 j b (IB hs))
 .rintro i m ys σ' H' ⟨rfl,hile,Ha',st',us',es1,rest,h',hys,hle,hco,hes⟩
  have hDl:H' Da=some (.lst ys):=h'.s.g.s _ _ (by rw[au (Qx aD),aG]);refine⟨hDl,?_⟩
  by_cases hlt:i<ds.length
  .refine .inr ⟨it.go i H' Ha' h'.s.g.z h'.s.g.sub hlt,?_,?_⟩
   .rw[←hys.length,hle]
    have h2:line<sizeLine:=by decide
    omega
   .intro x H2 hy
    obtain⟨H₀2,g2,rp⟩:=it.yld i H' Ha' x H2 ds[i] h'.s.g.z h'.s.g.sub (PL hlt) hy;have hm2:=h'.back g2.z (h'.s.grow g2);rw[QG hlt]at hco;obtain⟨ρ1,y,s1,rest',t1,t2,t3,t4⟩:=ya hco;refine⟨_,_,H₀2,eZ n fr ρ,st',us',ds[i],hm2,rp,?_⟩;rw[t1];intro σ3 H3 H03 z3 h3;unfold BB;dsimp only;rw[if_pos rfl];refine⟨_,_,H03,ρ1,st',us',h3,?_⟩;rw[t2];intro yv H5 H05 us5 z5 h5 ry;have hD5:H5 Da=some (.lst ys):=h5.s.g.s _ _ (by rw[au (Qx aD),aG]);have n5:H05 Da=none:=by
     cases qq:H05 Da with|none=>rfl|some o=>have:=h5.s.g.nw Da (by rw[qq];simp) h0D;rw[au (Qx aD),aG]at this;cases this
    have hrl:=hok _ _ _ t1;refine⟨hD5,ds.length-(i+1),by omega,rfl,hlt,H05,s1,us5,es1++[y],rest',?_,(hys.mono ((g2.z.trans z3).trans z5)).app (Reps.cons ry Reps.nil),by simp[hle],t3,by rw[hes,t4];simp⟩;refine tw (by rw[au aD];exact dw) h1.n0 (by rw[au aD];exact h5.hl) h5.r ⟨λb o e=>?_,h5.s.g.z,λb o e=>?_,λb k1 k2=>?_⟩ (λk d e=>?_) (nob λk hk b e=>?_) (by rw[←h5.s.ln,hrl.1])
    .by_cases c:b=a
     .subst c;rw[aG]at e;cases e;rw[au aD];exact h5.hl
     .rw[au c]at e
      by_cases c2:b=Da
      .subst c2;rw[aG]at e ⊢;exact e
      .rw[au c2]at e ⊢
       exact h5.s.g.s _ _ (by rw[au c,au c2];exact e)
    .rw[au (by intro z;subst z;rw[n5]at e;cases e)];exact h5.s.g.sub _ _ e
    .have:=h5.s.g.nw b k1 k2
     by_cases c:b=a
     .subst c;rw[aG]at this;cases this
     .rw[au c]at this ⊢
      by_cases c2:b=Da
      .subst c2;rw[aG]at this;cases this
      .rw[au c2]at this ⊢;exact this
    .by_cases hk:k<n
     .rw[qp hk]at e;cases e
     .rw[←hrl.2 k (by omega)]at e
      exact h5.s.rd k d e
    .rw[←hrl.2 k (by omega)]at e
     exact h5.s.ex.2 k b e
  .have hi2:i=ds.length:=by omega
   refine .inl ⟨it.stop i H' Ha' h'.s.g.z h'.s.g.sub (by omega),?_⟩;rw[hi2,Sd]at hco;cases hco;rw[QC]at hes;subst hes;refine q Da ys H' Ha' us' ⟨λb o e=>?_,h'.s.g.z,h'.s.g.sub,λb k1 k2=>?_⟩ h'.n0 h'.hl h'.r hDa ?_ hDl hys
   .have c:b≠a:=by intro c;subst c;rw[dw]at e;cases e
    have c2:b≠Da:=by intro c2;subst c2;rw[fH c,hDa]at e;cases e
    exact h'.s.g.s _ _ (by rw[au c,au c2];exact e)
   .have:=h'.s.g.nw b k1 k2
    by_cases c:b=a
    .subst c;exact dw
    .rw[au c]at this
     by_cases c2:b=Da
     .subst c2;rw[aG]at this;cases this
     .rw[au c2]at this;exact this
   .cases qq:Ha' Da with
    |none=>rfl
    |some o=>have:=h'.s.g.nw Da (by rw[qq];simp) h0D;rw[au (Qx aD),aG]at this;cases this
noncomputable def NM(K:Px) (He η:Hp) (a:Py) (f:Ev->ac->ai (D×ac)):TE:=λσ H Q=>∃Ha ρ st vs,fF K He η Ha σ H ρ a st vs/\match f ρ st with
 |.ok (.lst ds,st')=>∀p xs H1 H01 st1 us1 H' Ha' us,aB Ha H01->fF K He η H01 σ H1 ρ a st1 us1->aU (AJ a H1) H01 H' Ha'->Ha' a=none->H' a=some (.lst us)->Reps K Ha' st' us->H1 p=none->Ha' p=none->H' p=some (.lst xs)->Reps K Ha' ds xs->Q (.ref p) H'
 |.ok _=>False
 |.exn _=>False
 |.stuck=>False
structure Ot (X:Cx) (He η:Hp) (a:Py) (e:Qc) (f:Ev->ac->ai (D×ac)):Prop where
 ev:PE X e (NM X.K He η a f)
 st:∀{i:Nat}{x:PY}{pos' spos:Pos},X.N.Nodup->X.N[i]?=some x->X.env.scope.names.lookup x=some .local -> QY e (some (.Name x pos')) spos.line X.env=pure true->PS X (.Assign [.Name x pos'] e spos) (Ac (NM X.K He η a f) (pO i))
def Pg{X:Cx}{E:XK}{He η:Hp}{a:Py}{tgt iter elt:Qc}{scope:SH}{pos:Pos}(N:bi)(n:Nat)(fr:bm){src:Ev->ac->ai (ac×ac)}{tg:Ev->D->ai Ev}{fm:Ev->ac->ai (D×ac)}(hc:X.calm=true)(hi:MI X He η a tgt iter src)(hok:wK n tg)
  (blk:∀s H C fp pn,(∀He η,DG (cS X N scope s H C fp pn) E He η tgt tg)/\∀He η,DM (cS X N scope s H C fp pn) He η a elt fm)
  (hfr:yn X N n fr scope)(hcell:∀x∈scope.names,x.2≠.cell)(hfree:∀x∈scope.names,x.2=.free->X.env.scope.names.lookup x.1=some .cell)(hkind:scope.kind=.function)(hnames:∀x∈scope.names,x.2=.local -> scope.names.lookup x.1=some .local)
  (hs:∀x,foldedSetIterable iter X.env x=pure x:=by intro _;rfl):Ot X He η a (.ListComp elt [⟨tgt,iter,[],0⟩] scope pos) (nD n fr src tg fm):=by
 have blk':∀s H C fp pn,PG (cS X N scope s H C fp pn) tgt (C4 X.K a tg)/\Lj (cS X N scope s H C fp pn) [] BB/\PE (cS X N scope s H C fp pn) elt (BC X.K a fm):=λs H C fp pn=>
  ⟨λπ s' σ' H' v u Q' I r ⟨He,η,q'⟩=>(LX (X:=cS X N scope s H C fp pn) λvs=>(blk s H C fp pn).1 _ _) π s' σ' H' v u Q' I r q',yR,λπ s' σ' H' Q' I ⟨He,η,q'⟩=>((blk s H C fp pn).2 He η).o π s' σ' H' Q' I q'⟩
 have first:∀{π:List (Py×Obj)}{s:PF}{σ:L2.St}{H:Hp}{Q:VK}{RR:Pw->Py->T8->PF->Prop},L2.Inv X π σ H s->NM X.K He η a (nD n fr src tg fm) σ H Q ->
   (∀(Da C:Py) (s6:PF) (H5:Hp) (m:PY->Option Pw),L2.Inv X π σ H5 s6->s6.heap.Ns C m->mj X π H5 C->Q (.ref Da) H5->RR (.ref Da) C (.ok .next) s6) ->
   Qq (Ql X.prog X.w) X.A (eval iter X.env) (λx sg=>Qq (Ql X.prog X.w) X.A (pyIter x) (λit si=>Qq (Ql X.prog X.w) X.A (newList []) (λacc sk=>
    Qq (Ql X.prog X.w) X.A (newFunctionEnv scope X.env.globals (gh X.env.cells scope.names []) [] X.env.qual none .none (some X.env)) (λcenv sn=>
     Ss (Ql X.prog X.w) X.A (.compStart (.ListComp elt [⟨tgt,iter,[],0⟩] scope pos) 0 it acc { cenv with scope:=relabel scope X.env }) (RR acc cenv.locals) sn) X.xe sk) X.xe si) X.xe sg) X.xe s:=by
  intro π s σ H Q RR I ⟨Ha,ρ,st,vs,h,q⟩ fin;refine cT (hi.o π s σ H (λJ H1=>oQ n fr (C4 X.K a tg) BB (BC X.K a fm) J σ H1 Q) I ⟨Ha,ρ,st,vs,h,?_⟩) λv s1 h1=>cT h1 λitv s2 h2=>sR (N:=N) hc hfr hcell hfree hkind blk' h2 fin;unfold nD at q;cases e1:src ρ st with
  |stuck|exn x=>rw[e1]at q;exact q
  |ok pr=>
   obtain⟨ds,st1⟩:=pr;rw[e1]at q;intro J H1 H01 us z h1 it;replace q:match (if ds.length<=line then(ij (eZ n fr ρ) tg fm ds st1).bind λq=>ai.ok (D.lst q.1,q.2) else .stuck) with
    |.ok (.lst ds,st')=>∀p xs H1 H01 st1 us1 H' Ha' us,aB Ha H01->fF X.K He η H01 σ H1 ρ a st1 us1->aU (AJ a H1) H01 H' Ha'->Ha' a=none->H' a=some (.lst us)->Reps X.K Ha' st' us->H1 p=none->Ha' p=none->H' p=some (.lst xs)->Reps X.K Ha' ds xs->Q (.ref p) H'
    |.ok _=>False
    |.exn _=>False
    |.stuck=>False:=q
   by_cases hl:ds.length<=line
   .rw[if_pos hl]at q
    cases e2:ij (eZ n fr ρ) tg fm ds st1 with
    |stuck|exn x=>rw[e2]at q;exact q.elim
    |ok pr2=>
     obtain⟨es,stF⟩:=pr2;rw[e2]at q;exact wz h1 it hl e2 hok λp xs H' Ha' us' g n' hl' r' hp h0 hv rp=>q p xs H1 H01 st1 us H' Ha' us' z h1 g n' hl' r' hp h0 hv rp
   .rw[if_neg hl]at q;exact q.elim
 have hcl:∀{π:List (Py×Obj)}{s:PF}{σ:L2.St}{H:Hp},L2.Inv X π σ H s->closureFor scope X.env=pure (gh X.env.cells scope.names []):=λ{π s σ H} I=>kC λy hy hf=>I.ok.has y.1 (.inl (hfree y hy hf));refine⟨λπ s σ H Q I h=>?_,λ{i x pos' spos} hN hi' hx hsw π s σ H D' I h=>?_⟩
 .rw[eval_ListComp]
  refine wpAny_comprehension_free (use:=none) rfl hs (hcl I) hkind hnames (first (RR:=λacc C=>compPost (Ql X.prog X.w) X.A X.xe none (EP X π σ Q) acc C) I h λDa C s6 H5 m I6 ns fC q=>?_);refine⟨m,ns,λh' sb=>⟨.ref Da,H5,?_,rfl,q⟩⟩;exact I6.turned (t':=s6.toks) (it:=C) (λb o hb e=>(sb.2 b hb).trans e) fC.1 fC.2.1 fC.2.2.2.1 fC.2.2.2.2.1 fC.2.2.2.2.2
 .rw[exec_Assign_Name_used _ _ _ _ hsw]
  refine PX (wpAny_standAt (PX ?_));show Qq _ X.A (do let _ ←comprehension (.ListComp elt [⟨tgt,iter,[],0⟩] scope pos) scope X.env _ (newList []) false (eval iter X.env) (some (assign (.Name x pos') X.env))) _ _ s;refine PX (Ro (wpAny_comprehension_free (use:=some (assign (.Name x pos') X.env)) (Q:=λ_ s'=>SP X π D' .next s') rfl hs (hcl I) hkind hnames
   (first (RR:=λacc C=>compPost (Ql X.prog X.w) X.A X.xe (some (assign (.Name x pos') X.env)) (λ_ s'=>SP X π D' .next s') acc C) I h λDa C s6 H5 m I6 ns fC q=>?_)) (λ_ s' hq=>Qr (Qr hq)) λ_ _ e=>e)
  show Qq _ X.A (assign (.Name x pos') X.env (.ref Da)) _ _ _;refine wpAny_assign_Name (mr (v:=.ref Da) I6 hN hi' (.inl hx) rfl (λs' I' z9=>?_) (.inr hx));obtain⟨a,sb,ha⟩:=z9;have hCa:C≠a:=by
   rcases ha with rfl|ha
   .exact fC.2.1
   .exact λz=>fC.2.2.2.2.1 x a ha z.symm
  refine⟨m,ns.sameBut sb hCa,λh' sb'=>⟨_,H5,?_,q⟩⟩;exact I'.turned (t':=s'.toks) (it:=C) (λb o hb e=>(sb'.2 b hb).trans e) fC.1 fC.2.1 fC.2.2.2.1 fC.2.2.2.2.1 fC.2.2.2.2.2
def xZ{n:Nat}{fr:bm}{src:Ev->ac->ai (ac×ac)}{tg:Ev->D->ai Ev}{fm:Ev->ac->ai (D×ac)}:∀ρ st d s',nD n fr src tg fm ρ st=.ok (d,s')->∃ds,d=.lst ds:=λρ st d s' h=>by
 unfold nD at h;cases e1:src ρ st with
 |stuck|exn x=>rw[e1]at h;cases h
 |ok pr=>
  rw[e1]at h;simp only[ai.bind,qc]at h
  by_cases hl:pr.1.length<=line
  .rw[if_pos hl]at h
   cases e2:ij (eZ n fr ρ) tg fm pr.1 pr.2 with|stuck|exn x=>rw[e2]at h;cases h|ok q=>rw[e2]at h;cases h;exact⟨_,rfl⟩
  .rw[if_neg hl]at h;cases h
def fF.addL{K:Px}{He η H1 H01 H' Ha':Hp}{σ:L2.St}{ρ:Ev}{a p:Py}{st1 st' ds:ac}{us1 us xs:ad}(h1:fF K He η H01 σ H1 ρ a st1 us1)(g:aU (AJ a H1) H01 H' Ha')(n:Ha' a=none)(hl:H' a=some (.lst us))(r:Reps K Ha' st' us)(hp:H1 p=none)(h0:Ha' p=none)(hv:H' p=some (.lst xs))(rp:Reps K Ha' ds xs) :
  aB H01 (upd Ha' p (.lst xs))/\fF K He η (upd Ha' p (.lst xs)) σ H' ρ a st' us/\Rep K (upd Ha' p (.lst xs)) (.lst ds) (.ref p):=by
 have pa:a≠p:=λz=>by have:=h1.hl;rw[z,hp]at this;cases this
 have z:aB Ha' (upd Ha' p (.lst xs)):=λb o e=>by rw[au (by intro z;subst z;rw[h0]at e;cases e)];exact e
 have g':aU (AJ a H1) H01 H' (upd Ha' p (.lst xs)):=⟨g.s,g.z.trans z,λb o e=>by
  by_cases c:b=p
  .subst c;rw[aG]at e;cases e;exact hv
  .rw[au c]at e;exact g.sub _ _ e,λb k1 k2=>by
  by_cases c:b=p
  .subst c;rw[fH (Qx pa)];exact hp
  .rw[au c]at k1;exact g.nw b k1 k2⟩
 exact⟨g'.z,h1.change g' (by rw[au pa];exact n) hl (r.mono z),aF.mpr ⟨p,xs,rfl,dR.of aG,rp.mono z⟩⟩
section
variable {X:Cx}{E:XK}{He η:Hp}{a:Py}{e:Qc}{pos:Pos}{fm:Ev->ac->ai (D×ac)}
def EW{i:Nat}{x:PY}{pos':Pos}(hN:X.N.Nodup)(hi:X.N[i]?=some x)(hx:X.env.scope.names.lookup x=some .local)(h:Ot X He η a e fm)(ho:∀ρ st d s',fm ρ st=.ok (d,s')->∃ds,d=.lst ds)(hs:QY e (some (.Name x pos')) pos.line X.env=pure true:=by rfl):SM X He η a (.Assign [.Name x pos'] e pos) (e9 i fm):=by
 refine⟨bP (h.st hN hi hx hs) λD' σ H z9=>?_⟩;obtain⟨Ha,ρ,st,vs,h,q⟩:=z9;refine⟨Ha,ρ,st,vs,h,?_⟩;unfold e9 at q;cases e1:fm ρ st with
 |stuck|exn x=>rw[e1]at q;exact q
 |ok pr=>
  obtain⟨d,s1⟩:=pr;obtain⟨ds,rfl⟩:=ho _ _ _ _ e1;rw[e1]at q;intro p xs H1 H01 st1 us1 H' Ha' us z h1 g n hl r hp h0 hv rp;obtain⟨k1,k2,k3⟩:=h1.addL g n hl r hp h0 hv rp;exact q _ H' _ us (z.trans k1) (k2.back (aB.refl _) (k2.s.put k3))
end
mutual
def fG:D->Option QQ
 |.non=>some .none
 |.bl b=>some (.bool b)
 |.int i=>some (.int i)
 |.str x=>some (.str x)
 |.tup ds=>(toPys ds).map PyData.tuple
 |.lst ds=>(toPys ds).map PyData.list
 |.dic ks ds=>(toPys ds).map λps=>.dict ((ks.map PyData.str).zip ps)
 |.exc _=>none
 |.ob k ds=>match k with
  |.dint ks=>(toPys ds).map λps=>.dict ((ks.map PyData.int).zip ps)
  |_=>none
def toPys:ac->Option (List QQ)
 |[]=>some []
 |d::ds=>match fG d,toPys ds with
  |some x,some xs=>some (x::xs)
  |_,_=>none
end
section
variable {X:Cx}{E:XK}{π:List (Py×Obj)}{σ:L2.St}{H:Hp}{s:PF}
def FE(I:L2.Inv X π σ H s){a:Py}{vs:ad}(h:dR X.K H a vs):a≠Q4:=by
 intro z;subst z;obtain⟨mm,o,es,ep,e,hd,_⟩:=I.ok.mod.sm;have:=(I.bs _ _ e).2;rcases h with h|⟨o',_,_,h1,h2,_,h3,_⟩
 .rcases h with h|⟨_,h⟩<;>(rw[this]at h;cases h)
 .have e':=I.ok.mod.kin _ _ h1
  rw[e]at e';cases e';rw[hd]at h3;cases h3
theorem mq:∀{ds:ac}{ps:List QQ},toPys ds=some ps->ps.length=ds.length
 |[],ps,e=>by rw[toPys]at e;cases e;rfl
 |d::ds,ps,e=>by
  rw[toPys]at e;cases e1:fG d with
  |none=>rw[e1]at e;cases e
  |some p=>
   cases e2:toPys ds with|none=>rw[e1,e2]at e;cases e|some qs=>rw[e1,e2]at e;cases e;simp[mq e2]
def yK:dI->QQ
 |.inl i=>.int i
 |.inr x=>.str x
theorem zl:∀{ks:List dI}{vs:ad}{us:List (dI×Pw)},KV (ks.zip vs) us->ks.length=vs.length->bG vs (us.map (·.2))/\us.map (·.1)=ks
 |[],[],_,.nil,_=>⟨.nil,rfl⟩
 |k::ks,v::vs,_,.cons ⟨a,b⟩ t,h=>by
  obtain⟨h1,h2⟩:=zl (ks:=ks) (vs:=vs) t (by simpa using h);exact⟨.cons b h1,by rw[PQ,h2,←a]⟩
theorem ni{prog:Qw}{w:QK}{h:Qo}:∀{es:List DictEntry}{us:List (dI×Pw)},Pairs (cI prog w) es us->Ts h (es.map (·.key)) ((us.map (·.1)).map yK) []/\es.map (·.val)=us.map (·.2)
 |_,_,.nil=>⟨.nil,rfl⟩
 |_,_,.cons (e:=e) (kv:=kv) a b t=>by
  obtain⟨h1,h2⟩:=ni t;refine⟨?_,by rw[PQ,PQ,h2,b]⟩;have hk:UT h e.key (yK kv.1) []:=by
   rcases cE (show pH kv.1 e.key=true from a) with⟨i,t,e1,e2⟩|⟨x,t,e1,e2⟩
   .rw[e1,e2];exact .int i t
   .rw[e1,e2];exact .str x t
  exact Ts.cons hk h1
theorem yo{α β:Type}:∀{xs:List α}{ys:List β},xs.length=ys.length->(xs.zip ys).map (·.1)=xs/\(xs.zip ys).map (·.2)=ys
 |[],[],_=>⟨rfl,rfl⟩
 |x::xs,y::ys,h=>by
  obtain⟨h1,h2⟩:=yo (xs:=xs) (ys:=ys) (by simpa using h);exact⟨by rw[Sr,PQ,h1],by rw[Sr,PQ,h2]⟩
def oX(I:L2.Inv X π σ H s){ks:List dI}{vs:ad}{a:Py}{ps:List QQ}{bs:List Py}(h2:Rd H a (.dK (ks.zip vs)))(h4:ks.length=vs.length)(hl:ps.length=ks.length)
  (hr:∀us,bG vs us->∃bs,Ts s.heap us ps bs/\Q4∉bs):∃as,UT s.heap (.ref a) (.dict ((ks.map yK).zip ps)) as/\Q4∉as:=by
 obtain⟨_,n1,us,k1,d1⟩:=(show cv X.prog X.w H s.heap a (.dK (ks.zip vs)) from h2.ok I.hok)
 obtain⟨o,es,ep,e1,e2,e3,_,e5,_⟩:=d1;obtain⟨hv,hk⟩:=zl k1 h4;obtain⟨bs,r1,m1⟩:=hr _ hv;obtain⟨p1,p2⟩:=ni (h:=s.heap) e5;obtain⟨z1,z2⟩:=yo (xs:=ks.map yK) (ys:=ps) (by rw[Pz,hl]);refine⟨_,.dict e1 e2.1 e3 (as:=[]) (bs:=bs) (by rw[z1,←hk];exact p1) (by rw[z2,p2];exact r1),?_⟩;simp only[QC,Se,QX,P9,not_or];exact⟨λz=>by rw[←z]at n1;simp at n1,m1⟩
mutual
theorem va(I:L2.Inv X π σ H s):∀(d:D) (v:V) (u:Pw) (p:QQ),Rep X.K H d v->bo v u->fG d=some p->∃as,UT s.heap u p as/\Q4∉as
 |.non,v,u,p,r,rv,e=>by
  rw[fG]at e;cases e;rw[aM.mp r]at rv;cases rv;exact⟨_,.none,by simp⟩
 |.bl b,v,u,p,r,rv,e=>by
  rw[fG]at e;cases e;rw[aI.mp r]at rv;cases rv;exact⟨_,.bool b,by simp⟩
 |.int i,v,u,p,r,rv,e=>by
  rw[fG]at e;cases e;rw[az.mp r]at rv;obtain⟨t,rfl⟩:=rv;exact⟨_,.int i t,by simp⟩
 |.str x,v,u,p,r,rv,e=>by
  rw[fG]at e;cases e;rw[Rep.str_iff.mp r]at rv;obtain⟨t,rfl⟩:=rv;exact⟨_,.str x t,by simp⟩
 |.tup ds,v,u,p,r,rv,e=>by
  rw[fG]at e;cases e1:toPys ds with
  |none=>rw[e1]at e;cases e
  |some ps=>
   rw[e1]at e;cases e;obtain⟨a,vs,its,rfl,rfl,h1,h2,h3,⟨o,k1,k2,n,k3⟩,_⟩:=bb I r rv;obtain⟨as,h4,h5⟩:=reads_ofs I ds vs its ps h2 h3 e1;exact⟨_,.tuple k1 k2 k3 (by simpa using h4),h5⟩
 |.lst ds,v,u,p,r,rv,e=>by
  rw[fG]at e;cases e1:toPys ds with
  |none=>rw[e1]at e;cases e
  |some ps=>
   rw[e1]at e;cases e;obtain⟨a,vs,its,rfl,rfl,h1,h2,h3,⟨o,k1,k2,n,k3⟩,_⟩:=aZ I r rv;obtain⟨as,h4,h5⟩:=reads_ofs I ds vs its ps h2 h3 e1;exact⟨_,.list k1 k2 k3 (by simpa using h4),by rw[P9,not_or];exact⟨Qx (FE I h1),h5⟩⟩
 |.dic ks ds,v,u,p,r,rv,e=>by
  rw[fG]at e;cases e1:toPys ds with
  |none=>rw[e1]at e;cases e
  |some ps=>
   rw[e1]at e;cases e;rw[Rep]at r;obtain⟨a,kvs,vs,rfl,h2,h3,h4,h5⟩:=r;subst h3;obtain rfl:u=QM a:=rv;have hl:=h5.length;have:=oX I (bs:=[]) (ps:=ps) h2 (by rw[Pz];exact h4) (by rw[Pz,mq e1,hl,h4]) λus hv=>reads_ofs I ds vs us ps h5 hv e1;rw[QH]at this;exact this
 |.exc _,v,u,p,r,rv,e=>by rw[fG]at e;cases e
 |.ob k ds,v,u,p,r,rv,e=>by
  cases k with
  |dint ks=>
   rw[fG]at e;cases e1:toPys ds with
   |none=>rw[e1]at e;cases e
   |some ps=>
    rw[e1]at e;cases e;obtain⟨a,vs,rfl,⟨kvs,h2,h3,h4⟩,h5⟩:=ff.mp r;subst h3;obtain rfl:u=QM a:=rv;have hl:=h5.length;have:=oX I (bs:=[]) (ps:=ps) h2 (by rw[Pz];exact h4) (by rw[Pz,mq e1,hl,h4]) λus hv=>reads_ofs I ds vs us ps h5 hv e1;rw[QH]at this;exact this
  |_=>simp[fG]at e
theorem reads_ofs(I:L2.Inv X π σ H s):∀(ds:ac) (vs:ad) (us:List Pw) (ps:List QQ),Reps X.K H ds vs->bG vs us->toPys ds=some ps->∃as,Ts s.heap us ps as/\Q4∉as
 |[],vs,us,ps,r,rv,e=>by
  rw[toPys]at e;cases e;rw[Reps.nil_iff.mp r]at rv;cases rv;exact⟨_,.nil,by simp⟩
 |d::ds,vs,us,ps,r,rv,e=>by
  obtain⟨v,vr,rfl,h1,h2⟩:=aE.mp r;cases rv with
  |cons ra rb=>
   rw[toPys]at e;cases e1:fG d with
   |none=>rw[e1]at e;cases e
   |some p=>
    cases e2:toPys ds with
    |none=>rw[e1,e2]at e;cases e
    |some qs=>
     rw[e1,e2]at e;cases e;obtain⟨as,k1,m1⟩:=va I d v _ p h1 ra e1;obtain⟨bs,k2,m2⟩:=reads_ofs I ds vr _ qs h2 rb e2;exact⟨_,.cons k1 k2,by rw[QJ,not_or];exact⟨m1,m2⟩⟩
end
def BM(d:D):Bool:=match d with
 |.tup _=>true
 |.lst _=>true
 |_=>false
def ko(p:QQ):Bool:=p.showable&&decide (p.depth<=100)&&decide (p.shown.length<=sizeLine)
def eN(d:D):ai D:=match fG d with
 |some p=>if BM d=true/\ko p=true then .ok (.str p.shown) else .stuck
 |none=>.stuck
def ke{k:Nat}(hr:da k X.A):jO X (.builtin "repr") (λxs H Q=>∃v d p,xs=[v]/\Rep X.K H d v/\fG d=some p/\BM d=true/\ko p=true/\Q (.str p.shown) H):=by
 intro π s σ H xs us Q I r h;obtain⟨v,d,p,rfl,rd,e,hq,hw,q⟩:=h;obtain⟨u,rfl,rx⟩:=rQ r;obtain⟨as,hR,hm⟩:=va I d v u p rd rx e;have hu:∃a,u=.ref a:=by
  cases d with|tup ds=>obtain⟨a,_,_,_,h,_⟩:=bb I rd rx;exact⟨a,h⟩|lst ds=>obtain⟨a,_,_,_,h,_⟩:=aZ I rd rx;exact⟨a,h⟩| _=>cases hq
 obtain⟨a,rfl⟩:=hu;unfold ko at hw;simp only[Qg,decide_eq_true_eq]at hw;obtain⟨⟨w1,w3⟩,w4⟩:=hw;refine repr_of_reads' hR w1 (λ_=>hm) hr.gd (by have:=hr.un;omega) (λb o e=>e) (λh' u' tk hk=>⟨.str p.shown,H,I.kept hk,⟨u',rfl⟩,q⟩) w4
def oA:jP X E (λxs H Q=>∃v d p,xs=[v]/\Rep X.K H d v/\fG d=some p/\BM d=true/\ko p=true/\Q (.str p.shown) H) (m1 eN):=wD λx v H Ha Q hs r q=>by
 unfold eN at q;cases e:fG x with
 |none=>rw[e]at q;exact q.elim
 |some p=>
  rw[e]at q;replace q:post X.K E H Ha (if BM x=true/\ko p=true then .ok (.str p.shown) else .stuck) Q:=q
  by_cases hc:BM x=true/\ko p=true
  .rw[if_pos hc]at q
   exact⟨v,x,p,rfl,r.mono hs,e,hc.1,hc.2,bA hs q (Rep.str_iff.mpr rfl)⟩
  .rw[if_neg hc]at q;exact q.elim
end
structure FT (K:Px) (mg:PY->Option Pw) (x:PY) (st:Q1) (ps:bi) (a:Py) (d:QI):Prop where
 F:Eh K x x st a d
 b:kF K d ps []
 g:mg x=some (.ref a)
noncomputable def QA(K:Px) (x:PY) (st:Q1) (a:Py):Prop:=Q9 K P8 x=some (some (.ref a))/\Td K (.ref a)=true/\∃oc kV dc pm cd ct od an sl,K.lookup a=some ⟨oc,od,.func (Sq x x (defArgs st) (defBody st) (defScope st) .none kV dc pm an cd ct),sl⟩/\UP K cd x=true
def Mu{K:Px}{h:Qo}{mg:PY->Option Pw}{x:PY}{st:Q1}{ps:bi}{a:Py}(X:K.In h)(G:h.Ns P8 mg)(q:QA K x st a)
  (hb:∀(kV doc pm:Pw) (an:Option Py) (cdv ct:Pw) (us:List Pw),us.length=ps.length->bindArgs (Sq x x (defArgs st) (defBody st) (defScope st) .none kV doc pm an cdv ct) ⟨us,[]⟩=pure (ps.zip us)) :
  ∃d,FT K mg x st ps a d/\∃kV doc pm an cdv ct,d=Sq x x (defArgs st) (defBody st) (defScope st) .none kV doc pm an cdv ct:=by
 obtain⟨e1,e4,oc,kV,dc,pm,cd,ct,od,an,sl,e2,e3⟩:=q;exact⟨_,⟨C5 e2 e3 e4,(C5 (st:=st) e2 e3 e4).binds hb,R7 X G e1⟩,_,_,_,_,_,_,rfl⟩
section
variable {X:Cx}{E:XK}{e:Qc}{es:List Qc}{fa:Ev->ai (ac)}{f g h i j:al}{pos:Pos}{CX:qK}{k n:Nat}{fn:Py}{fd:QI}{ps:bi}{m:ac->ai D}{x:PY}{p:Pos}{st:Q1}
def Ny(ρ:Ev)(ds:ac)(h:ag f aC ρ=.ok ds):ds.length=1:=kh (λ_ h=>D5 h) h
def Nx(ρ:Ev)(ds:ac)(q:ag f (ag g aC) ρ=.ok ds):ds.length=2:=kh (Ny ρ) q
def Nw(ρ:Ev)(ds:ac)(q:ag f (ag g (ag h aC)) ρ=.ok ds):ds.length=3:=kh (Nx ρ) q
def Ol(ρ:Ev)(ds:ac)(q:ag f (ag g (ag h (ag i aC))) ρ=.ok ds):ds.length=4:=kh (Nw ρ) q
end
section
variable {X:Cx}{E:XK}{He η:Hp}{a:Py}{e:Qc}{es:List Qc}{pos:Pos}{f g:al}{fm gm hm im jm:Ev->ac->ai (D×ac)}{fa:Ev->ac->ai (ac×ac)}{s:Ev->ac->ai cw}{st:Q1}
def u7(f:al):am:=λρ=>(f ρ).bind λd=>.ok (.rt d)
def AM(h:DF X E e f):A4 X E He η [.Return (some e) pos] (u7 f):=by
 refine⟨cq (bV (my h.o) fj) λD' σ H z9=>?_⟩;obtain⟨Ha,ρ,h,q⟩:=z9;refine⟨Ha,ρ,h.g.sub,h.rd,?_⟩;unfold u7 at q;cases e1:f ρ with
 |stuck=>rw[e1]at q;exact q|exn x=>rw[e1]at q;exact λC ox H' Ha' g r=>q C ox H' Ha' (h.g.trans g) r
 |ok d=>
  rw[e1]at q;cases d with|lst ds=>exact λp vs H' Ha' g hp h0 hv rp=>q p vs H' Ha' (h.g.trans g) (h.g.s.free hp) h0 hv rp| _=>exact q.elim
def r8{n:Nat}(hr:∀ρ st ds,fa ρ st=.ok ds->ds.1.length=n)(ρ:Ev)(st:ac)(ds:ac×ac)(h:bR fm fa ρ st=.ok ds):ds.1.length=n+1:=by
 unfold bR at h;cases e1:fm ρ st with
 |stuck|exn x=>rw[e1]at h;cases h
 |ok p=>
  rw[e1]at h;simp only[ai.bind]at h;cases e2:fa ρ p.2 with|stuck|exn x=>rw[e2]at h;cases h|ok q=>rw[e2]at h;cases h;simp[hr _ _ _ e2]
def OV(ρ:Ev)(st:ac)(ds:ac×ac)(h:dE ρ st=.ok ds):ds.1.length=0:=by cases h;rfl
def Oj(ρ:Ev)(st:ac)(ds:ac×ac)(h:bR fm dE ρ st=.ok ds):ds.1.length=1:=r8 OV ρ st ds h
def OU(ρ:Ev)(st:ac)(ds:ac×ac)(h:bR fm (bR gm dE) ρ st=.ok ds):ds.1.length=2:=r8 Oj ρ st ds h
variable {CX:qK}{k n:Nat}{fn:Py}{fd:QI}{ps:bi}{x:PY}{p:Pos}{ft:Q1}
def pV{l b:Qc}(ha:DM X He η a l fm)(hb:DM X He η a b gm):DM X He η a (.BinOp l .Add b pos) (mB fm gm cj):=HK (E:=E0) (eT.or CD (eT.or o9 (eT.or y0 yZ))) (by
 intro x y v u H Ha Q hs r1 r2 q;unfold cj at q;cases x with
 |int i=>
  cases y with|int j=>exact .inl ⟨i,j,az.mp r1,az.mp r2,bA hs q (ri _)⟩| _=>exact q.elim
 |str i=>
  cases y with
  |str j=>
   by_cases h:i.length+j.length<=line
   .simp only[if_pos h]at q
    exact .inr (.inl ⟨i,j,Rep.str_iff.mp r1,Rep.str_iff.mp r2,dF h,bA hs q (Rep.str_iff.mpr rfl)⟩)
   .simp only[if_neg h]at q;exact q.elim
  |_=>exact q.elim
 |lst ds=>
  cases y with
  |lst es=>
   by_cases h:ds.length+es.length<=line
   .simp only[if_pos h]at q
    obtain⟨l,vs,rfl,h1,h2⟩:=aF.mp r1;obtain⟨m,us,rfl,k1,k2⟩:=aF.mp r2;refine .inr (.inr (.inl ⟨l,m,vs,us,rfl,rfl,aB.sqL hs h1,aB.sqL hs k1,by rw[←h2.length,←k2.length];exact dF h,λp hp=>?_⟩));exact q _ _ _ (bw hs hp) (aF.mpr ⟨p,_,rfl,dR.of aG,(h2.app k2).mono (bw hs hp).z⟩)
   .simp only[if_neg h]at q;exact q.elim
  |_=>exact q.elim
 |tup ds=>
  cases y with
  |tup es=>
   by_cases h:ds.isEmpty=false/\ds.length+es.length<=line
   .simp only[if_pos h]at q
    obtain⟨l,vs,rfl,h1,h2⟩:=aJ.mp r1;obtain⟨m,us,rfl,k1,k2⟩:=aJ.mp r2;refine .inr (.inr (.inr ⟨l,m,vs,us,rfl,rfl,aB.sqT hs h1,aB.sqT hs k1,λz=>?_,by rw[←h2.length,←k2.length];exact dF h.2,λz=>?_,λz p hp=>?_⟩))
    .have:=h2.length
     rw[z]at this;have e:ds=[]:=RN.mp this;rw[e]at h;exact absurd h.1 (by decide)
    .have:=k2.length
     rw[z]at this;have e:es=[]:=RN.mp this;rw[e,QC]at q;exact bA hs q r1
    .exact q _ _ _ (bw hs hp) (aJ.mpr ⟨p,_,rfl,jd.of aG,(h2.app k2).mono (bw hs hp).z⟩)
   .simp only[if_neg h]at q;exact q.elim
  |_=>exact q.elim
 |_=>exact q.elim) ha hb
def Dz{l b:Qc}(ha:DM X He η a l fm)(hb:DM X He η a b gm):DM X He η a (.BinOp l .Mod b pos) (mB fm gm dh):=HK (E:=E0) yW (uc (λ_ _ h=>of_decide_eq_true h) λ_ _ _ _=>ri _) ha hb
def uD{l b:Qc}(ha:DM X He η a l fm)(hb:DM X He η a b gm)(hs:ki b:=by intro _ _;rfl):DM X He η a (.Subscript l b pos) (mB fm gm aN):=M3 (E:=E0) CZ HF ha hb hs
def NZ{tgt iter elt:Qc}{scope:SH}(N:bi)(n:Nat)(fr:bm){src:Ev->ac->ai (ac×ac)}{tg:Ev->D->ai Ev}(hc:X.calm=true)(hi:MI X He η a tgt iter src)(hok:wK n tg)
  (blk:∀s H C fp pn,(∀He η,DG (cS X N scope s H C fp pn) E He η tgt tg)/\∀He η,DM (cS X N scope s H C fp pn) He η a elt fm)
  (hfr:yn X N n fr scope)(hcell:(scope.names.all λx=>!(x.2==.cell))=true)(hfree:(scope.names.all λx=>!(x.2==.free)||(X.env.scope.names.lookup x.1==some .cell))=true)(hkind:scope.kind=.function)
  (hnames:(scope.names.all λx=>!(x.2==.local)||(scope.names.lookup x.1==some .local))=true)
  (hs:∀x,foldedSetIterable iter X.env x=pure x:=by intro _;rfl):Ot X He η a (.ListComp elt [⟨tgt,iter,[],0⟩] scope pos) (nD n fr src tg fm):=by
 refine Pg (E:=E) N n fr hc hi hok blk hfr (λx hx z=>?_) (λx hx z=>?_) hkind (λx hx z=>?_) hs
 .have:=P7.mp hcell x hx
  rw[z]at this;simp at this
 .have:=P7.mp hfree x hx
  rw[z]at this;simpa using this
 .have:=P7.mp hnames x hx
  rw[z]at this;simpa using this
end
def kZ:bi->ac->PY->Option D
 |k::ks,d::ds,x=>if k=x then some d else kZ ks ds x
 |_,_,_=>none
def eO(x y:D):ai D:=match x,y with
 |.dic ks ds,.str k=>match kZ ks ds k with
  |some d=>.ok d
  |none=>.stuck
 |_,_=>.stuck
def pZ(x y:D):ai D:=match x,y with
 |.str k,.dic ks ds=>.ok (.bl (kZ ks ds k).isSome)
 |_,_=>.stuck
def fq(x y:D):ai D:=match x,y with
 |.str k,.dic ks ds=>.ok (.bl (!(kZ ks ds k).isSome))
 |_,_=>.stuck
theorem mX{K:Px}{H:Hp}{k:PY}:∀{ks:bi}{ds:ac}{vs:ad},ks.length=vs.length->Reps K H ds vs ->
  (∀d,kZ ks ds k=some d->∃v,nO ((ks.map QL).zip vs) (QL k:dI)=some v/\Rep K H d v)/\(kZ ks ds k=none->nO ((ks.map QL).zip vs) (QL k:dI)=none)
 |[],ds,vs,hl,r=>by
  exact⟨λd e=>(nomatch e),λ_=>rfl⟩
 |x::ks,ds,vs,hl,r=>by
  cases vs with
  |nil=>cases hl
  |cons v vs=>
   cases ds with
   |nil=>have:=Reps.nil_iff.mp r;cases this
   |cons d ds=>
    obtain⟨v',vr,e0,h1,h2⟩:=aE.mp r;cases e0;obtain⟨i1,i2⟩:=mX (k:=k) (ks:=ks) (ds:=ds) (vs:=vs) (by simpa using hl) h2;rw[PQ,Sr]
    by_cases hx:x=k
    .subst hx
     refine⟨λd' e=>?_,λe=>?_⟩
     .rw[kZ,if_pos rfl]at e;cases e
      exact⟨v,ll rfl,h1⟩
     .rw[kZ,if_pos rfl]at e;cases e
    .have hne:¬(QL x:dI)=QL k:=λz=>hx (UQ z)
     refine⟨λd' e=>?_,λe=>?_⟩
     .rw[kZ,if_neg hx]at e
      rw[jg hne];exact i1 d' e
     .rw[kZ,if_neg hx]at e
      rw[jg hne];exact i2 e
section
variable {X:Cx}{E:XK}{a b:Qc}{f g:al}{pos:Pos}
abbrev LO:R2:=λx y H Q=>∃p v,x=.ref p/\qI H p y (some v)/\Q v H
abbrev LN:R2:=λy x H Q=>∃p o,x=.ref p/\qI H p y o/\Q (.bl o.isSome) H
abbrev yI:R2:=λy x H Q=>∃p o,x=.ref p/\qI H p y o/\Q (.bl (!o.isSome)) H
def Fs:qM X.K E LO eO:=by
 intro x y v u H Ha Q hs r1 r2 q;unfold eO at q;cases x with
 |dic ks ds=>
  cases y with
  |str k=>
   rw[Rep]at r1;obtain⟨p,kvs,vs,rfl,h1,rfl,hl,h4⟩:=r1;rw[Rep.str_iff.mp r2];cases e:kZ ks ds k with
   |none=>simp only[e]at q;exact q.elim
   |some d=>
    simp only[e]at q;obtain⟨v,hv,rv⟩:=(mX hl h4).1 d e;exact⟨p,v,rfl,.inl ⟨_,.inr k,aB.rd hs h1,rfl,hv.symm⟩,bA hs q rv⟩
  |_=>exact q.elim
 |_=>exact q.elim
def zu{k:PY}{ks:bi}{ds:ac}{v u:V}{H Ha:Hp}{K:Px}(hs:aB Ha H)(r1:Rep K Ha (.str k) v)(r2:Rep K Ha (.dic ks ds) u):∃p o,u=.ref p/\qI H p v o/\o.isSome=(kZ ks ds k).isSome:=by
 rw[Rep]at r2;obtain⟨p,kvs,vs,rfl,h1,rfl,hl,h4⟩:=r2;rw[Rep.str_iff.mp r1];refine⟨p,_,rfl,.inl ⟨_,.inr k,aB.rd hs h1,rfl,rfl⟩,?_⟩;cases e:kZ ks ds k with|none=>rw[(mX hl h4).2 e];rfl|some d=>obtain⟨v,hv,_⟩:=(mX hl h4).1 d e;rw[hv];rfl
def xv:qM X.K E LN pZ:=by
 intro x y v u H Ha Q hs r1 r2 q;unfold pZ at q;cases x with
 |str k=>
  cases y with
  |dic ks ds=>
   obtain⟨p,o,e1,e2,e3⟩:=zu hs r1 r2;exact⟨p,o,e1,e2,by rw[e3];exact bA hs q (rb _)⟩
  |_=>exact q.elim
 |_=>exact q.elim
def mG:qM X.K E yI fq:=by
 intro x y v u H Ha Q hs r1 r2 q;unfold fq at q;cases x with
 |str k=>
  cases y with
  |dic ks ds=>
   obtain⟨p,o,e1,e2,e3⟩:=zu hs r1 r2;exact⟨p,o,e1,e2,by rw[e3];exact bA hs q (rb _)⟩
  |_=>exact q.elim
 |_=>exact q.elim
def xu(hu:X.A.units+1<RI):eT X (Qz .In) LN:=by
 intro π s σ H x y v u Q I rx ry h;obtain⟨p,o,rfl,g,q⟩:=h;cases ry;exact Oh hu I g rx λs' I'=>⟨.bl o.isSome,H,I',rfl,q⟩
def mC(hu:X.A.units+1<RI):eT X (Qz .NotIn) yI:=by
 intro π s σ H x y v u Q I rx ry h;obtain⟨p,o,rfl,g,q⟩:=h;cases ry;exact G4 hu I g rx λs' I'=>⟨.bl (!o.isSome),H,I',rfl,q⟩
def iP(hu:X.A.units+1<RI)(ha:DE X E a f)(hb:DE X E b g)(hs:K7 b:=by intro _ _;rfl):DE X E (.Subscript a b pos) (ae f g eO) :=
 ⟨aW (Fi hu ha.o hb.o hs) (gX Fs)⟩
end
section
variable {K:Px}{E:XK}{He η Ha H H1:Hp}{σ:L2.St}{ρ:Ev}
def cZ.putOwnG(h:cZ K He η Ha σ H ρ){i:Nat}{dn:D}{p:Py}(hp:∀(j:Nat) (a:Py),σ[j]?=some (some (V.ref a))->a=p->∀d:D,ρ[j]?≠some (Sl.ow d))(he:He p=none)(h0:Ha p=none)(ho:Hj K Ha H p dn)(hx:∀(i j:Nat) (ds:ac) (a:Py) (P:Nat->Py),ρ[i]?=some (.ox j ds)->σ[i]?=some (some (.ref a))->Nf K He Ha H a j ds P->∀l,qV j l=true->p≠P l) :
  cZ K He η Ha (σ.set i (some (.ref p))) H (ρ.set i (.ow dn)):=by
 have key:∀(j:Nat) (s:Sl),(ρ.set i (.ow dn))[j]?=some s->(j=i/\s=.ow dn/\i<σ.length)∨(j≠i/\ρ[j]?=some s):=λj s e=>by
  by_cases hj:i=j
  .subst hj
   rw[Q6]at e;cases q:ρ[i]? with
   |none=>rw[q]at e;cases e
   |some s'=>
    rw[q]at e;cases e;refine .inl ⟨rfl,rfl,?_⟩;rw[←h.ln];exact(PH.mp q).1
  .rw[PB hj]at e
   exact .inr ⟨λz=>hj z.symm,e⟩
 have other:∀(k:Nat) (d2:D),k≠i->ρ[k]?=some (.ow d2)->some (some (V.ref p))≠σ[k]?:=λk d2 hk e2 z=>by
  obtain⟨a,h1,_⟩:=h.ow k d2 e2;rw[h1]at z;cases z;exact hp k p h1 rfl d2 e2
 refine⟨h.g,λj d' e=>?_,λj d' e=>?_,λj k d1 d2 hn e1 e2=>?_,by simp[h.ln],h.ex.upd (λj s e=>?_) (aB.refl _) (λa vs _ e=>e) λp us _ h0 hp _=>⟨hp,h0⟩⟩
 rotate_left 3
 .rcases key j _ e with⟨rfl,e',hl⟩|⟨hj,e'⟩
  .exact .inr (.inr (.inr ⟨dn,p,e',by rw[PZ hl],hx⟩))
  .exact .inl ⟨e',by rw[PB (Qx hj)]⟩
 .rcases key j _ e with⟨rfl,e',hl⟩|⟨hj,e'⟩
  .cases e'
  .obtain⟨v',h1,h2⟩:=h.rd j d' e'
   exact⟨v',by rw[PB (Qx hj)];exact h1,h2⟩
 .rcases key j _ e with⟨rfl,e',hl⟩|⟨hj,e'⟩
  .cases e'
   exact⟨p,by rw[PZ hl],he,h0,ho⟩
  .obtain⟨a,h1,h2⟩:=h.ow j d' e'
   exact⟨a,by rw[PB (Qx hj)];exact h1,h2⟩
 .rcases key j _ e1 with⟨rfl,_,hl⟩|⟨hj,e1'⟩
  .rcases key k _ e2 with⟨rfl,_,_⟩|⟨hk,e2'⟩
   .exact absurd rfl hn
   .rw[PZ hl,PB (Qx hk)]
    exact other k d2 hk e2'
  .rcases key k _ e2 with⟨rfl,_,hl⟩|⟨hk,e2'⟩
   .rw[PZ hl,PB (Qx hj)]
    exact λz=>other j d1 hj e1' z.symm
   .rw[PB (Qx hj),PB (Qx hk)]
    exact h.ap j k d1 d2 hn e1' e2'
def cZ.writeG(h:cZ K He η Ha σ H ρ){i:Nat}{d:D}{p:Py}{dn:D}{o:HO}(e:ρ[i]?=some (.ow d))(es:σ[i]?=some (some (.ref p)))(ho:Hj K Ha (upd H p o) p dn) :
  cZ K He η Ha σ (upd H p o) (ρ.set i (.ow dn)):=by
 obtain⟨a,h1,h2,h3,h4⟩:=h.ow i d e;rw[h1]at es;cases es;have hil:i<ρ.length:=(PH.mp e).1;have key:∀(j:Nat) (s:Sl),(ρ.set i (.ow dn))[j]?=some s->(j=i/\s=.ow dn)∨(j≠i/\ρ[j]?=some s):=λj s e=>by
  by_cases hj:i=j
  .subst hj
   rw[PZ hil]at e;cases e;exact .inl ⟨rfl,rfl⟩
  .rw[PB hj]at e
   exact .inr ⟨λz=>hj z.symm,e⟩
 refine⟨⟨λb o' eb=>?_,h.g.z,λb o' eb=>?_,h.g.nw⟩,λj d' e'=>?_,λj d' e'=>?_,λj k d1 d2 hn e1 e2=>?_,by simp[h.ln],h.ex.upd (λj s e'=>?_) (aB.refl _) (λb us _ eb=>?_) λq us _ q0 hq hd=>?_⟩
 rotate_left 5
 .rcases key j _ e' with⟨rfl,e''⟩|⟨hj,e''⟩
  .exact .inr (.inr (.inr ⟨dn,p,e'',h1,λi' j' ds' a' P' x1 x2 x3 l ol=>by
    obtain⟨a2,P2,y1,y2,y3,_⟩:=h.ex.1 i' j' ds' x1;rw[x2]at y1;cases y1;have:P2 l=P' l:=by
     obtain⟨vs1,_,z1,_,y5,_⟩:=x3;obtain⟨vs2,_,z3,_,y4,_⟩:=y2;rw[z1]at z3;cases z3;obtain⟨_,_,_,_,_,z2,_⟩:=y5 l ol;obtain⟨_,_,_,_,_,z4,_⟩:=y4 l ol;rw[z2]at z4;injection z4 with z4;injection z4 with z4;exact z4.symm
    rw[←this];intro zz;rw[zz]at h1;exact y3 j d l ol e h1⟩))
  .exact .inl ⟨e'',rfl⟩
 .rw[au (by
   intro z;subst z;cases d with
   |lst ds'|dic ks ds'=>obtain⟨vs',h5,_⟩:=h4;rw[h5]at eb;cases eb
   |ob kk ds'=>
    cases kk with|dint ks=>obtain⟨vs',h5,_⟩:=h4;rw[h5]at eb;cases eb| _=>exact h4.elim
   |_=>exact h4)];exact eb
 .have hq':q≠p:=by
   intro z;subst z;exact hd i d e h1
  exact⟨by rw[au hq'];exact hq,q0⟩
 .rw[au (by intro z;subst z;rw[h2]at eb;cases eb)];exact h.g.s _ _ eb
 .rw[au (by intro z;subst z;rw[h3]at eb;cases eb)];exact h.g.sub _ _ eb
 .rcases key j _ e' with⟨rfl,e''⟩|⟨hj,e''⟩
  .cases e''
  .exact h.rd j d' e''
 .rcases key j _ e' with⟨rfl,e''⟩|⟨hj,e''⟩
  .cases e''
   exact⟨p,h1,h2,h3,ho⟩
  .obtain⟨b,k1,k2,k3,k4⟩:=h.ow j d' e''
   refine⟨b,k1,k2,k3,?_⟩;have hb:b≠p:=by
    intro z;subst z;exact h.ap j i d' d hj e'' e (by rw[k1,h1])
   cases d' with
   |lst ds'=>
    obtain⟨vs',h5,h6⟩:=k4;exact⟨vs',by rw[au hb];exact h5,h6⟩
   |dic ks ds'=>
    obtain⟨vs',h5,hl,h6⟩:=k4;exact⟨vs',by rw[au hb];exact h5,hl,h6⟩
   |ob kk ds'=>
    cases kk with
    |dint ks=>
     obtain⟨vs',h5,hl,h6⟩:=k4;exact⟨vs',by rw[au hb];exact h5,hl,h6⟩
    |_=>exact k4.elim
   |_=>exact k4.elim
 .rcases key j _ e1 with⟨rfl,e1'⟩|⟨hj,e1'⟩
  .rcases key k _ e2 with⟨rfl,_⟩|⟨hk,e2'⟩
   .exact absurd rfl hn
   .exact h.ap j k d d2 hn e e2'
  .rcases key k _ e2 with⟨rfl,_⟩|⟨hk,e2'⟩
   .exact h.ap j k d1 d hn e1' e
   .exact h.ap j k d1 d2 hn e1' e2'
end
def xi:bi->ac->PY->D->ac
 |k::ks,e::ds,x,d=>(if k=x then d else e)::xi ks ds x d
 |_,ds,_,_=>ds
def qU(ks:bi)(ds:ac)(k:PY)(d:D):D:=if k∈ks then .dic ks (xi ks ds k d) else .dic (ks++[k]) (ds++[d])
theorem zN{k:PY}:∀{ks:bi}{vs:ad},ks.length=vs.length->(((ks.map QL).zip vs).any λkv=>decide (kv.1=(QL k:dI)))=decide (k∈ks)
 |[],_,_=>rfl
 |x::ks,[],h=>nomatch h
 |x::ks,v::vs,h=>by
  rw[PQ,Sr,R5,zN (by simpa using h)]
  by_cases hx:x=k
  .subst hx;simp
  .have:¬k=x:=λz=>hx z.symm
   simp[hx,this]
theorem yG{K:Px}{H:Hp}{k:PY}{d:D}{v:V}(r:Rep K H d v):∀{ks:bi}{ds:ac}{vs:ad},ks.length=vs.length->Reps K H ds vs ->
  ∃vs',(((ks.map QL).zip vs).map λkv=>if kv.1=(QL k:dI) then(kv.1,v) else kv)=(ks.map QL).zip vs'/\ks.length=vs'.length/\Reps K H (xi ks ds k d) vs'
 |[],ds,vs,hl,h=>⟨vs,rfl,hl,by cases ds<;>exact h⟩
 |x::ks,ds,[],hl,h=>nomatch hl
 |x::ks,[],v'::vs,hl,h=>by have:=Reps.nil_iff.mp h;cases this
 |x::ks,e::ds,v'::vs,hl,h=>by
  obtain⟨v2,vr,e0,h1,h2⟩:=aE.mp h;cases e0;obtain⟨vs',i1,i2,i3⟩:=yG r (ks:=ks) (ds:=ds) (vs:=vs) (by simpa using hl) h2;rw[PQ,Sr,PQ,i1]
  by_cases hx:x=k
  .subst hx
   refine⟨v::vs',by rw[if_pos rfl];rfl,by simp[i2],?_⟩;rw[xi,if_pos rfl];exact Reps.cons r i3
  .have hne:¬(QL x:dI)=QL k:=λz=>hx (UQ z)
   refine⟨v'::vs',by rw[if_neg hne];rfl,by simp[i2],?_⟩;rw[xi,if_neg hx];exact Reps.cons h1 i3
theorem Reps.snoc{K:Px}{H:Hp}{d:D}{v:V}(r:Rep K H d v):∀{ds:ac}{vs:ad},Reps K H ds vs->Reps K H (ds++[d]) (vs++[v])
 |[],vs,h=>by rw[Reps.nil_iff.mp h];exact Reps.cons r Reps.nil
 |e::ds,vs,h=>by
  obtain⟨v2,vr,rfl,h1,h2⟩:=aE.mp h;exact Reps.cons h1 (Reps.snoc r h2)
def E6{K:Px}{Ha H:Hp}{k:PY}{d:D}{v:V}{ks:bi}{ds:ac}{vs:ad}{p:Py}(hl:ks.length=vs.length)(h:Reps K Ha ds vs)(r:Rep K Ha d v):Hj K Ha (upd H p (.dK (gZ ((ks.map QL).zip vs) (QL k) v))) p (qU ks ds k d):=by
 unfold qU;rw[show ∀(kvs:List (dI×V)) (u:V),gZ kvs (QL k:dI) u=if(kvs.any λkv=>decide (kv.1=(QL k:dI)))=true then kvs.map (λkv=>if kv.1=(QL k:dI) then(kv.1,u) else kv) else kvs++[((QL k:dI),u)] from λ_ _=>rfl];rw[zN hl]
 by_cases hk:k∈ks
 .rw[if_pos hk,if_pos (decide_eq_true hk)]
  obtain⟨vs',i1,i2,i3⟩:=yG (k:=k) r hl h;exact⟨vs',by rw[aG,i1],i2,i3⟩
 .rw[if_neg hk,if_neg (by rw[decide_eq_false hk];decide)]
  refine⟨vs++[v],by rw[aG,QB,List.zip_append (by rw[Pz];exact hl)];rfl,by simp[hl],Reps.snoc r h⟩
noncomputable def Pd(K:Px) (E:XK) (f:al):TE:=λσ H Q=>∃Ha ρ,aB Ha H/\Reads K Ha σ ρ/\match f ρ with
 |.ok (.dic ks ds)=>∀p vs H' Ha',aU H Ha H' Ha'->H p=none->Ha' p=none->H' p=some (.dK ((ks.map QL).zip vs))->ks.length=vs.length->Reps K Ha' ds vs->Q (.ref p) H'
 |.ok _=>False
 |.exn x=>∀C ox H' Ha',aU H Ha H' Ha'->wN K Ha' x C ox->E C ox H'
 |.stuck=>False
structure Ox (X:Cx) (E:XK) (e:Qc) (f:al):Prop where
 o:PE X e (Pd X.K E f)
def yT(i:Nat)(ρ:Ev)(d:D):ai Fl:=match d with
 |.dic ks ds=>.ok (.nx (ρ.set i (.ow (.dic ks ds))))
 |_=>.stuck
def rW(i:Nat)(f:al):am:=λρ=>(f ρ).bind (yT i ρ)
section
variable {X:Cx}{E:XK}{He η:Hp}{e b:Qc}{pos:Pos}{f k:al}
def uB{i:Nat}{x:PY}{pos':Pos}(hN:X.N.Nodup)(hi:X.N[i]?=some x)(hx:wM X.env.scope x)(he:Ox X E e f)(hs:QY e (some (.Name x pos')) pos.line X.env=pure false:=by rfl)
  (hf:X.fn x=true∨X.env.scope.names.lookup x=some .local := by first|exact .inl rfl|exact .inr rfl|assumption):DS X E He η (.Assign [.Name x pos'] e pos) (rW i f):=by
 refine⟨?_⟩;refine bP (iE hN hi hx he.o hs hf) λD σ H z9=>?_;obtain⟨Ha,ρ,h,q⟩:=z9;refine⟨Ha,ρ,h.g.sub,h.rd,?_⟩
 unfold rW at q;cases e1:f ρ with
 |stuck=>rw[e1]at q;exact q|exn x=>rw[e1]at q;exact λC ox H' Ha' g ex=>q C ox H' Ha' (h.g.trans g) ex
 |ok d=>
  rw[e1]at q;cases d with
  |dic ks ds=>
   intro p vs H' Ha' g hp h0 hv hl rp;refine q _ H' Ha' g.z ((h.grow g).putOwnG (dn:=.dic ks ds) (λj a ej ea d ed=>?_) (h.g.s.free hp) h0 ⟨vs,hv,hl,rp⟩ (h.fresh_x g.s hp));subst ea;obtain⟨a',k1,_,_,k4⟩:=h.ow j d ed;rw[ej]at k1;cases k1;cases d with
   |lst ds'|dic ks ds'=>obtain⟨vs',h5,_⟩:=k4;rw[hp]at h5;cases h5
   |ob kk ds'=>
    cases kk with|dint ks=>obtain⟨vs',h5,_⟩:=k4;rw[hp]at h5;cases h5| _=>exact k4.elim
   |_=>exact k4.elim
  |_=>exact q.elim
def GZ:Ox X E (.Dict [] [] pos) (dC (.dic [] [])):=by
 refine⟨aW Cw λσ H Q ⟨Ha,ρ,hs,hr,q⟩=>λp hp=>?_⟩;have q:∀p vs H' Ha',aU H Ha H' Ha'->H p=none->Ha' p=none->H' p=some (.dK ((([]:bi).map QL).zip vs))->([]:bi).length=vs.length->Reps X.K Ha' [] vs->Q (.ref p) H':=q;have h0:Ha p=none:=hs.free hp;refine q p [] _ Ha ⟨λb o q=>by rw[au (bB q hp)];exact q,aB.refl _,λb o q=>?_,λa h1 h2=>absurd h2 h1⟩ hp h0 aG rfl Reps.nil;rw[au (by intro z;subst z;rw[h0]at q;cases q)];exact hs _ _ q
end
def DK(k d:D):ai D:=match k with
 |.str x=>.ok (.dic [x] [d])
 |_=>.stuck
def wu(kf vf:al):al:=ae kf vf DK
def xt(ρ:Ev)(i:Nat)(k:bi->ac->ai Fl):ai Fl:=match ρ[i]? with
 |some (.ow (.dic ks ds))=>k ks ds
 |_=>.stuck
def lF(i:Nat)(ρ:Ev)(ks:bi)(ds:ac)(d j:D):ai Fl:=match j with
 |.str x=>if ks.length<line then .ok (.nx (ρ.set i (.ow (qU ks ds x d)))) else .stuck
 |_=>.stuck
def ng(i:Nat)(f k:al):am:=λρ=>xt ρ i λks ds=>(f ρ).bind λd=>(k ρ).bind (lF i ρ ks ds d)
section
variable {X:Cx}{E:XK}{He η:Hp}{e b:Qc}{pos:Pos}{f k:al}
def sN(hk:DE X E b k)(hv:DE X E e f):Ox X E (.Dict [some b] [e] pos) (wu k f):=by
 refine⟨?_⟩;refine aW (Fh (Cm hk.o hv.o E8) rfl rfl (by simp) (by simp)) λσ H Q ⟨Ha,ρ,hs,hr,q⟩ p hpn=>?_;have h0:Ha p=none:=hs.free hpn;have hs2:aB Ha (upd H p (.dK [])):=λb o e=>by rw[au (by intro z;subst z;rw[h0]at e;cases e)];exact hs _ _ e
 have back:∀{H' Ha':Hp},aU (upd H p (.dK [])) Ha H' Ha'->aU H Ha H' Ha':=λg=>⟨λb o e=>g.s _ _ (by rw[au (bB e hpn)];exact e),g.z,g.sub,λa k1 k2=>by
   have:=g.nw a k1 k2
   by_cases ha:a=p
   .subst ha;exact hpn
   .rw[au ha]at this;exact this⟩
 refine⟨Ha,ρ,hs2,hr,?_⟩;unfold wu ae at q;cases e1:k ρ with
 |stuck=>rw[e1]at q;exact q|exn z=>rw[e1]at q;exact λC ox H' Ha' g ex=>q C ox H' Ha' (back g) ex
 |ok kd=>
  rw[e1]at q;intro xk H1 H01 g1 r1;refine⟨H01,ρ,g1.sub,hr.mono g1.z,?_⟩;cases e2:f ρ with
  |stuck=>rw[e2]at q;exact q|exn z=>rw[e2]at q;exact λC ox H' Ha' g ex=>q C ox H' Ha' (back (g1.trans g)) ex
  |ok d=>
   rw[e2]at q;intro v H2 H02 g2 r2;cases kd with
   |str x=>
    have G:=g1.trans g2;have hp2:H2 p=some (.dK []):=G.s _ _ aG;have n02:H02 p=none:=by
     cases qq:H02 p with|none=>rfl|some o=>have:=G.nw p (by rw[qq];simp) h0;rw[aG]at this;cases this
    rw[Rep.str_iff.mp r1];refine⟨hp2,[(QL x,v)],rfl,by simp,?_⟩;have q:∀p vs H' Ha',aU H Ha H' Ha'->H p=none->Ha' p=none->H' p=some (.dK (([x].map QL).zip vs))->[x].length=vs.length->Reps X.K Ha' [d] vs->Q (.ref p) H':=q;refine q p [v] _ H02 ⟨λb o e=>?_,G.z,λb o e=>?_,(back G).nw⟩ hpn n02 aG rfl (Reps.cons r2 Reps.nil)
    .rw[au (bB e hpn)];exact(back G).s _ _ e
    .rw[au (by intro z;subst z;rw[n02]at e;cases e)];exact G.sub _ _ e
   |_=>exact q.elim
def Ap{K:Px}{Ha H:Hp}{σ:L2.St}{ρ:Ev}{i:Nat}{k:bi->ac->ai Fl}{D':eV}(h:cZ K He η Ha σ H ρ)(q:b3 K E He η Ha (xt ρ i k) D') :
  ∃ks ds p vs,ρ[i]?=some (.ow (.dic ks ds))/\σ[i]?=some (some (.ref p))/\H p=some (.dK ((ks.map QL).zip vs))/\ks.length=vs.length/\Reps K Ha ds vs/\b3 K E He η Ha (k ks ds) D':=by
 unfold xt at q;cases e:ρ[i]? with
 |none=>rw[e]at q;exact q.elim
 |some s=>
  rw[e]at q;cases s with
  |no|sh d|ox j ds|pt a=>exact q.elim
  |ow d=>
   cases d with
   |dic ks ds=>
    obtain⟨p,h1,h2,h3,vs,h4,h5,h6⟩:=h.ow i _ e;exact⟨ks,ds,p,vs,rfl,h1,h4,h5,h6,q⟩
   |_=>exact q.elim
def Cb{K:Px}{Ha H:Hp}{σ:L2.St}{ρ:Ev}{i:Nat}{D':eV}{ks:bi}{ds:ac}{d j:D}{p:Py}{vs:ad}{v u:V}(h:cZ K He η Ha σ H ρ)(e1:ρ[i]?=some (.ow (.dic ks ds)))(e2:σ[i]?=some (some (.ref p)))(e5:H p=some (.dK ((ks.map QL).zip vs)))(el:ks.length=vs.length)(e6:Reps K Ha ds vs)
  (rp:Rep K Ha d v)(rj:Rep K Ha j u)(q:b3 K E He η Ha (lF i ρ ks ds d j) D'):∃a H4,V.ref p=.ref a/\A5 H a u v H4/\D'.nx σ H4:=by
 unfold lF at q;cases j with
 |str x=>
  by_cases hl:ks.length<line
  .simp only[if_pos hl]at q
   rw[Rep.str_iff.mp rj];refine⟨p,_,rfl,A5.k (k:=.inr x) e5 ?_,?_⟩
   .rw[List.length_zip,Pz,←el,Nat.min_self]
    have:line<=sizeLine:=dF (P4 _);omega
   .exact q σ _ Ha (aB.refl _) (h.writeG e1 e2 (E6 el e6 rp))
  .simp only[if_neg hl]at q;exact q.elim
 |_=>exact q.elim
def uA{i:Nat}{x:PY}{p1 p2:Pos}(hu:X.A.units+1<RI)(hN:X.N[i]?=some x)(hv:wJ X.env.scope x)(he:DE X E e f)(hk:DE X E b k)
  (hd:(x==("__debug__" : PY))=false:=by decide)(hcd:(x==("__classdict__" : PY))=false:=by decide)
  (hs:QY e (some (.Subscript (.Name x p1) b p2)) pos.line X.env=pure false:=by rfl):DS X E He η (.Assign [.Subscript (.Name x p1) b p2] e pos) (ng i f k):=by
 refine⟨?_⟩;refine bP (E7 hu (eA hN hv hd hcd) hk.o he.o hs) λD σ H z9=>?_;obtain⟨Ha,ρ,h,q⟩:=z9;refine⟨Ha,ρ,h.g.sub,h.rd,?_⟩
 obtain⟨ks,ds,p,vs,e1,e2,e5,el,e6,q⟩:=Ap h q;refine plain (k:=λd=>(k ρ).bind (lF i ρ ks ds d)) h q λd v H1 H01 _ g1 r1 q1=>⟨.ref p,e2,?_⟩
 have h1':=h.grow g1;refine⟨H01,ρ,h1'.g.sub,h1'.rd,plain (k:=lF i ρ ks ds d) h1' q1 λj u H2 H02 _ g2 r2 q2=>?_⟩;exact Cb (h1'.grow g2) e1 e2 (g2.s _ _ (g1.s _ _ e5)) el ((e6.mono g1.z).mono g2.z) (r1.mono g2.z) r2 q2
end
mutual
def nd:D->Bool
 |.lst ds=>nds ds
 |.tup ds=>nds ds
 |.dic _ _=>false
 |.exc _=>false
 |.ob _ _=>false
 |_=>true
def nds:ac->Bool
 |[]=>true
 |d::ds=>nd d&&nds ds
end
mutual
theorem Rep.nd_to{K:Px}{H H':Hp}(et:∀a vs,Rd H a (.tup vs)->Rd H' a (.tup vs))(el:∀a vs,Rd H a (.lst vs)->Rd H' a (.lst vs)):∀{d:D}{v:V},nd d=true->Rep K H d v->Rep K H' d v
 |.non,_,_,h=>by unfold Rep at h ⊢;exact h
 |.bl _,_,_,h=>by unfold Rep at h ⊢;exact h
 |.int _,_,_,h=>by unfold Rep at h ⊢;exact h
 |.str _,_,_,h=>by unfold Rep at h ⊢;exact h
 |.tup ds,_,f,h=>by
  unfold nd at f;obtain⟨a,vs,e1,e2,e3⟩:=aJ.mp h;refine aJ.mpr ⟨a,vs,e1,?_,Reps.nd_to et el f e3⟩;rcases e2 with e2|e2
  .exact .inl (et _ _ e2)
  .exact .inr e2
 |.lst ds,_,f,h=>by
  unfold nd at f;obtain⟨a,vs,e1,e2,e3⟩:=aF.mp h;refine aF.mpr ⟨a,vs,e1,?_,Reps.nd_to et el f e3⟩;rcases e2 with e2|e2
  .exact .inl (el _ _ e2)
  .exact .inr e2
 |.dic ks ds,_,f,h=>by unfold nd at f;cases f
 |.exc x,_,f,h=>by unfold nd at f;cases f
 |.ob k ds,_,f,h=>by unfold nd at f;cases f
theorem Reps.nd_to{K:Px}{H H':Hp}(et:∀a vs,Rd H a (.tup vs)->Rd H' a (.tup vs))(el:∀a vs,Rd H a (.lst vs)->Rd H' a (.lst vs)):∀{ds:ac}{vs:ad},nds ds=true->Reps K H ds vs->Reps K H' ds vs
 |[],_,_,h=>by unfold Reps at h ⊢;exact h
 |d::ds,_,f,h=>by
  unfold nds at f;rw[Qg]at f;obtain⟨v,r,e1,e2,e3⟩:=aE.mp h;exact aE.mpr ⟨v,r,e1,Rep.nd_to et el f.1 e2,Reps.nd_to et el f.2 e3⟩
end
def mY(Ha J:Hp):Hp:=λa=>match Ha a with
 |some o=>some o
 |none=>match J a with
  |some (.dK _)=>none
  |o=>o
def lI(ρ:Ev):Bool:=ρ.all λs=>match s with
 |.ow (.lst _)=>false
 |.ox _ _=>false
 |.pt _=>false
 |_=>true
section
variable {K:Px}{E:XK}{He η Ha H H1 J:Hp}{σ:L2.St}{ρ:Ev}
def Hi(h:aB Ha J):∀a o,mY Ha J a=some o->J a=some o:=λa o e=>by
 unfold mY at e;cases q:Ha a with
 |some u=>rw[q]at e;cases e;exact h _ _ q
 |none=>
  rw[q]at e;cases q2:J a with
  |none=>rw[q2]at e;cases e
  |some u=>rw[q2]at e;cases u<;>first|(cases e;rfl)|cases e
def zR(h:aB Ha J){a:Py}{o:HO}(e:J a=some o)(hn:∀kvs,o≠.dK kvs):mY Ha J a=some o:=by
 unfold mY;cases q:Ha a with
 |some u=>have:=h _ _ q;rw[e]at this;cases this;rfl
 |none=>rw[e];cases o<;>first|rfl|exact absurd rfl (hn _)
def zQ(h:aB Ha J){u:HO}(hu:∀kvs,u≠.dK kvs)(a:Py)(e:Rd J a u):Rd (mY Ha J) a u:=by
 rcases e with e|⟨o,e⟩
 .exact .inl (zR h e hu)
 .exact .inr ⟨o,zR h e λ_ z=>nomatch z⟩
def cZ.behindS(h:cZ K He η Ha σ H ρ)(ho:lI ρ=true)(g:aU H (frz He Ha H) H1 J):cZ K He η (mY Ha J) σ H1 ρ:=by
 have hJ:aB Ha J:=h.frz_sub.trans g.z;have le:=Hi (Ha:=Ha) (J:=J) hJ;have z:aB Ha (mY Ha J):=λb o e=>by unfold mY;rw[e]
 have ok:∀(i:Nat) (s:Sl),ρ[i]?=some s->(match s with|.ow (.lst _)=>false|.ox _ _|.pt _=>false|_=>true)=true:=λi s e=>P7.mp ho s (PU e);refine⟨⟨h.g.s.trans g.s,h.g.z.trans z,λb o e=>g.sub _ _ (le b o e),λa h1 h2=>?_⟩,h.rd.mono z,λi d e=>?_,h.ap,h.ln,OX.none (λi j ds e=>by have:=ok i _ e;cases this) (λi a e=>by have:=ok i _ e;cases this)⟩
 .cases q:mY Ha J a with
  |none=>exact absurd q h1
  |some o=>
   have hj:=le a o q;exact(h.frz_grow.trans g).nw a (by rw[hj];simp) h2
 .obtain⟨a,k1,k2,k3,k4⟩:=h.ow i d e
  cases d with
  |lst ds=>have:=ok i _ e;cases this
  |dic ks ds=>
   obtain⟨vs,h5,hl,h6⟩:=k4;refine⟨a,k1,k2,?_,vs,g.s _ _ h5,hl,h6.mono z⟩;have:frz He Ha H a=some (.dK ((ks.map QL).zip vs)):=by unfold frz;rw[k2];exact h5
   have:=g.z _ _ this;unfold mY;rw[k3,this]
  |ob kk ds=>
   cases kk with
   |dint ks=>
    obtain⟨vs,h5,hl,h6⟩:=k4;refine⟨a,k1,k2,?_,vs,g.s _ _ h5,hl,h6.mono z⟩;have:frz He Ha H a=some (.dK ((ks.map SE).zip vs)):=by unfold frz;rw[k2];exact h5
    have:=g.z _ _ this;unfold mY;rw[k3,this]
   |_=>exact k4.elim
  |_=>exact k4.elim
end
def yD(i:Nat)(ρ:Ev)(d:D):ai Fl:=if nd d=true/\lI ρ=true then .ok (.nx (ρ.set i (.sh d))) else .stuck
def oV(i:Nat)(f:al):am:=λρ=>(f (gw ρ)).bind (yD i ρ)
section
variable {X:Cx}{E:XK}{He η:Hp}{e b o:Qc}{pos apos cpos:Pos}{f k g:al}
def uz{i:Nat}{x:PY}{pos':Pos}(hN:X.N.Nodup)(hi:X.N[i]?=some x)(hx:wM X.env.scope x)(he:DE X E e f)(hs:QY e (some (.Name x pos')) pos.line X.env=pure false:=by rfl)
  (hf:X.fn x=true∨X.env.scope.names.lookup x=some .local := by first|exact .inl rfl|exact .inr rfl|assumption):DS X E He η (.Assign [.Name x pos'] e pos) (oV i f):=by
 refine⟨?_⟩;refine bP (iE hN hi hx he.o hs hf) λD σ H z9=>?_;obtain⟨Ha,ρ,h,q⟩:=z9;refine⟨frz He Ha H,gw ρ,h.frz_le,h.looks,?_⟩
 refine look h q λd v H' J _ g rp q'=>?_;unfold yD at q'
 by_cases fl:nd d=true/\lI ρ=true
 .rw[if_pos fl]at q'
  have hJ:aB Ha J:=h.frz_sub.trans g.z;refine q' _ H' (mY Ha J) (λb o e=>by unfold mY;rw[e]) ((h.behindS fl.2 g).put (rp.nd_to (λa vs e=>zQ hJ (λ_ z=>by cases z) a e) (λa vs e=>zQ hJ (λ_ z=>by cases z) a e) fl.1))
 .rw[if_neg fl]at q';exact q'.elim
def uP{n:Nat}(h:n+64<RI):n+1<RI:=Qu (by omega) h
def uI(x y:D):ai D:=match x,y with
 |.dic ks ds,.str k=>.ok ((kZ ks ds k).getD .non)
 |_,_=>.stuck
def pK(g:al)(ρ:Ev)(x:D):ai D:=match x with
 |.dic ks ds=>(g ρ).bind (uI (.dic ks ds))
 |_=>.stuck
def pY(f g:al):al:=λρ=>(f ρ).bind (pK g ρ)
def wt(hu:X.A.units+1<RI)(ho:DE X E o f)(he:DE X E e g)(m:M1 X o "get" apos e cpos):DE X E (.Call (.Attribute o "get" apos) [e] [] cpos) (pY f g):=by
 refine⟨aW (Cy hu ho.o he.o m) λσ H Q z9=>?_⟩;obtain⟨Ha,ρ,hs,hr,q⟩:=z9;refine⟨Ha,ρ,hs,hr,?_⟩;unfold pY at q;cases e1:f ρ with
 |stuck|exn z=>rw[e1]at q;exact q
 |ok x=>
  rw[e1]at q;intro v H1 H01 g1 r1;cases x with
  |dic ks ds=>
   rw[Rep]at r1;obtain⟨p,kvs,vs,rfl,h1,rfl,hl,h4⟩:=r1;refine⟨p,rfl,.inl ⟨_,aB.rd g1.sub h1⟩,H01,ρ,g1.sub,hr.mono g1.z,?_⟩;have q:post X.K E H Ha ((g ρ).bind (uI (.dic ks ds))) Q:=q;cases e2:g ρ with
   |stuck=>rw[e2]at q;exact q|exn z=>rw[e2]at q;exact λC ox H' Ha' g' ex=>q C ox H' Ha' (g1.trans g') ex
   |ok y=>
    rw[e2]at q;intro u H2 H02 g2 r2;cases y with
    |str k=>
     rw[Rep.str_iff.mp r2];refine⟨_,.inl ⟨_,.inr k,aB.rd g2.s (aB.rd g1.sub h1),rfl,rfl⟩,?_⟩;have q:∀v H' Ha',aU H Ha H' Ha'->Rep X.K Ha' ((kZ ks ds k).getD .non) v->Q v H':=q;cases e3:kZ ks ds k with
     |none=>
      rw[(mX hl h4).2 e3];rw[e3]at q;exact q _ _ H02 (g1.trans g2) (aM.mpr rfl)
     |some d=>
      obtain⟨v,hv,rv⟩:=(mX hl h4).1 d e3;rw[hv];rw[e3]at q;exact q _ _ H02 (g1.trans g2) (rv.mono g2.z)
    |_=>exact q.elim
  |_=>exact q.elim
end
structure Rw where
 x:PY
 st:Q1
 N:bi
 n:Nat
abbrev Rw.ps(r:Rw):bi:=r.N.take r.n
instance {N P:bi}{sc:SH}:Decidable (fS N P sc) :=
 decidable_of_iff (sc.kind=.function/\sc.isCoroutine=false/\sc.isGenerator=false/\N.Nodup/\N.take P.length=P/\(∀x∈P,sc.names.lookup x=some .local ∨ sc.names.lookup x=some .cell)/\∀y∈sc.names,y.2≠.free)
  ⟨λ⟨a,b,c,d,e,f,g⟩=>⟨a,b,c,d,e,f,g⟩,λ⟨a,b,c,d,e,f,g⟩=>⟨a,b,c,d,e,f,g⟩⟩
def NA(rows:List Rw):Prop:=∀r∈rows,fS r.N r.ps (defScope r.st)
instance {rows:List Rw}:Decidable (NA rows):=inferInstanceAs (Decidable (∀r∈rows,_))
def TG(rows:List Rw)(K:Px)(mg:PY->Option Pw)(A:Nat->Py)(Q:Nat->QI):Prop:=∀i r,rows[i]?=some r->FT K mg r.x r.st r.ps (A i) (Q i)
def Lk(r:Rw):Prop:=∀(kV doc pm:Pw) (an:Option Py) (cdv ct:Pw) (us:List Pw),us.length=r.ps.length->bindArgs (Sq r.x r.x (defArgs r.st) (defBody r.st) (defScope r.st) .none kV doc pm an cdv ct) ⟨us,[]⟩=pure (r.ps.zip us)
def QAs(K:Px):List Rw->List Py->Prop
 |[],_=>True
 |r::rs,a::as=>QA K r.x r.st a/\QAs K rs as
 |_::_,[]=>False
def QAs.cons{K:Px}{x:PY}{st:Q1}{N:bi}{n:Nat}{rs:List Rw}{a:Py}{as:List Py}(q:QA K x st a)(t:QAs K rs as):QAs K (⟨x,st,N,n⟩::rs) (a::as):=⟨q,t⟩
theorem Hu{K:Px}{h:Qo}{mg:PY->Option Pw}(X:K.In h)(G:h.Ns P8 mg):∀{rows:List Rw}{as:List Py},(∀r∈rows,Lk r)->QAs K rows as ->
  ∃Q:Nat->QI,∀i r,rows[i]?=some r->FT K mg r.x r.st r.ps (as.getD i 0) (Q i)/\∃kV doc pm an cdv ct,Q i=Sq r.x r.x (defArgs r.st) (defBody r.st) (defScope r.st) .none kV doc pm an cdv ct
 |[],as,_,_=>⟨λ_=>default,λi r e=>by simp at e⟩
 |r::rs,[],_,q=>q.elim
 |r::rs,a::as,hb,q=>by
  obtain⟨Q,h⟩:=Hu X G (λr hr=>hb r (PV _ hr)) q.2;obtain⟨d,h1,h2⟩:=Mu X G q.1 (hb r Qf);refine⟨λi=>match i with|0=>d|i+1=>Q i,λi r' e=>?_⟩;cases i with|zero=>rw[RO]at e;cases e;exact⟨h1,h2⟩|succ i=>rw[QU]at e;exact h i r' e
structure eU (P:Qw) (w:QK) (K:Px) (mg:PY->Option Pw) (base:Qo) (CX:qK) (k:Nat) (fn:Py) (fd:QI) (ps:bi) (sp:Sp) (x:PY) (st:Q1):Prop where
 F:gp P w K mg base CX k fn fd ps sp
 t:FT K mg x st ps fn fd
section
variable {P:Qw}{w:QK}{K:Px}{mg:PY->Option Pw}{base:Qo}{rows:List Rw}{A:Nat->Py}{Q:Nat->QI}{i k n:Nat}{r:Rw}{s:am}{sM:Py->Ev->ac->ai cw}
variable (T:TG rows K mg A Q) (S:NA rows) (h:rows[i]?=some r)
include T S h
theorem oD(b:∀(cdv:Pw) (A':QV) (outer:List Ru) (s0:PF) (H Ha:Hp) (E:XK),da k (A'.deeper (envOfC r.x (defScope r.st) s0.heap.objs.size (A i) cdv)) ->
   Ba (l3 CX0 P w K mg base r.N r.x (defScope r.st) (A i) cdv A' outer s0 H E).nox E H Ha (defBody r.st) s):eU P w K mg base CX0 (k+1) (A i) (Q i) r.ps (spD K r.ps.length (cM r.N.length s)) r.x r.st :=
 ⟨AI (T i r h).F (S r (PU h)) b,T i r h⟩
theorem oF(b:∀(cdv:Pw) (A':QV) (outer:List Ru) (s0:PF) (H Ha:Hp) (E:XK),da k (A'.deeper (envOfC r.x (defScope r.st) s0.heap.objs.size (A i) cdv)) ->
   A4 (l3 CX0 P w K mg base r.N r.x (defScope r.st) (A i) cdv A' outer s0 H E).nox E H Ha (defBody r.st) s):eU P w K mg base CX0 (k+1) (A i) (Q i) r.ps (Hz K r.ps.length (nQ r.N.length s)) r.x r.st :=
 ⟨xQ (T i r h).F (S r (PU h)) b,T i r h⟩
theorem oM(hn:r.ps.length=n+1)(b:∀(cdv:Pw) (A':QV) (outer:List Ru) (s0:PF) (H He Ha:Hp) (a:Py) (E:XK),da k (A'.deeper (envOfC r.x (defScope r.st) s0.heap.objs.size (A i) cdv)) ->
   A8 (l3 CX0 P w K mg base r.N r.x (defScope r.st) (A i) cdv A' outer s0 H E).nox He Ha a (defBody r.st) (sM a)):eU P w K mg base CX0 (k+1) (A i) (Q i) r.ps (EU K n (tT r.N.length sM)) r.x r.st :=
 ⟨xP (T i r h).F (S r (PU h)) hn b,T i r h⟩
end
section
variable {P:Qw}{w:QK}{K:Px}{mg:PY->Option Pw}{base:Qo}{CX:qK}{k:Nat}{fn:Py}{fd:QI}{ps:bi}{n:Nat}{m:ac->ai D}{x:PY}{st:Q1}
def eU.fD{nn:Nat}{s:am}(B:eU P w K mg base CX k fn fd ps (Hz K n (nQ nn s)) x st):eU P w K mg base CX k fn fd ps (spD K n (nQ nn s)) x st:=⟨B.F.imp (EV λ_ _ h=>BV h),B.t⟩
end
section
variable {X:Cx}{E:XK}{e:Qc}{es:List Qc}{fa:Ev->ai (ac)}{pos:Pos}{CX:qK}{k k0 n:Nat}{fn:Py}{fd:QI}{ps:bi}{m:ac->ai D}{x:PY}{p:Pos}{st:Q1}
def rC(B:eU X.prog X.w X.K X.mg X.base CX k0 fn fd ps (spD X.K n m) x st)(hr:da k X.A)(ha:DA X E (e::es) fa)(hle:k0<=k:=by decide)(hx:fK CX X E:=by first|exact vn|exact pass0E|exact passesE)(hl:∀ρ ds,fa ρ=.ok ds->ds.length=(e::es).length:=by first|exact Ny|exact Nx|exact Nw|exact Ol|exact al5)(hn:(e::es).length=n:=by rfl)
  (hg:Gl X x:=by exact rfl)(hdb:(x==("__debug__" : PY))=false:=by decide)(he:PM (e::es) X.env=(false,eval e X.env)::PM es X.env:=by exact ba rfl)(hpl:(QZ pos (PM es X.env)).any (·.1)=false:=by exact bX rfl) :
  DE X E (.Call (.Name x p) (e::es) [] pos) (ao fa m):=G3 (B.F.mono hle) hr hg B.t.g B.t.F.kp B.t.b hx ha hn hl hdb he hpl
def rF(B:eU X.prog X.w X.K X.mg X.base CX k0 fn fd ps (Hz X.K n m) x st)(hr:da k X.A)(ha:DA X E (e::es) fa)(hle:k0<=k:=by decide)(hx:fK CX X E:=by first|exact vn|exact pass0E|exact passesE)(hl:∀ρ ds,fa ρ=.ok ds->ds.length=(e::es).length:=by first|exact Ny|exact Nx|exact Nw|exact Ol|exact al5)(hn:(e::es).length=n:=by rfl)
  (hg:Gl X x:=by exact rfl)(hdb:(x==("__debug__" : PY))=false:=by decide)(he:PM (e::es) X.env=(false,eval e X.env)::PM es X.env:=by exact ba rfl)(hpl:(QZ pos (PM es X.env)).any (·.1)=false:=by exact bX rfl) :
  DF X E (.Call (.Name x p) (e::es) [] pos) (ao fa m):=G0 (B.F.mono hle) hr hg B.t.g B.t.F.kp B.t.b hx ha hn hl hdb he hpl
end
section
variable {X:Cx}{He η:Hp}{a:Py}{E:XK}{e:Qc}{es:List Qc}{fa:Ev->ac->ai (ac×ac)}{pos:Pos}{CX:qK}{k k0 n:Nat}{fn:Py}{fd:QI}{ps:bi}{x:PY}{p:Pos}{ft:Q1}
def Pf{m:ac->ai D}(B:eU X.prog X.w X.K X.mg X.base CX k0 fn fd ps (spD X.K n m) x ft)(hr:da k X.A)(ha:Ld X He η a (e::es) fa)(hle:k0<=k:=by decide)(hx:fK CX X E0:=by exact vn)(hl:∀ρ st ds,fa ρ st=.ok ds->ds.1.length=(e::es).length:=by first|exact Oj|exact OU|exact am3|exact am4|exact am5)(hn:(e::es).length=n:=by rfl)
  (hg:Gl X x:=by exact rfl)(hdb:(x==("__debug__" : PY))=false:=by decide)(he:PM (e::es) X.env=(false,eval e X.env)::PM es X.env:=by exact ba rfl)(hpl:(QZ pos (PM es X.env)).any (·.1)=false:=by exact bX rfl) :
  DM X He η a (.Call (.Name x p) (e::es) [] pos) (mA fa m):=GX (E:=E0) (B.F.mono hle) hr hg B.t.g B.t.F.kp B.t.b hx ha hn hl hdb he hpl
def rM(i:Nat){y:PY}{p1:Pos}{m:Py->ac->ac->ai (D×ac)}(B:eU X.prog X.w X.K X.mg X.base CX k0 fn fd ps (EU X.K n m) x ft)(hr:da k X.A)(ha:Ld X He η a es fa)(hle:k0<=k:=by decide)(hx:fK CX X E0:=by exact vn)(hl:∀ρ st ds,fa ρ st=.ok ds->ds.1.length=n:=by first|exact OV|exact Oj|exact OU|exact am3|exact am4|exact am5)
  (hN:X.N[i]?=some y:=by rfl)(hv:wJ X.env.scope y:=by first|exact PR rfl|exact T9 (PR rfl)|exact T9 (T9 rfl))(hg:Gl X x:=by exact rfl)
  (hd:(y==("__debug__" : PY))=false:=by decide)(hcd:(y==("__classdict__" : PY))=false:=by decide)(hdb:(x==("__debug__" : PY))=false:=by decide)(he:PM (.Name y p1::es) X.env=(false,eval (.Name y p1) X.env)::PM es X.env:=by exact ba rfl)(hpl:(QZ pos (PM es X.env)).any (·.1)=false:=by exact bX rfl) :
  DM X He η a (.Call (.Name x p) (.Name y p1::es) [] pos) (cC i a fa m):=DB (E:=E0) (B.F.mono hle) hr hg B.t.g B.t.F.kp B.t.b hx hN hv ha hl hd hcd hdb he hpl
end
def Pp{r:Rw}(hn:r.ps.length=1:=by rfl)(hb:∀(kV doc pm:Pw) (an:Option Py) (cdv ct b:Pw),bindArgs (Sq r.x r.x (defArgs r.st) (defBody r.st) (defScope r.st) .none kV doc pm an cdv ct) ⟨[b],[]⟩=pure (r.ps.zip [b]):=by intros;rfl):Lk r:=λ_ _ _ _ _ _ us hl=>by
 obtain⟨b,rfl⟩:=OQ (hl.trans hn);exact hb ..
def Po{r:Rw}(hn:r.ps.length=2:=by rfl)(hb:∀(kV doc pm:Pw) (an:Option Py) (cdv ct b c:Pw),bindArgs (Sq r.x r.x (defArgs r.st) (defBody r.st) (defScope r.st) .none kV doc pm an cdv ct) ⟨[b,c],[]⟩=pure (r.ps.zip [b,c]):=by intros;rfl):Lk r:=λ_ _ _ _ _ _ us hl=>by
 obtain⟨b,c,rfl⟩:=OP (hl.trans hn);exact hb ..
def Pn{r:Rw}(hn:r.ps.length=3:=by rfl)(hb:∀(kV doc pm:Pw) (an:Option Py) (cdv ct b c d:Pw),bindArgs (Sq r.x r.x (defArgs r.st) (defBody r.st) (defScope r.st) .none kV doc pm an cdv ct) ⟨[b,c,d],[]⟩=pure (r.ps.zip [b,c,d]):=by intros;rfl):Lk r:=λ_ _ _ _ _ _ us hl=>by
 obtain⟨b,c,d,rfl⟩:=OO (hl.trans hn);exact hb ..
def Pm{r:Rw}(hn:r.ps.length=4:=by rfl)(hb:∀(kV doc pm:Pw) (an:Option Py) (cdv ct b c d e:Pw),bindArgs (Sq r.x r.x (defArgs r.st) (defBody r.st) (defScope r.st) .none kV doc pm an cdv ct) ⟨[b,c,d,e],[]⟩=pure (r.ps.zip [b,c,d,e]):=by intros;rfl):Lk r:=λ_ _ _ _ _ _ us hl=>by
 obtain⟨b,c,d,e,rfl⟩:=Ph (hl.trans hn);exact hb ..
end DL
namespace Com
open PySem L2 DL
def Jn(st:ac)(d:D):ai (D×ac):=.ok (d,st)
def OJ(st:ac)(d:D):ai cw:=.ok (.rt d st)
def vy{α:Type}(b:Bool)(x:ai α):ai α:=if b=true then x else .stuck
def OM(g:Ev->ac->ai (D×ac))(op:D->D->ai D)(ρ:Ev)(p:D×ac):ai (D×ac):=(g ρ p.2).bind λq=>(op p.1 q.1).bind λd=>.ok (d,q.2)
def Mj(op:D->D->ai D)(x:D)(q:D×ac):ai (D×ac):=(op x q.1).bind (Jn q.2)
def OL(fa:Ev->ac->ai (ac×ac))(ρ:Ev)(p:D×ac):ai (ac×ac):=(fa ρ p.2).bind λq=>.ok (p.1::q.1,q.2)
def Mi(x:D)(q:ac×ac):ai (ac×ac):=.ok (x::q.1,q.2)
def ON(m:ac->ai D)(p:ac×ac):ai (D×ac):=(m p.1).bind λd=>.ok (d,p.2)
def OI(st ds:ac):ai (ac×ac):=.ok (ds,st)
def OK(tg:Ev->D->ai Ev)(s:Ev->ac->ai cw)(ρ:Ev)(p:ac×ac):ai cw:=forM tg s p.1 ρ p.2
def OH(k:Ev->ac->ai (D×ac))(ρ:Ev)(p:D×ac):ai cw:=(k ρ p.2).bind (lE ρ p.1)
section
variable {s t:Ev->ac->ai cw}{S:am}{f g h:Ev->ac->ai (D×ac)}{F:al}{fa:Ev->ac->ai (ac×ac)}{src:Ev->ai (ac)}{srm:Ev->ac->ai (ac×ac)}{tg:Ev->D->ai Ev}{ρ r:Ev}{i j n:Nat}{d x y:D}{st ds xs:ac}{op:D->D->ai D}{a:Py}
def Kk:bM s t ρ st=(s ρ st).bind (zh t):=aH rfl
def GG:zh t (.nx ρ st)=t ρ st:=aH rfl
def GF:zh t (.rt d st)=.ok (.rt d st):=aH rfl
def GP:cK ρ st=.ok (.nx ρ st):=aH rfl
def GL:eW S ρ st=(S ρ).bind (xE st):=aH rfl
def Dr:xE st (.nx ρ)=.ok (.nx ρ st):=aH rfl
def Kj:e9 i f ρ st=(f ρ st).bind (CO i ρ):=aH rfl
def GD:CO i ρ (d,st)=.ok (.nx (ρ.set i (.sh d)) st):=aH rfl
def Km:Fy f ρ st=(f ρ st).bind CP:=aH rfl
def GJ:CP (d,st)=.ok (.rt d st):=aH rfl
def GI:gD F ρ st=(F (gw ρ)).bind (OJ st):=aH rfl
def Dq:OJ st d=.ok (.rt d st):=aH rfl
def MS:FA f s t ρ st=(f ρ st).bind (Fz s t ρ):=aH rfl
def Kq:Fz s t ρ (.bl true,st)=s ρ st:=aH rfl
def Kp:Fz s t ρ (.bl false,st)=t ρ st:=aH rfl
def Oe:mP F ρ st=(F ρ).bind (Jn st):=aH rfl
def MW:Jn st d=.ok (d,st):=aH rfl
def MT{k:Int}:sG st (.int k)=.ok (.int k,st):=aH rfl
def MU{b:Bool}:sG st (.bl b)=.ok (.bl b,st):=aH rfl
def Oc:mV i a F ρ st=vy (jy ρ[i]? a) ((F (vw i ρ st)).bind (sG st)):=aH rfl
def Od:mT F ρ st=(F (gw ρ)).bind (Jn st):=aH rfl
def MV:Nu i a F ρ st=vy (jy ρ[i]? a) ((F (vw i ρ st)).bind (Jn st)):=aH rfl
def MR:jy (some (.pt a)) a=true:=beq_self_eq_true a
def GO{α:Type}{z:ai α}:vy true z=z:=if_pos rfl
def MQ:vw i ρ st=(gw ρ).set i (.sh (.lst st)):=aH rfl
def Ki:Ah (.pt a)=.pt a:=aH rfl
def Of:mB f g op ρ st=(f ρ st).bind (OM g op ρ):=aH rfl
def MY:OM g op ρ (x,st)=(g ρ st).bind (Mj op x):=aH rfl
def MX:Mj op x (y,st)=(op x y).bind (Jn st):=aH rfl
def Ko:dE ρ st=.ok ([],st):=aH rfl
def GR:bR f fa ρ st=(f ρ st).bind (OL fa ρ):=aH rfl
def Dt:OL fa ρ (x,st)=(fa ρ st).bind (Mi x):=aH rfl
def Ds:Mi x (xs,st)=.ok (x::xs,st):=aH rfl
def Og{m:ac->ai D}:mA fa m ρ st=(fa ρ st).bind (ON m):=aH rfl
def MZ{m:ac->ai D}:ON m (ds,st)=(m ds).bind (Jn st):=aH rfl
def GU{m:Py->ac->ac->ai (D×ac)}:cC i a fa m ρ st=vy (jy ρ[i]? a) ((fa ρ st).bind (yd a m)):=aH rfl
def Du{m:Py->ac->ac->ai (D×ac)}:yd a m (ds,st)=m a st ds:=aH rfl
def Kn:vM i a f h ρ st=vy (jy ρ[i]? a) ((f ρ st).bind (OH h ρ)):=aH rfl
def GK:OH h ρ (d,st)=(h ρ st).bind (lE ρ d):=aH rfl
def Ks:CQ i f ρ st=Fm ρ[i]? λds=>(f ρ st).bind (sq i ρ ds):=aH rfl
def GN{k:ac->ai cw}:Fm (some (.ow (.lst ds))) k=k ds:=aH rfl
def zI(e:decide (ds.length<=999)=true):sq i ρ ds (d,st)=.ok (.nx (ρ.set i (.ow (.lst (ds++[d])))) st):=if_pos (Qu (of_decide_eq_true e) (by decide))
def Kh:CN src ρ st=(src ρ).bind (OI st):=aH rfl
def GC:OI st ds=.ok (ds,st):=aH rfl
def GB:zg f ρ st=(f ρ st).bind ug:=aH rfl
def wg{k:Int}(e:-4611686018427387904<=k/\k<4611686018427387904):ug (.int k,st)=.ok (intsFrom 0 k.toNat,st):=if_pos e
def Kr:vN srm tg s ρ st=(srm ρ st).bind (OK tg s ρ):=aH rfl
def GQ:OK tg s ρ (ds,st)=forM tg s ds ρ st:=aH rfl
def GS{fr:bm}:nD n fr srm tg f ρ st=(srm ρ st).bind (qc (eZ n fr ρ) tg f):=aH rfl
def Kl{b:Py->Ev->ac->ai cw}:tT n b a st ds=(b a (.pt a::ds.map Sl.sh++Qd (n-(ds.length+1)) .no) st).bind BU:=aH rfl
def GH:BU (.rt d st)=.ok (d,st):=aH rfl
end
def v5{tg:Ev->D->ai Ev}{body:Ev->ac->ai cw}(I:Nat->Ev->ac->Prop)(ds:ac)(step:∀(j:Nat) (d:D) (ρ:Ev) (st:ac),ds[j]?=some d->I j ρ st->∃ρ1 ρ2 st2,tg ρ d=.ok ρ1/\(body ρ1 st=.ok (.nx ρ2 st2)∨body ρ1 st=.ok (.ct ρ2 st2))/\I (j+1) ρ2 st2) :
  ∀(j:Nat) (ρ:Ev) (st:ac),j<=ds.length->I j ρ st->∃ρ2 st2,forM tg body (ds.drop j) ρ st=.ok (.nx ρ2 st2)/\I ds.length ρ2 st2:=by
 intro j ρ st hj h;generalize hk:ds.length-j=k
 induction k generalizing j ρ st with
 |zero=>
  have:j=ds.length:=by omega
  subst this;exact⟨ρ,st,by rw[Sd];rfl,h⟩
 |succ k ih=>
  have hlt:j<ds.length:=by omega
  obtain⟨ρ1,ρ2,st2,h1,h2,h3⟩:=step j ds[j] ρ st (PL hlt) h;obtain⟨ρ3,st3,h4,h5⟩:=ih (j+1) ρ2 st2 (by omega) h3 (by omega);refine⟨ρ3,st3,?_,h5⟩;rw[QG hlt];unfold DL.forM;rw[h1];rcases h2 with h2|h2
  .simp only[ai.bind,h2];exact h4
  .simp only[ai.bind,h2];exact h4
theorem sT{b:Ev}{tg:Ev->D->ai Ev}{fm:Ev->ac->ai (D×ac)}(I:ac->Prop)(P:D->Prop):∀(ds st:ac),I st->(∀d st,d∈ds->I st->∃ρ1 y st2,tg b d=.ok ρ1/\fm ρ1 st=.ok (y,st2)/\P y/\I st2)->∃es st2,ij b tg fm ds st=.ok (es,st2)/\es.length=ds.length/\(∀e∈es,P e)/\I st2
 |[],st,h,_=>⟨[],st,rfl,rfl,λe he=>by simp at he,h⟩
 |d::ds,st,h,step=>by
  obtain⟨ρ1,y,st1,h1,h2,h3,h4⟩:=step d st (by simp) h;obtain⟨es,st2,k1,k2,k3,k4⟩:=sT I P ds st1 h4 λd' st' hd=>step d' st' (PV _ hd);refine⟨y::es,st2,?_,by simp[k2],λe he=>?_,k4⟩
  .unfold ij
   rw[h1];simp only[ai.bind,h2,k1]
  .rcases P9.mp he with rfl|he
   .exact h3
   .exact k3 e he
end Com
namespace Bor
open PySem L2 DL
abbrev bj:ac->ai D:=Cod.bj
noncomputable def iV:am :=
 (fL (bq 2 (dC (.int 0)))
 (fL (dQ (ae (aa 1) (ao (ag (aa 0) aC) (m1 bS)) Li)
 (aA (bq 2 (ae (aa 0) (aa 1) aN))
 ar)
 ar)
 (u7 (ao (ag (aa 2) (ag (ae (ae (ae (ae (aa 2) (dC (.int 2147483587)) dh) (ae (ae (dC (.int 104729)) (aa 1) cg) (aa 1) cg) cj) (dC (.int 7)) cj) (dC (.int 2147483587)) dh) (ag (ae (aa 2) (ae (dC (.int 10)) (dC (.int 18)) rH) Oi) aC))) du))))
def b7:ac->ai D:=nQ 3 iV
noncomputable def jH:Py->Ev->ac->ai cw:=λa=>
 (bM (FA (Nu 0 a (ae (aa 0) (dC (.int 2)) aN))
 (bM (e9 2 (mV 0 a (ae (ae (aa 0) (dC (.int 0)) aN) (aa 1) dh)))
 (bM (vM 0 a (mV 0 a (ae (ae (aa 0) (dC (.int 0)) aN) (aa 1) lZ)) (mP (dC (.int 0))))
 (bM (vM 0 a (mV 0 a (ae (ae (aa 0) (dC (.int 0)) aN) (dC (.int 0)) KI)) (mP (dC (.int 2))))
 (bM (gD (aa 2))
 cK))))
 cK)
 (bM (eW (bq 3 (dC (.int 0))))
 (bM (vN (CN (kn (ae (dC (.int 1)) (ae (dC (.int 2)) (ao (ag (ae (aa 1) (ae (dC (.int 10)) (dC (.int 6)) rH) KI) aC) (m1 kT)) cg) cj))) (bJ 4)
 (bM (vM 0 a (mV 0 a (ae (ae (ae (ae (aa 0) (dC (.int 1)) aN) (dC (.int 39373)) cg) (dC (.int 17)) cj) (dC (.int 2147483647)) dh)) (mP (dC (.int 1))))
 (bM (e9 3 (mV 0 a (ae (ae (aa 3) (dC (.int 2147483587)) cg) (ae (ae (ae (aa 0) (dC (.int 1)) aN) (ae (aa 0) (dC (.int 1)) aN) cg) (dC (.int 2147483587)) dh) cj)))
 cK)))
 (bM (gD (ae (ae (aa 3) (dC (.int 64)) lZ) (aa 1) dh))
 cK))))
def aO:Py->ac->ac->ai (D×ac):=tT 5 jH
noncomputable def l9:Py->Ev->ac->ai cw:=λa=>
 (bM (e9 2 (nD 1 [0] (CN (kn (dC (.int 8)))) (bJ 0) (cC 1 a (bR (mP (dC (.int 26))) dE) aO)))
 (bM (e9 3 (mB (mP (dC (.int 1))) (cC 0 a (bR (mP (dC (.int 8))) dE) aO) cj))
 (bM (e9 4 (cC 0 a (bR (mP (aa 3)) dE) aO))
 (bM (e9 5 (cC 0 a (bR (mP (dC (.int 26))) dE) aO))
 (bM (e9 6 (mB (mP (ao (ag (dC (.int 1)) (ag (dC (.int 3)) (ag (dC (.int 5)) (ag (dC (.int 7)) (ag (dC (.int 9)) (ag (dC (.int 11)) aC)))))) du)) (cC 0 a (bR (mP (dC (.int 6))) dE) aO) aN))
 (bM (e9 7 (mB (cC 0 a (bR (mP (dC (.int 3))) dE) aO) (mP (dC (.int 0))) mS))
 (bM (eW (kI 8 (ao aC du)))
 (bM (eW (kq (aa 1) (bJ 9)
 (aA (kI 10 (nY (aa 2) fM (fz (aa 3))))
 (aA (BP 10 (ae (ae (aa 5) (ae (aa 6) (aa 9) cg) cj) (dC (.int 26)) dh) (aa 4))
 (aA (dQ (aa 7)
 (aA (kI 10 (nY (aa 2) fM (fz (ae (dC (.int 1)) (ae (ae (aa 5) (aa 9) cj) (dC (.int 8)) dh) cj))))
 ar)
 ar)
 (aA (BQ 10 (ez 8 (sQ (dC (.str "")) (ag (cL 1 [] (iz (aa 10)) (bJ 0) mYes (ae (dC (.str "abcdefghijklmnopqrstuvwxyz")) (aa 0) aN)) aC))))
 ar))))))
 (bM (gD (aa 8))
 cK)))))))))
def dD:Py->ac->ac->ai (D×ac):=tT 11 l9
noncomputable def kE:Py->Ev->ac->ai cw:=λa=>
 (bM (e9 2 (cC 0 a (bR (mP (dC (.int 6))) dE) aO))
 (bM (e9 3 (mB (mP (aa 1)) (cC 0 a (bR (mP (ae (ao (ag (dC (.int 3)) (ag (dC (.int 6)) (ag (dC (.int 20)) (ag (dC (.int 12)) (ag (dC (.int 90)) (ag (ae (dC (.int 10)) (dC (.int 12)) rH) aC)))))) du) (aa 2) aN)) dE) aO) cj))
 (bM (eW (bq 4 (ae (ao (ag (dC (.int 1)) (ag (dC (.int 1)) (ag (dC (.int 1)) (ag (dC (.int 4)) (ag (dC (.int 12)) (ag (dC (.int 12)) aC)))))) du) (aa 2) aN)))
 (bM (eW (bq 5 (ao (ag (dC (.int 1)) (ag (dC (.int 2)) (ag (dC (.int 3)) (ag (dC (.int 4)) (ag (dC (.int 5)) (ag (dC (.int 6)) (ag (dC (.int 10)) (ag (dC (.int 12)) (ag (dC (.int 15)) (ag (dC (.int 20)) (ag (dC (.int 30)) (ag (dC (.int 60)) aC)))))))))))) du)))
 (bM (Fy (mA (bR (mP (aa 3)) (bR (mB (mP (aa 5)) (cC 0 a (bR (mP (aa 4)) dE) aO) aN) dE)) bj))
 cK)))))
def cR:Py->ac->ac->ai (D×ac):=tT 6 kE
noncomputable def Ik:Py->Ev->ac->ai cw:=λa=>
 (FA (mB (cC 0 a (bR (mP (dC (.int 2))) dE) aO) (mP (dC (.int 0))) mS)
 (bM (eW (bq 4 (ae (aa 2) (aa 3) dh)))
 (bM (eW (bq 5 (ae (ae (aa 2) (dC (.int 1)) cj) (aa 3) dh)))
 cK))
 cK)
def EH:Py->Ev->ac->ai cw:=λa=>
 (FA (mB (cC 0 a (bR (mP (dC (.int 4))) dE) aO) (mP (dC (.int 0))) mS)
 (bM (eW (bq 8 (dC (.non))))
 cK)
 cK)
noncomputable def Et:Py->Ev->ac->ai cw:=λa=>
 (FA (mB (cC 0 a (bR (mP (dC (.int 2))) dE) aO) (mP (dC (.int 0))) mS)
 (bM (e9 7 (cC 0 a (bR (mP (aa 4)) dE) aO))
 (bM (e9 8 (mB (mB (mP (ae (aa 7) (dC (.int 1)) cj)) (cC 0 a (bR (mP (ae (aa 4) (dC (.int 1)) nX)) dE) aO) cj) (mP (aa 4)) dh))
 cK))
 cK)
noncomputable def qB:Py->Ev->ac->ai cw:=λa=>
 (bM (eW (bq 3 (ao (ag (aa 1) aC) (m1 bS))))
 (bM (e9 4 (cC 0 a (bR (mP (aa 3)) dE) aO))
 (bM (e9 5 (mB (mB (mP (ae (aa 4) (dC (.int 1)) cj)) (cC 0 a (bR (mP (ae (aa 3) (dC (.int 1)) nX)) dE) aO) cj) (mP (aa 3)) dh))
 (bM (Ik a)
 (bM (e9 6 (mB (mP (ao (ag (dC (.str "one")) (ag (dC (.str "both")) aC)) du)) (cC 0 a (bR (mP (dC (.int 2))) dE) aO) aN))
 (bM (e9 7 (cC 0 a (bR (mP (dC (.int 0))) dE) cR))
 (bM (e9 8 (cC 0 a (bR (mP (dC (.int 1))) dE) cR))
 (bM (EH a)
 (bM (gD (ao (ag (ae (aa 1) (aa 4) aN) (ag (ae (aa 1) (aa 5) aN) (ag (aa 6) (ag (aa 7) (ag (aa 8) aC))))) eJ))
 cK)))))))))
def d7:Py->ac->ac->ai (D×ac):=tT 9 qB
noncomputable def qA:Py->Ev->ac->ai cw:=λa=>
 (bM (e9 3 (cC 0 a (bR (mB (mP (dC (.int 2))) (cC 0 a (bR (mP (ae (aa 1) (dC (.int 1)) nX)) dE) aO) cj) dE) dD))
 (bM (eW (bq 4 (ao (ag (aa 3) aC) (m1 bS))))
 (bM (eW (kI 5 (ao aC du)))
 (bM (vN (zg (cC 0 a (bR (mP (ae (aa 2) (dC (.int 1)) cj)) dE) aO)) (bJ 6)
 (bM (CQ 5 (cC 0 a (bR (mP (aa 3)) (bR (mP (aa 6)) dE)) d7))
 cK))
 (bM (eW (bq 7 (dC (.int 0))))
 (bM (eW (bq 8 (ae (aa 4) (dC (.int 1)) nX)))
 (bM (Et a)
 (bM (gD (ao (ag (aa 3) (ag (aa 5) (ag (ae (aa 3) (aa 7) aN) (ag (ae (aa 3) (aa 8) aN) aC)))) eJ))
 cK))))))))
def dq:Py->ac->ac->ai (D×ac):=tT 9 qA
end Bor
namespace DL
open PySem PySem.Spec PyProof.Rows L2
mutual
def plainD:D->Bool
 |.tup ds=>plainDs ds
 |.lst ds=>plainDs ds
 |.dic _ _=>false
 |.exc _=>false
 |.ob _ _=>false
 |_=>true
def plainDs:ac->Bool
 |[]=>true
 |d::ds=>plainD d&&plainDs ds
end
mutual
/-- the cells of a tree -/
def Ft(K:Px)(H:Hp):D->V->Py->Prop
 |.tup ds,v,b=>∃a vs,v=.ref a/\((b=a/\Rd H a (.tup vs))∨(jd K H a vs/\Fts K H ds vs b))
 |.lst ds,v,b=>∃a vs,v=.ref a/\((b=a/\Rd H a (.lst vs)/\Reps K H ds vs)∨(dR K H a vs/\Reps K H ds vs/\Fts K H ds vs b))
 |_,_,_=>False
def Fts(K:Px)(H:Hp):ac->ad->Py->Prop
 |d::ds,v::vs,b=>Ft K H d v b∨Fts K H ds vs b
 |_,_,_=>False
end
open Classical in
noncomputable def rst(H:Hp) (S:Py->Prop):Hp:=λb=>if S b then H b else none
def xf{H:Hp}{S:Py->Prop}{b:Py}(h:S b):rst H S b=H b:=if_pos h
def lA{H:Hp}{S:Py->Prop}:aB (rst H S) H:=λb o e=>by
 unfold rst at e;split at e
 .exact e
 .cases e
def EX{H:Hp}{S:Py->Prop}{b:Py}(h:rst H S b≠none):S b:=by
 unfold rst at h;split at h
 .assumption
 .exact absurd rfl h
def BX{H:Hp}{S:Py->Prop}{b:Py}{u:HO}(h:S b)(r:Rd H b u):Rd (rst H S) b u:=by
 unfold Rd;rw[xf h];exact r
mutual
theorem Rep.rst{K:Px}{H:Hp}{S:Py->Prop}:∀{d:D}{v:V},plainD d=true->Rep K H d v->(∀b,Ft K H d v b->S b)->Rep K (rst H S) d v
 |.non,_,_,h,_=>by unfold Rep at h ⊢;exact h
 |.bl _,_,_,h,_=>by unfold Rep at h ⊢;exact h
 |.int _,_,_,h,_=>by unfold Rep at h ⊢;exact h
 |.str _,_,_,h,_=>by unfold Rep at h ⊢;exact h
 |.tup ds,_,p,h,s=>by
  obtain⟨a,vs,rfl,e2,e3⟩:=aJ.mp h;unfold plainD at p;refine aJ.mpr ⟨a,vs,rfl,?_,Reps.rst p e3 λb hb=>s b (by unfold Ft;exact⟨a,vs,rfl,.inr ⟨e2,hb⟩⟩)⟩;rcases e2 with e2|e2
  .exact .inl (BX (s a (by unfold Ft;exact⟨a,vs,rfl,.inl ⟨rfl,e2⟩⟩)) e2)
  .exact .inr e2
 |.lst ds,_,p,h,s=>by
  obtain⟨a,vs,rfl,e2,e3⟩:=aF.mp h;unfold plainD at p;refine aF.mpr ⟨a,vs,rfl,?_,Reps.rst p e3 λb hb=>s b (by unfold Ft;exact⟨a,vs,rfl,.inr ⟨e2,e3,hb⟩⟩)⟩;rcases e2 with e2|e2
  .exact .inl (BX (s a (by unfold Ft;exact⟨a,vs,rfl,.inl ⟨rfl,e2,e3⟩⟩)) e2)
  .exact .inr e2
 |.dic _ _,_,p,_,_=>by unfold plainD at p;cases p
 |.exc _,_,p,_,_=>by unfold plainD at p;cases p
 |.ob _ _,_,p,_,_=>by unfold plainD at p;cases p
theorem Reps.rst{K:Px}{H:Hp}{S:Py->Prop}:∀{ds:ac}{vs:ad},plainDs ds=true->Reps K H ds vs->(∀b,Fts K H ds vs b->S b)->Reps K (rst H S) ds vs
 |[],_,_,h,_=>by rw[Reps.nil_iff.mp h];exact Reps.nil
 |d::ds,_,p,h,s=>by
  obtain⟨v,r,rfl,h1,h2⟩:=aE.mp h;unfold plainDs at p;rw[Qg]at p;exact Reps.cons (Rep.rst p.1 h1 λb hb=>s b (by unfold Fts;exact .inl hb)) (Reps.rst p.2 h2 λb hb=>s b (by unfold Fts;exact .inr hb))
end
def yk{K:Px}{H:Hp}{d:D}{i:Int}(h:Rep K H d (.int i)):d=.int i:=by
 cases d with|int j=>rw[az]at h;cases h;rfl|non=>cases aM.mp h|bl b=>cases aI.mp h|str x=>cases Rep.str_iff.mp h|tup ds=>obtain⟨_,_,e,_⟩:=aJ.mp h;cases e|lst ds=>obtain⟨_,_,e,_⟩:=aF.mp h;cases e|dic ks ds=>rw[Rep]at h;obtain⟨_,_,_,e,_⟩:=h;cases e|exc x=>obtain⟨_,_,_,e,_⟩:=jL.mp h;cases e|ob k ds=>obtain⟨_,_,e,_⟩:=ff.mp h;cases e
theorem md{K:Px}{H:Hp}:∀{ds:ac}{ns:List Int},Reps K H ds (ns.map V.int)->ds=ns.map D.int
 |[],[],_=>rfl
 |[],n::ns,h=>by cases Reps.nil_iff.mp h
 |d::ds,[],h=>by obtain⟨_,_,e,_⟩:=aE.mp h;cases e
 |d::ds,n::ns,h=>by
  obtain⟨_,_,e,h1,h2⟩:=aE.mp h;cases e;rw[yk h1,md h2];rfl
theorem fR{K:Px}{H:Hp}:∀{ns:List Int}{vs:ad},Reps K H (ns.map D.int) vs->vs=ns.map V.int
 |[],vs,h=>Reps.nil_iff.mp h
 |n::ns,vs,h=>by
  obtain⟨v,r,rfl,h1,h2⟩:=aE.mp h;rw[az.mp h1,fR h2];rfl
def yl{H:Hp}{a:Py}{xs ys:ad}(h:Rd H a (.lst xs))(h':Rd H a (.lst ys)):xs=ys:=by
 rcases h with h|⟨o,h⟩<;>rcases h' with h'|⟨o',h'⟩<;>rw[h]at h'<;>cases h'<;>rfl
def Rd.lt{H:Hp}{a:Py}{xs ys:ad}(h:Rd H a (.lst xs))(h':Rd H a (.tup ys)):False:=by
 rcases h with h|⟨o,h⟩<;>rcases h' with h'|⟨o',h'⟩<;>rw[h]at h'<;>cases h'
mutual
/-- a list of just these numbers stands in the tree -/
def gO(ns:List Int):D->Prop
 |.tup ds=>hasIs ns ds
 |.lst ds=>ds=ns.map D.int∨hasIs ns ds
 |_=>False
def hasIs(ns:List Int):ac->Prop
 |[]=>False
 |d::ds=>gO ns d∨hasIs ns ds
end
mutual
theorem Ft.ints{K:Px}{H:Hp}{ns:List Int}{b:Py}(r:Rd H b (.lst (ns.map V.int))):∀{d:D}{v:V},Ft K H d v b->gO ns d
 |.non,_,h=>by unfold Ft at h;exact h.elim
 |.bl _,_,h=>by unfold Ft at h;exact h.elim
 |.int _,_,h=>by unfold Ft at h;exact h.elim
 |.str _,_,h=>by unfold Ft at h;exact h.elim
 |.dic _ _,_,h=>by unfold Ft at h;exact h.elim
 |.exc _,_,h=>by unfold Ft at h;exact h.elim
 |.ob _ _,_,h=>by unfold Ft at h;exact h.elim
 |.tup ds,_,h=>by
  unfold Ft at h;unfold gO;obtain⟨a,vs,rfl,⟨rfl,h⟩|⟨_,h⟩⟩:=h
  .exact(Rd.lt r h).elim
  .exact Fts.ints r h
 |.lst ds,_,h=>by
  unfold Ft at h;unfold gO;obtain⟨a,vs,rfl,⟨rfl,h,h'⟩|⟨_,_,h⟩⟩:=h
  .cases yl r h
   exact .inl (md h')
  .exact .inr (Fts.ints r h)
theorem Fts.ints{K:Px}{H:Hp}{ns:List Int}{b:Py}(r:Rd H b (.lst (ns.map V.int))):∀{ds:ac}{vs:ad},Fts K H ds vs b->hasIs ns ds
 |[],_,h=>by unfold Fts at h;exact h.elim
 |d::ds,[],h=>by unfold Fts at h;exact h.elim
 |d::ds,v::vs,h=>by
  unfold Fts at h;unfold hasIs;rcases h with h|h
  .exact .inl (Ft.ints r h)
  .exact .inr (Fts.ints r h)
end
def Vw(A:Py->Prop)(H H2:Hp):Prop:=∀c,H2 c=H c∨(A c/\∃o u,H c=some (.frz o u)/\H2 c=some u)
def Vw.keep{A:Py->Prop}{H H2:Hp}(v:Vw A H H2){c:Py}{u:HO}(e:H c=some u)(n:∀o w,u≠.frz o w):H2 c=some u:=by
 rcases v c with h|⟨_,o,w,h,_⟩
 .rw[h];exact e
 .rw[e]at h;cases h;exact absurd rfl (n o w)
def Vw.none{A:Py->Prop}{H H2:Hp}(v:Vw A H H2){c:Py}(e:H c=SX):H2 c=SX:=by
 rcases v c with h|⟨_,o',w,h,h2⟩
 .rw[h];exact e
 .rw[e]at h;cases h
def cv.view{P:Qw}{w:QK}{A:Py->Prop}{H H2:Hp}{h:Qo}{a:Py}{o:HO}(v:Vw A H H2)(x:cv P w H h a o):cv P w H2 h a o :=
 x.stay (λb u _ q=>q) (λb q=>v.keep q (λ_ _ z=>by cases z)) λb xs q=>v.keep q (λ_ _ z=>by cases z)
def Inv.view{X:Cx}{π:List (Py×Obj)}{σ:List (Option V)}{H H2:Hp}{s:PF}(v:Vw (λc=>X.Ha c=none) H H2)(I:Inv X π σ H s):Inv X π σ H2 s:=by
 refine⟨I.ok,I.os,I.bare,⟨I.base.keep,I.base.slot,λb o e n hx=>v.none (I.base.free b o e n hx),I.base.there,λb xs e=>v.keep (I.base.tups b xs e) (λ_ _ z=>by cases z),λb o u e=>?_,λb ps e=>?_⟩,I.loc,I.cell,v.none I.free,λx c e=>v.none (I.freeC x c e),λp hp=>?_,λa o e=>?_,I.len⟩
 .have h1:=I.base.frzs b o u e
  rcases v b with h|⟨h,_⟩
  .rw[h];exact h1
  .rw[e]at h;cases h
 .obtain⟨m,h1⟩:=I.base.tbls b ps e
  exact⟨m,v.keep h1 (λ_ _ z=>by cases z)⟩
 .obtain⟨h1,h2,h3⟩:=I.pin p hp
  exact⟨h1,v.none h2,h3⟩
 .rcases v a with h|⟨_,ob,u,h,h2⟩
  .rw[h]at e;exact cv.view v (I.hok a o e)
  .rw[h2]at e;obtain rfl:u=o:=QN e
   obtain⟨_,q⟩:=(show cv X.prog X.w H s.heap a (.frz ob u) from I.hok a _ h)
   exact cv.view v q
def Ce{X:Cx}{st:List Q1}{t:TS}(h:qL X st t):qL X st λG σ H=>∃H2,Vw (λc=>X.Ha c=none) H H2/\t G σ H2 :=
 λπ s σ H G I ⟨H2,v,q⟩=>h π s σ H2 G (Inv.view v I) q
def A9(K:Px):Prop:=∀a o,K.lookup a=some o->o.cls≠.type "list"
def A9.rd{K:Px}{H:Hp}{a:Py}{xs:ad}(n:A9 K)(h:dR K H a xs):Rd H a (.lst xs):=by
 rcases h with h|⟨o,its,k,h1,h2,_⟩
 .exact h
 .exact absurd h2 (n a o h1)
def kz(ρ:Ev):Bool:=ρ.all λs=>match s with
 |.ow _=>false
 |.ox _ _=>false
 |_=>true
section
variable {K:Px}{He η Ha H H2:Hp}{σ:L2.St}{ρ:Ev}{a:Py}{st:ac}{vs:ad}
def kz.ow(h:kz ρ=true){i:Nat}{d:D}(e:ρ[i]?=some (.ow d)):False:=by
 have:=P7.mp h _ (PU e);cases this
def kz.ox(h:kz ρ=true){i j:Nat}{ds:ac}(e:ρ[i]?=some (.ox j ds)):False:=by
 have:=P7.mp h _ (PU e);cases this
def cZ.poke(h:cZ K He η Ha σ H ρ)(n:kz ρ=true)(hs:aB He H2)(hz:aB Ha H2):cZ K He η Ha σ H2 ρ :=
 ⟨⟨hs,h.g.z,hz,h.g.nw⟩,h.rd,λi d e=>(kz.ow n e).elim,λi j d d' _ e=>(kz.ow n e).elim,h.ln,⟨λi j ds e=>(kz.ox n e).elim,h.ex.2⟩⟩
def fF.poke(h:fF K He η Ha σ H ρ a st vs)(n:kz ρ=true)(hs:aB (upd He a (.lst vs)) H2)(hz:aB Ha H2):fF K He η Ha σ H2 ρ a st vs :=
 ⟨h.ha,h.h0,hs _ _ aG,h.r,h.s.poke n hs hz⟩
def cZ.dropT(h:cZ K He η Ha σ H ρ){i:Nat}{v:V}:cZ K He η Ha (σ.set i (some v)) H (ρ.set i .no):=by
 have key:∀(j:Nat) (s:Sl),(ρ.set i .no)[j]?=some s->s=.no∨(j≠i/\ρ[j]?=some s):=λj s e=>by
  by_cases hj:i=j
  .subst hj
   rw[Q6]at e;cases q:ρ[i]? with|none=>rw[q]at e;cases e|some s'=>rw[q]at e;cases e;exact .inl rfl
  .rw[PB hj]at e
   exact .inr ⟨λz=>hj z.symm,e⟩
 refine⟨h.g,λj d' e=>?_,λj d' e=>?_,λj k d1 d2 hn e1 e2=>?_,by simp[h.ln],h.ex.upd (λj s e=>?_) (aB.refl _) (λa vs _ e=>e) λp us _ h0 hp _=>⟨hp,h0⟩⟩
 .rcases key j _ e with e'|⟨hj,e'⟩
  .cases e'
  .obtain⟨v',h1,h2⟩:=h.rd j d' e'
   exact⟨v',by rw[PB (Qx hj)];exact h1,h2⟩
 .rcases key j _ e with e'|⟨hj,e'⟩
  .cases e'
  .obtain⟨b,h1,h2⟩:=h.ow j d' e'
   exact⟨b,by rw[PB (Qx hj)];exact h1,h2⟩
 .rcases key j _ e1 with e'|⟨hj,e1'⟩
  .cases e'
  rcases key k _ e2 with e'|⟨hk,e2'⟩
  .cases e'
  rw[PB (Qx hj),PB (Qx hk)];exact h.ap j k d1 d2 hn e1' e2'
 .rcases key j _ e with e'|⟨hj,e'⟩
  .exact .inr (.inr (.inl e'))
  .exact .inl ⟨e',by rw[PB (Qx hj)]⟩
end
def vY{He Ha H H':Hp}(s:aB H H'):aB (frz He Ha H) (frz He Ha H'):=λc o e=>by
 unfold frz at e ⊢;cases q:He c with|none=>rw[q]at e;exact s _ _ e|some _=>rw[q]at e;exact e
def vx(x:Nat)(d:D)(ρ:Ev):Ev:=(gw ρ).set x (.sh d)
section
variable {X:Cx}{E:XK}{He η:Hp}{a:Py}{x:Nat}{st:Q1}{rest:List Q1}{e b c:Qc}{pos:Pos}{f fk:al}{g:D->Ev->ac->ai cw}{s r:Ev->ac->ai cw}
def BW(r:cw):ai cw:=match r with
 |.rt d st=>.ok (.rt d st)
 |_=>.stuck
def iY(js:bm)(ρ:Ev):Ev:=ρ.mapIdx λi s=>if js.contains i then s else .no
def vR{js:bm}{ρ:Ev}{i:Nat}{d:D}(h:(iY js ρ)[i]?=some (.sh d)):i∈js/\ρ[i]?=some (.sh d):=by
 unfold iY at h;rw[List.getElem?_mapIdx]at h;cases q:ρ[i]? with
 |none=>rw[q]at h;cases h
 |some s=>
  rw[q]at h;simp only[Rx,Rb]at h
  by_cases c:js.contains i=true
  .rw[if_pos c]at h;exact⟨by simpa using c,by rw[h]⟩
  .rw[if_neg c]at h;cases h
end
def O3:Option HO->Option HO
 |some (.frz _ u)=>some u
 |o=>o
def wQ(l:List Py)(H:Hp):Hp:=λc=>if c∈l then O3 (H c) else H c
def Ib{A:Py->Prop}{l:List Py}{H:Hp}(h:∀c∈l,A c):Vw A H (wQ l H):=λc=>by
 unfold wQ
 by_cases hc:c∈l
 .rw[if_pos hc]
  cases q:H c with
  |none=>exact .inl rfl
  |some o=>
   cases o with|frz ob u=>exact .inr ⟨h c hc,ob,u,rfl,rfl⟩| _=>exact .inl rfl
 .rw[if_neg hc];exact .inl rfl
def EC{l:List Py}{H:Hp}{c:Py}{xs:ad}(hc:c∈l)(r:Rd H c (.lst xs)):wQ l H c=some (.lst xs):=by
 unfold wQ;rw[if_pos hc];rcases r with r|⟨o,r⟩<;>rw[r]<;>rfl
def ud{ρ:Ev}{x:Nat}(h:kz ρ=true):kz (ρ.set x .no)=true:=by
 unfold kz at h ⊢;rw[P7]at h ⊢;intro s hs;rcases Sf hs with h1|h1
 .exact h s h1
 .subst h1;rfl
end DL
namespace DL
open PySem L2
def OR(o:Obj):Bool:=match o.cls with
 |.type n=>n=="list"
 |_=>false
def Jl(K:Px):Bool:=K.all λp=>!OR p.2
theorem zd:∀{K:Px},Jl K=true->A9 K
 |[],_,_,_,h=>by cases h
 |(b,q)::K,h,a,o,e=>by
  unfold Jl at h;rw[Si,Qg]at h;rw[TU]at e;split at e
  .cases e
   intro z;have h1:=h.1;unfold OR at h1;simp only[z]at h1;exact absurd h1 (by decide)
  .exact zd (K:=K) h.2 a o e
end DL
namespace DL
open PySem PySem.Spec PyProof.Rows L2
def Jj(js:bm)(ρ:Ev):Bool:=js.all λj=>match ρ[j]? with
 |some (.sh d)=>plainD d
 |_=>true
mutual
/-- a plain tree,and its lists' cells in their order -/
def RL(K:Px)(H:Hp):D->V->List Py->Prop
 |.lst ds,v,l=>∃a vs r,v=.ref a/\dR K H a vs/\RLs K H ds vs r/\l=a::r
 |.tup ds,v,l=>∃a vs,v=.ref a/\jd K H a vs/\RLs K H ds vs l
 |.non,v,l=>v=.non/\l=[]
 |.bl b,v,l=>v=.bl b/\l=[]
 |.int i,v,l=>v=.int i/\l=[]
 |.str x,v,l=>v=.str x/\l=[]
 |_,_,_=>False
def RLs(K:Px)(H:Hp):ac->ad->List Py->Prop
 |[],vs,l=>vs=[]/\l=[]
 |d::ds,vs,l=>∃v r l1 l2,vs=v::r/\RL K H d v l1/\RLs K H ds r l2/\l=l1++l2
end
section
variable {K:Px}{H H':Hp}
mutual
theorem RL.mono(s:aB H H'):∀{d:D}{v:V}{l:List Py},RL K H d v l->RL K H' d v l
 |.lst ds,_,_,h=>by unfold RL at h ⊢;obtain⟨a,vs,r,h1,h2,h3,h4⟩:=h;exact⟨a,vs,r,h1,aB.sqL s h2,RLs.mono s h3,h4⟩
 |.tup ds,_,_,h=>by unfold RL at h ⊢;obtain⟨a,vs,h1,h2,h3⟩:=h;exact⟨a,vs,h1,aB.sqT s h2,RLs.mono s h3⟩
 |.non,_,_,h=>by unfold RL at h ⊢;exact h
 |.bl _,_,_,h=>by unfold RL at h ⊢;exact h
 |.int _,_,_,h=>by unfold RL at h ⊢;exact h
 |.str _,_,_,h=>by unfold RL at h ⊢;exact h
 |.dic _ _,_,_,h=>by unfold RL at h;exact h.elim
 |.exc _,_,_,h=>by unfold RL at h;exact h.elim
 |.ob _ _,_,_,h=>by unfold RL at h;exact h.elim
theorem RLs.mono(s:aB H H'):∀{ds:ac}{vs:ad}{l:List Py},RLs K H ds vs l->RLs K H' ds vs l
 |[],_,_,h=>by unfold RLs at h ⊢;exact h
 |d::ds,_,_,h=>by unfold RLs at h ⊢;obtain⟨v,r,l1,l2,h1,h2,h3,h4⟩:=h;exact⟨v,r,l1,l2,h1,RL.mono s h2,RLs.mono s h3,h4⟩
end
mutual
theorem RL.rep:∀{d:D}{v:V}{l:List Py},RL K H d v l->Rep K H d v
 |.lst ds,_,_,h=>by unfold RL at h;obtain⟨a,vs,r,h1,h2,h3,h4⟩:=h;exact aF.mpr ⟨a,vs,h1,h2,RLs.reps h3⟩
 |.tup ds,_,_,h=>by unfold RL at h;obtain⟨a,vs,h1,h2,h3⟩:=h;exact aJ.mpr ⟨a,vs,h1,h2,RLs.reps h3⟩
 |.non,_,_,h=>by unfold RL at h;exact aM.mpr h.1
 |.bl _,_,_,h=>by unfold RL at h;exact aI.mpr h.1
 |.int _,_,_,h=>by unfold RL at h;exact az.mpr h.1
 |.str _,_,_,h=>by unfold RL at h;exact Rep.str_iff.mpr h.1
 |.dic _ _,_,_,h=>by unfold RL at h;exact h.elim
 |.exc _,_,_,h=>by unfold RL at h;exact h.elim
 |.ob _ _,_,_,h=>by unfold RL at h;exact h.elim
theorem RLs.reps:∀{ds:ac}{vs:ad}{l:List Py},RLs K H ds vs l->Reps K H ds vs
 |[],_,_,h=>by unfold RLs at h;rw[h.1];exact Reps.nil
 |d::ds,_,_,h=>by unfold RLs at h;obtain⟨v,r,l1,l2,rfl,h2,h3,h4⟩:=h;exact Reps.cons (RL.rep h2) (RLs.reps h3)
end
mutual
theorem RL.dom(nl:A9 K):∀{d:D}{v:V}{l:List Py},RL K H d v l->∀b∈l,H b≠none
 |.lst ds,_,_,h=>by
  unfold RL at h;obtain⟨a,vs,r,h1,h2,h3,rfl⟩:=h;intro b hb;rcases P9.mp hb with rfl|hb
  .rcases nl.rd h2 with q|⟨_,q⟩<;>rw[q]<;>simp
  .exact RLs.dom nl h3 b hb
 |.tup ds,_,_,h=>by unfold RL at h;obtain⟨a,vs,h1,h2,h3⟩:=h;exact RLs.dom nl h3
 |.non,_,_,h=>by unfold RL at h;rw[h.2];exact λ_ z=>by cases z
 |.bl _,_,_,h=>by unfold RL at h;rw[h.2];exact λ_ z=>by cases z
 |.int _,_,_,h=>by unfold RL at h;rw[h.2];exact λ_ z=>by cases z
 |.str _,_,_,h=>by unfold RL at h;rw[h.2];exact λ_ z=>by cases z
 |.dic _ _,_,_,h=>by unfold RL at h;exact h.elim
 |.exc _,_,_,h=>by unfold RL at h;exact h.elim
 |.ob _ _,_,_,h=>by unfold RL at h;exact h.elim
theorem RLs.dom(nl:A9 K):∀{ds:ac}{vs:ad}{l:List Py},RLs K H ds vs l->∀b∈l,H b≠none
 |[],_,_,h=>by unfold RLs at h;rw[h.2];exact λ_ z=>by cases z
 |d::ds,_,_,h=>by
  unfold RLs at h;obtain⟨v,r,l1,l2,rfl,h2,h3,rfl⟩:=h;intro b hb;rcases QJ.mp hb with hb|hb
  .exact RL.dom nl h2 b hb
  .exact RLs.dom nl h3 b hb
end
def RLs.nil:RLs K H [] [] []:=by unfold RLs;exact⟨rfl,rfl⟩
def RLs.cons{d:D}{v:V}{l1 l2:List Py}{ds:ac}{vs:ad}(h:RL K H d v l1)(h':RLs K H ds vs l2):RLs K H (d::ds) (v::vs) (l1++l2):=by unfold RLs;exact⟨v,vs,l1,l2,rfl,h,h',rfl⟩
theorem RLs.app:∀{ds es:ac}{vs us:ad}{l1 l2:List Py},RLs K H ds vs l1->RLs K H es us l2->RLs K H (ds++es) (vs++us) (l1++l2)
 |[],_,_,_,_,_,h,h'=>by unfold RLs at h;rw[h.1,h.2];exact h'
 |d::ds,_,_,_,_,_,h,h'=>by
  unfold RLs at h;obtain⟨v,r,l1,l2,rfl,h2,h3,rfl⟩:=h;rw[S8];exact RLs.cons h2 (RLs.app h3 h')
end
mutual
/-- no list in it -/
def mH:D->Bool
 |.non=>true
 |.bl _=>true
 |.int _=>true
 |.str _=>true
 |.tup ds=>lfrs ds
 |_=>false
def lfrs:ac->Bool
 |[]=>true
 |d::ds=>mH d&&lfrs ds
end
mutual
theorem RL.of{K:Px}{H:Hp}:∀{d:D}{v:V},mH d=true->Rep K H d v->RL K H d v []
 |.non,_,_,h=>by unfold RL;exact⟨aM.mp h,rfl⟩
 |.bl _,_,_,h=>by unfold RL;exact⟨aI.mp h,rfl⟩
 |.int _,_,_,h=>by unfold RL;exact⟨az.mp h,rfl⟩
 |.str _,_,_,h=>by unfold RL;exact⟨Rep.str_iff.mp h,rfl⟩
 |.tup ds,_,n,h=>by
  obtain⟨a,vs,h1,h2,h3⟩:=aJ.mp h;unfold mH at n;unfold RL;exact⟨a,vs,h1,h2,RLs.of n h3⟩
 |.lst _,_,n,_=>by unfold mH at n;cases n
 |.dic _ _,_,n,_=>by unfold mH at n;cases n
 |.exc _,_,n,_=>by unfold mH at n;cases n
 |.ob _ _,_,n,_=>by unfold mH at n;cases n
theorem RLs.of{K:Px}{H:Hp}:∀{ds:ac}{vs:ad},lfrs ds=true->Reps K H ds vs->RLs K H ds vs []
 |[],_,_,h=>by rw[Reps.nil_iff.mp h];exact RLs.nil
 |d::ds,_,n,h=>by
  obtain⟨v,r,rfl,h1,h2⟩:=aE.mp h;unfold lfrs at n;rw[Qg]at n;exact RLs.cons (l1:=[]) (l2:=[]) (RL.of n.1 h1) (RLs.of n.2 h2)
end
def rY(K:Px)(E:XK)(H Ha:Hp)(r:ai D)(Q:VK):Prop:=match r with
 |.ok d=>∀v H' Ha' l,aU H Ha H' Ha'->RL K Ha' d v l->l.Nodup->(∀b∈l,H b=none)->Q v H'
 |.exn x=>∀C ox H' Ha',aU H Ha H' Ha'->wN K Ha' x C ox->E C ox H'
 |.stuck=>False
def Nq(K:Px)(n:Nat)(m:ac->ai D):Sp:=λvs H Q E=>vs.length=n/\∃Ha ds,aB Ha H/\Reps K Ha ds vs/\rY K E H Ha (m ds) Q
noncomputable def xo(K:Px) (E:XK) (He η Ha:Hp) (r:ai Fl) (D:eV):Prop:=match r with
 |.ok (.rt d)=>∀v H Ha' l,aU He η H Ha'->RL K Ha' d v l->l.Nodup->(∀b∈l,He b=none)->D.rt v H
 |.exn x=>∀C ox H Ha',aU He η H Ha'->wN K Ha' x C ox->E C ox H
 |_=>False
def O6(K:Px)(E:XK)(He η:Hp)(g:am):TS:=λD σ H=>∃Ha ρ,cZ K He η Ha σ H ρ/\xo K E He η Ha (g ρ) D
structure D9 (X:Cx) (E:XK) (He η:Hp) (st:List Q1) (g:am):Prop where
 o:qL X st (O6 X.K E He η g)
def mO{X:Cx}{E:XK}{He η:Hp}{st:Q1}{rest:List Q1}{s t:am}(h1:DS X E He η st s)(h2:D9 X E He η rest t):D9 X E He η (st::rest) (fL s t):=by
 refine⟨?_⟩;refine cq (bV h1.o h2.o) λD σ H z9=>?_;obtain⟨Ha,ρ,h,q⟩:=z9;refine⟨Ha,ρ,h,?_⟩
 unfold fL at q;cases e1:s ρ with
 |stuck|exn x=>rw[e1]at q;exact q
 |ok r=>
  rw[e1]at q;cases r with|nx ρ'=>exact λσ' H' Ha' s' h'=>⟨Ha',ρ',h',q⟩|rt d|bk ρ'|ct ρ'=>exact q.elim
def L7(r:Fl):ai D:=match r with
 |.rt d=>.ok d
 |_=>.stuck
def BR(n:Nat)(s:am)(ds:ac):ai D:=(s (ds.map Sl.sh++Qd (n-ds.length) .no)).bind L7
def xO{P:Qw}{w:QK}{K:Px}{mg:PY->Option Pw}{base:Qo}{x qual:PY}{st:Q1}{f:Py}{fd:QI}{N ps:bi}{k:Nat}{s:am}(F:Eh K x qual st f fd)(S:fS N ps (defScope st))
  (hbody:∀(cdv:Pw) (A:QV) (outer:List Ru) (s0:PF) (H Ha:Hp) (E:XK),da k (A.deeper (envOfC qual (defScope st) s0.heap.objs.size f cdv)) ->
   D9 (l3 CX0 P w K mg base N qual (defScope st) f cdv A outer s0 H E).nox E H Ha (defBody st) s):gp P w K mg base CX0 (k+1) f fd ps (Nq K ps.length (BR N.length s)):=by
 have hpl:ps.length<=N.length:=by have:=congrArg S0 S.pre;rw[QO]at this;omega
 refine F.ok S (λvs H Q E h=>h.1) λcdv A outer s0 H vs Q E hr h=>?_;obtain⟨hn,Ha,ds,hs,hv,q⟩:=h;refine⟨_,(hbody cdv A outer s0 H Ha E hr).o,Ha,ds.map Sl.sh++Qd (N.length-ds.length) .no,?_,?_⟩
 .refine⟨aU.refl hs,ji hv,λi d e=>?_,λi j d d' hij e=>?_,?_,OX.none mv kG⟩
  .by_cases hi:i<ds.length
   .rw[P0 (by simpa using hi),PN]at e
    cases q:ds[i]? with|none|some d'=>rw[q]at e;cases e
   .rw[P6 (by simpa using hi),Qb]at e
    split at e<;>cases e
  .by_cases hi:i<ds.length
   .rw[P0 (by simpa using hi),PN]at e
    cases q:ds[i]? with|none|some d'=>rw[q]at e;cases e
   .rw[P6 (by simpa using hi),Qb]at e
    split at e<;>cases e
  .unfold L2.start
   have:=hv.length;simp only[Qs,Pz,Qy];omega
 .unfold BR at q
  cases e1:s (ds.map Sl.sh++Qd (N.length-ds.length) .no) with
  |stuck|exn x=>rw[e1]at q;exact q
  |ok r=>
   rw[e1]at q;cases r with|rt d=>exact q| _=>exact q.elim
section
variable {P:Qw}{w:QK}{K:Px}{mg:PY->Option Pw}{base:Qo}{rows:List Rw}{A:Nat->Py}{Q:Nat->QI}{i k n:Nat}{r:Rw}{s:am}
def oU(T:TG rows K mg A Q)(S:NA rows)(h:rows[i]?=some r)(b:∀(cdv:Pw) (A':QV) (outer:List Ru) (s0:PF) (H Ha:Hp) (E:XK),da k (A'.deeper (envOfC r.x (defScope r.st) s0.heap.objs.size (A i) cdv)) ->
   D9 (l3 CX0 P w K mg base r.N r.x (defScope r.st) (A i) cdv A' outer s0 H E).nox E H Ha (defBody r.st) s):eU P w K mg base CX0 (k+1) (A i) (Q i) r.ps (Nq K r.ps.length (BR r.N.length s)) r.x r.st :=
 ⟨xO (T i r h).F (S r (PU h)) b,T i r h⟩
end
def tU(K:Px)(E:XK)(f:al):TE:=λσ H Q=>∃Ha ρ,aB Ha H/\Reads K Ha σ ρ/\rY K E H Ha (f ρ) Q
structure DU (X:Cx) (E:XK) (e:Qc) (f:al):Prop where
 o:PE X e (tU X.K E f)
def rY.grow{K:Px}{E:XK}{H Ha H1 H01:Hp}{r:ai D}{Q:VK}(h:rY K E H Ha r Q)(g:aU H Ha H1 H01):rY K E H1 H01 r Q:=by
 cases r with|ok d=>exact λv H' Ha' l g' r n o=>h v H' Ha' l (g.trans g') r n λb hb=>g.s.free (o b hb)|exn x=>exact λC ox H' Ha' g'=>h C ox H' Ha' (g.trans g')|stuck=>exact h
section
variable {X:Cx}{E:XK}{e:Qc}{es:List Qc}{fa:Ev->ai (ac)}{pos:Pos}{CX:qK}{k k0 n:Nat}{fn:Py}{fd:QI}{ps:bi}{m:ac->ai D}{x:PY}{p:Pos}{st:Q1}
def rU(B:eU X.prog X.w X.K X.mg X.base CX k0 fn fd ps (Nq X.K n m) x st)(hr:da k X.A)(ha:DA X E (e::es) fa)(hle:k0<=k:=by decide)(hx:fK CX X E:=by first|exact vn|exact pass0E|exact passesE)(hl:∀ρ ds,fa ρ=.ok ds->ds.length=(e::es).length:=by first|exact Ny|exact Nx|exact Nw|exact Ol|exact al5)(hn:(e::es).length=n:=by rfl)
  (hg:Gl X x:=by exact rfl)(hdb:(x==("__debug__" : PY))=false:=by decide)(he:PM (e::es) X.env=(false,eval e X.env)::PM es X.env:=by exact ba rfl)(hpl:(QZ pos (PM es X.env)).any (·.1)=false:=by exact bX rfl) :
  DU X E (.Call (.Name x p) (e::es) [] pos) (ao fa m):=by
 refine⟨?_⟩;refine aW (lG (B.F.mono hle) hr hg B.t.g B.t.F.kp B.t.b .nil hx ha.o hdb he hpl) λσ H Q h=>?_;obtain⟨Ha,ρ,hs,hr,q⟩:=h;refine⟨Ha,ρ,hs,hr,?_⟩;unfold ao at q;cases e1:fa ρ with
 |stuck|exn x=>rw[e1]at q;exact q
 |ok ds=>
  rw[e1]at q;intro v H1 H01 g1 r1;refine⟨?_,H01,ds,g1.sub,by simpa using r1,rY.grow (r:=m ds) q g1⟩;have:=r1.length;have:=hl ρ ds e1;simp only[QC];omega
end
structure AV (K:Px) (He Ha:Hp) (σ:L2.St) (H:Hp) (x:Nat) (ds:ac):Prop where
 p:∃a vs l,σ[x]?=some (some (.ref a))/\He a=none/\Ha a=none/\H a=some (.lst vs)/\RLs K Ha ds vs l/\l.Nodup/\∀b∈l,He b=none
def Nt(js:bm)(ρ:Ev)(d:D):Prop:=Jj js ρ=true/\(d=.non∨∃ns:List Int,d=.lst (ns.map D.int)/\∀j∈js,∀d',ρ[j]?=some (.sh d')->¬gO ns d')
open Classical in
noncomputable def eg(y w:Nat) (js:bm) (f fe:al) (ρ:Ev) (ds:ac) (k:Nat):ai (Ev×ac) :=
 match f (iY js (ρ.set y (.sh (.int (k:Int))))) with
 |.ok (.tup (d0::dr))=>match fe ((ρ.set y (.sh (.int (k:Int)))).set w (.sh (.tup (d0::dr)))) with
  |.ok e=>if Nt js (ρ.set y (.sh (.int (k:Int)))) d0/\mH e=true/\ds.length<line/\kz ρ=true then .ok ((ρ.set y (.sh (.int (k:Int)))).set w (.sh (.tup (d0::dr))),ds++[.tup [e,d0]]) else .stuck
  |_=>.stuck
 |_=>.stuck
def iX(t:Ev->ac->Nat->ai (Ev×ac)):Nat->Nat->Ev->ac->ai (Ev×ac)
 |0,_,ρ,ds=>.ok (ρ,ds)
 |n+1,k,ρ,ds=>(t ρ ds k).bind λp=>iX t n (k+1) p.1 p.2
noncomputable def rV(x y w:Nat) (js:bm) (fn f fe:al):am:=λρ=>match ρ[x]? with
 |some (.ow (.lst []))=>match fn (ρ.set x .no) with
  |.ok (.int n)=>if 0<=n/\n<1000000/\w<ρ.length then match iX (eg y w js f fe) n.toNat 0 (ρ.set x .no) [] with
   |.ok p=>.ok (.rt (.lst p.2))
   |_=>.stuck
   else .stuck
  |_=>.stuck
 |_=>.stuck
def jn(Ha Hm:Hp):Hp:=λc=>match Ha c with
 |some o=>some o
 |none=>Hm c
section
variable {X:Cx}{E:XK}{He η:Hp}{iter e e1:Qc}{fn f fe:al}
def FK{S:Py->Prop}{H Ha H' Hm:Hp}(hs:aB Ha H)(g:aU H (rst Ha S) H' Hm):aU H Ha H' (jn Ha Hm)/\aB Hm (jn Ha Hm):=by
 refine⟨⟨g.s,λc o z=>by unfold jn;rw[z],λc o z=>?_,λc h1 h2=>?_⟩,λc o z=>?_⟩
 .unfold jn at z
  cases q:Ha c with|none=>rw[q]at z;exact g.sub _ _ z|some u=>rw[q]at z;cases z;exact g.s _ _ (hs _ _ q)
 .unfold jn at h1
  rw[h2]at h1;exact g.nw c h1 (lA.free h2)
 .unfold jn
  cases q:Ha c with
  |none=>exact z
  |some u=>
   by_cases sc:S c
   .have:=g.z c u (by rw[xf sc];exact q)
    rw[z]at this;cases this;rfl
   .have:=g.nw c (by rw[z];simp) (by unfold rst;rw[if_neg sc])
    rw[hs _ _ q]at this;cases this
theorem sr:∀ns:List Int,lfrs (ns.map D.int)=true
 |[]=>by unfold List.map lfrs;rfl
 |n::r=>by unfold List.map lfrs;rw[sr r];unfold mH;rfl
def zY(js:bm){x y w:Nat}{k0:Int}{k m:Nat}{σ:L2.St}{H Ha:Hp}{ρ:Ev}{ds:ac}{pf:Ev×ac}{D':eV}(hk:k0=0)(hxy:x≠y)(hxw:x≠w)(hyw:y≠w)(hK:A9 X.K)
  (h:cZ X.K He η Ha σ H ρ)(av:AV X.K He Ha σ H x ds)(el:iX (eg y w js f fe) (m+1) k ρ ds=.ok pf)(hwl:w<ρ.length) 
  (hN:∀σ H,(∃Ha ρ ds,w<ρ.length/\cZ X.K He η Ha σ H ρ/\AV X.K He Ha σ H x ds/\iX (eg y w js f fe) m (k+1) ρ ds=.ok pf)->D'.nx σ H) :
  tK (Ac (tD X.K E f) (pO w)) (tK (uZ (LA X.K "list" lD (tJ x) (jh (EL (jh (tD X.K E fe) (jh (EM (B6 X.K) (tJ w) (tC (.int k0))) uY))) uY))) nc) D' (σ.set y (some (.int (0+(k:Int))))) H:=by
 rw[Int.zero_add];show tD X.K E f _ H _;unfold iX at el;cases e1:f (iY js (ρ.set y (.sh (.int (k:Int))))) with
 |stuck|exn z=>unfold eg at el;rw[e1]at el;cases el
 |ok dd=>
 cases dd with
 |tup dr0=>
  cases dr0 with
  |nil=>unfold eg at el;rw[e1]at el;cases el
  |cons d0 dr=>
  cases e2:fe ((ρ.set y (.sh (.int (k:Int)))).set w (.sh (.tup (d0::dr)))) with
  |stuck|exn z=>unfold eg at el;rw[e1]at el;dsimp only at el;rw[e2]at el;cases el
  |ok d1=>
  by_cases hc:Nt js (ρ.set y (.sh (.int (k:Int)))) d0/\mH d1=true/\ds.length<line/\kz ρ=true
  rotate_left
  .unfold eg at el;rw[e1]at el;dsimp only at el;rw[e2]at el;dsimp only at el;rw[if_neg hc]at el;cases el
  replace el:iX (eg y w js f fe) m (k+1) ((ρ.set y (.sh (.int (k:Int)))).set w (.sh (.tup (d0::dr)))) (ds++[.tup [d1,d0]])=.ok pf:=by
   unfold eg at el;rw[e1]at el;dsimp only at el;rw[e2]at el;dsimp only at el;rw[if_pos hc]at el;exact el
  obtain⟨⟨hj,hd0⟩,hl1,hlen,hno⟩:=hc;have hp:=h.put (i:=y) (d:=.int (k:Int)) (v:=.int (k:Int)) (az.mpr rfl);generalize hρ1:ρ.set y (.sh (.int (k:Int)))=ρ1 at *;generalize hσ1:σ.set y (some (V.int (k:Int)))=σ1 at *;have n1:kz ρ1=true:=by
   subst hρ1;unfold kz at hno ⊢;rw[P7]at hno ⊢;intro s hs;rcases Sf hs with h1|h1
   .exact hno s h1
   .subst h1;rfl
  obtain⟨a,vs,l,m1,m2,m3,m4,m5,m6,m7⟩:=av;have m1':σ1[x]?=some (some (.ref a)):=by subst hσ1;rw[PB (Qx hxy)];exact m1
  let S:Py->Prop:=λb=>∃j∈js,∃dj v,ρ1[j]?=some (.sh dj)/\σ1[j]?=some (some v)/\Ft X.K Ha dj v b
  have pj:∀j∈js,∀d',ρ1[j]?=some (.sh d')->plainD d'=true:=λj hj' d' ej=>by
   have:=P7.mp hj j hj';rw[ej]at this;exact this
  refine⟨rst Ha S,iY js ρ1,lA.trans hp.g.sub,λi di ei=>?_,?_⟩
  .obtain⟨hj',ei⟩:=vR ei
   obtain⟨v,h1,h2⟩:=hp.rd i di ei;exact⟨v,h1,Rep.rst (pj i hj' di ei) h2 λb hb=>⟨i,hj',di,v,ei,h1,hb⟩⟩
  rw[e1];intro v H' Hm g1 rp;obtain⟨G,sm⟩:=FK hp.g.sub g1;have rp0:=rp;obtain⟨t,ws,rfl,ht,hw⟩:=aJ.mp rp;obtain⟨v0,wr,rfl,r0,hw⟩:=aE.mp hw;obtain⟨l0,rl0,nd0,new0⟩:∃l0,RL X.K (jn Ha Hm) d0 v0 l0/\l0.Nodup/\∀b∈l0,H b=none:=by
   rcases hd0 with rfl|⟨ns,rfl,hni⟩
   .exact⟨[],by unfold RL;exact⟨aM.mp r0,rfl⟩,Ua,λ_ z=>by cases z⟩
   .obtain⟨p,us,rfl,hp1,hp2⟩:=aF.mp r0
    have rd:=hK.rd hp1;have eu:=fR hp2;subst eu;have hpH:H p=none:=by
     have hm:Hm p≠none:=by rcases rd with r|⟨_,r⟩<;>rw[r]<;>simp
     cases q0:rst Ha S p with
     |none=>exact g1.nw p hm q0
     |some o=>
      exfalso;have sp:S p:=EX (by rw[q0];simp);obtain⟨j,hj',dj,vj,ej,_,hft⟩:=sp;have:=g1.z _ _ q0;rw[xf ⟨j,hj',dj,vj,ej,‹_›,hft⟩]at q0;exact hni j hj' dj ej (Ft.ints (by unfold Rd;rw[q0,←this];exact rd) hft)
    exact⟨[p],by unfold RL;exact⟨p,_,[],rfl,.inl (aB.rd sm rd),RLs.of (sr ns) (Reps.ints ns),rfl⟩,by simp,by simpa using hpH⟩
  have h2:=(hp.grow G).put (i:=w) (rp0.mono sm);have hwl1:w<ρ1.length:=by subst hρ1;rw[RZ];exact hwl
  have hws:(σ1.set w (some (V.ref t)))[w]?=some (some (.ref t)):=PZ (by rw[←hp.ln];exact hwl1);have mx:(σ1.set w (some (V.ref t)))[x]?=some (some (.ref a)):=by rw[PB (Qx hxw)];exact m1'
  have hHa:H' a=some (.lst vs):=g1.s _ _ m4;have h0a:jn Ha Hm a=none:=G.keeps m4 m3;generalize hρ2:ρ1.set w (.sh (.tup (d0::dr)))=ρ2 at *;generalize hσ2:σ1.set w (some (V.ref t))=σ2 at *;have n2:kz ρ2=true:=by
   subst hρ2;unfold kz at n1 ⊢;rw[P7]at n1 ⊢;intro s hs;rcases Sf hs with h1|h1
   .exact n1 s h1
   .subst h1;rfl
  show tK (uZ (LA X.K "list" lD (tJ x) (jh (EL (jh (tD X.K E fe) (jh (EM (B6 X.K) (tJ w) (tC (V.int k0))) uY))) uY))) nc D' (σ1.set w (some (V.ref t))) H';rw[hσ2];refine⟨.ref a,mx,.inl ⟨rfl,vs,dR.of hHa⟩,jn Ha Hm,ρ2,h2.g.sub,h2.rd,?_⟩;rw[e2];intro u H2 H02 g2 rp2;refine⟨.ref t,hws,t,v0::wr,k0,v0,rfl,rfl,aB.sqT (sm.trans (G.sub.trans g2.s)) ht,by rw[hk];exact eR (j:=0) rfl,(show(2:Nat)<=sizeLine from by decide),λp hp0=>?_⟩;have hH2a:H2 a=some (.lst vs):=g2.s _ _ hHa;have hpa:a≠p:=by intro z;subst z;rw[hH2a]at hp0;cases hp0
  have A:=bw (o:=.tup [u,v0]) g2.sub hp0;have h3:=h2.grow (g2.trans A);have n02:H02 a=none:=g2.keeps hHa h0a;have n03:upd H02 p (.tup [u,v0]) a=none:=by rw[au hpa];exact n02
  refine⟨a,vs,.ref p,rfl,rfl,by rw[au hpa];exact hH2a,by rw[←m5.reps.length];exact PK hlen (by decide),?_⟩;have kp:∀b o,b≠a->upd H2 p (.tup [u,v0]) b=some o->upd (upd H2 p (.tup [u,v0])) a (.lst (vs++[.ref p])) b=some o:=λb o z eb=>by rw[au z];exact eb
  have h4:cZ X.K He η (upd H02 p (.tup [u,v0])) σ2 (upd (upd H2 p (.tup [u,v0])) a (.lst (vs++[.ref p]))) ρ2:=h3.poke n2 (λb o eb=>kp b o (by intro z;subst z;rw[m2]at eb;cases eb) (h3.g.s _ _ eb)) (λb o eb=>kp b o (by intro z;subst z;rw[n03]at eb;cases eb) (h3.g.sub _ _ eb));have gg:aB Ha (upd H02 p (.tup [u,v0])):=G.z.trans (g2.trans A).z;refine hN _ _ ⟨_,ρ2,ds++[.tup [d1,d0]],by subst hρ2;rw[RZ];exact hwl1,h4,⟨a,vs++[.ref p],l++l0,mx,m2,n03,aG,?_,?_,?_⟩,el⟩
  .have r1:RLs X.K (upd H02 p (.tup [u,v0])) [.tup [d1,d0]] [.ref p] (l0++[]):=RLs.cons (by
    unfold RL;refine⟨p,[u,v0],rfl,.inl (.inl aG),?_⟩;have:=RLs.cons (l1:=[]) ((RL.of hl1 rp2).mono A.z) (RLs.cons (rl0.mono (g2.trans A).z) RLs.nil);rw[QC,QX]at this;exact this) RLs.nil
   rw[QC]at r1;exact(m5.mono gg).app r1
  .refine Rz.mpr ⟨m6,nd0,λb hb b' hb' z=>?_⟩
   subst z;have q1:=RLs.dom hK m5 b hb;cases q2:Ha b with|none=>exact q1 q2|some o=>have:=hp.g.sub _ _ q2;rw[new0 b hb']at this;cases this
  .intro b hb
   rcases QJ.mp hb with hb|hb
   .exact m7 b hb
   .exact hp.g.s.free (new0 b hb)
 |_=>unfold eg at el;rw[e1]at el;cases el
def AL(js:bm){x y w:Nat}{nx ny nw:PY}{k0:Int}{jj kk}{p0 p1 p2 p3 p4 p5 p6 p7 p8 p9 p10 p11 p12 p13 p14 pos:Pos}(hk:k0=0)(hxy:x≠y)(hxw:x≠w)(hyw:y≠w)
  (hp:PassesOwn (Ql X.prog X.w) X.A X.env X.xe)(hc:X.calm=true)(hK:A9 X.K)(hgl:Gl X "range")(hm:X.mg "range"=none)(hN:X.N.Nodup)
  (ix:X.N[x]?=some nx)(iy:X.N[y]?=some ny)(iw:X.N[w]?=some nw)(vx:wJ X.env.scope nx)(vw:wJ X.env.scope nw)(ly:wM X.env.scope ny)(lw:wM X.env.scope nw)
  (hi:DE X E iter fn)(hf:DE X E e f)(he:DE X E e1 fe)
  (d1:(nx==("__debug__" : PY))=false:=by decide)(c1:(nx==("__classdict__" : PY))=false:=by decide)(d2:(nw==("__debug__" : PY))=false:=by decide)(c2:(nw==("__classdict__" : PY))=false:=by decide)
  (hst:PM [iter] X.env=[(false,eval iter X.env)]:=by exact dU rfl)(hsw:QY e (some (.Name nw p3)) p4.line X.env=pure false:=by rfl)
  (hix:ki (.Constant (.int k0) jj p7):=by exact λ_ _=>rfl)
  (hs1:PM [e1,.Subscript (.Name nw p6) (.Constant (.int k0) jj p7) p8] X.env=(false,eval e1 X.env)::PM [.Subscript (.Name nw p6) (.Constant (.int k0) jj p7) p8] X.env:=by exact ba rfl)
  (hs2:PM [.Subscript (.Name nw p6) (.Constant (.int k0) jj p7) p8] X.env=(false,eval (.Subscript (.Name nw p6) (.Constant (.int k0) jj p7) p8) X.env)::PM [] X.env:=by exact ba rfl)
  (hbase:R4 (.Name nx p5) "append" X.env (eval (.Name nx p5) X.env)=eval (.Name nx p5) X.env:=by rfl)
  (hfew:((QZ p11 (PM [.Tuple [e1,.Subscript (.Name nw p6) (.Constant (.int k0) jj p7) p8] kk p9] X.env)).all (λx=>!x.1)&&(SS p11 (RS [] X.env)).all (λx=>x.1.isSome)
  &&decide ([(.Tuple [e1,.Subscript (.Name nw p6) (.Constant (.int k0) jj p7) p8] kk p9:Qc)].length+([]:List RH).length+(if([]:List RH).isEmpty then 0 else 1)<30))=true:=by exact fA rfl)
  (hline:(p10.endLine==p11.line)=true:=by rfl) (hs3:PM [.Tuple [e1,.Subscript (.Name nw p6) (.Constant (.int k0) jj p7) p8] kk p9] X.env=(false,eval (.Tuple [e1,.Subscript (.Name nw p6) (.Constant (.int k0) jj p7) p8] kk p9) X.env)::PM [] X.env:=by exact ba rfl)
  (hplain:(QZ p11 (PM [] X.env)).any (·.1)=false:=by exact bX rfl)
  (hw':QY (.Call (.Attribute (.Name nx p5) "append" p10) [.Tuple [e1,.Subscript (.Name nw p6) (.Constant (.int k0) jj p7) p8] kk p9] [] p11) none p12.line X.env=pure false:=by rfl)
  (hfold:∀z,foldedSetIterable (.Call (.Name "range" p1) [iter] [] p2) X.env z=pure z:=by intro _;rfl)
  (hff:∀z,z=ny∨z=nw->X.fn z=true∨X.env.scope.names.lookup z=some .local := by intro z hz;rcases hz with rfl|rfl<;>first|exact .inl rfl|exact .inr rfl) :
  D9 X E He η [.For (.Name ny p0) (.Call (.Name "range" p1) [iter] [] p2) [.Assign [.Name nw p3] e p4,.Expr (.Call (.Attribute (.Name nx p5) "append" p10) [.Tuple [e1,.Subscript (.Name nw p6) (.Constant (.int k0) jj p7) p8] kk p9] [] p11) p12] [] pos,.Return (some (.Name nx p13)) p14] (rV x y w js fn f fe):=by
 refine⟨?_⟩;have hb:=bV (iE hN iw lw hf.o hsw (hff nw (.inr rfl))) (bV (jS (rZ RK RD RC fW (eA ix vx d1 c1) (cO (Cr (x1:=kk) (pos:=p9) (cO he.o (cO (Cu CY (eA iw vw d2 c2) xq hix) eC hs2) hs1)) eC hs3) hbase hfew hline hs3 hplain) hw') fj);refine cq (bV (mz hp hc (jT hgl hm (cO hi.o eC hst) hst) (t8 hN iy ly (hff ny (.inl rfl))) hb hfold) (bV (my (eA ix vx d1 c1)) fj)) λG σ H ⟨Ha,ρ,h,q⟩=>?_;unfold rV at q;cases e0:ρ[x]? with
 |none=>rw[e0]at q;exact q.elim
 |some s=>
 rw[e0]at q;cases s with
 |ow d=>
  cases d with
  |lst ds=>
   cases ds with
   |cons _ _=>exact q.elim
   |nil=>
    obtain⟨a,k1,k2,k3,vs0,k4,k5⟩:=h.ow x _ e0;rw[Reps.nil_iff.mp k5]at k4;have hd:=h.dropT (i:=x) (v:=.ref a);have es:σ.set x (some (.ref a))=σ:=by
     apply TN;intro m
     by_cases hm:x=m
     .subst hm
      rw[PZ (PH.mp k1).1];exact k1.symm
     .rw[PB hm]
    rw[es]at hd;refine⟨Ha,ρ.set x .no,hd.g.sub,hd.rd,?_⟩;cases e2:fn (ρ.set x .no) with
    |stuck|exn _=>rw[e2]at q;exact q.elim
    |ok n=>
    rw[e2]at q;cases n with
    |int n=>
     replace q:xo X.K E He η Ha (if 0<=n/\n<1000000/\w<ρ.length then match iX (eg y w js f fe) n.toNat 0 (ρ.set x .no) [] with
       |.ok p=>.ok (.rt (.lst p.2))
       |_=>.stuck
      else .stuck) G:=q
     by_cases hn:0<=n/\n<1000000/\w<ρ.length
     rotate_left
     .rw[if_neg hn]at q;exact q.elim
     rw[if_pos hn]at q;cases e3:iX (eg y w js f fe) n.toNat 0 (ρ.set x .no) [] with
     |stuck|exn z=>rw[e3]at q;exact q.elim
     |ok pf=>
     rw[e3]at q;replace q:xo X.K E He η Ha (.ok (.rt (.lst pf.2))) G:=q;intro v H1 H01 g1 r1;rw[az.mp r1];refine⟨n,rfl,by omega,by omega,?_⟩
     let I:Nat->L2.St->Hp->Prop:=λk σ H=>∃Ha ρ ds,w<ρ.length/\cZ X.K He η Ha σ H ρ/\AV X.K He Ha σ H x ds/\iX (eg y w js f fe) (n.toNat-k) k ρ ds=.ok pf
     refine sD (lo:=0) (n:=n.toNat) (g:=pO y) (tb:=tK (Ac (tD X.K E f) (pO w)) (tK (uZ (LA X.K "list" lD (tJ x) (jh (EL (jh (tD X.K E fe) (jh (EM (B6 X.K) (tJ w) (tC (.int k0))) uY))) uY))) nc)) (D:={ G with nx:=tK (Ls (tJ x)) nc G }) I ⟨H01,ρ.set x .no,[],by rw[RZ];exact hn.2.2,hd.grow g1,⟨a,[],[],k1,k2,g1.keeps k4 k3,g1.s _ _ k4,RLs.nil,Ua,λ_ z=>by cases z⟩,by rw[Tf];exact e3⟩ ?_ ?_
     .rintro k σ2 H2 hkn ⟨H02,ρ2,ds,hwl,h2,av,el⟩
      exact zY js hk hxy hxw hyw hK h2 av (by rw[show n.toNat-k=(n.toNat-(k+1))+1 by omega]at el;exact el) hwl λσ H z=>z
     .rintro σ2 H2 ⟨H02,ρ2,ds,_,h2,⟨a2,vs,l,m1,m2,m3,m4,m5,m6,m7⟩,el⟩
      rw[Nat.sub_self]at el;cases el;have z:aB H02 (upd H02 a2 (.lst vs)):=λb o eb=>by rw[au (by intro z;subst z;rw[m3]at eb;cases eb)];exact eb
      refine⟨.ref a2,m1,q (.ref a2) H2 (upd H02 a2 (.lst vs)) (a2::l) ⟨h2.g.s,h2.g.z.trans z,λb o eb=>?_,λb h1 h2'=>?_⟩ (by unfold RL;exact⟨a2,vs,l,rfl,dR.of aG,m5.mono z,rfl⟩) (Rq.mpr ⟨λhb=>RLs.dom hK m5 _ hb m3,m6⟩) (λb hb=>by
       rcases P9.mp hb with rfl|hb
       .exact m2
       .exact m7 b hb)⟩
      .by_cases hb:b=a2
       .subst hb;rw[aG]at eb;cases eb;exact m4
       .rw[au hb]at eb;exact h2.g.sub _ _ eb
      .by_cases hb:b=a2
       .subst hb;exact m2
       .rw[au hb]at h1;exact h2.g.nw b h1 h2'
    |_=>exact q.elim
  |_=>exact q.elim
 |_=>exact q.elim
end
abbrev WE:=D×Option (List Int)
def B2:Option (List Int)->D
 |none=>.non
 |some ns=>.lst (ns.map D.int)
def fT(e:WE):D:=.tup [e.1,B2 e.2]
def nV:ac->Option (List Int)
 |[]=>some []
 |.int i::r=>(nV r).map (i::·)
 |_=>none
theorem uq:∀{ds:ac}{ns:List Int},nV ds=some ns->ds=ns.map D.int
 |[],ns,h=>by cases h;rfl
 |d::ds,ns,h=>by
  cases d with
  |int i=>
   unfold nV at h;cases e:nV ds with|none=>rw[e]at h;cases h|some r=>rw[e]at h;cases h;rw[uq e];rfl
  |_=>cases h
theorem mJ:∀ns:List Int,nV (ns.map D.int)=some ns
 |[]=>rfl
 |n::r=>by rw[PQ,nV,mJ r];rfl
def Ia(d:D):Option WE:=match d with
 |.tup [d,.non]=>if mH d=true then some (d,none) else none
 |.tup [d,.lst ds]=>if mH d=true then(nV ds).map λns=>(d,some ns) else none
 |_=>none
def H0{d:D}{e:WE}(h:Ia d=some e):d=fT e/\mH e.1=true:=by
 unfold Ia at h;split at h
 .split at h
  .next c=>cases h;exact⟨rfl,c⟩
  .cases h
 .split at h
  .next ds c=>
   cases q:nV ds with|none=>rw[q]at h;cases h|some ns=>rw[q]at h;cases h;rw[uq q];exact⟨rfl,c⟩
  .cases h
 .cases h
def yx:ac->Option (List WE)
 |[]=>some []
 |d::r=>match Ia d,yx r with
  |some e,some es=>some (e::es)
  |_,_=>none
def Lq:Option HO->Option HO
 |some (.tup vs)=>some (.tup vs)
 |some (.frz o (.tup vs))=>some (.frz o (.tup vs))
 |_=>none
def tups(H:Hp):Hp:=λc=>Lq (H c)
def jQ{H:Hp}:aB (tups H) H:=λc o e=>by
 unfold tups Lq at e;split at e
 .next q=>cases e;exact q
 .next q=>cases e;exact q
 .cases e
def jR{H H':Hp}(s:aB H H'):aB (tups H) (tups H'):=λc o e=>by
 have:=jQ _ _ e;unfold tups at e ⊢;rw[s _ _ this];rw[this]at e;exact e
def Bv{H:Hp}{b:Py}{us us':ad}(h:H b=some (.lst us')):tups (upd H b (.lst us))=tups H:=by
 funext c;unfold tups
 by_cases z:c=b
 .subst z;rw[aG,h];rfl
 .rw[au z]
def FO{He Ha H:Hp}{b:Py}{o:HO}(h:He b=none):frz He Ha (upd H b o)=upd (frz He Ha H) b o:=by
 funext c
 by_cases z:c=b
 .subst z;unfold frz;rw[h,aG];simp only;rw[aG]
 .rw[au z];unfold frz;rw[au z]
section
variable {K:Px}{H:Hp}
def yy{a:Py}{vs:ad}(h:Rd H a (.tup vs)):Rd (tups H) a (.tup vs):=by
 rcases h with h|⟨o,h⟩
 .exact .inl (by unfold tups;rw[h];rfl)
 .exact .inr ⟨o,by unfold tups;rw[h];rfl⟩
mutual
theorem Rep.tups:∀{d:D}{v:V},mH d=true->Rep K H d v->Rep K (DL.tups H) d v
 |.non,_,_,h=>by unfold Rep at h ⊢;exact h
 |.bl _,_,_,h=>by unfold Rep at h ⊢;exact h
 |.int _,_,_,h=>by unfold Rep at h ⊢;exact h
 |.str _,_,_,h=>by unfold Rep at h ⊢;exact h
 |.tup ds,_,n,h=>by
  obtain⟨a,vs,h1,h2,h3⟩:=aJ.mp h;unfold mH at n;exact aJ.mpr ⟨a,vs,h1,h2.imp yy id,Reps.tups n h3⟩
 |.lst _,_,n,_=>by unfold mH at n;cases n
 |.dic _ _,_,n,_=>by unfold mH at n;cases n
 |.exc _,_,n,_=>by unfold mH at n;cases n
 |.ob _ _,_,n,_=>by unfold mH at n;cases n
theorem Reps.tups:∀{ds:ac}{vs:ad},lfrs ds=true->Reps K H ds vs->Reps K (DL.tups H) ds vs
 |[],_,_,h=>by rw[Reps.nil_iff.mp h];exact Reps.nil
 |d::ds,_,n,h=>by
  obtain⟨v,r,rfl,h1,h2⟩:=aE.mp h;unfold lfrs at n;rw[Qg]at n;exact Reps.cons (Rep.tups n.1 h1) (Reps.tups n.2 h2)
end
end
def WA(K:Px)(J He Ha H:Hp)(a b:Py)(s:Option V)(e:WE):Prop:=∃t u wv,s=some (.ref t)/\jd K J t [u,wv]/\Rep K J e.1 u/\match e.2 with
 |none=>wv=.non
 |some ns=>wv=.ref b/\H b=some (.lst (ns.map V.int))/\He b=none/\Ha b=none/\b≠a
structure TV (K:Px) (He Ha:Hp) (σ:L2.St) (H:Hp) (x:Nat) (es:List WE):Prop where
 p:∃(a:Py) (us:ad) (P:Nat->Py),σ[x]?=some (some (.ref a))/\H a=some (.lst us)/\He a=none/\Ha a=none/\us.length<line/\es.length=us.length /\
  (∀(k:Nat) (e:WE),es[k]?=some e->WA K (tups (frz He Ha H)) He Ha H a (P k) us[k]? e) /\
  ∀(j k:Nat) (d d':D) (n n':List Int),es[j]?=some (d,some n)->es[k]?=some (d',some n')->P j=P k->j=k
section
variable {K:Px}{He η Ha H H' Ha':Hp}{σ:L2.St}{ρ:Ev}{x:Nat}{es:List WE}
def WA.mono{J J':Hp}{a b:Py}{s:Option V}{e:WE}(h:WA K J He Ha H a b s e)(sj:aB J J')(sh:aB H H')(z:Ha b=none->∀us,H b=some (.lst us)->Ha' b=none):WA K J' He Ha' H' a b s e:=by
 obtain⟨t,u,wv,h1,h2,h3,h4⟩:=h;refine⟨t,u,wv,h1,aB.sqT sj h2,h3.mono sj,?_⟩;cases q:e.2 with|none=>rw[q]at h4;exact h4|some ns=>rw[q]at h4;exact⟨h4.1,sh _ _ h4.2.1,h4.2.2.1,z h4.2.2.2.1 _ h4.2.1,h4.2.2.2.2⟩
def TV.grow(h:TV K He Ha σ H x es)(g:aU H Ha H' Ha'):TV K He Ha' σ H' x es:=by
 obtain⟨a,us,P,h1,h2,h3,h4,h5,h6,h7,h8⟩:=h;have sF:aB (frz He Ha H) (frz He Ha' H'):=λc o e=>by
  unfold frz at e ⊢;cases q:He c with|none=>rw[q]at e;exact g.s _ _ e|some _=>rw[q]at e;exact g.z _ _ e
 exact⟨a,us,P,h1,g.s _ _ h2,h3,g.keeps h2 h4,h5,h6,λk e he=>(h7 k e he).mono (jR sF) g.s λz us q=>g.keeps q z,h8⟩
def TV.same(h:TV K He Ha σ H x es)(s:aB H H'):TV K He Ha σ H' x es:=by
 obtain⟨a,us,P,h1,h2,h3,h4,h5,h6,h7,h8⟩:=h;exact⟨a,us,P,h1,s _ _ h2,h3,h4,h5,h6,λk e he=>(h7 k e he).mono (jR (vY s)) s λz _ _=>z,h8⟩
def WA.rep{J:Hp}{a b:Py}{v:V}{e:WE}(h:WA K (tups (frz He Ha H)) He Ha H a b (some v) e):Rep K (frz He Ha H) (fT e) v:=by
 obtain⟨t,u,wv,h1,h2,h3,h4⟩:=h;cases h1;refine aJ.mpr ⟨t,_,rfl,aB.sqT jQ h2,Reps.cons (h3.mono jQ) (Reps.cons ?_ Reps.nil)⟩;cases q:e.2 with
 |none=>rw[q]at h4;exact aM.mpr h4
 |some ns=>
  rw[q]at h4;exact aF.mpr ⟨b,_,h4.1,dR.of (by unfold frz;rw[h4.2.2.1];exact h4.2.1),Reps.ints ns⟩
def TV.rep(h:TV K He Ha σ H x es):∃v,σ[x]?=some (some v)/\Rep K (frz He Ha H) (.lst (es.map fT)) v:=by
 obtain⟨a,us,P,h1,h2,h3,h4,h5,h6,h7,h8⟩:=h;refine⟨_,h1,aF.mpr ⟨a,us,rfl,dR.of (by unfold frz;rw[h3];exact h2),tV (by rw[Pz];exact h6) λk d v e1 e2=>?_⟩⟩;rw[PN]at e1;cases q:es[k]? with
 |none=>rw[q]at e1;cases e1
 |some e=>
  rw[q]at e1;cases e1;have:=h7 k e q;rw[e2]at this;exact WA.rep (J:=H) this
def TV.looks(t:TV K He Ha σ H x es)(h:cZ K He η Ha σ H ρ):Reads K (frz He Ha H) σ (vx x (.lst (es.map fT)) ρ):=λi d' e=>by
 obtain⟨v,h1,h2⟩:=t.rep;unfold vx at e
 by_cases c:x=i
 .subst c
  rw[Q6]at e;cases q:(gw ρ)[x]? with|none=>rw[q]at e;cases e|some s=>rw[q]at e;cases e;exact⟨_,h1,h2⟩
 .rw[PB c]at e
  exact h.looks i d' e
def TV.other{y:Nat}{v:Option V}(h:TV K He Ha σ H x es)(n:x≠y):TV K He Ha (σ.set y v) H x es:=by
 obtain⟨a,us,P,h1,h2⟩:=h;exact⟨a,us,P,by rw[PB (Qx n)];exact h1,h2⟩
def cZ.hide(h:cZ K He η Ha σ H ρ){i:Nat}:cZ K He η Ha σ H (ρ.set i .no):=by
 have key:∀(j:Nat) (s:Sl),(ρ.set i .no)[j]?=some s->s=.no∨(j≠i/\ρ[j]?=some s):=λj s e=>by
  by_cases hj:i=j
  .subst hj
   rw[Q6]at e;cases q:ρ[i]? with|none=>rw[q]at e;cases e|some s'=>rw[q]at e;cases e;exact .inl rfl
  .rw[PB hj]at e
   exact .inr ⟨λz=>hj z.symm,e⟩
 refine⟨h.g,λj d' e=>?_,λj d' e=>?_,λj k d1 d2 hn e1 e2=>?_,by simp[h.ln],h.ex.upd (λj s e=>?_) (aB.refl _) (λa vs _ e=>e) λp us _ h0 hp _=>⟨hp,h0⟩⟩
 .rcases key j _ e with e'|⟨hj,e'⟩
  .cases e'
  .exact h.rd j d' e'
 .rcases key j _ e with e'|⟨hj,e'⟩
  .cases e'
  .exact h.ow j d' e'
 .rcases key j _ e1 with e'|⟨hj,e1'⟩
  .cases e'
  rcases key k _ e2 with e'|⟨hk,e2'⟩
  .cases e'
  exact h.ap j k d1 d2 hn e1' e2'
 .rcases key j _ e with e'|⟨hj,e'⟩
  .exact .inr (.inr (.inl e'))
  .exact .inl ⟨e',rfl⟩
end
def OB(K:Px)(He η:Hp)(c:Py)(x:Nat)(g:List WE->Ev->ac->ai cw):TS:=λG σ H=>∃Ha ρ st vs es,fF K He η Ha σ H ρ c st vs/\TV K (upd He c (.lst vs)) Ha σ H x es/\c5 K He η c Ha (g es ρ st) G
structure Ee (X:Cx) (He η:Hp) (c:Py) (x:Nat) (st:List Q1) (g:List WE->Ev->ac->ai cw):Prop where
 o:qL X st (OB X.K He η c x g)
section
variable {X:Cx}{E:XK}{He η:Hp}{c:Py}{x:Nat}{st:Q1}{rest:List Q1}{e b cd:Qc}{pos:Pos}{f fk:al}{g:List WE->Ev->ac->ai cw}{s r:Ev->ac->ai cw}
def Ea(x:Nat)(f:al)(s:Ev->ac->ai cw)(g:List WE->Ev->ac->ai cw):List WE->Ev->ac->ai cw:=λes ρ st=>(f (vx x (.lst (es.map fT)) ρ)).bind λb=>match b with
 |.bl true=>(s ρ st).bind BW
 |.bl false=>g es ρ st
 |_=>.stuck
def Ht{body:List Q1}(hc:DT X E cd f)(hb:A8 X He η c body s)(hr:Ee X He η c x rest g):Ee X He η c x (.If cd body [] pos::rest) (Ea x f s g):=by
 refine⟨?_⟩;refine cq (bV (yO hc.o hb.o fj) hr.o) λG σ H ⟨Ha,ρ,st,vs,es,h,t,q⟩=>?_;refine⟨frz (upd He c (.lst vs)) Ha H,vx x (.lst (es.map fT)) ρ,h.s.frz_le,t.looks h.s,?_⟩;unfold Ea at q;cases e1:f (vx x (.lst (es.map fT)) ρ) with
 |stuck=>rw[e1]at q;exact q|exn y=>rw[e1]at q;exact q.elim
 |ok y=>
  rw[e1]at q;cases y with
  |bl y=>
   cases y with
   |true=>
    intro H' J g1;have h':=h.back (aB.refl _) (h.s.same g1.s);show if true=true then _ else _
    rw[if_pos rfl];refine⟨Ha,ρ,st,vs,h',?_⟩;replace q:c5 X.K He η c Ha ((s ρ st).bind BW) G:=q;cases e2:s ρ st with
    |stuck|exn z=>rw[e2]at q;exact q
    |ok z=>
     rw[e2]at q;cases z with|rt d' st'=>exact q|nx _ _|bk _ _|ct _ _=>exact q.elim
   |false=>
    intro H' J g1;have h':=h.back (aB.refl _) (h.s.same g1.s);show if false=true then _ else _
    rw[if_neg (by decide)];exact⟨Ha,ρ,st,vs,es,h',t.same g1.s,q⟩
  |_=>exact q.elim
def oK(x i:Nat)(f:al)(g:List WE->Ev->ac->ai cw):List WE->Ev->ac->ai cw:=λes ρ st=>(f (vx x (.lst (es.map fT)) ρ)).bind λy=>match y with
 |.str z=>if x≠i then g es (ρ.set i (.sh (.str z))) st else .stuck
 |_=>.stuck
def Ig{i:Nat}{y:PY}{pos':Pos}(hN:X.N.Nodup)(hi:X.N[i]?=some y)(hx:wM X.env.scope y)(he:DE X E e f)(hr:Ee X He η c x rest g)(hs:QY e (some (.Name y pos')) pos.line X.env=pure false:=by rfl)
  (hf:X.fn y=true∨X.env.scope.names.lookup y=some .local := by first|exact .inl rfl|exact .inr rfl|assumption):Ee X He η c x (.Assign [.Name y pos'] e pos::rest) (oK x i f g):=by
 refine⟨?_⟩;refine cq (bV (iE hN hi hx he.o hs hf) hr.o) λG σ H ⟨Ha,ρ,st,vs,es,h,t,q⟩=>?_;refine⟨frz (upd He c (.lst vs)) Ha H,vx x (.lst (es.map fT)) ρ,h.s.frz_le,t.looks h.s,?_⟩;unfold oK at q;cases e1:f (vx x (.lst (es.map fT)) ρ) with
 |stuck=>rw[e1]at q;exact q|exn y=>rw[e1]at q;exact q.elim
 |ok y=>
  rw[e1]at q;cases y with
  |str z=>
   intro v H' J g1 rp;rw[Rep.str_iff.mp rp];have h':=h.back (aB.refl _) (h.s.same g1.s);replace q:c5 X.K He η c Ha (if x≠i then g es (ρ.set i (.sh (.str z))) st else .stuck) G:=q
   by_cases hxi:x=i
   .rw[if_neg (by simpa using hxi)]at q;exact q.elim
   rw[if_pos hxi]at q;exact⟨Ha,ρ.set i (.sh (.str z)),st,vs,es,h'.back (aB.refl _) (h'.s.put (Rep.str_iff.mpr rfl)),(t.same g1.s).other hxi,q⟩
  |_=>exact q.elim
noncomputable def oN(x i:Nat) (f:al) (g:List WE->Ev->ac->ai cw):List WE->Ev->ac->ai cw:=λes ρ st=>(f (vx x (.lst (es.map fT)) ρ)).bind λy=>match y with
 |.lst ds=>match nV ds with
  |some ns=>if x≠i then g es (ρ.set i (.sh (.lst (ns.map D.int)))) st else .stuck
  |none=>.stuck
 |_=>.stuck
def ED{i:Nat}{y:PY}{pos':Pos}(hN:X.N.Nodup)(hi:X.N[i]?=some y)(hx:X.env.scope.names.lookup y=some .local)(he:Nl X E e f)(hr:Ee X He η c x rest g)(hs:QY e (some (.Name y pos')) pos.line X.env=pure true:=by rfl):Ee X He η c x (.Assign [.Name y pos'] e pos::rest) (oN x i f g):=by
 refine⟨?_⟩;refine cq (bV (he.st hN hi hx hs) hr.o) λG σ H ⟨Ha,ρ,st,vs,es,h,t,q⟩=>?_;refine⟨frz (upd He c (.lst vs)) Ha H,vx x (.lst (es.map fT)) ρ,h.s.frz_le,t.looks h.s,?_⟩;unfold oN at q;cases e1:f (vx x (.lst (es.map fT)) ρ) with
 |stuck=>rw[e1]at q;exact q|exn y=>rw[e1]at q;exact q.elim
 |ok y=>
  rw[e1]at q;cases y with
  |lst ds=>
   intro p us H' J g1 hp h0 hv rr;replace q:c5 X.K He η c Ha (match nV ds with
    |some ns=>if x≠i then g es (ρ.set i (.sh (.lst (ns.map D.int)))) st else .stuck
    |none=>.stuck) G:=q
   cases e2:nV ds with
   |none=>rw[e2]at q;exact q.elim
   |some ns=>
    rw[e2]at q;replace q:c5 X.K He η c Ha (if x≠i then g es (ρ.set i (.sh (.lst (ns.map D.int)))) st else .stuck) G:=q
    by_cases hxi:x=i
    .rw[if_neg (by simpa using hxi)]at q;exact q.elim
    rw[if_pos hxi]at q;have ed:=uq e2;subst ed;have eu:=fR rr;subst eu;have p0:Ha p=none:=h.s.g.sub.free hp;have G':aU H Ha H' (upd Ha p (.lst (ns.map V.int))):=⟨g1.s,λb o e=>by rw[au (by intro z;subst z;rw[p0]at e;cases e)];exact e,λb o e=>by
     by_cases hb:b=p
     .subst hb;rw[aG]at e;cases e;exact hv
     .rw[au hb]at e;exact g1.s _ _ (h.s.g.sub _ _ e),λb n1 n2=>by
     by_cases hb:b=p
     .subst hb;exact hp
     .rw[au hb]at n1;exact absurd n2 n1⟩
    exact⟨_,ρ.set i (.sh (.lst (ns.map D.int))),st,vs,es,h.back G'.z ((h.s.grow G').put (aF.mpr ⟨p,_,rfl,dR.of aG,Reps.ints ns⟩)),(t.grow G').other hxi,c5.grow (r:=g es (ρ.set i (.sh (.lst (ns.map D.int)))) st) q G'.z⟩
  |_=>exact q.elim
end
section
variable {K:Px}{H:Hp}
mutual
theorem RL.lists(nl:A9 K):∀{d:D}{v:V}{l:List Py},RL K H d v l->∀b∈l,∃us,Rd H b (.lst us)
 |.lst ds,_,_,h=>by
  unfold RL at h;obtain⟨a,vs,r,h1,h2,h3,rfl⟩:=h;intro b hb;rcases P9.mp hb with rfl|hb
  .exact⟨_,nl.rd h2⟩
  .exact RLs.lists nl h3 b hb
 |.tup ds,_,_,h=>by unfold RL at h;obtain⟨a,vs,h1,h2,h3⟩:=h;exact RLs.lists nl h3
 |.non,_,_,h=>by unfold RL at h;rw[h.2];exact λ_ z=>by cases z
 |.bl _,_,_,h=>by unfold RL at h;rw[h.2];exact λ_ z=>by cases z
 |.int _,_,_,h=>by unfold RL at h;rw[h.2];exact λ_ z=>by cases z
 |.str _,_,_,h=>by unfold RL at h;rw[h.2];exact λ_ z=>by cases z
 |.dic _ _,_,_,h=>by unfold RL at h;exact h.elim
 |.exc _,_,_,h=>by unfold RL at h;exact h.elim
 |.ob _ _,_,_,h=>by unfold RL at h;exact h.elim
theorem RLs.lists(nl:A9 K):∀{ds:ac}{vs:ad}{l:List Py},RLs K H ds vs l->∀b∈l,∃us,Rd H b (.lst us)
 |[],_,_,h=>by unfold RLs at h;rw[h.2];exact λ_ z=>by cases z
 |d::ds,_,_,h=>by
  unfold RLs at h;obtain⟨v,r,l1,l2,rfl,h2,h3,rfl⟩:=h;intro b hb;rcases QJ.mp hb with hb|hb
  .exact RL.lists nl h2 b hb
  .exact RLs.lists nl h3 b hb
end
def WB(K:Px)(H:Hp)(l:List Py)(b:Py)(s:Option V)(e:WE):Prop:=∃t u wv,s=some (.ref t)/\jd K H t [u,wv]/\Rep K H e.1 u/\mH e.1=true/\match e.2 with
 |none=>wv=.non
 |some ns=>wv=.ref b/\b∈l/\Rd H b (.lst (ns.map V.int))
theorem yz(nl:A9 K):∀{ds:ac}{us:ad}{l:List Py}{es:List WE},RLs K H ds us l->yx ds=some es->l.Nodup->∃P:Nat->Py,(∀(k:Nat) (e:WE),es[k]?=some e->WB K H l (P k) us[k]? e) /\
  ∀(j k:Nat) (d d':D) (n n':List Int),es[j]?=some (d,some n)->es[k]?=some (d',some n')->P j=P k->j=k
 |[],us,l,es,h,u,n=>by cases u;exact⟨λ_=>0,λk e z=>(by simp at z),λj k d d' n n' z=>(by simp at z)⟩
 |d::ds,us,l,es,h,u,nd=>by
  unfold yx at u;cases q1:Ia d with
  |none=>rw[q1]at u;cases u
  |some e=>
  cases q2:yx ds with
  |none=>rw[q1,q2]at u;cases u
  |some er=>
  rw[q1,q2]at u;cases u;unfold RLs at h;obtain⟨v,r,l1,l2,rfl,h2,h3,rfl⟩:=h;obtain⟨n1,n2,n3⟩:=Rz.mp nd;obtain⟨P,p1,p2⟩:=yz nl h3 q2 n2;obtain⟨rfl,hl⟩:=H0 q1;obtain⟨b,hb⟩:∃b,WB K H l1 b (some v) e:=by
   unfold fT RL at h2;obtain⟨t,vs,rfl,ht,h2⟩:=h2;unfold RLs at h2;obtain⟨u,r1,la,lb,rfl,ha,h2,rfl⟩:=h2;unfold RLs at h2;obtain⟨wv,r2,lc,ld,rfl,hc,h2,rfl⟩:=h2;unfold RLs at h2;obtain⟨rfl,rfl⟩:=h2;obtain⟨d,o⟩:=e;cases o with
   |none=>
    unfold B2 RL at hc;exact⟨0,t,u,wv,rfl,ht,ha.rep,hl,hc.1⟩
   |some ns=>
    unfold B2 RL at hc;obtain⟨b,ws,lr,rfl,k1,k2,rfl⟩:=hc;have:=nl.rd k1;rw[fR k2.reps]at this;exact⟨b,t,u,.ref b,rfl,ht,ha.rep,hl,rfl,by simp,this⟩
  refine⟨λk=>match k with
   |0=>b
   |k+1=>P k,λk e' he=>?_,λj k d d' m m' hj hk hP=>?_⟩
  .cases k with
   |zero=>
    cases he;obtain⟨t,u,wv,k1,k2,k3,k4,k5⟩:=hb;refine⟨t,u,wv,k1,k2,k3,k4,?_⟩;cases q:e.2 with|none=>rw[q]at k5;exact k5|some ns=>rw[q]at k5;exact⟨k5.1,Rl _ k5.2.1,k5.2.2⟩
   |succ k=>
    obtain⟨t,u,wv,k1,k2,k3,k4,k5⟩:=p1 k e' he;refine⟨t,u,wv,k1,k2,k3,k4,?_⟩;cases q:e'.2 with|none=>rw[q]at k5;exact k5|some ns=>rw[q]at k5;exact⟨k5.1,QE _ k5.2.1,k5.2.2⟩
  .have first:∀k d' m',er[k]?=some (d',some m')->e.2≠none->b=P k->False:=λk d' m' hk hn hP=>by
    obtain⟨_,_,_,_,_,_,_,k5⟩:=hb;obtain⟨_,_,_,_,_,_,_,k6⟩:=p1 k _ hk;cases q:e.2 with
    |none=>exact hn q
    |some ns=>
     rw[q]at k5;exact n3 b k5.2.1 b (by rw[hP];exact k6.2.1) rfl
   cases j with
   |zero=>
    cases hj;cases k with
    |zero=>rfl
    |succ k=>exact(first k d' m' hk (by simp) hP).elim
   |succ j=>
    cases k with
    |zero=>cases hk;exact(first j d m hj (by simp) hP.symm).elim
    |succ k=>rw[p2 j k d d' m m' hj hk hP]
end
def FP{He Ha H:Hp}{l:List Py}(h:∀c∈l,He c=none):frz He Ha (wQ l H)=wQ l (frz He Ha H):=by
 funext c
 by_cases z:c∈l
 .have e:∀J,frz He Ha J c=J c:=λJ=>by unfold frz;rw[h c z]
  rw[e];unfold wQ;rw[if_pos z,if_pos z,e]
 .unfold wQ;rw[if_neg z];unfold frz;cases He c<;>simp only<;>rw[if_neg z]
def Bw{J:Hp}{l:List Py}(h:∀c∈l,∃us,Rd J c (.lst us)):tups (wQ l J)=tups J:=by
 funext c;unfold tups wQ
 by_cases z:c∈l
 .rw[if_pos z]
  obtain⟨us,q|⟨o,q⟩⟩:=h c z<;>rw[q]<;>rfl
 .rw[if_neg z]
section
variable {X:Cx}{E:XK}{He η:Hp}{a:Py}{x:Nat}{rest:List Q1}{e:Qc}{pos:Pos}{f:al}{g:List WE->Ev->ac->ai cw}
noncomputable def kK(x:Nat) (js:bm) (f:al) (g:List WE->Ev->ac->ai cw):Ev->ac->ai cw:=λρ st=>match f (iY js ρ) with
 |.ok (.lst ds)=>match yx ds with
  |some es=>if Jj js ρ=true/\kz ρ=true/\ds.length<line/\x<ρ.length then g es (ρ.set x .no) st else .stuck
  |none=>.stuck
 |_=>.stuck
theorem yw:∀{ds:ac}{es:List WE},yx ds=some es->es.length=ds.length
 |[],es,h=>by cases h;rfl
 |d::ds,es,h=>by
  unfold yx at h;cases q1:Ia d with
  |none=>rw[q1]at h;cases h
  |some e=>
  cases q2:yx ds with
  |none=>rw[q1,q2]at h;cases h
  |some er=>
  rw[q1,q2]at h;cases h;rw[Qj,Qj,yw q2]
def Af(js:bm){y:PY}{pos':Pos}(hN:X.N.Nodup)(hi:X.N[x]?=some y)(hx:wM X.env.scope y)(hK:A9 X.K)(hE:∀b,He b=none->X.Ha b=none)(he:DU X E e f)(hr:Ee X He η a x rest g)(hs:QY e (some (.Name y pos')) pos.line X.env=pure false:=by rfl)
  (hf:X.fn y=true∨X.env.scope.names.lookup y=some .local := by first|exact .inl rfl|exact .inr rfl|assumption):A8 X He η a (.Assign [.Name y pos'] e pos::rest) (kK x js f g):=by
 refine⟨?_⟩;refine cq (bV (iE hN hi hx he.o hs hf) (Ce hr.o)) λG σ H ⟨Ha,ρ,st,vs,h,q⟩=>?_;unfold kK at q;cases e1:f (iY js ρ) with
 |stuck|exn z=>rw[e1]at q;exact q.elim
 |ok d=>
 rw[e1]at q;cases d with
 |lst ds=>
  replace q:c5 X.K He η a Ha (match yx ds with
   |some es=>if Jj js ρ=true/\kz ρ=true/\ds.length<line/\x<ρ.length then g es (ρ.set x .no) st else .stuck
   |none=>.stuck) G:=q
  cases e2:yx ds with
  |none=>rw[e2]at q;exact q.elim
  |some es=>
  rw[e2]at q;replace q:c5 X.K He η a Ha (if Jj js ρ=true/\kz ρ=true/\ds.length<line/\x<ρ.length then g es (ρ.set x .no) st else .stuck) G:=q
  by_cases hc:Jj js ρ=true/\kz ρ=true/\ds.length<line/\x<ρ.length
  rotate_left
  .rw[if_neg hc]at q;exact q.elim
  rw[if_pos hc]at q;obtain⟨hj,hn,hd,hxl⟩:=hc;have hp:∀j∈js,∀d',ρ[j]?=some (.sh d')->plainD d'=true:=λj hj' d' ej=>by
   have:=P7.mp hj j hj';rw[ej]at this;exact this
  let S:Py->Prop:=λb=>∃j∈js,∃dj v,ρ[j]?=some (.sh dj)/\σ[j]?=some (some v)/\Ft X.K Ha dj v b
  refine⟨rst Ha S,iY js ρ,lA.trans h.s.g.sub,λi di ei=>?_,?_⟩
  .obtain⟨hj,ei⟩:=vR ei
   obtain⟨v,h1,h2⟩:=h.s.rd i di ei;exact⟨v,h1,Rep.rst (hp i hj di ei) h2 λb hb=>⟨i,hj,di,v,ei,h1,hb⟩⟩
  rw[e1];intro v H' Hm l g1 rl nd new;have hF:aB Hm (frz (upd He a (.lst vs)) Ha H'):=λc o e=>by
   unfold frz;cases q1:upd He a (.lst vs) c with
   |none=>exact g1.sub _ _ e
   |some o1=>
    simp only;have hH:=h.s.g.s _ _ q1;cases q2:rst Ha S c with|none=>have:=g1.nw c (by rw[e];simp) q2;rw[hH]at this;cases this|some o2=>have:=g1.z _ _ q2;rw[e]at this;cases this;exact lA _ _ q2
  have rl0:=rl;unfold RL at rl;obtain⟨t,us,r,rfl,ht,rls,rfl⟩:=rl;obtain⟨P,p1,p2⟩:=yz hK rls e2 (Rq.mp nd).2;have htr:=(Rq.mp nd).1;have hll:=RL.lists hK rl0;have hHx:∀c∈t::r,upd He a (.lst vs) c=none:=λc hc=>h.s.g.s.free (new c hc);have hH0:∀c∈t::r,Ha c=none:=λc hc=>h.s.g.sub.free (new c hc);have hHe:∀c∈t::r,X.Ha c=none:=λc hc=>hE c (by
   have:=hHx c hc
   by_cases z:c=a
   .subst z;exact h.ha
   .rw[au z]at this;exact this)
  have hrd:∀c∈t::r,∀ws,Rd Hm c (.lst ws)->wQ (t::r) H' c=some (.lst ws):=λc hc ws q=>EC hc (aB.rd g1.sub q);refine⟨wQ (t::r) H',Ib hHe,Ha,ρ.set x .no,st,vs,es,?_,?_,q⟩
  .have h1:=h.back (aB.refl _) (h.s.same g1.s)
   have h2:=h1.back (aB.refl _) (h1.s.dropT (i:=x) (v:=.ref t));refine h2.poke (ud hn) (λc o e=>?_) λc o e=>?_
   .unfold wQ;rw[if_neg (λz=>by rw[hHx c z]at e;cases e)];exact h2.s.g.s _ _ e
   .unfold wQ;rw[if_neg (λz=>by rw[hH0 c z]at e;cases e)];exact h2.s.g.sub _ _ e
  .have tj:aB (tups Hm) (tups (frz (upd He a (.lst vs)) Ha (wQ (t::r) H'))):=by
    rw[FP hHx,Bw λc hc=>(by obtain⟨ws,q⟩:=hll c hc;exact⟨ws,aB.rd hF q⟩)];exact jR hF
   refine⟨t,us,P,by rw[PZ (by rw[←h.s.ln];exact hxl)],hrd t (by simp) us (hK.rd ht),hHx t (by simp),hH0 t (by simp),by rw[←rls.reps.length];exact hd,by rw[yw e2];exact rls.reps.length,λk e he=>?_,p2⟩;obtain⟨t1,u,wv,k1,k2,k3,k4,k5⟩:=p1 k e he;refine⟨t1,u,wv,k1,aB.sqT tj (k2.imp yy id),(k3.tups k4).mono tj,?_⟩;cases q:e.2 with
   |none=>rw[q]at k5;exact k5
   |some ns=>
    rw[q]at k5;have hm:P k∈t::r:=PV _ k5.2.1;exact⟨k5.1,hrd _ hm _ k5.2.2,hHx _ hm,hH0 _ hm,λz=>htr (by rw[←z];exact k5.2.1)⟩
 |_=>exact q.elim
def Br(r:Ev->ac->ai cw):List WE->Ev->ac->ai cw:=λ_ ρ st=>if kz ρ=true then r ρ st else .stuck
def Ii{y:PY}{jn}{p1 p2 p3 p5 p6:Pos}{r:Ev->ac->ai cw}(hN:X.N[x]?=some y)(hv:wJ X.env.scope y)(hr:A8 X He η a rest r)
  (hd:(y==("__debug__" : PY))=false:=by decide)(hcd:(y==("__classdict__" : PY))=false:=by decide)
  (hbase:R4 (.Name y p1) "append" X.env (eval (.Name y p1) X.env)=eval (.Name y p1) X.env:=by rfl)
  (hfew:((QZ p3 (PM [.Constant .none jn p6] X.env)).all (λx=>!x.1)&&(SS p3 (RS [] X.env)).all (λx=>x.1.isSome)
  &&decide ([(.Constant .none jn p6:Qc)].length+([]:List RH).length+(if([]:List RH).isEmpty then 0 else 1)<30))=true:=by exact fA rfl)
  (hline:(p2.endLine==p3.line)=true:=by rfl) (hs:PM [.Constant .none jn p6] X.env=(false,eval (.Constant .none jn p6) X.env)::PM [] X.env:=by exact ba rfl) (hplain:(QZ p3 (PM [] X.env)).any (·.1)=false:=by exact bX rfl)
  (hw:QY (.Call (.Attribute (.Name y p1) "append" p2) [.Constant .none jn p6] [] p3) none p5.line X.env=pure false:=by rfl) :
  Ee X He η a x (.Expr (.Call (.Attribute (.Name y p1) "append" p2) [.Constant .none jn p6] [] p3) p5::rest) (Br r):=by
 refine⟨?_⟩;have h1:=jS (rZ RK RD RC fW (eA hN hv hd hcd) (cO (Cs (j:=jn) (pos:=p6)) eC hs) hbase hfew hline hs hplain) hw;refine cq (bV h1 hr.o) λG σ H ⟨Ha,ρ,st,vs,es,h,t,q⟩=>?_;unfold Br at q
 by_cases hn:kz ρ=true
 rotate_left
 .rw[if_neg hn]at q;exact q.elim
 rw[if_pos hn]at q;obtain⟨b,us,P,k1,k2,k3,k4,k5,_⟩:=t;refine⟨.ref b,k1,.inl ⟨rfl,us,dR.of k2⟩,b,us,.non,rfl,rfl,k2,PK k5 (by decide),Ha,ρ,st,vs,?_,q⟩;exact h.poke hn (λc o e=>by rw[au (by intro z;subst z;rw[k3]at e;cases e)];exact h.s.g.s _ _ e) λc o e=>by rw[au (by intro z;subst z;rw[k4]at e;cases e)];exact h.s.g.sub _ _ e
end
def gs(n:Int)(e:WE):WE:=(e.1,e.2.map (·++[n]))
def CU(es:List WE):Bool:=es.all λe=>match e.2 with
 |none=>true
 |some ns=>decide (ns.length<line)
def N5{ρ:Ev}{i j:Nat}:((((ρ.set i .no).set j .no).set i .no).set j .no)=(ρ.set i .no).set j .no:=by
 apply TN;intro m;simp only[List.getElem?_set,RZ]
 by_cases h1:j=m<;>by_cases h2:i=m<;>simp[h1,h2]
def CH{ρ:Ev}{x y:Nat}(h:kz ρ=true):kz ((ρ.set x .no).set y .no)=true:=ud (ud h)
section
variable {X:Cx}{E:XK}{He η:Hp}{c:Py}{x:Nat}{rest:List Q1}{g:List WE->Ev->ac->ai cw}
def Bq(x y z:Nat)(n:Int)(g:List WE->Ev->ac->ai cw):List WE->Ev->ac->ai cw:=λes ρ st=>
 if kz ρ=true/\CU es=true/\x≠y/\x≠z/\y≠z/\z<ρ.length then g (es.map (gs n)) ((ρ.set y .no).set z .no) st else .stuck
def Ih{y z:Nat}{n:Int}{nx ny nz:PY}{kk jn j0}{p1 p2 p3 p4 p5 p6 p7 p8 p9 p10 p11 p12 p13 pos:Pos}(hp:PassesOwn (Ql X.prog X.w) X.A X.env X.xe)(hc:X.calm=true)(hND:X.N.Nodup)
  (hx:X.N[x]?=some nx)(hy:X.N[y]?=some ny)(hz:X.N[z]?=some nz)(vx:wJ X.env.scope nx)(vz:wJ X.env.scope nz)
  (hgs:A3 X [.Name ny p1,.Name nz p2] (Lg [y,z]))(hr:Ee X He η c x rest g)
  (d1:(nx==("__debug__" : PY))=false:=by decide)(c1:(nx==("__classdict__" : PY))=false:=by decide)(d2:(nz==("__debug__" : PY))=false:=by decide)(c2:(nz==("__classdict__" : PY))=false:=by decide)
  (hn:(assignEach [.Name ny p1,.Name nz p2] X.env).length=[y,z].length:=by rfl)(hst:(assignEach [.Name ny p1,.Name nz p2] X.env).findIdx? (·.1)=none:=by rfl)
  (nm:behindInMarks .IsNot (.Constant .none j0 p6)=false:=by rfl)
  (hbase:R4 (.Name nz p8) "append" X.env (eval (.Name nz p8) X.env)=eval (.Name nz p8) X.env:=by rfl)
  (hfew:((QZ p11 (PM [.Constant (.int n) jn p10] X.env)).all (λx=>!x.1)&&(SS p11 (RS [] X.env)).all (λx=>x.1.isSome)
  &&decide ([(.Constant (.int n) jn p10:Qc)].length+([]:List RH).length+(if([]:List RH).isEmpty then 0 else 1)<30))=true:=by exact fA rfl)
  (hline:(p9.endLine==p11.line)=true:=by rfl) (hs:PM [.Constant (.int n) jn p10] X.env=(false,eval (.Constant (.int n) jn p10) X.env)::PM [] X.env:=by exact ba rfl) (hplain:(QZ p11 (PM [] X.env)).any (·.1)=false:=by exact bX rfl)
  (hw:QY (.Call (.Attribute (.Name nz p8) "append" p9) [.Constant (.int n) jn p10] [] p11) none p12.line X.env=pure false:=by rfl)
  (hfs:∀v,foldedSetIterable (.Name nx p4) X.env v=pure v:=by intro _;rfl) :
  Ee X He η c x (.For (.Tuple [.Name ny p1,.Name nz p2] kk p3) (.Name nx p4) [.If (.Compare (.Name nz p5) [.IsNot] [.Constant .none j0 p6] p7) [.Expr (.Call (.Attribute (.Name nz p8) "append" p9) [.Constant (.int n) jn p10] [] p11) p12] [] p13] [] pos::rest) (Bq x y z n g):=by
 refine⟨?_⟩;have hcmp:DT X E0 (.Compare (.Name nz p5) [.IsNot] [.Constant .none j0 p6] p7) (ae (aa z) (dC .non) gJ):=aR og oh (DP hz vz d2 c2) b5 nm;have hb:=yO hcmp.o (bV (jS (rZ RK RD RC fW (eA hz vz d2 c2) (cO (xq (i:=n) (j:=jn) (pos:=p10)) eC hs) hbase hfew hline hs hplain) hw) fj) (fj (X:=X)) (pos:=p13);refine cq (bV (mz hp hc (tY (eA hx vx d1 c1)) (Cq hc hgs hn hst) (bV hb fj) hfs) hr.o) λG σ H ⟨Ha,ρ,st,vs,es,h,t,q⟩=>?_;unfold Bq at q
 by_cases hcd:kz ρ=true/\CU es=true/\x≠y/\x≠z/\y≠z/\z<ρ.length
 rotate_left
 .rw[if_neg hcd]at q;exact q.elim
 rw[if_pos hcd]at q;obtain⟨hno,hln,hxy,hxz,hyz,hzl⟩:=hcd;obtain⟨a,us,P,k1,k2,k3,k4,k5,k6,k7,k8⟩:=t;have no':=CH (x:=y) (y:=z) hno;generalize hρ:(ρ.set y .no).set z .no=ρ' at q no';have hzl':z<ρ'.length:=by subst hρ;simpa using hzl
 generalize hJ:tups (frz (upd He c (.lst vs)) Ha H)=J at k7
 let Pv:Nat->L2.St->Hp->Prop:=λi σ' H'=>fF X.K He η Ha σ' H' ρ' c st vs/\σ'[x]?=some (some (.ref a))/\H' a=some (.lst us)/\aB J (tups (frz (upd He c (.lst vs)) Ha H')) /\
  ∀(k:Nat) (e:WE),es[k]?=some e->WA X.K J (upd He c (.lst vs)) Ha H' a (P k) us[k]? (if k<i then gs n e else e)
 have same:∀{i:Nat}{σ':L2.St}{H1 H2:Hp},aB H1 H2->Pv i σ' H1->Pv i σ' H2:=λ{i σ' H1 H2} s ⟨m1,m2,m3,m4,m5⟩ =>
  ⟨m1.back (aB.refl _) (m1.s.same s),m2,s _ _ m3,m4.trans (jR (vY s)),λk e he=>(m5 k e he).mono (aB.refl _) s λz _ _=>z⟩
 refine⟨.ref a,k1,a,rfl,⟨us,dR.of k2⟩,?_⟩;refine vZ (K:=X.K) (a:=a) (xs:=us) (g:=λv σ H Q=>∃a xs,v=V.ref a/\(jd X.K H a xs∨dR X.K H a xs)/\xs.length=[y,z].length/\Q (tR σ [y,z] xs) H) (tb:=tK (Lw (Ir X.K E0 (ae (aa z) (dC D.non) gJ)) (tK (uZ (LA X.K "list" lD (tJ z) (jh (tC (V.int n)) uY))) nc) nc) nc) (D:={ G with nx:=OB X.K He η c x g G }) Pv ⟨?_,k1,k2,by rw[hJ];exact aB.refl _,λk e he=>by rw[if_neg (Tn k)];exact k7 k e he⟩ (λi σ' H' _ ⟨_,_,m3,_⟩=>dR.of m3) ?_ ?_
 .subst hρ
  exact h.back (aB.refl _) (h.s.hide.hide)
 .rintro i x0 σ' H' hx0 ⟨m1,m2,m3,m4,m5⟩
  have hie:i<es.length:=by rw[k6];exact(PH.mp hx0).1
  have hei:=PL hie;generalize es[i]=e0 at hei;have w0:=m5 i e0 hei;rw[if_neg (RE i),hx0]at w0;obtain⟨tt,u,wv,w1,w2,w3,w4⟩:=w0;cases w1;have jf:aB J (frz (upd He c (.lst vs)) Ha H'):=m4.trans jQ;refine⟨tt,[u,wv],rfl,.inl (aB.sqT (jf.trans m1.s.frz_le) w2),rfl,?_⟩;have hs2:tR σ' [y,z] [u,wv]=(σ'.set y (some u)).set z (some wv):=rfl;rw[hs2];have l2:z<(σ'.set y (some u)).length:=by rw[RZ,←m1.s.ln];exact hzl'
  have sz:((σ'.set y (some u)).set z (some wv))[z]?=some (some wv):=PZ l2;have sx:((σ'.set y (some u)).set z (some wv))[x]?=some (some (.ref a)):=by
   rw[PB (Qx hxz),PB (Qx hxy)];exact m2
  have m1':fF X.K He η Ha ((σ'.set y (some u)).set z (some wv)) H' ρ' c st vs:=by
   have:=m1.back (aB.refl _) (((m1.s.dropT (i:=y) (v:=u)).dropT (i:=z) (v:=wv)));rw[←hρ,N5,hρ]at this;exact this
  generalize hσ:(σ'.set y (some u)).set z (some wv)=σ2 at *;have P1:Pv i σ2 H':=⟨m1',sx,m3,m4,m5⟩
  have rz:Rep X.K (frz (upd He c (.lst vs)) Ha H') (B2 e0.2) wv:=by
   cases q1:e0.2 with
   |none=>rw[q1]at w4;exact aM.mpr w4
   |some ns=>
    rw[q1]at w4;exact aF.mpr ⟨P i,_,w4.1,dR.of (by unfold frz;rw[w4.2.2.1];exact w4.2.1),Reps.ints ns⟩
  refine⟨frz (upd He c (.lst vs)) Ha H',(Qd σ2.length Sl.no).set z (.sh (B2 e0.2)),m1'.s.frz_le,λj d ej=>?_,?_⟩
  .by_cases hj:z=j
   .subst hj
    rw[PZ (by rw[Qy,←m1'.s.ln];exact hzl')]at ej;cases ej;exact⟨wv,sz,rz⟩
   .rw[PB hj,Qb]at ej
    split at ej<;>cases ej
  have ev:ae (aa z) (dC .non) gJ ((Qd σ2.length Sl.no).set z (.sh (B2 e0.2)))=.ok (.bl e0.2.isSome):=by
   unfold ae aa;rw[PZ (by rw[Qy,←m1'.s.ln];exact hzl')];cases e0.2<;>rfl
  rw[ev];intro H1 J1 g1;have P2:=same g1.s P1;have step:∀{H3:Hp},fF X.K He η Ha σ2 H3 ρ' c st vs->H3 a=some (.lst us)->aB J (tups (frz (upd He c (.lst vs)) Ha H3))->(∀(k:Nat) (e:WE),es[k]?=some e->k≠i->WA X.K J (upd He c (.lst vs)) Ha H1 a (P k) us[k]? (if k<i then gs n e else e)->WA X.K J (upd He c (.lst vs)) Ha H3 a (P k) us[k]? (if k<i then gs n e else e))->WA X.K J (upd He c (.lst vs)) Ha H3 a (P i) us[i]? (gs n e0)->Pv (i+1) σ2 H3:=λ{H3} n1 n2 n3 n4 n5=>by
   refine⟨n1,sx,n2,n3,λk e he=>?_⟩
   by_cases hk:k=i
   .subst hk
    rw[he]at hei;cases hei;rw[if_pos (RM k)];exact n5
   .have:=n4 k e he hk (P2.2.2.2.2 k e he)
    by_cases hlt:k<i
    .rw[if_pos hlt]at this;rw[if_pos (by omega)];exact this
    .rw[if_neg hlt]at this;rw[if_neg (by omega)];exact this
  cases q1:e0.2 with
  |none=>
   show Pv (i+1) σ2 H1;refine step P2.1 P2.2.2.1 P2.2.2.2.1 (λk e _ _ z=>z) ?_;have:=P2.2.2.2.2 i e0 hei;rw[if_neg (RE i)]at this;have ea:gs n e0=e0:=by unfold gs;rw[q1];obtain⟨d,o⟩:=e0;cases q1;rfl
   rw[ea];exact this
  |some ns=>
   have wi:=P2.2.2.2.2 i e0 hei;rw[if_neg (RE i),hx0]at wi;obtain⟨t1,u1,v1,i1,i2,i3,i4⟩:=wi;cases i1;rw[q1]at w4 i4;obtain⟨rfl,_⟩:=w4;obtain⟨i5,i6,i7,i8,i9⟩:=i4;have hnl:ns.length<line:=by
    have:=P7.mp hln e0 (PU hei);rw[q1]at this;simpa using this
   refine⟨.ref (P i),sz,.inl ⟨rfl,_,dR.of i6⟩,P i,_,.int n,rfl,rfl,i6,by rw[Pz];exact PK hnl (by decide),?_⟩;show Pv (i+1) σ2 _;refine step ?_ ?_ ?_ (λk e he hk w=>?_) ?_
   .exact P2.1.poke no' (λb o eb=>by rw[au (by intro zz;subst zz;rw[i7]at eb;cases eb)];exact P2.1.s.g.s _ _ eb) λb o eb=>by rw[au (by intro zz;subst zz;rw[i8]at eb;cases eb)];exact P2.1.s.g.sub _ _ eb
   .rw[au (Qx i9)];exact P2.2.2.1
   .rw[FO i7,Bv (us':=ns.map V.int) (by unfold frz;rw[i7];exact i6)];exact P2.2.2.2.1
   .obtain⟨t2,u2,v2,j1,j2,j3,j4⟩:=w
    refine⟨t2,u2,v2,j1,j2,j3,?_⟩;have two:∀m,(if k<i then gs n e else e).2=some m->P k≠P i:=λm hm hP=>by
     cases q2:e.2 with
     |none=>
      by_cases hlt:k<i
      .rw[if_pos hlt]at hm;unfold gs at hm;rw[q2]at hm;cases hm
      .rw[if_neg hlt,q2]at hm;cases hm
     |some m0=>exact hk (k8 k i e.1 e0.1 m0 ns (by rw[he,←q2]) (by rw[hei,←q1]) hP)
    cases q2:(if k<i then gs n e else e).2 with|none=>rw[q2]at j4;exact j4|some m=>rw[q2]at j4;exact⟨j4.1,by rw[au (two m q2)];exact j4.2.1,j4.2.2⟩
   .refine⟨tt,u1,v1,hx0,i2,i3,?_⟩
    have ea:(gs n e0).2=some (ns++[n]):=by unfold gs;rw[q1];rfl
    rw[ea];exact⟨i5,by rw[aG,QB];rfl,i7,i8,i9⟩
 .rintro σ' H' ⟨m1,m2,m3,m4,m5⟩
  refine⟨Ha,ρ',st,vs,es.map (gs n),m1,⟨a,us,P,m2,m3,k3,k4,k5,by rw[Pz];exact k6,λk e he=>?_,λj k d d' m m' hj hk hP=>?_⟩,q⟩
  .rw[PN]at he
   cases q1:es[k]? with
   |none=>rw[q1]at he;cases he
   |some e0=>
    rw[q1]at he;cases he;have:=m5 k e0 q1;rw[if_pos (by rw[←k6];exact(PH.mp q1).1)]at this;exact this.mono m4 (aB.refl _) λz _ _=>z
  .rw[PN]at hj hk
   cases q1:es[j]? with
   |none=>rw[q1]at hj;cases hj
   |some e0=>
   cases q2:es[k]? with
   |none=>rw[q2]at hk;cases hk
   |some e1=>
    rw[q1]at hj;rw[q2]at hk;obtain⟨d0,o0⟩:=e0;obtain⟨d1,o1⟩:=e1;cases o0 with
    |none=>cases hj
    |some n0=>
    cases o1 with|none=>cases hk|some n1=>exact k8 j k d0 d1 n0 n1 q1 q2 hP
end
end DL
namespace K11
open PySem L2 DL
noncomputable def eP:am :=
 (aA (dQ (ae (ae (aa 0) (dC (.int 0)) aN) (aa 1) mS)
 (aA (bD (ae (aa 0) (dC (.int 1)) aN))
 ar)
 ar)
 (aA (dQ (gf (ae (ae (aa 0) (dC (.int 1)) aN) (aa 1) mS) (ae (ae (aa 0) (dC (.int 2)) aN) (dC (.str "both")) mS))
 (aA (bD (ae (aa 0) (dC (.int 0)) aN))
 ar)
 ar)
 (aA (bD (dC (.non)))
 ar)))
def bh:ac->ai D:=cM 2 eP
noncomputable def bI:am :=
 (aA (dQ (gV (cJ (cu (aa 1) (c4 "int"))) (cu (aa 1) (c4 "bool")))
 (aA (bD (dC (.bl false)))
 ar)
 ar)
 (aA (bD (gQ M9 Li (dC (.int 0)) (aa 1) (ao (ag (ae (aa 0) (dC (.int 1)) aN) aC) (m1 bS))))
 ar))
def aQ:ac->ai D:=cM 2 bI
noncomputable def fP:am :=
 (aA (dQ (cJ (cu (aa 2) (c4 "list")))
 (aA (bD (ao (ag (dC (.str "at")) (ag (dC (.non)) aC)) eJ))
 ar)
 ar)
 (aA (bq 3 (ae (aa 0) (dC (.int 2)) aN))
 (aA (kI 4 (ao (ag (aa 3) aC) du))
 (aA (kq (ao (ag (aa 2) aC) (m1 bS)) (bJ 5)
 (aA (bq 6 (ae (aa 2) (aa 5) aN))
 (aA (bq 7 (dC (.non)))
 (aA (dQ (gf (ae (aa 3) (ae (aa 0) (dC (.int 3)) aN) fY) (gf (ao (ag (aa 0) (ag (aa 6) aC)) aQ) (ae (aa 6) (aa 1) c9)))
 (aA (bq 7 (ao (ag (ae (ae (aa 0) (dC (.int 1)) aN) (aa 6) aN) (ag (aa 3) aC)) bh))
 ar)
 ar)
 (aA (dQ (gV (ae (aa 7) (dC (.non)) c3) (ae (aa 7) (aa 4) A7))
 (aA (bD (ao (ag (dC (.str "at")) (ag (aa 5) aC)) eJ))
 ar)
 ar)
 (aA (bq 3 (aa 7))
 (aA (ez 4 (aa 3))
 ar)))))))
 (aA (dQ (ae (aa 3) (ae (aa 0) (dC (.int 3)) aN) fY)
 (aA (bD (ao (ag (dC (.str "at")) (ag (ao (ag (aa 2) aC) (m1 bS)) aC)) eJ))
 ar)
 ar)
 (aA (bD (ao (ag (dC (.str "way")) (ag (aa 4) aC)) eJ))
 ar))))))
def cy:ac->ai D:=cM 8 fP
noncomputable def gS:am :=
 (aA (bq 1 (ao (ag (ae (aa 0) (dC (.int 0)) aN) (ag (ae (aa 0) (dC (.int 1)) aN) aC)) eJ))
 (aA (dQ (ae (ae (aa 0) (dC (.int 2)) aN) (dC (.str "one")) mS)
 (aA (bD (ao (ag (aa 1) aC) du))
 ar)
 ar)
 (aA (bD (ao (ag (aa 1) (ag (ao (ag (ae (aa 0) (dC (.int 1)) aN) (ag (ae (aa 0) (dC (.int 0)) aN) aC)) eJ) aC)) du))
 ar)))
def m_steps_along:ac->ai D:=cM 2 gS
end K11
namespace K12
open PySem L2 DL
abbrev bj:ac->ai D:=Cod.bj
noncomputable def nJ:am :=
 (aA (bD (ao (ag (ae (ae (ae (aa 0) (dC (.int 0)) aN) (ae (aa 1) (dC (.int 1)) aN) cg) (ae (ae (aa 1) (dC (.int 0)) aN) (ae (aa 0) (dC (.int 1)) aN) cg) cj) (ag (ae (ae (aa 0) (dC (.int 1)) aN) (ae (aa 1) (dC (.int 1)) aN) cg) aC)) bj))
 ar)
def bE:ac->ai D:=cM 2 nJ
end K12
namespace K51
open PySem L2 DL
abbrev bj:ac->ai D:=Cod.bj
abbrev bE:ac->ai D:=K12.bE
def nK:am :=
 (aA (bD (ae (ae (ae (aa 0) (dC (.int 0)) aN) (ae (aa 1) (dC (.int 1)) aN) cg) (ae (ae (aa 1) (dC (.int 0)) aN) (ae (aa 0) (dC (.int 1)) aN) cg) Li))
 ar)
def cA:ac->ai D:=cM 2 nK
abbrev m_steps_along:ac->ai D:=K11.m_steps_along
noncomputable def b_steps_left:am :=
 (aA (kI 2 (ao aC du))
 (aA (kr (Ae (ae (aa 0) (dC (.int 1)) aN)) (dN [3,4])
 (aA (dQ (ae (aa 3) (aa 1) c9)
 (aA (qT (ao (ag (aa 4) aC) m_steps_along) (dN [5,6])
 (aA (ez 2 (ao (ag (aa 3) (ag (aa 5) (ag (aa 6) aC))) eJ))
 ar))
 ar)
 ar)
 ar))
 (aA (bD (aa 2))
 ar)))
def m_steps_left:ac->ai D:=cM 7 b_steps_left
end K51
namespace K17
open PySem L2 DL
abbrev m_on_one_scale:ac->ai D:=Com.m_on_one_scale
def il:am :=
 (aA (bD (ao (ag (cL 1 [] (iz (ae (aa 0) (dC (.int 1)) aN)) (bJ 0) mYes (ae (aa 0) (dC (.int 3)) aN)) aC) m_on_one_scale))
 ar)
def m_scaled_lengths:ac->ai D:=cM 1 il
abbrev m_steps_along:ac->ai D:=K11.m_steps_along
abbrev m_steps_left:ac->ai D:=K51.m_steps_left
noncomputable def jF:am :=
 (aA (bq 3 (dC (.non)))
 (aA (qT (aa 0) (dN [4,5,6])
 (aA (dQ (gf (ae (aa 5) (aa 2) pZ) (ae (aa 6) (aa 2) fq))
 (aA (bq 7 (ae (ae (ae (aa 2) (aa 5) eO) (dC (.int 0)) aN) (ae (aa 1) (aa 4) aN) cj))
 (aA (dQ (gV (ae (aa 3) (dC (.non)) c3) (ae (aa 7) (ae (aa 3) (dC (.int 1)) aN) Li))
 (aA (bq 3 (ao (ag (aa 6) (ag (aa 7) (ag (ae (ae (ae (aa 2) (aa 5) eO) (dC (.int 1)) aN) (ao (ag (aa 4) aC) du) cj) aC))) eJ))
 ar)
 ar)
 ar))
 ar)
 ar))
 (aA (bD (aa 3))
 ar)))
def m_nearest_step:ac->ai D:=cM 8 jF
noncomputable def gT:am :=
 (aA (bq 3 (ao (ag (aa 0) (ag (aa 1) aC)) m_steps_left))
 (aA (rW 4 (wu (ae (aa 0) (dC (.int 2)) aN) (ao (ag (dC (.int 0)) (ag (ao aC du) aC)) eJ)))
 (aA (oV 5 (ao (ag (aa 3) (ag (aa 2) (ag (aa 4) aC))) m_nearest_step))
 (aA (gN (λ_=>8) (ae (aa 5) (dC (.non)) gJ)
 (aA (ng 4 (ao (ag (ae (aa 5) (dC (.int 1)) aN) (ag (ae (aa 5) (dC (.int 2)) aN) aC)) eJ) (ae (aa 5) (dC (.int 0)) aN))
 (aA (oV 5 (ao (ag (aa 3) (ag (aa 2) (ag (aa 4) aC))) m_nearest_step))
 ar)))
 (aA (bD (aa 4))
 ar)))))
def m_all_reached:ac->ai D:=cM 6 gT
abbrev m_ratio:ac->ai D:=Com.m_ratio
noncomputable def gk:am :=
 (aA (bq 2 (ao (ag (aa 0) aC) m_scaled_lengths))
 (aA (bq 3 (ao (ag (aa 0) (ag (aa 1) (ag (ae (aa 2) (dC (.int 0)) aN) aC))) m_all_reached))
 (aA (rW 4 (dC (.dic [] [])))
 (aA (qT (ae (aa 0) (dC (.int 0)) aN) (bJ 5)
 (aA (ng 4 (rJ (ae (aa 5) (aa 3) pZ) (ao (ag (ae (ae (aa 3) (aa 5) eO) (dC (.int 0)) aN) (ag (ae (aa 2) (dC (.int 1)) aN) aC)) m_ratio) (dC (.non))) (aa 5))
 ar))
 (aA (dQ (ae (ae (aa 0) (dC (.int 3)) aN) (aa 3) fq)
 (aA (bD (ao (ag (dC (.non)) (ag (dC (.non)) (ag (aa 4) aC))) eJ))
 ar)
 ar)
 (aA (bD (ao (ag (ae (ae (aa 3) (ae (aa 0) (dC (.int 3)) aN) eO) (dC (.int 1)) aN) (ag (ae (aa 4) (ae (aa 0) (dC (.int 3)) aN) eO) (ag (aa 4) aC))) eJ))
 ar))))))
def m_shortest:ac->ai D:=cM 6 gk
end K17
def Ow:=(bc (bc (bc (bc (bc @Kk (bc @GG @GF)) (bc @GP (bc @GL @Dr))) (bc (bc @Kj (bc @GD @Km)) (bc @GJ (bc @GI @Dq)))) (bc (bc (bc @MS (bc @Kq @Kp)) (bc @Oe (bc @MW @MT))) (bc (bc @MU (bc @Oc @Od)) (bc (bc @MV @MR) (bc @GO @MQ))))) (bc (bc (bc (bc @Ki (bc @Of @MY)) (bc @MX (bc @Ko @GR))) (bc (bc @Dt (bc @Ds @Og)) (bc (bc @MZ @GU) (bc @Du @Kn)))) (bc (bc (bc @GK (bc @Ks @GN)) (bc @zI (bc @Kh @GC))) (bc (bc @GB (bc @wg @Kr)) (bc (bc @GQ @GS) (bc @Kl @GH))))))
local macro_rules|`(tactic|open_line with[$xs,*])=>`(tactic|simp only[Lc,Nk,Ow,PQ,Q3,Qj,SJ,Tu,Tt,QX,Se,RO,QU,TF,TH,Tf,Nat.reduceSub,Nat.reduceAdd,UB,Te,R6,RQ,decide_true,decide_false,Nat.reduceLeDiff,Nat.reduceBEq,Int.reduceBEq,beq_self_eq_true,DL.dOne,DL.mYes,Int.reduceLT,Int.reduceLE,Int.reduceSub,Int.reduceAdd,Int.reduceMul,Int.reduceNeg,Int.reduceToNat,Ur,$[$xs:term],*])
namespace Bor
open PySem L2 DL Com
def St(st:ac):Prop:=∃(c s:Int) (b:Bool),st=[.int c,.int s,.bl b]/\0<=s/\s<2147483647
def p6:rH (.int 10) (.int 6)=.ok (.int 1000000):=aH rfl
def next(s:Int):Int:=(s*39373+17).fmod 2147483647
def ze(s:Int):0<=next s/\next s<2147483647:=eX (by decide)
def Mh(m s:Int):Int:=m*2147483587+(s*s).fmod 2147483587
def tI{a:Py}{n c s m:Int}{b:Bool}{k:Int}(h0:0<=s)(h1:s<2147483647)(hm:0<=m/\m<1000000000000000000000000000) :
  (bM (vM 0 a (mV 0 a (ae (ae (ae (ae (aa 0) (dC (.int 1)) aN) (dC (.int 39373)) cg) (dC (.int 17)) cj) (dC (.int 2147483647)) dh)) (mP (dC (.int 1))))
 (bM (e9 3 (mV 0 a (ae (ae (aa 3) (dC (.int 2147483587)) cg) (ae (ae (ae (aa 0) (dC (.int 1)) aN) (ae (aa 0) (dC (.int 1)) aN) cg) (dC (.int 2147483587)) dh) cj)))
 cK)) [.pt a,.sh (.int n),.no,.sh (.int m),.sh (.int k)] [.int c,.int s,.bl b]=.ok (.nx [.pt a,.sh (.int n),.no,.sh (.int (Mh m (next s))),.sh (.int k)] [.int c,.int (next s),.bl b]):=by
 have o1:dW s 39373=true:=gb (by omega) (by decide);have g:=ze s;have o2:dW (next s) (next s)=true:=gb (by omega) (by omega);have o3:dW m 2147483587=true:=eI (Tg (show m.natAbs<1000000000000000000000000000 by omega) (by rw[mZ];decide +kernel)) (Tg (show(2147483587:Int).natAbs<2147483588 by decide) (by rw[mZ];decide +kernel));have e:(s*39373+17).fmod 2147483647=next s:=rfl;have hp:∀(ρ:Ev) (d:D),lE ρ d (.int 1,[.int c,.int s,.bl b])=.ok (.nx ρ [.int c,d,.bl b]):=λ_ _=>rfl;open_line with[cz o1,e,cz o2,cz o3,hp,Mh]
def cx(a:Py){n:Int}(n0:0<n)(n1:n<=1000000000000000000){st:ac}(h:St st):∃(d:Int) (st':ac),aO a st [.int n]=.ok (.int d,st')/\0<=d/\d<n/\St st':=by
 obtain⟨c,s,b,rfl,s0,s1⟩:=h;have hn0:(n==0)=false:=beq_eq_false_iff_ne.mpr (by omega);have hd:eY c n=true:=DJ (by omega) (Qu (show n.natAbs<=1000000000000000000 by omega) (by rw[zT];decide +kernel));cases b with
 |true=>
  have f:=eX (a:=c) (b:=n) n0;have p0:∀(ρ:Ev) (d:D),lE ρ d (.int 0,[.int c,.int s,.bl true])=.ok (.nx ρ [d,.int s,.bl true]):=λ_ _=>rfl;have p2:∀(ρ:Ev) (d:D),lE ρ d (.int 2,[.int (c.fdiv n),.int s,.bl true])=.ok (.nx ρ [.int (c.fdiv n),.int s,d]):=λ_ _=>rfl;refine⟨c.fmod n,[.int (c.fdiv n),.int s,.bl (decide (c.fdiv n > 0))],?_,f.1,f.2,_,_,_,rfl,s0,s1⟩;open_line with[aO,jH,hn0,mL hd,p0,p2]
 |false=>
  have key:∃t:Nat,t<=3/\∀x2 x3 x4:Sl,(kn (ae (dC (.int 1)) (ae (dC (.int 2)) (ao (ag (ae (aa 1) (ae (dC (.int 10)) (dC (.int 6)) rH) KI) aC) (m1 kT)) cg) cj)) [.pt a,.sh (.int n),x2,x3,x4]=.ok (intsFrom 0 t):=by
   by_cases hb:n > 1000000
   .refine⟨3,by decide,λx2 x3 x4=>?_⟩
    have o:dW 2 1=true:=gb (by decide) (by decide);have:(ae (dC (.int 1)) (ae (dC (.int 2)) (ao (ag (ae (aa 1) (ae (dC (.int 10)) (dC (.int 6)) rH) KI) aC) (m1 kT)) cg) cj) [.pt a,.sh (.int n),x2,x3,x4]=.ok (.int 3):=by
     open_line with[p6,decide_eq_true hb,cz o]
    unfold kn;rw[this];rfl
   .refine⟨1,by decide,λx2 x3 x4=>?_⟩
    have o:dW 2 0=true:=gb (by decide) (by decide);have:(ae (dC (.int 1)) (ae (dC (.int 2)) (ao (ag (ae (aa 1) (ae (dC (.int 10)) (dC (.int 6)) rH) KI) aC) (m1 kT)) cg) cj) [.pt a,.sh (.int n),x2,x3,x4]=.ok (.int 1):=by
     open_line with[p6,decide_eq_false hb,cz o]
    unfold kn;rw[this];rfl
  obtain⟨t,ht,hsrc⟩:=key;have hlen:(intsFrom 0 t).length=t:=by unfold DL.intsFrom;simp
  obtain⟨ρ2,st2,hl,m,s',x4,rfl,rfl,k0,k1,m0,_⟩:=v5 (tg:=bJ 4) (body:=(bM (vM 0 a (mV 0 a (ae (ae (ae (ae (aa 0) (dC (.int 1)) aN) (dC (.int 39373)) cg) (dC (.int 17)) cj) (dC (.int 2147483647)) dh)) (mP (dC (.int 1))))
 (bM (e9 3 (mV 0 a (ae (ae (aa 3) (dC (.int 2147483587)) cg) (ae (ae (ae (aa 0) (dC (.int 1)) aN) (ae (aa 0) (dC (.int 1)) aN) cg) (dC (.int 2147483587)) dh) cj)))
 cK)))
   (λj ρ st=>∃(m s:Int) (x4:Sl),ρ=[.pt a,.sh (.int n),.no,.sh (.int m),x4]/\st=[.int c,.int s,.bl false]/\0<=s/\s<2147483647/\0<=m/\m<(2147483587:Int) ^ j)
   (intsFrom 0 t) (by
    rintro j d ρ st hj ⟨m,s,x4,rfl,rfl,s0,s1,m0,m1⟩;have hjt:j<t:=by have:=(PH.mp hj).1;omega
    have hd:d=.int (j:Int):=by
     unfold DL.intsFrom at hj;rw[PN,SK hjt]at hj;simp at hj;exact hj.symm
    subst hd;have hm:m<1000000000000000000000000000:=by
     have hj3:j=0∨j=1∨j=2:=by omega
     rcases hj3 with rfl|rfl|rfl<;>omega
    have g:=ze s;have r:=eX (a:=next s*next s) (b:=2147483587) (by decide);refine⟨_,_,_,rfl,.inl (tI (k:=(j:Int)) s0 s1 ⟨m0,hm⟩),Mh m (next s),next s,_,rfl,rfl,g.1,g.2,?_,?_⟩
    .unfold Mh
     have:0<=m*2147483587:=Int.mul_nonneg m0 (by decide);omega
    .unfold Mh
     rw[Int.pow_succ];omega) 0 [.pt a,.sh (.int n),.no,.sh (.int 0),.no] [.int c,.int s,.bl false] (R8 _) ⟨0,s,_,rfl,rfl,s0,s1,by decide,by decide⟩
  rw[R9]at hl;have f:=eX (a:=m.fdiv 64) (b:=n) n0;have hd64:eY m 64=true:=DJ (by decide) (by rw[zT];decide +kernel);refine⟨(m.fdiv 64).fmod n,[.int c,.int s',.bl false],?_,f.1,f.2,c,s',false,rfl,k0,k1⟩;open_line with[aO,jH,hsrc,hl,mL hd64,hn0]
def D3(ns:List Int)(k:Nat)(hk:k<=1000)(hl:ns.length<=63):∃st,b7 [.lst (ns.map D.int),.int k]=.ok (.lst st)/\St st:=by
 have hlen:bS (.lst (ns.map D.int))=.ok (.int ns.length):=by
  rw[dm,Pz]
 have o1:dW 104729 (k:Int)=true:=gb (by decide) (by omega);have o2:dW (104729*(k:Int)) (k:Int)=true:=gb (by omega) (by omega)
 by_cases h:k<ns.length
 .have hix:aN (.lst (ns.map D.int)) (.int (k:Int))=.ok (.int ns[k]):=kN (by rw[PN,PL h];rfl)
  have f:=eX (a:=(ns[k].fmod 2147483587+104729*(k:Int)*(k:Int)+7)) (b:=2147483587) (by decide);refine⟨[.int ns[k],.int ((ns[k].fmod 2147483587+104729*(k:Int)*(k:Int)+7).fmod 2147483587),.bl (decide (ns[k]≥1000000000000000000))],?_,_,_,_,rfl,f.1,by omega⟩;unfold b7 nQ iV;open_line with[hlen,hix,xS,cz o1,cz o2,decide_eq_true (show(k:Int)<(ns.length:Int) by omega),fL,BL,u7,CB]
 .have f:=eX (a:=((0:Int).fmod 2147483587+104729*(k:Int)*(k:Int)+7)) (b:=2147483587) (by decide)
  refine⟨[.int 0,.int (((0:Int).fmod 2147483587+104729*(k:Int)*(k:Int)+7).fmod 2147483587),.bl false],?_,_,_,_,rfl,f.1,by omega⟩;unfold b7 nQ iV;open_line with[hlen,xS,cz o1,cz o2,decide_eq_false (show ¬(k:Int)<(ns.length:Int) by omega),fL,BL,u7,CB]
def p12:rH (.int 10) (.int 12)=.ok (.int 1000000000000):=aH rfl
structure NI (x:dS):Prop where
 lo:Low x
 p0:0<=x.1
 p1:x.1<=1000000000000
 q1:x.2<=60
def Hf{c q:Int}(h0:0<=c)(h1:c<=1000000000000)(hq:0<q)(hq2:q<=60):NI (b6 c q):=by
 have a1:=uk (a:=c) (b:=q);have a2:=uh (a:=c) (b:=q);have hl:=cU (a:=c) hq;have:=hl.q1;exact⟨hl,pA h0 hq,by omega,by omega⟩
def qD(a:Py){l:Int}(hl:l=0∨l=1){st:ac}(h:St st):∃(x:dS) (st':ac),cR a st [.int l]=.ok (fr x,st')/\ir x/\0<=x.1/\(l=1->0<x.1)/\NI x/\St st':=by
 have hN:(1000000000000000000000:Int)<(ym:Int):=by decide
 obtain⟨w,st1,t1,w0,w1,S1⟩:=cx a (n:=6) (by decide) (by decide) h;obtain⟨t,m,ht,hm,i1,i2⟩:∃t m:Int,(0<t/\t<=1000000000000)/\(0<m/\m<=12)/\aN (.lst [.int 3,.int 6,.int 20,.int 12,.int 90,.int 1000000000000]) (.int w)=.ok (.int t)/\aN (.lst [.int 1,.int 1,.int 1,.int 4,.int 12,.int 12]) (.int w)=.ok (.int m):=by
  have:w=0∨w=1∨w=2∨w=3∨w=4∨w=5:=by omega
  rcases this with rfl|rfl|rfl|rfl|rfl|rfl
  .exact⟨3,1,by decide,by decide,rfl,rfl⟩
  .exact⟨6,1,by decide,by decide,rfl,rfl⟩
  .exact⟨20,1,by decide,by decide,rfl,rfl⟩
  .exact⟨12,4,by decide,by decide,rfl,rfl⟩
  .exact⟨90,12,by decide,by decide,rfl,rfl⟩
  .exact⟨1000000000000,12,by decide,by decide,rfl,rfl⟩
 obtain⟨u,st2,t2,u0,u1,S2⟩:=cx a (n:=t) ht.1 (by omega) S1;obtain⟨v,st3,t3,v0,v1,S3⟩:=cx a (n:=m) hm.1 (by omega) S2;obtain⟨q,hq,i3⟩:∃q:Int,(0<q/\q<=60)/\aN (.lst [.int 1,.int 2,.int 3,.int 4,.int 5,.int 6,.int 10,.int 12,.int 15,.int 20,.int 30,.int 60]) (.int v)=.ok (.int q):=by
  have:v=0∨v=1∨v=2∨v=3∨v=4∨v=5∨v=6∨v=7∨v=8∨v=9∨v=10∨v=11:=by omega
  rcases this with rfl|rfl|rfl|rfl|rfl|rfl|rfl|rfl|rfl|rfl|rfl|rfl
  .exact⟨1,by decide,rfl⟩
  .exact⟨2,by decide,rfl⟩
  .exact⟨3,by decide,rfl⟩
  .exact⟨4,by decide,rfl⟩
  .exact⟨5,by decide,rfl⟩
  .exact⟨6,by decide,rfl⟩
  .exact⟨10,by decide,rfl⟩
  .exact⟨12,by decide,rfl⟩
  .exact⟨15,by decide,rfl⟩
  .exact⟨20,by decide,rfl⟩
  .exact⟨30,by decide,rfl⟩
  .exact⟨60,by decide,rfl⟩
 have hlo:=Cod.low_ok (a:=l+u) (b:=q) (by omega) (Mm (by omega) (by omega)) (Mm (by omega) (by omega));refine⟨b6 (l+u) q,st3,?_,Mn (by omega) (by omega) (by omega),pA (by omega) (by omega),λe=>FH (by omega) (by omega),Hf (by omega) (by omega) (by omega) (by omega),S3⟩;open_line with[cR,kE,t1,t2,t3,i1,i2,i3,p12,hlo]
def xy{k n:Int}(hn:2<=n):k.fmod n≠(k+1).fmod n:=by
 rw[Q0 _ (by omega),Q0 _ (by omega)];intro e;have:=Int.emod_eq_emod_iff_emod_sub_eq_zero.mp e.symm;rw[show k+1-k=1 by omega,TR (by decide) (by omega)]at this;cases this
def eS(t:jJ):Prop:=NI t.l/\∀x,t.o=some x->NI x
def EG(a:Py){zs:bi}{k:Nat}(h2:2<=zs.length)(h8:zs.length<=8)(nd:zs.Nodup){st:ac}(h:St st):∃(t:jJ) (st':ac),d7 a st [.lst (zs.map D.str),.int k]=.ok (bC t,st')/\nL zs t/\eS t/\St st':=by
 have hlen:bS (.lst (zs.map D.str))=.ok (.int zs.length):=by rw[dm,Pz]
 have hn0:((zs.length:Int)==0)=false:=beq_eq_false_iff_ne.mpr (by omega);obtain⟨d,st1,t1,d0,d1,S1⟩:=cx a (n:=(zs.length:Int)) (by omega) (by omega) h;obtain⟨e,st2,t2,e0,e1,S2⟩:=cx a (n:=(zs.length:Int)-1) (by omega) (by omega) S1;obtain⟨f,st3,t3,f0,f1,S3⟩:=cx a (n:=2) (by decide) (by decide) S2;obtain⟨g,st4,t4,g0,g1,S4⟩:=cx a (n:=2) (by decide) (by decide) S3;obtain⟨x,st5,t5,fx,lx,_,ax,S5⟩:=qD a (l:=0) (.inl rfl) S4;obtain⟨y,st6,t6,fy,_,ly,ay,S6⟩:=qD a (l:=1) (.inr rfl) S5;obtain⟨v,st7,t7,v0,v1,S7⟩:=cx a (n:=4) (by decide) (by decide) S6;obtain⟨wd,hw,jw⟩:=Er g0 g1;obtain⟨p,q,hp,hq,hpq,hplace⟩:∃p q:Int,(0<=p/\p<(zs.length:Int))/\(0<=q/\q<(zs.length:Int))/\p≠q/\(((f==0)=true/\p=(k:Int).fmod (zs.length:Int)/\q=((k:Int)+1).fmod (zs.length:Int))∨((f==0)=false/\p=d/\q=(d+1+e).fmod (zs.length:Int))):=by
  cases h10:(f==0) with
  |true=>exact⟨_,_,eX (by omega),eX (by omega),xy (by omega),.inl ⟨rfl,rfl,rfl⟩⟩
  |false=>
   obtain⟨hr,hne⟩:=tf (n:=(zs.length:Int)) (d:=d) (e:=e) (by omega) d0 d1 e0 e1;exact⟨_,_,⟨d0,d1⟩,hr,Qx hne,.inr ⟨rfl,rfl,rfl⟩⟩
 obtain⟨z1,k1,j1⟩:=tN (zs:=zs) hp.1 hp.2;obtain⟨z2,k2,j2⟩:=tN (zs:=zs) hq.1 hq.2;have hz12:z1≠z2:=pv nd k1 k2 (by omega);have hP:Ik a [.pt a,.sh (.lst (zs.map D.str)),.sh (.int k),.sh (.int (zs.length:Int)),.sh (.int d),.sh (.int ((d+1+e).fmod (zs.length:Int))),.no,.no,.no] st2=.ok (.nx [.pt a,.sh (.lst (zs.map D.str)),.sh (.int k),.sh (.int (zs.length:Int)),.sh (.int p),.sh (.int q),.no,.no,.no] st3):=by
  rcases hplace with⟨h10,rfl,rfl⟩|⟨h10,rfl,rfl⟩<;>open_line with[Ik,t3,h10,hn0]
 obtain⟨o,ho,hW⟩:∃o:Option dS,(o=none∨o=some y)/\∀e1 e2 e3 e4 e5 e6 e7:Sl,EH a [.pt a,e1,e2,e3,e4,e5,e6,e7,.sh (fr y)] st6=.ok (.nx [.pt a,e1,e2,e3,e4,e5,e6,e7,.sh (bx o)] st7):=by
  cases h4:(v==0) with
  |true=>exact⟨none,.inl rfl,λe1 e2 e3 e4 e5 e6 e7=>by open_line with[EH,t7,h4,bx]⟩
  |false=>exact⟨some y,.inr rfl,λe1 e2 e3 e4 e5 e6 e7=>by open_line with[EH,t7,h4,bx]⟩
 refine⟨⟨z1,z2,wd,x,o⟩,st7,?_,⟨PU k1,PU k2,hz12,hw,fx,lx,λ_ hv=>?_⟩,⟨ax,λ_ hv=>?_⟩,S7⟩
 .open_line with[d7,qB,hlen,t1,t2,hP,t4,t5,t6,hW,nX,hn0,jw,j1,j2,bC]
 .rcases ho with rfl|rfl<;>cases hv
  exact⟨fy,ly rfl⟩
 .rcases ho with rfl|rfl<;>cases hv
  exact ay
theorem zq:∀{es:ac}{P:Int->Prop},(∀e∈es,∃l,e=D.int l/\P l)->∃ls:List Int,es=ls.map D.int/\∀l∈ls,P l
 |[],P,_=>⟨[],rfl,λl h=>by simp at h⟩
 |e::es,P,h=>by
  obtain⟨l,rfl,hl⟩:=h e (by simp);obtain⟨ls,rfl,hs⟩:=zq (es:=es) (P:=P) λe he=>h e (PV _ he);exact⟨l::ls,rfl,λx hx=>by
   rcases P9.mp hx with rfl|hx
   .exact hl
   .exact hs x hx⟩
def xI(a:Py){st:ac}(h:St st):∃(ls:List Int) (st':ac),qc [.no,.pt a] (bJ 0) (cC 1 a (bR (mP (dC (.int 26))) dE) aO) (DL.intsFrom 0 8,st)=.ok (.lst (ls.map D.int),st')/\ls.length=8/\(∀l∈ls,0<=l/\l<26)/\St st':=by
 obtain⟨es,st',h1,h2,h3,h4⟩:=sT (b:=[.no,.pt a]) (tg:=bJ 0) (fm:=cC 1 a (bR (mP (dC (.int 26))) dE) aO) St (λe=>∃l,e=D.int l/\0<=l/\l<26) (DL.intsFrom 0 8) st h (by
  intro d st _ h;obtain⟨x,st',t1,x0,x1,S1⟩:=cx a (n:=26) (by decide) (by decide) h;refine⟨_,.int x,st',rfl,?_,⟨x,rfl,x0,x1⟩,S1⟩;open_line with[t1])
 obtain⟨ls,rfl,hls⟩:=zq h3;refine⟨ls,st',?_,by simpa[DL.intsFrom] using h2,hls,h4⟩;unfold qc;rw[if_pos (show(DL.intsFrom 0 8).length<=line by decide),h1];rfl
def wB(l:Int):Nat:=97+l.toNat
def BG{f g:al}{ρ:Ev}{ls:List Int}{m:Nat}(hf:f ρ=.ok (.lst (ls.map D.int)))(hg:g ρ=.ok (.int (m:Int)))(hm:m<=ls.length)(hl:ls.length<=1000):nY f fM (fz g) ρ=.ok (.lst ((ls.take m).map D.int)):=by
 unfold nY;rw[hf];simp only[ai.bind,fM,fz,hg];exact congrArg (λz=>ai.ok (D.lst z)) (DX hm)
def ET{ρ:Ev}{ls:List Int}(hl:ls.length<=100)(hb:∀l∈ls,0<=l/\l<26):fN 1 [] (bJ 0) mYes (ae (dC (.str "abcdefghijklmnopqrstuvwxyz")) (aa 0) aN) ρ (ls.map D.int)=.ok (.lst ((ls.map wB).map λc=>D.str ⟨#[c]⟩)):=by
 rw[wA (F:=λd=>match d with|.int l=>.str ⟨#[wB l]⟩|d=>d) (by rw[Pz];omega)]
 .congr 2
  rw[QH,QH];rfl
 .intro d hd
  obtain⟨l,hl',rfl⟩:=Qp.mp hd;obtain⟨b0,b1⟩:=hb l hl';refine⟨[.sh (.int l)],rfl,rfl,?_⟩;open_line with[K2 b0 b1]
  rfl
def ES{ls:List Int}(hl:ls.length<=100):lQ "" [.lst ((ls.map wB).map λc=>D.str ⟨#[c]⟩)]=.ok (.str (Cod.S (ls.map wB))):=xJ (cs:=ls.map wB) (by rw[Pz];omega)
def nT(ls:List Int)(lg at_:Nat)(tu sp:Int)(ne:Bool)(k:Nat):List Int:=if ne=true then ls.take (1+((tu+(k:Int)).fmod 8).toNat) else(ls.take lg).set at_ ((tu+sp*(k:Int)).fmod 26)
def nm(ls:List Int)(lg at_:Nat)(tu sp:Int)(ne:Bool)(k:Nat):bm:=(nT ls lg at_ tu sp ne k).map wB
section
variable {ls:List Int}{lg at_:Nat}{tu sp:Int}{ne:Bool}(h8:ls.length=8) (hb:∀l∈ls,0<=l/\l<26) (g1:1<=lg) (g8:lg<=8) (ha:at_<lg)
include hb in
theorem zj{k:Nat}:∀l∈nT ls lg at_ tu sp ne k,0<=l/\l<26:=by
 intro l hl;unfold nT at hl;cases ne with
 |true=>rw[if_pos rfl]at hl;exact hb l (UZ hl)
 |false=>
  rw[if_neg (by decide)]at hl;rcases Sf hl with hl|rfl
  .exact hb l (UZ hl)
  .exact eX (by decide)
include h8 g8 in
theorem lP{k:Nat}:(nT ls lg at_ tu sp ne k).length=if ne=true then 1+((tu+(k:Int)).fmod 8).toNat else lg:=by
 unfold nT;have:=eX (a:=tu+(k:Int)) (b:=8) (by decide);cases ne with|true=>rw[if_pos rfl,if_pos rfl,QO,h8];omega|false=>rw[if_neg (by decide),if_neg (by decide),RZ,QO,h8];omega
include h8 hb g1 g8 in
theorem Me{k:Nat}:Cod.IsNm (nm ls lg at_ tu sp ne k):=by
 have hl:=lP (tu:=tu) (sp:=sp) (ne:=ne) (at_:=at_) h8 g8 (k:=k);have:=eX (a:=tu+(k:Int)) (b:=8) (by decide);refine⟨?_,?_,λx hx=>?_⟩
 .unfold nm;rw[Pz,hl];split<;>omega
 .unfold nm;rw[Pz,hl];split<;>omega
 .unfold nm at hx
  obtain⟨l,hl,rfl⟩:=Qp.mp hx;have:=zj hb l hl;exact K3 _ (by omega)
include h8 g8 ha in
theorem CJ{i j:Nat}(hij:i<j)(hj:j<7)(hs:sp=1∨sp=3∨sp=5∨sp=7∨sp=9∨sp=11):nm ls lg at_ tu sp ne i≠nm ls lg at_ tu sp ne j:=by
 intro e;cases ne with
 |true=>
  have hl:=congrArg S0 e;unfold nm at hl;rw[Pz,Pz,lP h8 g8,lP h8 g8,if_pos rfl,if_pos rfl]at hl;have f1:=eX (a:=tu+(i:Int)) (b:=8) (by decide);have f2:=eX (a:=tu+(j:Int)) (b:=8) (by decide);have he:(tu+(i:Int)).fmod 8=(tu+(j:Int)).fmod 8:=by omega
  rw[Q0 _ (by decide),Q0 _ (by decide)]at he;omega
 |false=>
  have h1:(nm ls lg at_ tu sp false i)[at_]?=(nm ls lg at_ tu sp false j)[at_]?:=by rw[e]
  unfold nm nT at h1;rw[if_neg (by decide),if_neg (by decide),PN,PN,PZ (by rw[QO,h8];omega),PZ (by rw[QO,h8];omega)]at h1;simp only[Rx,Rb,wB]at h1;have f1:=eX (a:=tu+sp*(i:Int)) (b:=26) (by decide);have f2:=eX (a:=tu+sp*(j:Int)) (b:=26) (by decide);have he:(tu+sp*(i:Int)).fmod 26=(tu+sp*(j:Int)).fmod 26:=by omega
  rw[Q0 _ (by decide),Q0 _ (by decide)]at he;rcases hs with rfl|rfl|rfl|rfl|rfl|rfl<;>omega
include h8 g8 ha in
theorem Av(hs:sp=1∨sp=3∨sp=5∨sp=7∨sp=9∨sp=11):∀n:Nat,n<=7->((Q5 n).map (nm ls lg at_ tu sp ne)).Nodup:=by
 intro n hn;rw[SU,List.pairwise_map];have:(Q5 n).Pairwise (· < ·):=List.pairwise_lt_range;refine Um.imp_of_mem (λ{i j} hi hj hij=>?_) this;rw[Ub]at hj;exact CJ h8 g8 ha hij (by omega) hs
end
def jt(ls:List Int)(lg at_:Nat)(tu sp:Int)(ne:Bool)(k:Nat):List (bm):=(Q5 k).map (nm ls lg at_ tu sp ne)
def xx{ls:List Int}{lg at_:Nat}{tu sp:Int}{ne:Bool}{k:Nat}:Cod.nmsD (jt ls lg at_ tu sp ne (k+1))=Cod.nmsD (jt ls lg at_ tu sp ne k)++[.str (Cod.S (nm ls lg at_ tu sp ne k))]:=by
 unfold jt Cod.nmsD;rw[T3,QB,QB];rfl
def CI{a:Py}{ls:List Int}{lg at_ n:Nat}{tu sp:Int}{ne:Bool}(h8:ls.length=8)(hb:∀l∈ls,0<=l/\l<26)(g1:1<=lg)(g8:lg<=8)(ha:at_<lg)(t0:0<=tu/\tu<26)(s0:0<=sp/\sp<=11)(hn:n<=7) :
  ∃x9 x10,bW (bJ 9) (aA (kI 10 (nY (aa 2) fM (fz (aa 3))))
 (aA (BP 10 (ae (ae (aa 5) (ae (aa 6) (aa 9) cg) cj) (dC (.int 26)) dh) (aa 4))
 (aA (dQ (aa 7)
 (aA (kI 10 (nY (aa 2) fM (fz (ae (dC (.int 1)) (ae (ae (aa 5) (aa 9) cj) (dC (.int 8)) dh) cj))))
 ar)
 ar)
 (aA (BQ 10 (ez 8 (sQ (dC (.str "")) (ag (cL 1 [] (iz (aa 10)) (bJ 0) mYes (ae (dC (.str "abcdefghijklmnopqrstuvwxyz")) (aa 0) aN)) aC))))
 ar)))) (DL.intsFrom 0 n) [.pt a,.sh (.int (n:Int)),.sh (.lst (ls.map D.int)),.sh (.int (lg:Int)),.sh (.int (at_:Int)),.sh (.int tu),.sh (.int sp),.sh (.bl ne),.ow (.lst []),.no,.no] =
   .ok (.nx [.pt a,.sh (.int (n:Int)),.sh (.lst (ls.map D.int)),.sh (.int (lg:Int)),.sh (.int (at_:Int)),.sh (.int tu),.sh (.int sp),.sh (.bl ne),.ow (.lst (Cod.nmsD (jt ls lg at_ tu sp ne n))),x9,x10]):=by
 obtain⟨ρ',hl,x9,x10,rfl⟩:=oj (i:=9) (n:=n)
  (ρ:=[.pt a,.sh (.int (n:Int)),.sh (.lst (ls.map D.int)),.sh (.int (lg:Int)),.sh (.int (at_:Int)),.sh (.int tu),.sh (.int sp),.sh (.bl ne),.ow (.lst []),.no,.no])
  (body:=(aA (kI 10 (nY (aa 2) fM (fz (aa 3))))
 (aA (BP 10 (ae (ae (aa 5) (ae (aa 6) (aa 9) cg) cj) (dC (.int 26)) dh) (aa 4))
 (aA (dQ (aa 7)
 (aA (kI 10 (nY (aa 2) fM (fz (ae (dC (.int 1)) (ae (ae (aa 5) (aa 9) cj) (dC (.int 8)) dh) cj))))
 ar)
 ar)
 (aA (BQ 10 (ez 8 (sQ (dC (.str "")) (ag (cL 1 [] (iz (aa 10)) (bJ 0) mYes (ae (dC (.str "abcdefghijklmnopqrstuvwxyz")) (aa 0) aN)) aC))))
 ar)))))
  (λk ρ=>∃x9 x10,ρ=[.pt a,.sh (.int (n:Int)),.sh (.lst (ls.map D.int)),.sh (.int (lg:Int)),.sh (.int (at_:Int)),.sh (.int tu),.sh (.int sp),.sh (.bl ne),.ow (.lst (Cod.nmsD (jt ls lg at_ tu sp ne k))),x9,x10]) (by
   rintro k hk ρ ⟨x9,x10,rfl⟩;have hlen:=lP (tu:=tu) (sp:=sp) (ne:=ne) (at_:=at_) h8 g8 (k:=k);have f8:=eX (a:=tu+(k:Int)) (b:=8) (by decide);have om:dW sp (k:Int)=true:=gb (by omega) (by omega);have hap:decide ((Cod.nmsD (jt ls lg at_ tu sp ne k)).length<=999)=true:=decide_eq_true (by unfold Cod.nmsD jt;simp;omega);have hs1:∀x8 x10,nY (aa 2) fM (fz (aa 3)) [.pt a,.sh (.int (n:Int)),.sh (.lst (ls.map D.int)),.sh (.int (lg:Int)),.sh (.int (at_:Int)),.sh (.int tu),.sh (.int sp),.sh (.bl ne),x8,.sh (.int (k:Int)),x10]=.ok (.lst ((ls.take lg).map D.int)):=λ_ _=>BG rfl rfl (by omega) (by omega);have hix:xK ((ls.take lg).map D.int).length (at_:Int)=some at_:=by
    rw[Pz,QO,h8];unfold xK;rw[if_pos (by omega),if_pos (by omega)];simp
   have hset:((ls.take lg).map D.int).set at_ (.int ((tu+sp*(k:Int)).fmod 26))=((ls.take lg).set at_ ((tu+sp*(k:Int)).fmod 26)).map D.int:=(List.map_set ..).symm;have hll:(nT ls lg at_ tu sp ne k).length<=100:=by rw[hlen];split<;>omega
   have hc:=λρ=>ET (ρ:=ρ) hll (zj hb);have hj:lQ "" [.lst (((nT ls lg at_ tu sp ne k).map wB).map λc=>D.str ⟨#[c]⟩)]=.ok (.str (Cod.S (nm ls lg at_ tu sp ne k))):=ES hll;refine⟨[.pt a,.sh (.int (n:Int)),.sh (.lst (ls.map D.int)),.sh (.int (lg:Int)),.sh (.int (at_:Int)),.sh (.int tu),.sh (.int sp),.sh (.bl ne),.ow (.lst (Cod.nmsD (jt ls lg at_ tu sp ne (k+1)))),.sh (.int (k:Int)),.sh (.lst ((nT ls lg at_ tu sp ne k).map D.int))],?_,_,_,rfl⟩;rw[xx];cases ne with
   |true=>
    have e1:nT ls lg at_ tu sp true k=ls.take (1+((tu+(k:Int)).fmod 8).toNat):=if_pos rfl;have hs2:∀x8 x10,nY (aa 2) fM (fz (ae (dC (.int 1)) (ae (ae (aa 5) (aa 9) cj) (dC (.int 8)) dh) cj)) [.pt a,.sh (.int (n:Int)),.sh (.lst (ls.map D.int)),.sh (.int (lg:Int)),.sh (.int (at_:Int)),.sh (.int tu),.sh (.int sp),.sh (.bl true),x8,.sh (.int (k:Int)),x10]=.ok (.lst ((nT ls lg at_ tu sp true k).map D.int)):=λx8 x10=>by
     rw[e1];refine BG rfl ?_ (by omega) (by omega);open_line with[]
     congr 2
     omega
    open_line with[hs1,cz om,v7 hix,hset,hs2,hc,hj,j6 hap]
   |false=>
    have e1:(ls.take lg).set at_ ((tu+sp*(k:Int)).fmod 26)=nT ls lg at_ tu sp false k:=(if_neg (by decide)).symm;rw[e1]at hset;open_line with[hs1,cz om,v7 hix,hset,hc,hj,j6 hap]) ⟨_,_,rfl⟩
 exact⟨x9,x10,hl⟩
def CK(a:Py){n:Nat}(hn:n<=7){st:ac}(h:St st):∃(css:List (bm)) (st':ac),dD a st [.int (n:Int)]=.ok (.lst (Cod.nmsD css),st')/\css.length=n/\css.Nodup/\(∀cs∈css,Cod.IsNm cs)/\St st':=by
 obtain⟨ls,st1,t1,h8,hb,S1⟩:=xI a h;obtain⟨d,st2,t2,d0,d1,S2⟩:=cx a (n:=8) (by decide) (by decide) S1;obtain⟨at_,st3,t3,a0,a1,S3⟩:=cx a (n:=1+d) (by omega) (by omega) S2;obtain⟨tu,st4,t4,u0,u1,S4⟩:=cx a (n:=26) (by decide) (by decide) S3;obtain⟨e,st5,t5,e0,e1,S5⟩:=cx a (n:=6) (by decide) (by decide) S4;obtain⟨f,st6,t6,f0,f1,S6⟩:=cx a (n:=3) (by decide) (by decide) S5;obtain⟨sp,hs,i1⟩:∃sp:Int,(sp=1∨sp=3∨sp=5∨sp=7∨sp=9∨sp=11)/\aN (.lst [.int 1,.int 3,.int 5,.int 7,.int 9,.int 11]) (.int e)=.ok (.int sp):=by
  have:e=0∨e=1∨e=2∨e=3∨e=4∨e=5:=by omega
  rcases this with rfl|rfl|rfl|rfl|rfl|rfl
  .exact⟨1,by decide,rfl⟩
  .exact⟨3,by decide,rfl⟩
  .exact⟨5,by decide,rfl⟩
  .exact⟨7,by decide,rfl⟩
  .exact⟨9,by decide,rfl⟩
  .exact⟨11,by decide,rfl⟩
 obtain⟨lg,hlg⟩:=Q7 (show 0<=1+d by omega);obtain⟨at',rfl⟩:=Q7 a0;rw[hlg]at t3;obtain⟨x9,x10,hl⟩:=CI (a:=a) (ls:=ls) (lg:=lg) (at_:=at') (n:=n) (tu:=tu) (sp:=sp) (ne:=(f==0)) h8 hb (by omega) (by omega) (by omega) ⟨u0,u1⟩ (by omega) hn;refine⟨jt ls lg at' tu sp (f==0) n,st6,?_,by unfold jt;simp,Av h8 (by omega) (by omega) hs n hn,λcs hc=>?_,S6⟩
 .have hsrc:∀ρ,kn (dC (.int 8)) ρ=.ok (DL.intsFrom 0 8):=λ_=>rfl
  have hbm:∀x1 x2 x3 x4 x5 x6 x7 x8 x9 x10,eZ 1 [0] [.pt a,x1,x2,x3,x4,x5,x6,x7,x8,x9,x10]=[.no,.pt a]:=λ_ _ _ _ _ _ _ _ _ _=>rfl;open_line with[dD,l9,hsrc,hbm,t1,t2,hlg,t3,t4,t5,i1,t6,lT,eL (show n<=1000000 by omega),hl]
 .unfold jt at hc
  obtain⟨k,_,rfl⟩:=Qp.mp hc;exact Me h8 hb (by omega) (by omega)
def Es(a:Py){p q:Nat}(hp:2<=p/\p<=7)(hq:q<=14){st:ac}(h:St st):∃(w:cG) (st':ac),dq a st [.int (p:Int),.int (q:Int)]=.ok (aL w,st')/\cH w/\(∀t∈w.ts,eS t)/\St st':=by
 obtain⟨m,st1,t1,m0,m1,S1⟩:=cx a (n:=(p:Int)-1) (by omega) (by omega) h;obtain⟨m,rfl⟩:=Q7 m0;obtain⟨css,st2,t2,hcl,hnd,hall,S2⟩:=CK a (n:=2+m) (by omega) S1;have hnm:Cod.nmsD css=(css.map Cod.S).map D.str:=by unfold Cod.nmsD;rw[QH];rfl
 have hzl:(css.map Cod.S).length=2+m:=by rw[Pz,hcl]
 have nd:(css.map Cod.S).Nodup:=by
  rw[SU,List.pairwise_map];exact Um.imp (λh z=>h (Cod.S_inj z)) (SU.mp hnd)
 have nm:mf (css.map Cod.S):=⟨nd,λz hz=>by
  obtain⟨cs,hc,rfl⟩:=Qp.mp hz;exact(hall cs hc).nameB⟩
 rw[hnm]at t2;generalize css.map Cod.S=zs at *;have hlen:bS (.lst (zs.map D.str))=.ok (.int zs.length):=by rw[dm,Pz]
 have hn0:((zs.length:Int)==0)=false:=beq_eq_false_iff_ne.mpr (by omega);obtain⟨c,st3,t3,c0,c1,S3⟩:=cx a (n:=(q:Int)+1) (by omega) (by omega) S2;obtain⟨c,rfl⟩:=Q7 c0;have hlenI:(DL.intsFrom 0 c).length=c:=by unfold DL.intsFrom;simp
 obtain⟨ρ2,st4,hl,ts,x6,rfl,htl,hts,S4⟩:=v5 (tg:=bJ 6) (body:=(bM (CQ 5 (cC 0 a (bR (mP (aa 3)) (bR (mP (aa 6)) dE)) d7))
 cK))
  (λj ρ st=>∃(ts:List jJ) (x6:Sl),ρ=[.pt a,.sh (.int (p:Int)),.sh (.int (q:Int)),.sh (.lst (zs.map D.str)),.sh (.int (zs.length:Int)),.ow (.lst (ts.map bC)),x6,.no,.no]/\ts.length=j/\(∀t∈ts,nL zs t/\eS t)/\St st) (DL.intsFrom 0 c) (by
   rintro j d ρ st hj ⟨ts,x6,rfl,rfl,hts,S⟩;have hjt:ts.length<c:=by have:=(PH.mp hj).1;omega
   have hd:d=.int (ts.length:Int):=by
    unfold DL.intsFrom at hj;rw[PN,SK hjt]at hj;simp at hj;exact hj.symm
   subst hd;obtain⟨t,st',tt,tk,ta,S'⟩:=EG a (zs:=zs) (k:=ts.length) (by omega) (by omega) nd S;have hap:decide ((ts.map bC).length<=999)=true:=decide_eq_true (by rw[Pz];omega);refine⟨_,[.pt a,.sh (.int (p:Int)),.sh (.int (q:Int)),.sh (.lst (zs.map D.str)),.sh (.int (zs.length:Int)),.ow (.lst ((ts++[t]).map bC)),.sh (.int (ts.length:Int)),.no,.no],st',rfl,.inl ?_,ts++[t],_,rfl,by simp,λu hu=>?_,S'⟩
   .open_line with[tt,zI hap,QB]
   .rw[QJ]at hu
    rcases hu with hu|hu
    .exact hts u hu
    .have:u=t:=by simpa using hu
     subst this;exact⟨tk,ta⟩) 0 [.pt a,.sh (.int (p:Int)),.sh (.int (q:Int)),.sh (.lst (zs.map D.str)),.sh (.int (zs.length:Int)),.ow (.lst []),.no,.no,.no] st3 (R8 _) ⟨[],_,rfl,rfl,λt ht=>by simp at ht,S3⟩
 rw[R9]at hl;rw[hlenI]at htl;have hsr:ug (.int (c:Int),st3)=.ok (DL.intsFrom 0 c,st3):=wg (by omega);have h2m:(2:Int)+(m:Int)=((2+m:Nat):Int):=by omega
 rw[←h2m]at t2;obtain⟨g,st5,t5,g0,g1,S5⟩:=cx a (n:=2) (by decide) (by decide) S4;obtain⟨f,l,st6,hf,hl2,hfl,S6,hP⟩:∃(f l:Int) (st6:ac),(0<=f/\f<(zs.length:Int))/\(0<=l/\l<(zs.length:Int))/\f≠l/\St st6/\∀e1 e2 e3 e5 e6:Sl,Et a [.pt a,e1,e2,e3,.sh (.int (zs.length:Int)),e5,e6,.sh (.int 0),.sh (.int ((zs.length:Int)-1))] st4=.ok (.nx [.pt a,e1,e2,e3,.sh (.int (zs.length:Int)),e5,e6,.sh (.int f),.sh (.int l)] st6):=by
  cases hg:(g==0) with
  |true=>
   obtain⟨d,st6,t6,d0,d1,S6⟩:=cx a (n:=(zs.length:Int)) (by omega) (by omega) S5;obtain⟨e,st7,t7,e0,e1,S7⟩:=cx a (n:=(zs.length:Int)-1) (by omega) (by omega) S6;obtain⟨hr,hne⟩:=tf (n:=(zs.length:Int)) (d:=d) (e:=e) (by omega) d0 d1 e0 e1;exact⟨d,(d+1+e).fmod (zs.length:Int),st7,⟨d0,d1⟩,hr,Qx hne,S7,λe1 e2 e3 e5 e6=>by open_line with[Et,nX,t5,hg,t6,t7,hn0]⟩
  |false=>exact⟨0,(zs.length:Int)-1,st5,⟨by decide,by omega⟩,⟨by omega,by omega⟩,by omega,S5,λe1 e2 e3 e5 e6=>by open_line with[Et,t5,hg]⟩
 obtain⟨z1,k1,j1⟩:=tN (zs:=zs) hf.1 hf.2;obtain⟨z2,k2,j2⟩:=tN (zs:=zs) hl2.1 hl2.2;have hz12:z1≠z2:=pv nd k1 k2 (by omega);refine⟨⟨zs,ts,z1,z2⟩,st6,?_,⟨by show 2<=zs.length;omega,by show zs.length<=7;omega,nm,by show ts.length<=14;omega,λt ht=>(hts t ht).1,PU k1,PU k2,hz12⟩,λt ht=>(hts t ht).2,S6⟩;open_line with[dq,qA,nX,t1,t2,hlen,t3,hsr,hl,hP,j1,j2,aL]
end Bor
namespace DL
open PySem L2
section
variable {α β:Type}
def Rf(a b:ai α):Prop:=a=.stuck∨a=b
def c8{a b:ai α}{f g:α->ai β}(h:Rf a b)(k:∀x,Rf (f x) (g x)):Rf (a.bind f) (b.bind g):=by
 rcases h with rfl|rfl
 .exact .inl rfl
 .cases a with
  |ok x=>exact k x
  |exn x=>exact .inr rfl
  |stuck=>exact .inl rfl
structure km (f g:Ev->ai α):Prop where
 o:∀ρ,Rf (f ρ) (g ρ)
end
structure NB (f g:ac->ai D):Prop where
 o:∀ds,Rf (f ds) (g ds)
def NB.ok{f g:ac->ai D}(h:NB f g){ds:ac}{d:D}(e:f ds=.ok d):g ds=.ok d:=by
 rcases h.o ds with q|q
 .rw[q]at e;cases e
 .rw[←q];exact e
def rfm_refl{f:ac->ai D}:NB f f:=⟨λ_=>.inr rfl⟩
def rf_refl{α:Type}{f:Ev->ai α}:km f f:=⟨λ_=>.inr rfl⟩
section
variable {s s' t t':am}{c c' f f':al}{fa fa':Ev->ai (ac)}{m m':ac->ai D}
def rf_stuck:km e8 s:=⟨λ_=>.inl rfl⟩
def rf_seq(h1:km s s')(h2:km t t'):km (aA s t) (aA s' t'):=⟨λρ=>c8 (h1.o ρ) λr=>by
 cases r with
 |nx ρ'=>exact h2.o ρ'
 |_=>exact .inr rfl⟩
def rf_if(hc:km c c')(h1:km s s')(h2:km t t'):km (dQ c s t) (dQ c' s' t'):=⟨λρ=>c8 (hc.o _) λr=>by
 cases r with
 |bl b=>cases b with
  |true=>exact h1.o ρ
  |false=>exact h2.o ρ
 |_=>exact .inr rfl⟩
theorem oa{tg:Ev->D->ai Ev}(h:km s s'):∀(ds:ac) (ρ:Ev),Rf (bW tg s ds ρ) (bW tg s' ds ρ)
 |[],ρ=>.inr rfl
 |d::r,ρ=>by
  unfold bW;refine c8 (.inr rfl) λρ1=>c8 (h.o ρ1) λx=>?_;cases x with|nx ρ2|ct ρ2=>exact oa h r ρ2|bk ρ2|rt d=>exact .inr rfl
def rf_for{tg:Ev->D->ai Ev}(hf:km f f')(h:km s s'):km (qT f tg s) (qT f' tg s'):=⟨λρ=>c8 (hf.o ρ) λd=>by
 cases d with
 |lst ds=>exact oa h ds ρ
 |_=>exact .inr rfl⟩
def rf_forI{tg:Ev->D->ai Ev}{src:Ev->ai (ac)}(h:km s s'):km (kr src tg s) (kr src tg s'):=⟨λρ=>c8 (.inr rfl) λds=>oa h ds ρ⟩
def rf_drop(h:km f f'):km (nh f) (nh f'):=⟨λρ=>c8 (h.o _) λ_=>.inr rfl⟩
def rf_ret(h:km f f'):km (bD f) (bD f'):=⟨λρ=>c8 (h.o _) λ_=>.inr rfl⟩
def rf_set{i:Nat}(h:km f f'):km (bq i f) (bq i f'):=⟨λρ=>c8 (h.o _) λ_=>.inr rfl⟩
def rf_b1{op:D->ai D}(h:km f f'):km (cu f op) (cu f' op):=⟨λρ=>c8 (h.o _) λ_=>.inr rfl⟩
def rf_not(h:km f f'):km (cJ f) (cJ f'):=rf_b1 h
def rf_b2{op:D->D->ai D}(h:km f f')(h2:km c c'):km (ae f c op) (ae f' c' op):=⟨λρ=>c8 (h.o _) λ_=>c8 (h2.o _) λ_=>.inr rfl⟩
def rf_bA(h:km fa fa')(hm:NB m m'):km (ao fa m) (ao fa' m'):=⟨λρ=>c8 (h.o _) λds=>hm.o ds⟩
def rf_cons(h:km f f')(h2:km fa fa'):km (ag f fa) (ag f' fa'):=⟨λρ=>c8 (h.o _) λ_=>c8 (h2.o _) λ_=>.inr rfl⟩
end
end DL
local macro_rules|`(tactic|open_line with[rf_go])=>`(tactic|repeat (first|with_reducible exact DL.rf_refl|with_reducible exact DL.rf_stuck|with_reducible assumption|with_reducible exact DL.rfm_refl|with_reducible refine DL.rf_seq ?_ ?_|with_reducible refine DL.rf_if ?_ ?_ ?_|with_reducible refine DL.rf_for ?_ ?_|with_reducible refine DL.rf_forI ?_|with_reducible refine DL.rf_drop ?_|with_reducible refine DL.rf_ret ?_|with_reducible refine DL.rf_set ?_|with_reducible refine DL.rf_not ?_|with_reducible refine DL.rf_bA ?_ ?_|with_reducible refine DL.rf_cons ?_ ?_|with_reducible refine DL.rf_b1 ?_|with_reducible refine DL.rf_b2 ?_ ?_))
namespace Wex
open PySem L2 DL Com
def BF(d:D):ai (ac):=match d with
 |.int j=>if -4611686018427387904<=j/\j<4611686018427387904 then .ok (DL.intsFrom 0 j.toNat) else .stuck
 |_=>.stuck
def ev_srcR1{f:al}{ρ:Ev}:kn f ρ=(f ρ).bind BF:=aH rfl
def srcR1_nat{k:Nat}(h:k<=1000000):BF (.int (k:Int))=.ok (DL.intsFrom 0 k):=by
 show(if -4611686018427387904<=(k:Int)/\(k:Int)<4611686018427387904 then ai.ok (DL.intsFrom 0 (k:Int).toNat) else .stuck)=_;rw[if_pos (by omega),S9]
def comp_rng{m n:Nat}{fr:bm}{tt fe:al}{ρ:Ev}{q:Nat->Bool}{G:Nat->D}(hn:n<=1000000)(h:∀k,k<n->∃ρ1,bJ 0 (cY m fr ρ) (.int (k:Int))=.ok ρ1/\tt ρ1=.ok (.bl (q k))/\(q k=true->fe ρ1=.ok (G k))) :
  fN m fr (bJ 0) tt fe ρ (DL.intsFrom 0 n)=.ok (.lst (((Q5 n).filter q).map G)):=by
 have hi:DL.intsFrom 0 n=(Q5 n).map λ(k:Nat)=>D.int (k:Int):=by
  unfold DL.intsFrom;exact Sh λk _=>by rw[Int.zero_add]
 rw[hi];rw[nC (F:=λd=>match d with|.int v=>G v.toNat|d=>d) (p:=λd=>match d with|.int v=>q v.toNat|_=>false) (by simpa using hn)]
 .rw[List.filter_map,QH]
  rfl
 .intro d hd
  obtain⟨k,hk,rfl⟩:=Qp.mp hd;obtain⟨ρ1,h1,h2,h3⟩:=h k (Ub.mp hk);exact⟨ρ1,h1,by simpa using h2,λz=>by simpa using h3 (by simpa using z)⟩
def plainD:D->Bool
 |.non=>true
 |.bl _=>true
 |.int _=>true
 |.str _=>true
 |.tup _=>true
 |.lst _=>true
 |_=>false
end Wex
namespace K11
open PySem L2 DL Com
def there(t:jJ)(z:PY):Option PY:=if t.a=z then some t.b else if t.b=z/\t.w="both" then some t.a else none
def oS:Option PY->D
 |some z=>.str z
 |none=>.non
def dO{x y:PY}:mS (.str x) (.str y)=.ok (.bl (decide (x=y))):=by
 have h:mS (.str x) (.str y)=.ok (.bl (x==y)):=rfl;rw[h]
 by_cases e:x=y
 .rw[decide_eq_true e,e,beq_self_eq_true]
 .rw[decide_eq_false e,beq_eq_false_iff_ne.mpr e]
def there_ok{t:jJ}{z:PY}:bh [bC t,.str z]=.ok (oS (there t z)):=by
 obtain⟨a,b,w,l,o⟩:=t;rw[show bC ⟨a,b,w,l,o⟩=.tup [.str a,.str b,.str w,fr l,bx o] from rfl];unfold there
 by_cases h1:a=z
 .rw[if_pos h1]
  open_line with[bh,eP,dO,decide_eq_true h1,oS]
 .rw[if_neg h1]
  by_cases h2:b=z
  .by_cases h3:w="both"
   .rw[if_pos ⟨h2,h3⟩]
    open_line with[bh,eP,dO,decide_eq_false h1,decide_eq_true h2,decide_eq_true h3,oS]
   .rw[if_neg (λh=>h3 h.2)]
    open_line with[bh,eP,dO,decide_eq_false h1,decide_eq_true h2,decide_eq_false h3,oS]
  .rw[if_neg (λh=>h2 h.1)]
   open_line with[bh,eP,dO,decide_eq_false h1,decide_eq_false h2,oS]
def ways(t:jJ):List (PY×PY):=if t.w="one" then[(t.a,t.b)] else[(t.a,t.b),(t.b,t.a)]
def pr(p:PY×PY):D:=.tup [.str p.1,.str p.2]
def steps_ok{t:jJ}:m_steps_along [bC t]=.ok (.lst ((ways t).map pr)):=by
 obtain⟨a,b,w,l,o⟩:=t;rw[show bC ⟨a,b,w,l,o⟩=.tup [.str a,.str b,.str w,fr l,bx o] from rfl];unfold ways
 by_cases h:w="one"
 .rw[if_pos h]
  open_line with[m_steps_along,gS,dO,decide_eq_true h,pr]
 .rw[if_neg h]
  open_line with[m_steps_along,gS,dO,decide_eq_false h,pr]
def Ai{m:Nat}{ks:bm}:(ks.map λ(k:Nat)=>D.int (k:Int)).all (br m)=true:=P7.mpr λd hd=>by
 obtain⟨z,_,rfl⟩:=Qp.mp hd;cases m<;>rfl
theorem zP{n:Nat}:∀{ks:bm},((ks.map λ(k:Nat)=>D.int (k:Int)).any λd=>cV d (.int (n:Int)))=decide (n∈ks)
 |[]=>rfl
 |k::ks=>by
  rw[PQ,R5,zP];have e:cV (.int (k:Int)) (.int (n:Int))=((k:Int)==(n:Int)):=by rw[cV]
  rw[e]
  by_cases h:n=k
  .subst h;simp
  .have h1:((k:Int)==(n:Int))=false:=beq_eq_false_iff_ne.mpr (by omega)
   rw[h1,Uq];have:n∈k::ks↔n∈ks:=by simp[h]
   exact decide_eq_decide.mpr this.symm
def notIn_nums{ks:bm}{n:Nat}:c9 (.int (n:Int)) (.lst (ks.map λ(k:Nat)=>D.int (k:Int)))=.ok (.bl (!(decide (n∈ks)))):=by
 have e:Ed (.int (n:Int)) (.lst (ks.map λ(k:Nat)=>D.int (k:Int)))=some (decide (n∈ks)):=(if_pos ⟨rfl,Ai⟩).trans (congrArg some zP);unfold c9;rw[e]
noncomputable def xN(w:cG) (ks:bm) (seen:bi) (here:PY) (d:D):Option PY :=
 if here=w.la then none else match d with
 |.int n=>if 0<=n/\n<(w.ts.length:Int)/\n.toNat∉ks then match w.ts[n.toNat]? with
   |some t=>match there t here with
    |some y=>if y∈seen then none else some y
    |none=>none
   |none=>none
  else none
 |_=>none
def Hq(d:D):Prop:=Wex.plainD d=true∨d=.dic [] []
def AE{w:cG}{n:Int}:aQ [aL w,.int n]=.ok (.bl (decide (0<=n)&&decide (n<(w.ts.length:Int)))):=by
 have i1:aN (aL w) (.int 1)=.ok (.lst (w.ts.map bC)):=rfl;cases h:decide ((0:Int)<=n) with
 |false=>open_line with[aQ,bI,i1,Pz,h,Sa]
 |true=>open_line with[aQ,bI,i1,Pz,h,Tc]
def AD{w:cG}{d:D}(hd:Hq d)(hi:¬∃n,d=.int n):aQ [aL w,d]=.ok (.bl false):=by
 rcases hd with hd|rfl
 .cases d with
  |int n=>exact absurd ⟨n,rfl⟩ hi
  |non=>open_line with[aQ,bI]
  |bl b=>open_line with[aQ,bI]
  |str b=>open_line with[aQ,bI]
  |tup b=>open_line with[aQ,bI]
  |lst b=>open_line with[aQ,bI]
  |_=>cases hd
 .open_line with[aQ,bI]
noncomputable abbrev yu:am:=(aA (bq 6 (ae (aa 2) (aa 5) aN))
 (aA (bq 7 (dC (.non)))
 (aA (dQ (gf (ae (aa 3) (ae (aa 0) (dC (.int 3)) aN) fY) (gf (ao (ag (aa 0) (ag (aa 6) aC)) aQ) (ae (aa 6) (aa 1) c9)))
 (aA (bq 7 (ao (ag (ae (ae (aa 0) (dC (.int 1)) aN) (aa 6) aN) (ag (aa 3) aC)) bh))
 ar)
 ar)
 (aA (dQ (gV (ae (aa 7) (dC (.non)) c3) (ae (aa 7) (aa 4) A7))
 (aA (bD (ao (ag (dC (.str "at")) (ag (aa 5) aC)) eJ))
 ar)
 ar)
 (aA (bq 3 (aa 7))
 (aA (ez 4 (aa 3))
 ar))))))
def ne_str{x y:PY}:fY (.str x) (.str y)=.ok (.bl (!(decide (x=y)))):=by
 have h:fY (.str x) (.str y)=.ok (.bl (!(x==y))):=rfl;rw[h]
 by_cases e:x=y
 .rw[decide_eq_true e,e,beq_self_eq_true]
 .rw[decide_eq_false e,beq_eq_false_iff_ne.mpr e]
def EA(w:cG)(ks:bm)(th:ac)(here:PY)(seen:bi)(x5 x6 x7:Sl):Ev:=[.sh (aL w),.sh (.lst (ks.map λ(k:Nat)=>D.int (k:Int))),.sh (.lst th),.sh (.str here),.ow (.lst (seen.map D.str)),x5,x6,x7]
theorem HY{w:cG}{ks:bm}{th:ac}{here:PY}{pre:bi}{i:Nat}{d:D}{x6 x7:Sl}(hd:Hq d)(hi:th[i]?=some d)(hl:pre.length<=900) :
  yu (EA w ks th here (pre++[here]) (.sh (.int (i:Int))) x6 x7)=match xN w ks (pre++[here]) here d with
   |none=>.ok (.rt (.tup [.str "at",.int (i:Int)]))
   |some y=>.ok (.nx (EA w ks th y (pre++[here]++[y]) (.sh (.int (i:Int))) (.sh d) (.sh (.str y)))):=by
 have i3:aN (aL w) (.int 3)=.ok (.str w.la):=rfl;have i1:aN (aL w) (.int 1)=.ok (.lst (w.ts.map bC)):=rfl;have hix:aN (.lst th) (.int (i:Int))=.ok d:=kN hi;have hap:decide (((pre++[here]).map D.str).length<=999)=true:=decide_eq_true (by simp;omega);unfold xN EA
 by_cases h0:here=w.la
 .rw[if_pos h0]
  open_line with[hix,i3,ne_str,decide_eq_true h0]
 rw[if_neg h0]
 by_cases hn:∃n,d=.int n
 .obtain⟨n,rfl⟩:=hn
  have e1:=AE (w:=w) (n:=n)
  by_cases h1:0<=n/\n<(w.ts.length:Int)
  .obtain⟨k,rfl⟩:=Q7 h1.1
   rw[decide_eq_true h1.1,decide_eq_true h1.2]at e1;have hkt:((k:Int)).toNat=k:=by omega
   by_cases h2:k∈ks
   .simp only[hkt]
    rw[if_neg (λz=>z.2.2 h2)];open_line with[hix,i3,ne_str,decide_eq_false h0,e1,notIn_nums,decide_eq_true h2]
   .simp only[hkt]
    rw[if_pos ⟨h1.1,h1.2,h2⟩];have hk:k<w.ts.length:=by omega
    have ht:w.ts[k]?=some w.ts[k]:=PL hk;have hti:=wW ht;rw[ht];simp only;cases hth:there w.ts[k] here with
    |none=>
     have e2:=there_ok (t:=w.ts[k]) (z:=here);rw[hth]at e2;simp only[oS]at e2;open_line with[hix,i3,ne_str,decide_eq_false h0,e1,notIn_nums,decide_eq_false h2,i1,hti,e2]
    |some y=>
     have e2:=there_ok (t:=w.ts[k]) (z:=here);rw[hth]at e2;simp only[oS]at e2
     by_cases h3:y∈pre++[here]
     .simp only[if_pos h3]
      open_line with[hix,i3,ne_str,decide_eq_false h0,e1,notIn_nums,decide_eq_false h2,i1,hti,e2,oi,decide_eq_true h3]
     .simp only[if_neg h3]
      have hma:(pre++[here]++[y]).map D.str=(pre++[here]).map D.str++[.str y]:=by rw[QB];rfl
      rw[hma];open_line with[hix,i3,ne_str,decide_eq_false h0,e1,notIn_nums,decide_eq_false h2,i1,hti,e2,oi,decide_eq_false h3,j6 hap]
  .have hf:(decide (0<=n)&&decide (n<(w.ts.length:Int)))=false:=by
    rw[Sz]
    by_cases h2:0<=n
    .exact .inr (decide_eq_false λz=>h1 ⟨h2,z⟩)
    .exact .inl (decide_eq_false h2)
   rw[hf]at e1;simp only;rw[if_neg (λz=>h1 ⟨z.1,z.2.1⟩)];open_line with[hix,i3,ne_str,decide_eq_false h0,e1]
 .have e1:=AD (w:=w) hd hn
  have key:yu [.sh (aL w),.sh (.lst (ks.map λ(k:Nat)=>D.int (k:Int))),.sh (.lst th),.sh (.str here),.ow (.lst ((pre++[here]).map D.str)),.sh (.int (i:Int)),x6,x7]=.ok (.rt (.tup [.str "at",.int (i:Int)])):=by
   open_line with[hix,i3,ne_str,decide_eq_false h0,e1]
  rw[key];cases d with|int n=>exact absurd ⟨n,rfl⟩ hn| _=>rfl
def oJ(w:cG)(ks:bm):bi->PY->Nat->ac->Nat ⊕ bi
 |pre,here,_,[]=>.inr (pre++[here])
 |pre,here,i,d::r=>match xN w ks (pre++[here]) here d with
  |none=>.inl i
  |some y=>oJ w ks (pre++[here]) y (i+1) r
theorem HX{w:cG}{ks:bm}{th:ac}(he:∀d∈th,Hq d)(hl:th.length<=100):∀(m i:Nat) (pre:bi) (here:PY) (x5 x6 x7:Sl),i+m=th.length->pre.length=i ->
  match oJ w ks pre here i (th.drop i) with
  |.inl j=>bW (bJ 5) yu ((DL.intsFrom 0 th.length).drop i) (EA w ks th here (pre++[here]) x5 x6 x7)=.ok (.rt (.tup [.str "at",.int (j:Int)]))
  |.inr seen=>∃pre' here' x5' x6' x7',seen=pre'++[here']/\bW (bJ 5) yu ((DL.intsFrom 0 th.length).drop i) (EA w ks th here (pre++[here]) x5 x6 x7)=.ok (.nx (EA w ks th here' seen x5' x6' x7')):=by
 intro m
 induction m with
 |zero=>
  intro i pre here x5 x6 x7 him _;have:i=th.length:=by omega
  subst this;rw[Sd,vU];exact⟨pre,here,x5,x6,x7,rfl,rfl⟩
 |succ m ih=>
  intro i pre here x5 x6 x7 him hpl;have hi:i<th.length:=by omega
  rw[QG hi,sC hi];have hb:=HY (w:=w) (ks:=ks) (th:=th) (here:=here) (pre:=pre) (i:=i) (d:=th[i]) (x6:=x6) (x7:=x7) (he _ (Sb hi)) (PL hi) (by omega);have hg:bJ 5 (EA w ks th here (pre++[here]) x5 x6 x7) (.int (i:Int))=.ok (EA w ks th here (pre++[here]) (.sh (.int (i:Int))) x6 x7):=rfl;unfold oJ bW;rw[hg];cases e:xN w ks (pre++[here]) here th[i] with
  |none=>
   rw[e]at hb;simp only[ai.bind,hb]
  |some y=>
   rw[e]at hb;simp only[ai.bind,hb];exact ih (i+1) (pre++[here]) y _ _ _ (by omega) (by simp;omega)
def sJ(w:cG)(n:Nat):Nat ⊕ bi->Option Nat
 |.inl j=>some j
 |.inr seen=>if seen.getLast?=some w.la then none else some n
def GW:Option Nat->bi->D
 |some j,_=>.tup [.str "at",.int (j:Int)]
 |none,seen=>.tup [.str "way",.lst (seen.map D.str)]
def wrong_list{w:cG}{ks:bm}{th:ac}(he:∀d∈th,Hq d)(hl:th.length<=100):∃seen,cy [aL w,bT ks,.lst th]=.ok (GW (sJ w th.length (oJ w ks [] w.fi 0 th)) seen):=by
 have i2:aN (aL w) (.int 2)=.ok (.str w.fi):=rfl;have i3:aN (aL w) (.int 3)=.ok (.str w.la):=rfl;have hlen:bS (.lst th)=.ok (.int th.length):=dm;have h:=HX (w:=w) (ks:=ks) he hl th.length 0 [] w.fi .no .no .no (by omega) rfl;rw[R9,R9]at h;unfold EA at h;simp only[QX,PQ,Q3]at h;cases e:oJ w ks [] w.fi 0 th with
 |inl j=>
  rw[e]at h;simp only at h;refine⟨[],?_⟩;simp only[sJ,GW];open_line with[cy,fP,bT,i2,hlen,lT,eL (show th.length<=1000000 by omega),h]
 |inr seen=>
  rw[e]at h;simp only at h;obtain⟨pre',here',x5',x6',x7',rfl,h⟩:=h;refine⟨pre'++[here'],?_⟩;simp only[sJ,List.getLast?_append,List.getLast?_singleton,Option.some_or,Rb]
  by_cases hc:here'=w.la
  .rw[if_pos hc]
   simp only[GW];open_line with[cy,fP,bT,i2,hlen,lT,eL (show th.length<=1000000 by omega),h,i3,ne_str,decide_eq_true hc]
  .rw[if_neg hc]
   simp only[GW];open_line with[cy,fP,bT,i2,hlen,lT,eL (show th.length<=1000000 by omega),h,i3,ne_str,decide_eq_false hc]
end K11
namespace K11
open PySem L2 DL Com Bor
abbrev nums(ks:bm):ac:=ks.map λ(k:Nat)=>D.int (k:Int)
end K11
namespace DL
open PySem PySem.Spec PyProof.Rows L2
def Rp(d:D)(n k:Nat):Prop:=∃p,fG d=some p/\p.showable=true/\p.depth<=k/\p.shown.length<=n
def jK(ds:ac)(n k:Nat):Prop:=∃ps,toPys ds=some ps/\ps.length=ds.length/\PyData.showableAll ps=true/\T2 ps<=k/\((Rv ps).map (λx=>x.length)).sum<=n
theorem iB:∀(ps:List QQ),(Rv ps).length=ps.length
 |[]=>by rw[Rv];rfl
 |p::ps=>by rw[Rv,Qj,iB ps,Qj]
def Rp.up{d:D}{n k n' k':Nat}(h:Rp d n k)(hn:n<=n')(hk:k<=k'):Rp d n' k':=by
 obtain⟨p,h1,h2,h3,h4⟩:=h;exact⟨p,h1,h2,Qh h3 hk,Qh h4 hn⟩
def jK.nil{k:Nat}:jK [] 0 k:=⟨[],rfl,rfl,rfl,by rw[T2];omega,by rw[Rv];exact P4 _⟩
def jK.cons{d:D}{ds:ac}{a n k:Nat}(h:Rp d a k)(t:jK ds n k):jK (d::ds) (a+n) k:=by
 obtain⟨p,h1,h2,h3,h4⟩:=h;obtain⟨ps,t1,t2,t3,t4,t5⟩:=t;refine⟨p::ps,by rw[toPys,h1,t1],by rw[Qj,t2,Qj],by rw[PyData.showableAll,h2,t3];rfl,?_,?_⟩
 .rw[T2];omega
 .rw[Rv,PQ,SG];omega
def jK.all{a k:Nat}:∀{ds:ac},(∀d∈ds,Rp d a k)->jK ds (a*ds.length) k:=by
 intro ds
 induction ds with
 |nil=>intro _;exact jK.nil
 |cons d ds ih=>
  intro h;have:=jK.cons (h d (Qf ..)) (ih λx hx=>h x (PV _ hx));rw[Qj,Nat.mul_add,Nat.mul_one,Nat.add_comm];exact this
def Rp.lst{ds:ac}{n k:Nat}(h:jK ds n k):Rp (.lst ds) (n+2*ds.length+3) (k+1):=by
 obtain⟨ps,t1,t2,t3,t4,t5⟩:=h;refine⟨.list ps,by rw[fG,t1];rfl,by rw[Sk];exact t3,by rw[SR];omega,?_⟩;rw[SQ];have:=listText_len_le (Rv ps);rw[iB]at this;omega
def Rp.tup{ds:ac}{n k:Nat}(h:jK ds n k):Rp (.tup ds) (n+2*ds.length+3) (k+1):=by
 obtain⟨ps,t1,t2,t3,t4,t5⟩:=h;refine⟨.tuple ps,by rw[fG,t1];rfl,by rw[Sk];exact t3,by rw[SR];omega,?_⟩;rw[SQ];have:=tupleText_len_le (Rv ps);rw[iB]at this;omega
def Rp.non:Rp .non 4 0:=⟨.none,by rw[fG],by rw[Sk],by rw[SR];omega,by rw[SQ,Tp];decide⟩
def Rp.int{i:Int}(h:i.natAbs<2 ^ 200):Rp (.int i) 201 0:=by
 refine⟨.int i,by rw[fG],?_,by rw[SR]<;>simp,?_⟩
 .rw[Sk]
  refine decide_eq_true ?_
  by_cases h0:i.natAbs=0
  .rw[h0];decide
  .exact Tg ((UY h0).mpr h) (by decide)
 .rw[SQ,Tp]
  cases i with
  |ofNat m=>
   have:=nat_repr_length_le (n:=m) (k:=200) (by decide) h;show(UU m).length<=201;omega
  |negSucc m=>
   have:=nat_repr_length_le (n:=m+1) (k:=200) (by decide) h;show("-"++UU (m+1)).length<=201;rw[UR];have h1 : "-".length=1:=rfl;omega
def Rp.str{z:PY}{n:Nat}(hl:z.length<=n)(h:∀c∈z.cps.toList,c<16 ^ 8):Rp (.str z) (10*n+2) 0:=by
 refine⟨.str z,by rw[fG],by rw[Sk],by rw[SR]<;>simp,?_⟩;rw[SQ];have:=StrLaws.reprText_len z h;omega
def Rp.repr{ds:ac}{n k:Nat}(h:Rp (.lst ds) n k)(hn:n<=sizeLine)(hk:k<=100):∃z,eN (.lst ds)=.ok (.str z):=by
 obtain⟨p,h1,h2,h3,h4⟩:=h;refine⟨p.shown,?_⟩;unfold eN;rw[h1];show(if _ then _ else _)=_;have hs:ko p=true:=by
  unfold ko;rw[h2,decide_eq_true (Qh h3 hk),decide_eq_true (Qh h4 hn)];rfl
 rw[if_pos ⟨rfl,hs⟩]
end DL
namespace Bor
open PySem L2 DL Com
theorem sE{α β γ:Type}:∀(l:List α) (b:β×γ),List.foldl (λb _=>(b.1,b.2)) b l=b
 |[],_=>rfl
 |_::l,b=>sE l b
def uN:∀c∈K4.cps.toList,c<16 ^ 8:=by decide +kernel
def KZ{c:Nat}(h:nu c=true):c<16 ^ 8:=by
 refine Nat.lt_of_not_le λhc=>?_;have hs:∀i,Builtin.Str.subAt K4 ⟨#[c]⟩ i=false:=by
  intro i;unfold Builtin.Str.subAt;rw[beq_eq_false_iff_ne];intro e;have:c∈(K4.cps.extract i (i+(⟨#[c]⟩:PY).length)):=by rw[e];simp
  have h2:c∈K4.cps:=by
   obtain⟨j,hj,e⟩:=Array.mem_iff_getElem.mp this;rw[Array.getElem_extract]at e;rw[←e];exact Array.getElem_mem _
  have:=uN c (U2.mpr h2);omega
 have:RP K4 ⟨#[c]⟩ 0 K4.length 1=[]:=by
  unfold RP;simp[hs,sE]
 unfold nu Ma at h;rw[this]at h;cases h
def lC{z:PY}(h:nameB z=true):Rp (.str z) 82 0:=by
 unfold nameB at h;simp only[Qg,decide_eq_true_eq,P7]at h;refine Rp.str (n:=8) h.2.1 λc hc=>?_;exact KZ (h.2.2 c hc)
def BZ{x:dS}(h:ir x):Rp (fr x) 409 1:=by
 have hN:ym<=2 ^ 200:=by decide
 have h1:=h.pN;have h2:=h.qN;exact(Rp.tup (jK.cons (Rp.int (PK h1 hN)) (jK.cons (Rp.int (PK h2 hN)) jK.nil))).up (by simp) (P4 _)
def IJ{zs:bi}{t:jJ}(h:nL zs t)(hz:∀z∈zs,nameB z=true):Rp (bC t) 1100 2:=by
 have ha:=(lC (hz _ h.a)).up (k':=1) (P4 _) (by decide);have hb:=(lC (hz _ h.b)).up (k':=1) (P4 _) (by decide);have hw:Rp (.str t.w) 82 1:=by
  rcases h.w with e|e<;>rw[e]
  .exact(Rp.str (n:=8) (by decide) (by decide)).up (by decide) (by decide)
  .exact(Rp.str (n:=8) (by decide) (by decide)).up (by decide) (by decide)
 have hl:=BZ h.l;have ho:Rp (bx t.o) 409 1:=by
  cases e:t.o with|none=>exact Rp.non.up (by decide) (by decide)|some x=>exact BZ (h.o x e).1
 exact(Rp.tup (jK.cons ha (jK.cons hb (jK.cons hw (jK.cons hl (jK.cons ho jK.nil)))))).up (by simp) (P4 _)
def BY{ds:bi}{n:Nat}(hl:ds.length<=n)(h:∀z∈ds,nameB z=true):Rp (.lst (ds.map D.str)) (84*n+3) 1:=by
 have:=Rp.lst (jK.all (a:=82) (k:=0) (ds:=ds.map D.str) λd hd=>by
  obtain⟨z,hz,rfl⟩:=Qp.mp hd;exact lC (h z hz))
 rw[Pz]at this;exact this.up (by omega) (P4 _)
def II{w:cG}(W:cH w):Rp (aL w) 20000 4:=by
 have h1:=(BY W.n7 W.nm.nm).up (k':=3) (P4 _) (by decide);have h2:Rp (.lst (w.ts.map bC)) 15700 3:=by
  have:=Rp.lst (jK.all (a:=1100) (k:=2) (ds:=w.ts.map bC) λd hd=>by
   obtain⟨t,ht,rfl⟩:=Qp.mp hd;exact IJ (W.ts t ht) W.nm.nm)
  rw[Pz]at this;have t14:=W.t14;exact this.up (by omega) (P4 _)
 have h3:=(lC (W.nm.nm _ W.fi)).up (k':=3) (P4 _) (by decide);have h4:=(lC (W.nm.nm _ W.la)).up (k':=3) (P4 _) (by decide);exact(Rp.tup (jK.cons h1 (jK.cons h2 (jK.cons h3 (jK.cons h4 jK.nil))))).up (by simp) (P4 _)
def EZ{ks:bm}{n:Nat}(hl:ks.length<=n)(h:∀k∈ks,k<2 ^ 200):Rp (bT ks) (203*n+3) 1:=by
 have:=Rp.lst (jK.all (a:=201) (k:=0) (ds:=ks.map λ(k:Nat)=>D.int (k:Int)) λd hd=>by
  obtain⟨k,hk,rfl⟩:=Qp.mp hd;exact Rp.int (by simpa using h k hk))
 rw[Pz]at this;exact this.up (by omega) (P4 _)
end Bor
namespace K12
open PySem L2 DL Com Bor K11
section
variable {s t:am}{ρ:Ev}{ds:ac}{n i:Nat}{f:al}{fa:Ev->ai (ac)}{m:ac->ai D}{d:D}
def ef_seq:fL s t ρ=(s ρ).bind (BL t):=aH rfl
def ef_seq1:BL t (.nx ρ)=t ρ:=aH rfl
def ef_retO:yE i ρ=IK ρ[i]?:=aH rfl
def ef_retO1:IK (some (.ow (.lst ds)))=.ok (.rt (.lst ds)):=aH rfl
def ef_run:nQ n s ds=(s (ds.map Sl.sh++Qd (n-ds.length) .no)).bind CB:=aH rfl
def ef_out:CB (.rt (.lst ds))=.ok (.lst ds):=aH rfl
end
def lenAt(w:cG)(k:Nat):dS:=((w.ts[k]?).map jJ.l).getD (0,1)
def lenAt_of{w:cG}{k:Nat}{t:jJ}(h:w.ts[k]?=some t):lenAt w k=t.l:=by unfold lenAt;rw[h];rfl
end K12
namespace K51
open PySem L2 DL Com Bor
def CA{a:Int}{m n:Nat}(h:a.natAbs<2 ^ m)(hm:m<=n):a.natAbs<2 ^ n:=PK h (QW (by decide) hm)
def xB{a b:Int}{m n:Nat}(h:a.natAbs<2 ^ m)(h':b.natAbs<2 ^ n):(a*b).natAbs<2 ^ (m+n):=by
 rw[Uc,TY];exact Nat.mul_lt_mul'' h h'
def KW{a b:Int}{m:Nat}(h:a.natAbs<2 ^ m)(h':b.natAbs<2 ^ m):(a+b).natAbs<2 ^ (m+1):=by
 have:=Int.natAbs_add_le a b;rw[Nat.pow_succ];omega
def pl(x y:dS):dS:=b6 (un x y).1 (un x y).2
def i0(u:dS):aN (fr u) (.int 0)=.ok (.int u.1):=rfl
def i1(u:dS):aN (fr u) (.int 1)=.ok (.int u.2):=rfl
structure Bd (x:dS) (n:Nat):Prop where
 q0:0<x.2
 a:x.1.natAbs<2 ^ n
 b:x.2.natAbs<2 ^ n
def Bd.up{x:dS}{m n:Nat}(h:Bd x m)(hm:m<=n):Bd x n:=⟨h.q0,CA h.a hm,CA h.b hm⟩
def Bd.c13{x:dS}{n:Nat}(h:Bd x n)(hn:n<=6000):x.1.natAbs<qO/\x.2.natAbs<qO:=by
 have:2 ^ n<=qO:=by rw[m8];exact QW (by decide) (Qh hn (by decide))
 exact⟨PK h.a this,PK h.b this⟩
def Bd.c60{x:dS}{n:Nat}(h:Bd x n)(hn:n<=6000):x.1.natAbs<Bb/\x.2.natAbs<Bb:=⟨PK (h.c13 hn).1 oC,PK (h.c13 hn).2 oC⟩
def low_bd{a b:Int}{n:Nat}(hb:0<b)(h1:a.natAbs<2 ^ n)(h2:b.natAbs<2 ^ n):Bd (b6 a b) n:=⟨by have:=(cU (a:=a) hb).q1;omega,Qu uk h1,Qu uh h2⟩
def un_bd{x y:dS}{m n:Nat}(hx:Bd x m)(hy:Bd y n):Bd (un x y) (m+n+1):=by
 refine⟨SI hx.q0 hy.q0,?_,CA (xB hx.b hy.b) (by omega)⟩;have h1:=xB hx.a hy.b;have h2:=xB hy.a hx.b;rw[Nat.add_comm n m]at h2;exact KW h1 h2
def yQ{x y:dS}{m n:Nat}(hx:Bd x m)(hy:Bd y n):Bd (pl x y) (m+n+1):=low_bd (un_bd hx hy).q0 (un_bd hx hy).a (un_bd hx hy).b
def lplus_bd{x y:dS}{m n:Nat}(hx:Bd x m)(hy:Bd y n)(h:m+n<=5900):bE [fr x,fr y]=.ok (fr (pl x y)):=by
 have b1:=hx.c60 (by omega);have b2:=hy.c60 (by omega);have hp:=un_bd hx hy;have hc:=hp.c13 (by omega);have m1:=cz (eI b1.1 b2.2);have m2:=cz (eI b2.1 b1.2);have m3:=cz (eI b1.2 b2.2);have hlo:bj [.int (x.1*y.2+y.1*x.2),.int (x.2*y.2)]=.ok (fr (pl x y)):=Cod.low_ok hp.q0 hc.1 hc.2;open_line with[K12.bE,K12.nJ,i0,i1,m1,m2,m3,hlo]
def lless_bd{x y:dS}{m n:Nat}(hx:Bd x m)(hy:Bd y n)(hm:m<=6000)(hn:n<=6000):cA [fr x,fr y]=.ok (.bl (flt x y)):=by
 have b1:=hx.c60 hm;have b2:=hy.c60 hn;have m1:=cz (eI b1.1 b2.2);have m2:=cz (eI b2.1 b1.2);open_line with[cA,nK,i0,i1,m1,m2]
 rfl
theorem sS{α:Type}{B:Ev}{tg:Ev->D->ai Ev}{tt fe:al}(g:α->D)(pk:α->Option D):∀(L:List α),(∀a∈L,∃ρ1,tg B (g a)=.ok ρ1/\((pk a=none/\tt ρ1=.ok (.bl false))∨(∃d,pk a=some d/\tt ρ1=.ok (.bl true)/\fe ρ1=.ok d)))->bU B tg tt fe (L.map g)=.ok (L.filterMap pk)
 |[],_=>rfl
 |a::L,h=>by
  obtain⟨ρ1,h1,h2⟩:=h a Qf;have ih:=sS g pk L λd hd=>h d (PV _ hd);rw[PQ];unfold bU;rw[h1,A0];rcases h2 with⟨e,h2⟩|⟨d,e,h2,h3⟩
  .rw[h2,A0]
   show bU B tg tt fe (L.map g)=_;rw[ih,List.filterMap_cons_none e]
  .rw[h2,A0]
   show(fe ρ1).bind _=_;rw[h3,A0,ih,A0,List.filterMap_cons_some e]
def comp_pick{α:Type}{n:Nat}{fr':bm}{ρ:Ev}{tg:Ev->D->ai Ev}{tt fe:al}(g:α->D)(pk:α->Option D){L:List α}(hl:L.length<=1000000)(h:∀a∈L,∃ρ1,tg (cY n fr' ρ) (g a)=.ok ρ1/\((pk a=none/\tt ρ1=.ok (.bl false))∨(∃d,pk a=some d/\tt ρ1=.ok (.bl true)/\fe ρ1=.ok d))):fN n fr' tg tt fe ρ (L.map g)=.ok (.lst (L.filterMap pk)):=by
 unfold fN;rw[if_pos (show(L.map g).length<=line from by rw[Pz];exact hl),sS g pk L h]
end K51
namespace Pth
open PySem L2 DL Com Bor K17
open K11 (nums ways pr dO)
structure nM where
 n:Nat
 a:PY
 b:PY
def gM(s:nM):D:=.tup [.int (s.n:Int),.str s.a,.str s.b]
def ck(ks:bm)(n:Nat)(t:jJ):List nM:=if n∈ks then[] else(ways t).map λp=>⟨n,p.1,p.2⟩
def cN(ks:bm):Nat->List jJ->List nM
 |_,[]=>[]
 |n,t::ts=>ck ks n t++cN ks (n+1) ts
def aV(w:cG)(ks:bm):List nM:=cN ks 0 w.ts
def yr(t:jJ):(ways t).length<=2:=by unfold ways;split<;>simp
def wZ{ks:bm}{n:Nat}{t:jJ}:(ck ks n t).length<=2:=by
 unfold ck;split
 .simp
 .rw[Pz];exact yr t
theorem kA{ks:bm}{s:nM}:∀(n:Nat) (ts:List jJ),s∈cN ks n ts↔∃t,n<=s.n/\ts[s.n-n]?=some t/\s.n∉ks/\(s.a,s.b)∈ways t
 |n,[]=>by simp[cN]
 |n,t::ts=>by
  rw[cN,QJ,kA (n+1) ts];constructor
  .rintro(h|⟨u,h1,h2,h3,h4⟩)
   .unfold ck at h
    by_cases hk:n∈ks
    .rw[if_pos hk]at h;cases h
    .rw[if_neg hk]at h
     obtain⟨p,hp,rfl⟩:=Qp.mp h;exact⟨t,P4 _,by simp,hk,hp⟩
   .refine⟨u,by omega,?_,h3,h4⟩
    rw[show s.n-n=(s.n-(n+1))+1 by omega,QU];exact h2
  .rintro⟨u,h1,h2,h3,h4⟩
   by_cases hn:s.n=n
   .left
    rw[hn,Nat.sub_self,RO]at h2;cases h2;unfold ck;rw[if_neg (by rw[←hn];exact h3)];exact Qp.mpr ⟨(s.a,s.b),h4,by rw[←hn]⟩
   .right
    refine⟨u,by omega,?_,h3,h4⟩;rw[show s.n-n=(s.n-(n+1))+1 by omega,QU]at h2;exact h2
def dA{w:cG}{ks:bm}{s:nM}:s∈aV w ks↔∃t,w.ts[s.n]?=some t/\s.n∉ks/\(s.a,s.b)∈ways t:=by
 unfold aV;rw[kA];simp
abbrev OS:am:=(aA (ez 2 (ao (ag (aa 3) (ag (aa 5) (ag (aa 6) aC))) eJ))
 ar)
abbrev L8:am:=(aA (dQ (ae (aa 3) (aa 1) c9)
 (aA (qT (ao (ag (aa 4) aC) m_steps_along) (dN [5,6])
 OS)
 ar)
 ar)
 ar)
def Ak(w:cG)(ks:bm)(ss:List nM)(x3 x4 x5 x6:Sl):Ev:=[.sh (aL w),.sh (bT ks),.ow (.lst (ss.map gM)),x3,x4,x5,x6]
theorem zt{w:cG}{ks:bm}{n:Nat}{x4:D}:∀(ps:List (PY×PY)) (ss:List nM) (x5 x6:Sl),ss.length+ps.length<=900->∃y5 y6,bW (dN [5,6]) OS (ps.map pr) (Ak w ks ss (.sh (.int (n:Int))) (.sh x4) x5 x6)=.ok (.nx (Ak w ks (ss++ps.map λp=>⟨n,p.1,p.2⟩) (.sh (.int (n:Int))) (.sh x4) y5 y6))
 |[],ss,x5,x6,_=>⟨x5,x6,by simp only[Q3,QC];rfl⟩
 |p::ps,ss,x5,x6,h=>by
  rw[Qj]at h;obtain⟨y5,y6,e⟩:=zt (w:=w) (ks:=ks) (n:=n) (x4:=x4) ps (ss++[⟨n,p.1,p.2⟩]) (.sh (.str p.1)) (.sh (.str p.2)) (by rw[Qs,Sy];omega);refine⟨y5,y6,?_⟩;have hap:decide ((ss.map gM).length<=999)=true:=decide_eq_true (by rw[Pz];omega);rw[PQ,dZ (ρ1:=Ak w ks ss (.sh (.int (n:Int))) (.sh x4) (.sh (.str p.1)) (.sh (.str p.2))) (ρ2:=Ak w ks (ss++[⟨n,p.1,p.2⟩]) (.sh (.int (n:Int))) (.sh x4) (.sh (.str p.1)) (.sh (.str p.2))) rfl]
  .rw[e,PQ,S8];rfl
  .unfold Ak
   have:(ss++[(⟨n,p.1,p.2⟩:nM)]).map gM=ss.map gM++[.tup [.int (n:Int),.str p.1,.str p.2]]:=by rw[QB];rfl
   simp only[this];open_line with[j6 hap]
theorem vq{w:cG}{ks:bm}(t14:w.ts.length<=14):∀(ts:List jJ) (n:Nat) (ss:List nM) (x3 x4 x5 x6:Sl),ss.length+2*ts.length<=100->∃y3 y4 y5 y6,bW (dN [3,4]) L8 (numbered n (ts.map bC)) (Ak w ks ss x3 x4 x5 x6)=.ok (.nx (Ak w ks (ss++cN ks n ts) y3 y4 y5 y6))
 |[],n,ss,x3,x4,x5,x6,_=>⟨x3,x4,x5,x6,by rw[cN,QC];rfl⟩
 |t::ts,n,ss,x3,x4,x5,x6,h=>by
  rw[Qj]at h;have hni:=K11.notIn_nums (ks:=ks) (n:=n);have h2:=yr t;have key:∃y5 y6,L8 (Ak w ks ss (.sh (.int (n:Int))) (.sh (bC t)) x5 x6)=.ok (.nx (Ak w ks (ss++ck ks n t) (.sh (.int (n:Int))) (.sh (bC t)) y5 y6)):=by
   unfold ck
   by_cases hk:n∈ks
   .rw[if_pos hk,QC]
    rw[decide_eq_true hk]at hni;refine⟨x5,x6,?_⟩;unfold Ak bT;open_line with[hni]
   .rw[if_neg hk]
    rw[decide_eq_false hk]at hni;obtain⟨y5,y6,e⟩:=zt (w:=w) (ks:=ks) (n:=n) (x4:=bC t) (ways t) ss x5 x6 (by omega);refine⟨y5,y6,?_⟩;unfold Ak bT at e ⊢;open_line with[hni,K11.steps_ok,e]
  obtain⟨y5,y6,e1⟩:=key;have hle:=wZ (ks:=ks) (n:=n) (t:=t);obtain⟨z3,z4,z5,z6,e2⟩:=vq (ks:=ks) t14 ts (n+1) (ss++ck ks n t) (.sh (.int (n:Int))) (.sh (bC t)) y5 y6 (by rw[Qs];omega);refine⟨z3,z4,z5,z6,?_⟩;rw[PQ,DL.numbered,dZ (ρ1:=Ak w ks ss (.sh (.int (n:Int))) (.sh (bC t)) x5 x6) rfl e1,e2,cN,S8]
def steps_ok{w:cG}(W:cH w){ks:bm}:m_steps_left [aL w,bT ks]=.ok (.lst ((aV w ks).map gM)):=by
 have t14:=W.t14;obtain⟨y3,y4,y5,y6,e⟩:=vq (w:=w) (ks:=ks) t14 w.ts 0 [] .no .no .no .no (by simp;omega);rw[QX]at e;have hi:aN (aL w) (.int 1)=.ok (.lst (w.ts.map bC)):=rfl;unfold Ak at e;simp only[Q3]at e;open_line with[K51.m_steps_left,K51.b_steps_left,hi,e]
 rfl
open K11 (nums ways pr dO)
structure de where
 p:PY
 z:Int
 y:bm
def gr(e:de):D:=.tup [.int e.z,.lst (nums e.y)]
def fD(F:List de):D:=.dic (F.map (·.p)) (F.map gr)
def get(F:List de)(k:PY):Option de:=F.find? λe=>decide (e.p=k)
theorem kY{k:PY}:∀{F:List de},kZ (F.map (·.p)) (F.map gr) k=(get F k).map gr
 |[]=>rfl
 |e::F=>by
  rw[PQ,PQ,kZ];unfold get
  by_cases h:e.p=k
  .rw[if_pos h,UC (by exact decide_eq_true h)];rfl
  .rw[if_neg h,UD (by simpa using h),kY];rfl
def cQ{F:List de}{k:PY}{e:de}(h:get F k=some e):e∈F/\e.p=k:=⟨List.mem_of_find?_eq_some h,by simpa using List.find?_some h⟩
def pJ{F:List de}{k:PY}:get F k=none↔∀e∈F,e.p≠k:=by
 unfold get;rw[List.find?_eq_none];simp
def C3{F:List de}(nd:(F.map (·.p)).Nodup){e:de}(he:e∈F):get F e.p=some e:=by
 induction F with
 |nil=>cases he
 |cons d F ih=>
  rw[PQ,Rq]at nd;unfold get;rcases P9.mp he with rfl|he
  .rw[UC (by simp)]
  .have:d.p≠e.p:=λz=>nd.1 (z▸Qp.mpr ⟨e,he,rfl⟩)
   rw[UD (by simpa using this)];exact ih nd.2 he
def c7(zs:List Int)(n:Nat):Int:=(zs[n]?).getD 0
noncomputable def jr(zs:List Int) (F:List de) (c:Option de) (s:nM):Option de:=match get F s.a,get F s.b with
 |some e,none=>match c with
  |none=>some ⟨s.b,e.z+c7 zs s.n,e.y++[s.n]⟩
  |some d=>if e.z+c7 zs s.n<d.z then some ⟨s.b,e.z+c7 zs s.n,e.y++[s.n]⟩ else c
 |_,_=>c
def cD:Option de->D
 |none=>.non
 |some e=>.tup [.str e.p,.int e.z,.lst (nums e.y)]
noncomputable abbrev nB:am :=
 (aA (dQ (gf (ae (aa 5) (aa 2) pZ) (ae (aa 6) (aa 2) fq))
 (aA (bq 7 (ae (ae (ae (aa 2) (aa 5) eO) (dC (.int 0)) aN) (ae (aa 1) (aa 4) aN) cj))
 (aA (dQ (gV (ae (aa 3) (dC (.non)) c3) (ae (aa 7) (ae (aa 3) (dC (.int 1)) aN) Li))
 (aA (bq 3 (ao (ag (aa 6) (ag (aa 7) (ag (ae (ae (ae (aa 2) (aa 5) eO) (dC (.int 1)) aN) (ao (ag (aa 4) aC) du) cj) aC))) eJ))
 ar)
 ar)
 ar))
 ar)
 ar)
section
variable {S:D}{zs:List Int}{F:List de}
def Jm(hF:∀e∈F,e.y.length<=900){s:nM}(hs:s.n<zs.length){c:Option de}{x7:Sl} :
  ∃y7,nB [.sh S,.sh (.lst (zs.map D.int)),.sh (fD F),.sh (cD c),.sh (.int (s.n:Int)),.sh (.str s.a),.sh (.str s.b),x7]=.ok (.nx [.sh S,.sh (.lst (zs.map D.int)),.sh (fD F),.sh (cD (jr zs F c s)),.sh (.int (s.n:Int)),.sh (.str s.a),.sh (.str s.b),y7]):=by
 have g1:∀k,pZ (.str k) (fD F)=.ok (.bl (get F k).isSome):=λk=>by
  show ai.ok (D.bl (kZ (F.map (·.p)) (F.map gr) k).isSome)=_;rw[kY,Ry]
 have g2:∀k,fq (.str k) (fD F)=.ok (.bl (!(get F k).isSome)):=λk=>by
  show ai.ok (D.bl (!(kZ (F.map (·.p)) (F.map gr) k).isSome))=_;rw[kY,Ry]
 have h1:=g1 s.a;have h2:=g2 s.b;unfold jr;cases ea:get F s.a with
 |none=>
  rw[ea]at h1;simp only[RV]at h1;refine⟨x7,?_⟩;open_line with[h1]
 |some e=>
  rw[ea]at h1;simp only[RU]at h1;cases eb:get F s.b with
  |some e'=>
   rw[eb]at h2;simp only[RU,R6]at h2;refine⟨x7,?_⟩;open_line with[h1,h2]
  |none=>
   rw[eb]at h2;simp only[RV,RQ]at h2;have h3:eO (fD F) (.str s.a)=.ok (gr e):=by
    show(match kZ (F.map (·.p)) (F.map gr) s.a with|some d=>ai.ok d|none=>.stuck)=_;rw[kY,ea];rfl
   have h4:aN (gr e) (.int 0)=.ok (.int e.z):=rfl;have h5:aN (gr e) (.int 1)=.ok (.lst (nums e.y)):=rfl;have h6:aN (.lst (zs.map D.int)) (.int (s.n:Int))=.ok (.int (c7 zs s.n)):=kN (by
    unfold c7;rw[PN,PL hs];rfl)
   have h7:cj (.lst (nums e.y)) (.lst [.int (s.n:Int)])=.ok (.lst (nums (e.y++[s.n]))):=by
    rw[zE (decide_eq_true (by
     have:=hF e (cQ ea).1;unfold nums;simp;omega))]
    unfold nums;rw[QB];rfl
   cases c with
   |none=>
    refine⟨.sh (.int (e.z+c7 zs s.n)),?_⟩;simp only[cD];open_line with[h1,h2,h3,h4,h5,h6,h7]
   |some d=>
    refine⟨.sh (.int (e.z+c7 zs s.n)),?_⟩;simp only
    by_cases hlt:e.z+c7 zs s.n<d.z
    .rw[if_pos hlt]
     simp only[cD];open_line with[h1,h2,h3,h4,h5,h6,h7,decide_eq_true hlt]
    .rw[if_neg hlt]
     simp only[cD];open_line with[h1,h2,h3,h4,h5,h6,h7,decide_eq_false hlt]
theorem CL(hF:∀e∈F,e.y.length<=900):∀(ss:List nM) (c:Option de) (x4 x5 x6 x7:Sl),(∀s∈ss,s.n<zs.length)->∃y4 y5 y6 y7,bW (dN [4,5,6]) nB (ss.map gM) [.sh S,.sh (.lst (zs.map D.int)),.sh (fD F),.sh (cD c),x4,x5,x6,x7]=.ok (.nx [.sh S,.sh (.lst (zs.map D.int)),.sh (fD F),.sh (cD (ss.foldl (jr zs F) c)),y4,y5,y6,y7])
 |[],c,x4,x5,x6,x7,_=>⟨x4,x5,x6,x7,rfl⟩
 |s::ss,c,x4,x5,x6,x7,h=>by
  obtain⟨y7,e1⟩:=Jm (S:=S) hF (h s Qf) (c:=c) (x7:=x7);obtain⟨z4,z5,z6,z7,e2⟩:=CL hF ss (jr zs F c s) (.sh (.int (s.n:Int))) (.sh (.str s.a)) (.sh (.str s.b)) y7 λu hu=>h u (PV _ hu);exact⟨z4,z5,z6,z7,by rw[PQ,dZ (ρ1:=[.sh S,.sh (.lst (zs.map D.int)),.sh (fD F),.sh (cD c),.sh (.int (s.n:Int)),.sh (.str s.a),.sh (.str s.b),x7]) rfl e1,e2,List.foldl_cons]⟩
end
def ue(ss:List nM)(zs:List Int)(F:List de):Option de:=ss.foldl (jr zs F) none
def Fu{ss:List nM}{zs:List Int}{F:List de}(hF:∀e∈F,e.y.length<=900)(hs:∀s∈ss,s.n<zs.length):m_nearest_step [.lst (ss.map gM),.lst (zs.map D.int),fD F]=.ok (cD (ue ss zs F)):=by
 obtain⟨y4,y5,y6,y7,e⟩:=CL (S:=.lst (ss.map gM)) hF ss none .no .no .no .no hs;have e:bW (dN [4,5,6]) nB (ss.map gM) [.sh (.lst (ss.map gM)),.sh (.lst (zs.map D.int)),.sh (fD F),.sh .non,.no,.no,.no,.no]=_:=e;open_line with[m_nearest_step,jF,e]
 rfl
def qJ(F:List de)(s:nM)(e:de):Prop:=e∈F/\e.p=s.a/\∀d∈F,d.p≠s.b
theorem jW{zs:List Int}{F:List de}(nd:(F.map (·.p)).Nodup):∀(ss:List nM) (c:Option de),
  (∀d,ss.foldl (jr zs F) c=some d->(c=some d∨∃s∈ss,∃e,qJ F s e/\d=⟨s.b,e.z+c7 zs s.n,e.y++[s.n]⟩)/\(∀d',c=some d'->d.z<=d'.z)/\∀s∈ss,∀e,qJ F s e->d.z<=e.z+c7 zs s.n) /\
  (ss.foldl (jr zs F) c=none->c=none/\∀s∈ss,∀e,¬qJ F s e)
 |[],c=>⟨λd h=>⟨.inl h,λd' h'=>by rw[List.foldl_nil]at h;rw[h]at h';cases h';exact RA _,λs hs=>(nomatch hs)⟩,λh=>⟨h,λs hs=>(nomatch hs)⟩⟩
 |s::ss,c=>by
  obtain⟨i1,i2⟩:=jW (zs:=zs) nd ss (jr zs F c s);rw[List.foldl_cons];have hc:∀e,qJ F s e->get F s.a=some e/\get F s.b=none:=λe ⟨h1,h2,h3⟩=>⟨by rw[←h2];exact C3 nd h1,pJ.mpr h3⟩
  have hst:(jr zs F c s=c/\((∀e,¬qJ F s e)∨∃e d,qJ F s e/\c=some d/\d.z<=e.z+c7 zs s.n))∨∃e,qJ F s e/\jr zs F c s=some ⟨s.b,e.z+c7 zs s.n,e.y++[s.n]⟩/\∀d,c=some d->e.z+c7 zs s.n<=d.z:=by
   unfold jr;cases ea:get F s.a with
   |none=>exact .inl ⟨rfl,.inl λe h=>by rw[(hc e h).1]at ea;cases ea⟩
   |some e=>
    cases eb:get F s.b with
    |some e'=>exact .inl ⟨rfl,.inl λe h=>by rw[(hc e h).2]at eb;cases eb⟩
    |none=>
     have hC:qJ F s e:=⟨(cQ ea).1,(cQ ea).2,pJ.mp eb⟩
     cases c with
     |none=>exact .inr ⟨e,hC,rfl,λd h=>by cases h⟩
     |some d=>
      simp only
      by_cases hlt:e.z+c7 zs s.n<d.z
      .rw[if_pos hlt]
       exact .inr ⟨e,hC,rfl,λd' h=>by cases h;omega⟩
      .rw[if_neg hlt]
       exact .inl ⟨rfl,.inr ⟨e,d,hC,rfl,by omega⟩⟩
  have one:∀e e',qJ F s e->qJ F s e'->e=e':=λe e' h h'=>by
   have h1:=(hc e h).1;rw[(hc e' h').1]at h1;cases h1;rfl
  refine⟨λd h=>?_,λh=>?_⟩
  .obtain⟨j1,j2,j3⟩:=i1 d h
   rcases hst with⟨e1,e2⟩|⟨e,hC,e1,e2⟩
   .rw[e1]at j1 j2
    refine⟨?_,j2,λs' hs' e' hC'=>?_⟩
    .rcases j1 with j1|⟨s',hs',j1⟩
     .exact .inl j1
     .exact .inr ⟨s',PV _ hs',j1⟩
    .rcases P9.mp hs' with rfl|hs'
     .rcases e2 with e2|⟨e,d0,hC,h1,h2⟩
      .exact absurd hC' (e2 e')
      .rw[one e' e hC' hC]
       have:=j2 d0 h1;omega
     .exact j3 s' hs' e' hC'
   .rw[e1]at j1 j2
    have k:=j2 _ rfl;refine⟨?_,λd' h'=>RX k (e2 d' h'),λs' hs' e' hC'=>?_⟩
    .rcases j1 with j1|⟨s',hs',j1⟩
     .cases j1
      exact .inr ⟨s,Qf,e,hC,rfl⟩
     .exact .inr ⟨s',PV _ hs',j1⟩
    .rcases P9.mp hs' with rfl|hs'
     .rw[one e' e hC' hC];exact k
     .exact j3 s' hs' e' hC'
  .obtain⟨j1,j2⟩:=i2 h
   rcases hst with⟨e1,e2⟩|⟨e,hC,e1,e2⟩
   .rw[e1]at j1
    refine⟨j1,λs' hs' e' hC'=>?_⟩;rcases P9.mp hs' with rfl|hs'
    .rcases e2 with e2|⟨e,d0,hC,h1,h2⟩
     .exact e2 e' hC'
     .rw[j1]at h1;cases h1
    .exact j2 s' hs' e' hC'
   .rw[e1]at j1;cases j1
open K11 (nums ways pr dO)
def Ho(w:cG)(ks:bm)(n:Nat)(a b:PY):Prop:=∃t,w.ts[n]?=some t/\n∉ks/\(a,b)∈ways t
inductive nZ (w:cG) (ks:bm) (a:PY):bm->PY->Prop where
 |nil:nZ w ks a [] a
 |snoc {p:bm}{b c:PY}{n:Nat}:nZ w ks a p b->Ho w ks n b c->nZ w ks a (p++[n]) c
def fv(zs:List Int)(p:bm):Int:=(p.map (c7 zs)).sum
def gW{zs:List Int}{p:bm}{n:Nat}:fv zs (p++[n])=fv zs p+c7 zs n:=by
 unfold fv;rw[QB,List.sum_append];simp
def Eu{zs:bi}{t:jJ}(T:nL zs t){a b:PY}(h:(a,b)∈ways t):a∈zs/\b∈zs/\(a=t.a∨a=t.b)/\(b=t.a∨b=t.b):=by
 have ta:=T.a;have tb:=T.b;unfold ways at h;split at h
 .have:(a,b)=(t.a,t.b):=by simpa using h
  cases this;exact⟨ta,tb,.inl rfl,.inr rfl⟩
 .rcases P9.mp h with e|h
  .cases e;exact⟨ta,tb,.inl rfl,.inr rfl⟩
  .have:(a,b)=(t.b,t.a):=by simpa using h
   cases this;exact⟨tb,ta,.inr rfl,.inl rfl⟩
structure k9 (w:cG) (ks:bm) (zs:List Int) (F:List de) (m:Int):Prop where
 nd:(F.map (·.p)).Nodup
 pl:∀e∈F,e.p∈w.ps
 fi:∃e∈F,e.p=w.fi/\e.z=0/\e.y=[]
 wy:∀e∈F,nZ w ks w.fi e.y e.p/\e.z=fv zs e.y/\e.y.Nodup/\e.y.length<F.length
 en:∀e∈F,∀n∈e.y,∀t,w.ts[n]?=some t->(∃d∈F,d.p=t.a)/\∃d∈F,d.p=t.b
 mo:∀e∈F,0<=e.z/\e.z<=m
 cl:∀s∈aV w ks,∀e∈F,e.p=s.a->∀d∈F,d.p=s.b->d.z<=e.z+c7 zs s.n
 op:∀s∈aV w ks,∀e,qJ F s e->m<=e.z+c7 zs s.n
def tH{zs:List Int}(h:∀z∈zs,0<=z)(n:Nat):0<=c7 zs n:=by
 unfold c7;cases e:zs[n]? with|none=>exact RA _|some z=>exact h z (PU e)
def k9.start{w:cG}(W:cH w){ks:bm}{zs:List Int}(hz:∀z∈zs,0<=z):k9 w ks zs [⟨w.fi,0,[]⟩] 0:=by
 have one:∀{e:de},e∈[(⟨w.fi,0,[]⟩:de)]->e=⟨w.fi,0,[]⟩:=λh=>by simpa using h
 refine⟨by simp,λe he=>?_,⟨_,QP.mpr rfl,rfl,rfl,rfl⟩,λe he=>?_,λe he n hn=>?_,λe he=>?_,λs hs e he ea d hd eb=>?_,λs hs e ⟨he,_⟩=>?_⟩
 .rw[one he];exact W.fi
 .rw[one he];exact⟨.nil,rfl,Ua,by simp⟩
 .rw[one he]at hn;cases hn
 .rw[one he];exact⟨RA _,RA _⟩
 .rw[one he,one hd]
  have:=tH hz s.n;simp;exact this
 .rw[one he]
  have:=tH hz s.n;simp;exact this
def k9.step{w:cG}(W:cH w){ks:bm}{zs:List Int}(hz:∀z∈zs,0<=z){F:List de}{m:Int}(R:k9 w ks zs F m){d:de}(h:ue (aV w ks) zs F=some d):k9 w ks zs (F++[d]) d.z/\∀e∈F,e.p≠d.p:=by
 obtain⟨j1,_,j3⟩:=(jW (zs:=zs) R.nd (aV w ks) none).1 d h;rcases j1 with j1|⟨s,hs,e,hC,rfl⟩
 .cases j1
 obtain⟨hcm,hca,hcb⟩:=hC;obtain⟨t,ht1,ht2,ht3⟩:=dA.mp hs;have T:=W.ts t (PU ht1);obtain⟨wa,wb,wc,wd⟩:=Eu T ht3;have hm:m<=e.z+c7 zs s.n:=R.op s hs e ⟨hcm,hca,hcb⟩;have hnn:=tH hz;have mem:∀{x:de},x∈F++[(⟨s.b,e.z+c7 zs s.n,e.y++[s.n]⟩:de)]->x∈F∨x=⟨s.b,e.z+c7 zs s.n,e.y++[s.n]⟩:=λhx=>by
  rcases QJ.mp hx with hx|hx
  .exact .inl hx
  .exact .inr (by simpa using hx)
 have old:∀{x:de},x∈F->x∈F++[(⟨s.b,e.z+c7 zs s.n,e.y++[s.n]⟩:de)]:=λhx=>Rl _ hx;have new:(⟨s.b,e.z+c7 zs s.n,e.y++[s.n]⟩:de)∈F++[(⟨s.b,e.z+c7 zs s.n,e.y++[s.n]⟩:de)]:=QE _ (QP.mpr rfl);obtain⟨k1,k2,k3,k4⟩:=R.wy e hcm;refine⟨⟨?_,λx hx=>?_,?_,λx hx=>?_,λx hx n hn u hu=>?_,λx hx=>?_,λs' hs' x hx xa y hy yb=>?_,λs' hs' x ⟨hx,xa,xb⟩=>?_⟩,hcb⟩
 .rw[QB]
  refine Rz.mpr ⟨R.nd,by simp,λa ha b hb=>?_⟩;obtain⟨x,hx,rfl⟩:=Qp.mp ha;have:b=s.b:=by simpa using hb
  rw[this];exact hcb x hx
 .rcases mem hx with hx|rfl
  .exact R.pl x hx
  .exact wb
 .obtain⟨x,hx,h1⟩:=R.fi
  exact⟨x,old hx,h1⟩
 .rcases mem hx with hx|rfl
  .obtain⟨h1,h2,h3,h4⟩:=R.wy x hx
   exact⟨h1,h2,h3,by rw[Qs];omega⟩
  .refine⟨.snoc k1 ⟨t,ht1,ht2,by rw[hca];exact ht3⟩,by rw[gW,k2],?_,by simp;omega⟩
   refine Rz.mpr ⟨k3,by simp,λa ha b hb=>?_⟩;have hbn:b=s.n:=by simpa using hb
   subst hbn;intro z;subst z;obtain⟨⟨d1,hd1,e1⟩,d2,hd2,e2⟩:=R.en e hcm _ ha t ht1;rcases wd with z|z
   .exact hcb d1 hd1 (by rw[e1,z])
   .exact hcb d2 hd2 (by rw[e2,z])
 .rcases mem hx with hx|rfl
  .obtain⟨⟨d1,hd1,e1⟩,d2,hd2,e2⟩:=R.en x hx n hn u hu
   exact⟨⟨d1,old hd1,e1⟩,d2,old hd2,e2⟩
  .rcases QJ.mp hn with hn|hn
   .obtain⟨⟨d1,hd1,e1⟩,d2,hd2,e2⟩:=R.en e hcm n hn u hu
    exact⟨⟨d1,old hd1,e1⟩,d2,old hd2,e2⟩
   .have:n=s.n:=by simpa using hn
    subst this;rw[ht1]at hu;cases hu;have ne:=T.ne;unfold ways at ht3;have hab:(s.a=t.a/\s.b=t.b)∨(s.a=t.b/\s.b=t.a):=by
     split at ht3
     .have:(s.a,s.b)=(t.a,t.b):=by simpa using ht3
      injection this with z1 z2;exact .inl ⟨z1,z2⟩
     .rcases P9.mp ht3 with z|z
      .injection z with z1 z2;exact .inl ⟨z1,z2⟩
      .have:(s.a,s.b)=(t.b,t.a):=by simpa using z
       injection this with z1 z2;exact .inr ⟨z1,z2⟩
    rcases hab with⟨z1,z2⟩|⟨z1,z2⟩
    .exact⟨⟨e,old hcm,by rw[hca,z1]⟩,_,new,z2⟩
    .exact⟨⟨_,new,z2⟩,e,old hcm,by rw[hca,z1]⟩
 .have he:=R.mo e hcm
  have:=hnn s.n;rcases mem hx with hx|rfl
  .have:=R.mo x hx
   exact⟨this.1,by show x.z<=e.z+c7 zs s.n;omega⟩
  .exact⟨by show 0<=e.z+c7 zs s.n;omega,RA _⟩
 .have n':=hnn s'.n
  rcases mem hx with hx|rfl
  .rcases mem hy with hy|rfl
   .exact R.cl s' hs' x hx xa y hy yb
   .exact j3 s' hs' x ⟨hx,xa,λd hd=>by rw[←yb];exact hcb d hd⟩
  .rcases mem hy with hy|rfl
   .have:=(R.mo y hy).2
    show y.z<=e.z+c7 zs s.n+c7 zs s'.n;omega
   .show e.z+c7 zs s.n<=e.z+c7 zs s.n+c7 zs s'.n
    omega
 .have n':=hnn s'.n
  rcases mem hx with hx|rfl
  .exact j3 s' hs' x ⟨hx,xa,λd hd=>xb d (old hd)⟩
  .show e.z+c7 zs s.n<=e.z+c7 zs s.n+c7 zs s'.n
   omega
def n8(w:cG)(ks:bm)(F:List de):Prop:=∀s∈aV w ks,∀e∈F,e.p=s.a->∃d∈F,d.p=s.b
def k9.len{w:cG}(W:cH w){ks:bm}{zs:List Int}{F:List de}{m:Int}(R:k9 w ks zs F m):F.length<=7:=by
 have:=Cod.nodup_le R.nd (λz hz=>by
  obtain⟨e,he,rfl⟩:=Qp.mp hz;exact R.pl e he)
 rw[Pz]at this;have:=W.n7;omega
def k9.shut{w:cG}{ks:bm}{zs:List Int}{F:List de}{m:Int}(R:k9 w ks zs F m)(h:ue (aV w ks) zs F=none):n8 w ks F:=λs hs e he ea=>by
 have hn:=((jW (zs:=zs) R.nd (aV w ks) none).2 h).2 s hs e;cases hg:get F s.b with|none=>exact absurd ⟨he,ea,pJ.mp hg⟩ hn|some d=>exact⟨d,(cQ hg).1,(cQ hg).2⟩
abbrev rT:al:=ae (aa 5) (dC (.non)) gJ
abbrev rB:am :=
 (aA (ng 4 (ao (ag (ae (aa 5) (dC (.int 1)) aN) (ag (ae (aa 5) (dC (.int 2)) aN) aC)) eJ) (ae (aa 5) (dC (.int 0)) aN))
 (aA (oV 5 (ao (ag (aa 3) (ag (aa 2) (ag (aa 4) aC))) m_nearest_step))
 ar))
section
variable {ρ:Ev}{i:Nat}{f k:al}{ks:bi}{ds:ac}{d:D}
def jz:rW i f ρ=(f ρ).bind (yT i ρ):=aH rfl
def iL:yT i ρ (.dic ks ds)=.ok (.nx (ρ.set i (.ow (.dic ks ds)))):=aH rfl
def Ca(i:Nat)(f k:al)(ρ:Ev)(s:Option Sl):ai Fl:=match s with
 |some (.ow (.dic ks ds))=>(f ρ).bind λd=>(k ρ).bind (lF i ρ ks ds d)
 |_=>.stuck
def mM:ng i f k ρ=Ca i f k ρ ρ[i]?:=aH rfl
def B8(i:Nat)(k:al)(ρ:Ev)(ks:bi)(ds:ac)(d:D):ai Fl:=(k ρ).bind (lF i ρ ks ds d)
def lU:Ca i f k ρ (some (.ow (.dic ks ds)))=(f ρ).bind (B8 i k ρ ks ds):=aH rfl
def j8:B8 i k ρ ks ds d=(k ρ).bind (lF i ρ ks ds d):=aH rfl
def j7{x:PY}(h:decide (ks.length<=900)=true):lF i ρ ks ds d (.str x)=.ok (.nx (ρ.set i (.ow (qU ks ds x d)))):=if_pos (Qu (of_decide_eq_true h) (by decide))
def kP:oV i f ρ=(f (gw ρ)).bind (yD i ρ):=aH rfl
def iK(h1:nd d=true)(h2:lI ρ=true):yD i ρ d=.ok (.nx (ρ.set i (.sh d))):=if_pos ⟨h1,h2⟩
def oq{a b:al}:wu a b ρ=ae a b DK ρ:=aH rfl
def lV{x:PY}:DK (.str x) d=.ok (.dic [x] [d]):=aH rfl
end
theorem vI:∀(p:bm),nds (nums p)=true
 |[]=>rfl
 |n::p=>by
  show(nd (.int (n:Int))&&nds (nums p))=true;rw[vI p];rfl
def Fw(c:Option de):nd (cD c)=true:=by
 cases c with
 |none=>rfl
 |some e=>
  show(nd (.str e.p)&&(nd (.int e.z)&&(nd (.lst (nums e.y))&&true)))=true;have:nd (.lst (nums e.y))=true:=by rw[nd];exact vI e.y
  rw[this];rfl
def yM{F:List de}{d:de}(h:∀e∈F,e.p≠d.p):qU (F.map (·.p)) (F.map gr) d.p (gr d)=fD (F++[d]):=by
 unfold qU fD;rw[if_neg (λz=>by
  obtain⟨e,he,e1⟩:=Qp.mp z;exact h e he e1),QB,QB]
 rfl
section
variable {w:cG}(W:cH w) {ks:bm}{zs:List Int}(hl:zs.length=w.ts.length) (hz:∀z∈zs,0<=z)
include W hl hz
theorem tW{F:List de}{m:Int}(R:k9 w ks zs F m):m_nearest_step [.lst ((aV w ks).map gM),.lst (zs.map D.int),fD F]=.ok (cD (ue (aV w ks) zs F)) :=
 Fu (λe he=>by have:=(R.wy e he).2.2.2;have:=R.len W;omega) λs hs=>by
  obtain⟨t,ht,_⟩:=dA.mp hs;rw[hl];exact(PH.mp ht).1
theorem IP:∀(f:Nat) (F:List de) (m:Int),k9 w ks zs F m->8<=F.length+f ->
  ∃G m',k9 w ks zs G m'/\n8 w ks G/\cn rT rB f [.sh (aL w),.sh (bT ks),.sh (.lst (zs.map D.int)),.sh (.lst ((aV w ks).map gM)),.ow (fD F),.sh (cD (ue (aV w ks) zs F))]=.ok (.nx [.sh (aL w),.sh (bT ks),.sh (.lst (zs.map D.int)),.sh (.lst ((aV w ks).map gM)),.ow (fD G),.sh .non]):=by
 intro f
 induction f with
 |zero=>intro F m R h;have:=R.len W;omega
 |succ f ih=>
  intro F m R h;cases hn:ue (aV w ks) zs F with
  |none=>
   refine⟨F,m,R,R.shut hn,?_⟩;exact ml (by unfold fD;open_line with[cD])
  |some d=>
   obtain⟨R',hne⟩:=R.step W hz hn;obtain⟨G,m',h1,h2,h3⟩:=ih (F++[d]) d.z R' (by rw[Qs,Sy];omega);refine⟨G,m',h1,h2,?_⟩;rw[←h3];refine oH (by unfold fD;open_line with[cD]) ?_;have hr:=tW W hl hz R';have hp:=yM hne;have h9:decide ((F.map (·.p)).length<=900)=true:=decide_eq_true (by rw[Pz];have:=R.len W;omega);have q1:aN (cD (some d)) (.int 1)=.ok (.int d.z):=rfl;have q2:aN (cD (some d)) (.int 2)=.ok (.lst (nums d.y)):=rfl;have q0:aN (cD (some d)) (.int 0)=.ok (.str d.p):=rfl;have he:D.tup [.int d.z,.lst (nums d.y)]=gr d:=rfl;have hoD:∀c,lI [.sh (aL w),.sh (bT ks),.sh (.lst (zs.map D.int)),.sh (.lst ((aV w ks).map gM)),.ow (fD (F++[d])),.sh c]=true:=λ_=>rfl;show rB [.sh (aL w),.sh (bT ks),.sh (.lst (zs.map D.int)),.sh (.lst ((aV w ks).map gM)),.ow (.dic (F.map (·.p)) (F.map gr)),.sh (cD (some d))]=_;open_line with[mM,lU,j8,j7 h9,q0,q1,q2,he,hp,kP,hr,iK (Fw _) (hoD _)]
theorem xj:∃F m,k9 w ks zs F m/\n8 w ks F/\m_all_reached [aL w,bT ks,.lst (zs.map D.int)]=.ok (fD F):=by
 have R0:=k9.start W (ks:=ks) hz;obtain⟨G,m',h1,h2,h3⟩:=IP W hl hz (ks:=ks) 8 [⟨w.fi,0,[]⟩] 0 R0 (by simp);refine⟨G,m',h1,h2,?_⟩;have hs:=steps_ok W (ks:=ks);have hn:=tW W hl hz R0;have i2:aN (aL w) (.int 2)=.ok (.str w.fi):=rfl;have hf:fD [⟨w.fi,0,[]⟩]=.dic [w.fi] [.tup [.int 0,.lst []]]:=rfl;rw[hf]at hn h3;have hoD:lI [.sh (aL w),.sh (bT ks),.sh (.lst (zs.map D.int)),.sh (.lst ((aV w ks).map gM)),.ow (.dic [w.fi] [.tup [.int 0,.lst []]]),.no]=true:=rfl;have hw:∀(c:al) (s:am) (ρ:Ev),gN (λ_=>8) c s ρ=cn c s 8 ρ:=λ_ _ _=>rfl;unfold fD at h3 ⊢;open_line with[m_all_reached,gT,hs,i2,jz,oq,lV,iL,kP,hn,iK (Fw _) hoD,hw,h3]
end
open K11 (nums ways pr dO)
def Ey{w:cG}{ks:bm}{zs:List Int}{F:List de}{m:Int}(R:k9 w ks zs F m)(S:n8 w ks F){p:bm}{b:PY}(h:nZ w ks w.fi p b):∃e∈F,e.p=b/\e.z<=fv zs p:=by
 induction h with
 |nil=>
  obtain⟨e,he,h1,h2,_⟩:=R.fi;exact⟨e,he,h1,by rw[h2];exact RA _⟩
 |@snoc p b c n _ g ih=>
  obtain⟨e,he,h1,h2⟩:=ih;obtain⟨t,t1,t2,t3⟩:=g;have hs:(⟨n,b,c⟩:nM)∈aV w ks:=dA.mpr ⟨t,t1,t2,t3⟩;obtain⟨d,hd,hb⟩:=S _ hs e he h1;have:=R.cl _ hs e he h1 d hd hb;refine⟨d,hd,hb,?_⟩;rw[gW];have this:d.z<=e.z+c7 zs n:=this;omega
def lB(w:cG):Int:=Hc (w.ts.map (·.l))
def lz(w:cG):List Int:=w.ts.map λt=>t.l.1*(lB w / t.l.2)
def w6(xs:List dS):fZ (xs.map some)=xs:=by
 unfold fZ;rw[List.filterMap_map];simp
section
variable {w:cG}(W:cH w)
include W
theorem gE:0<lB w/\(lB w).natAbs<=2 ^ 2800/\∀t∈w.ts,t.l.2∣lB w:=by
 have h:=D0 (xs:=w.ts.map (·.l)) (λx hx=>by
  obtain⟨t,ht,rfl⟩:=Qp.mp hx;exact(W.ts t ht).l) 1 0 ⟨by decide,by decide⟩
 obtain⟨⟨h1,h2⟩,_,h3⟩:=h;refine⟨h1,?_,λt ht=>h3 _ (Qp.mpr ⟨t,ht,rfl⟩)⟩;refine Qh h2 (QW (by decide) ?_);rw[Pz];have:=W.t14;omega
theorem CT:(lz w).length=w.ts.length:=by unfold lz;rw[Pz]
theorem CS:∀z∈lz w,0<=z:=λz hz=>by
 obtain⟨t,ht,rfl⟩:=Qp.mp hz;have T:=W.ts t ht;have:=T.l.q1;exact Int.mul_nonneg T.l0 (To (by have:=(gE W).1;omega) (by omega))
theorem Mk(n:Nat):(c7 (lz w) n).natAbs<2 ^ 3000:=by
 unfold c7 lz;rw[PN];cases e:w.ts[n]? with
 |none=>show(0:Int).natAbs<_;exact UW (by decide)
 |some t=>
  have T:=W.ts t (PU e);show(t.l.1*(lB w / t.l.2)).natAbs<_;rw[Uc,show(3000:Nat)=200+2800 from rfl,TY];have h1:t.l.1.natAbs<2 ^ 200:=PK T.l.pN (by decide);have h2:(lB w / t.l.2).natAbs<=2 ^ 2800:=Qh (Rh _ _) (gE W).2.1;exact PK (Nat.mul_lt_mul_of_lt_of_le h1 h2 (UW (by decide))) (P4 _)
theorem rS:m_scaled_lengths [aL w]=.ok (.tup [.lst ((lz w).map D.int),.int (lB w)]):=by
 have t14:=W.t14;have hi:aN (aL w) (.int 1)=.ok (.lst (w.ts.map bC)):=rfl;have hc:∀A,fN 1 [] (bJ 0) mYes (ae (aa 0) (dC (.int 3)) aN) A (w.ts.map bC)=.ok (.lst (((w.ts.map (·.l)).map some).map bx)):=λA=>by
  rw[K51.comp_pick bC (λt=>some (bx (some t.l))) (by omega)]
  .rw[QH,QH,←List.filterMap_eq_map];rfl
  .intro t ht
   have:aN (bC t) (.int 3)=.ok (bx (some t.l)):=rfl;refine⟨[.sh (bC t)],rfl,.inr ⟨_,rfl,rfl,?_⟩⟩;open_line with[this]
 have hs:=BN (os:=(w.ts.map (·.l)).map some) (by rw[Pz,Pz];omega) (λx hx=>by
  obtain⟨y,hy,e⟩:=Qp.mp hx;cases e;obtain⟨t,ht,rfl⟩:=Qp.mp hy;exact(W.ts t ht).l)
 rw[w6]at hs;open_line with[m_scaled_lengths,il,hi,hc,hs]
 show ai.ok (D.tup [.lst _,.int (lB w)])=_;unfold lz;rw[QH,QH,QH];rfl
theorem Ei{p:bm}(hp:p.length<=7):(fv (lz w) p).natAbs<2 ^ 3003:=by
 have key:∀(p:bm),(fv (lz w) p).natAbs<=p.length*2 ^ 3000:=by
  intro p
  induction p with
  |nil=>show(0:Int).natAbs<=_;simp
  |cons n p ih=>
   have:fv (lz w) (n::p)=c7 (lz w) n+fv (lz w) p:=by unfold fv;rw[PQ,SG]
   rw[this,Qj,Nat.add_mul,Nat.one_mul];have h1:=Int.natAbs_add_le (c7 (lz w) n) (fv (lz w) p);have h2:=Mk W n;omega
 have h:=key p;have h8:p.length*2 ^ 3000<=7*2 ^ 3000:=Nat.mul_le_mul_right _ hp;have h9:7*2 ^ 3000<2 ^ 3003:=by
  rw[show(3003:Nat)=3+3000 from rfl,TY];exact Nat.mul_lt_mul_of_pos_right (by decide) (UW (by decide))
 omega
end
open K11 (nums ways pr dO)
def pf(w:cG)(F:List de)(p:PY):Option dS:=(get F p).map λe=>b6 e.z (lB w)
def IW(w:cG)(F:List de):D:=.dic w.ps (w.ps.map λp=>bx (pf w F p))
def gq(w:cG)(F:List de):D:=match get F w.la with
 |none=>.tup [.non,.non,IW w F]
 |some e=>.tup [.lst (nums e.y),fr (b6 e.z (lB w)),IW w F]
theorem yg{g:PY->D}{k:PY}:∀{ps:bi},kZ ps (ps.map g) k=if k∈ps then some (g k) else none
 |[]=>rfl
 |p::ps=>by
  rw[PQ,kZ]
  by_cases h:p=k
  .subst h;simp
  .rw[if_neg h,yg]
   have:k≠p:=λz=>h z.symm;simp[this]
def Ck{w:cG}{F:List de}{p:PY}(h:p∈w.ps):eO (IW w F) (.str p)=.ok (bx (pf w F p)):=by
 show(match kZ w.ps (w.ps.map λp=>bx (pf w F p)) p with|some d=>ai.ok d|none=>.stuck)=_;rw[yg,if_pos h]
def Oa{F:List de}(k:PY):pZ (.str k) (fD F)=.ok (.bl (get F k).isSome):=by
 show ai.ok (D.bl (kZ (F.map (·.p)) (F.map gr) k).isSome)=_;rw[kY,Ry]
def zA{F:List de}(k:PY):fq (.str k) (fD F)=.ok (.bl (!(get F k).isSome)):=by
 show ai.ok (D.bl (!(kZ (F.map (·.p)) (F.map gr) k).isSome))=_;rw[kY,Ry]
def C9{F:List de}{k:PY}{e:de}(h:get F k=some e):eO (fD F) (.str k)=.ok (gr e):=by
 show(match kZ (F.map (·.p)) (F.map gr) k with|some d=>ai.ok d|none=>.stuck)=_;rw[kY,h];rfl
abbrev pB:am :=
 (aA (ng 4 (rJ (ae (aa 5) (aa 3) pZ) (ao (ag (ae (ae (aa 3) (aa 5) eO) (dC (.int 0)) aN) (ag (ae (aa 2) (dC (.int 1)) aN) aC)) K17.m_ratio) (dC (.non))) (aa 5))
 ar)
section
variable {w:cG}(W:cH w) {ks:bm}{F:List de}{m:Int}(R:k9 w ks (lz w) F m)
include W R
theorem Kg{e:de}(he:e∈F):e.z.natAbs<2 ^ 3003:=by
 obtain⟨_,h2,_,h4⟩:=R.wy e he;have:=R.len W;rw[h2];exact Ei W (by omega)
theorem Cj{p:PY}{e:de}(h:get F p=some e):K17.m_ratio [.int e.z,.int (lB w)]=.ok (fr (b6 e.z (lB w))):=by
 have b13:∀n,n<=6000->2 ^ n<=qO:=λn hn=>by rw[m8];exact QW (by decide) (Qh hn (by decide))
 obtain⟨h1,h2,_⟩:=gE W;refine vd h1 (PK (Kg W R (cQ h).1) (b13 3003 (by decide))) (Qu h2 (PK (UX (by decide) (show 2800<2801 by decide)) (b13 2801 (by decide))))
theorem xr{A:D}:∀(rest done:bi) (x5:Sl),(done++rest).Nodup->(done++rest).length<=7->∃y5,bW (bJ 5) pB (rest.map D.str) [.sh (aL w),.sh A,.sh (.tup [.lst ((lz w).map D.int),.int (lB w)]),.sh (fD F),.ow (.dic done (done.map λp=>bx (pf w F p))),x5] =
  .ok (.nx [.sh (aL w),.sh A,.sh (.tup [.lst ((lz w).map D.int),.int (lB w)]),.sh (fD F),.ow (.dic (done++rest) ((done++rest).map λp=>bx (pf w F p))),y5])
 |[],done,x5,_,_=>⟨x5,by rw[QC];rfl⟩
 |p::rest,done,x5,nd,hl=>by
  have e0:done++p::rest=(done++[p])++rest:=by rw[S8];rfl
  rw[e0]at nd hl ⊢;obtain⟨y5,e⟩:=xr (A:=A) rest (done++[p]) (.sh (.str p)) nd hl;refine⟨y5,?_⟩;have hp:p∉done:=λz=>by
   have:=(Rz.mp nd).1;have:=(Rz.mp this).2.2 p z p (QP.mpr rfl);exact this rfl
  rw[PQ,dZ (ρ1:=[.sh (aL w),.sh A,.sh (.tup [.lst ((lz w).map D.int),.int (lB w)]),.sh (fD F),.ow (.dic done (done.map λp=>bx (pf w F p))),.sh (.str p)]) (ρ2:=[.sh (aL w),.sh A,.sh (.tup [.lst ((lz w).map D.int),.int (lB w)]),.sh (fD F),.ow (.dic (done++[p]) ((done++[p]).map λp=>bx (pf w F p))),.sh (.str p)]) rfl,e];have h9:decide (done.length<=900)=true:=decide_eq_true (by rw[Qs,Qs]at hl;omega);have hput:∀d,qU done (done.map λp=>bx (pf w F p)) p d=.dic (done++[p]) ((done.map λp=>bx (pf w F p))++[d]):=λd=>by unfold qU;rw[if_neg hp]
  have hin:=Oa (F:=F) p;have hw0:bx none=.non:=rfl;have hw1:∀x,bx (some x)=fr x:=λ_=>rfl;have hv:(done++[p]).map (λp=>bx (pf w F p))=(done.map λp=>bx (pf w F p))++[bx (pf w F p)]:=by rw[QB];rfl
  rw[hv];cases hg:get F p with
  |none=>
   rw[hg]at hin;simp only[RV]at hin;have hpf:pf w F p=none:=by unfold pf;rw[hg];rfl
   rw[hpf];open_line with[mM,lU,j8,j7 h9,hin,hput,hw0]
  |some e'=>
   rw[hg]at hin;simp only[RU]at hin;have hpf:pf w F p=some (b6 e'.z (lB w)):=by unfold pf;rw[hg];rfl
   rw[hpf];have h4:aN (gr e') (.int 0)=.ok (.int e'.z):=rfl;open_line with[mM,lU,j8,j7 h9,hin,hput,C9 hg,h4,Cj W R hg,hw1]
end
def shortest_ok{w:cG}(W:cH w){ks:bm}:∃F m,k9 w ks (lz w) F m/\n8 w ks F/\m_shortest [aL w,bT ks]=.ok (gq w F):=by
 obtain⟨F,m,R,S,hr⟩:=xj W (ks:=ks) (CT W) (CS W);refine⟨F,m,R,S,?_⟩;have hs:=rS W;obtain⟨y5,hl⟩:=xr W R (A:=bT ks) w.ps [] .no (by rw[QX];exact W.nm.nd) (by rw[QX];exact W.n7);rw[QX,Q3]at hl;have i0:aN (aL w) (.int 0)=.ok (.lst (w.ps.map D.str)):=rfl;have i3:aN (aL w) (.int 3)=.ok (.str w.la):=rfl;have hni:=zA (F:=F) w.la;have hpr:=Ck (w:=w) (F:=F) W.la;unfold gq;cases hg:get F w.la with
 |none=>
  rw[hg]at hni;simp only[RV,RQ]at hni;open_line with[m_shortest,gk,hs,hr,jz,iL,i0,hl,i3,hni]
  rfl
 |some e=>
  rw[hg]at hni;simp only[RU,R6]at hni;have h5:aN (gr e) (.int 1)=.ok (.lst (nums e.y)):=rfl;have hpf:pf w F w.la=some (b6 e.z (lB w)):=by unfold pf;rw[hg];rfl
  rw[hpf]at hpr;unfold IW at hpr ⊢;open_line with[m_shortest,gk,hs,hr,jz,iL,i0,hl,i3,hni,C9 hg,h5,hpr]
  rfl
open K11 (nums ways pr dO)
open K51 (Bd pl)
def val(x:dS):Rat:=(x.1:Rat) / (x.2:Rat)
def cc{a:Int}(h:0<a):(0:Rat)<(a:Rat):=by
 have:=Su.mpr h;simpa using this
def DH{a b c d:Rat}(hb:0<b)(hd:0<d):a / b<c / d↔a*d<c*b:=by
 have h1:a / b<c / d↔(a / b)*(b*d)<(c / d)*(b*d):=(Tr (Rat.mul_pos hb hd)).symm;rw[h1];have e1:a / b*(b*d)=a*d:=by grind
 have e2:c / d*(b*d)=c*b:=by grind
 rw[e1,e2]
def uv{x y:dS}(hx:0<x.2)(hy:0<y.2):flt x y=decide (val x<val y):=by
 unfold flt val
 congr 1
 rw[DH (cc hx) (cc hy),←QT,←QT,Su]
def fg{a b:Int}(hb:0<b):val (b6 a b)=(a:Rat) / (b:Rat):=by
 have h:=FG (a:=a) (b:=b);have hq:0<(b6 a b).2:=by have:=(cU (a:=a) hb).q1;omega
 unfold val;have p1:=cc hq;have p2:=cc hb;have e:((b6 a b).1:Rat)*(b:Rat)=(a:Rat)*((b6 a b).2:Rat):=by rw[←QT,←QT,h]
 grind
def Bm{x y:dS}(hx:0<x.2)(hy:0<y.2):val (pl x y)=val x+val y:=by
 have:pl x y=b6 (x.1*y.2+y.1*x.2) (x.2*y.2):=rfl;rw[this,fg (SI hx hy)];unfold val;have p1:=cc hx;have p2:=cc hy;rw[T1,QT,QT,QT]
 grind
def C7{x:dS}(h:ir x):Bd x 200:=⟨by have:=h.q1;omega,PK h.pN (by decide),PK h.qN (by decide)⟩
open K11 (nums ways pr dO)
open K51 (Bd pl)
def pF(w:cG)(p:bm):Rat:=(p.map λn=>val (K12.lenAt w n)).sum
def Az{w:cG}{p:bm}{n:Nat}:pF w (p++[n])=pF w p+val (K12.lenAt w n):=by
 unfold pF;rw[QB,List.sum_append];simp[Rat.add_zero]
def oI{w:cG}{ks:bm}{a b:PY}{p:bm}(g:nZ w ks a p b):∀n∈p,n<w.ts.length/\n∉ks:=by
 induction g with
 |nil=>intro n hn;cases hn
 |@snoc p b c n _ g ih=>
  intro m hm;rcases QJ.mp hm with hm|hm
  .exact ih m hm
  .have:m=n:=by simpa using hm
   subst this;obtain⟨t,h1,h2,_⟩:=g;exact⟨(PH.mp h1).1,h2⟩
section
variable {w:cG}(W:cH w)
include W
theorem yq{n:Nat}(hn:n<w.ts.length):val (K12.lenAt w n)=(c7 (lz w) n:Rat) / (lB w:Rat):=by
 have ht:=PL hn;have T:=W.ts w.ts[n] (Sb hn);rw[K12.lenAt_of ht];have hz:c7 (lz w) n=w.ts[n].l.1*(lB w / w.ts[n].l.2):=by
  unfold c7 lz;rw[PN,ht];rfl
 obtain⟨h1,_,h3⟩:=gE W;have hq:=T.l.q1;have hd:=Int.ediv_mul_cancel (h3 _ (Sb hn));have e:c7 (lz w) n*w.ts[n].l.2=w.ts[n].l.1*lB w:=by rw[hz,Uo,hd]
 have p1:=cc h1;have p2:=cc (show 0<w.ts[n].l.2 by omega);have e':(c7 (lz w) n:Rat)*(w.ts[n].l.2:Rat)=(w.ts[n].l.1:Rat)*(lB w:Rat):=by rw[←QT,←QT,e]
 unfold val
 grind
theorem uR:∀{p:bm},(∀n∈p,n<w.ts.length)->(fv (lz w) p:Rat) / (lB w:Rat)=pF w p
 |[],_=>by
  show((0:Int):Rat) / _=0;have p1:=cc (gE W).1;rw[show((0:Int):Rat)=0 from rfl]
  grind
 |n::p,h=>by
  have ih:=uR (p:=p) λm hm=>h m (PV _ hm);have h1:=yq W (h n Qf);have e1:fv (lz w) (n::p)=c7 (lz w) n+fv (lz w) p:=by unfold fv;rw[PQ,SG]
  have e2:pF w (n::p)=val (K12.lenAt w n)+pF w p:=by unfold pF;rw[PQ,SG]
  have p1:=cc (gE W).1;rw[e1,e2,h1,←ih,T1]
  grind
variable {ks:bm}{F:List de}{m:Int}(R:k9 w ks (lz w) F m)
include R
theorem GA{e:de}(he:e∈F):val (b6 e.z (lB w))=(e.z:Rat) / (lB w:Rat)/\val (b6 e.z (lB w))=pF w e.y:=by
 have h:=fg (a:=e.z) (gE W).1;obtain⟨h1,h2,_⟩:=R.wy e he;refine⟨h,?_⟩;rw[h,h2];exact uR W λn hn=>(oI h1 n hn).1
end
end Pth
namespace Vlu
open PySem L2 DL Com Bor Pth
open K11 (nums ways pr dO)
open K51 (Bd pl)
abbrev m_ratio:ac->ai D:=Com.m_ratio
noncomputable def zM:am :=
 (aA (bD (ao (ag (ae (ae (ae (aa 0) (dC (.int 0)) aN) (ae (aa 1) (dC (.int 1)) aN) cg) (ae (ae (aa 1) (dC (.int 0)) aN) (ae (aa 0) (dC (.int 1)) aN) cg) nX) (ag (ae (ae (aa 0) (dC (.int 1)) aN) (ae (aa 1) (dC (.int 1)) aN) cg) aC)) m_ratio))
 ar)
def m_minus:ac->ai D:=cM 2 zM
noncomputable def iU:am :=
 (aA (dQ (ae (aa 0) (dC (.non)) c3)
 (aA (bD (dC (.str "none")))
 ar)
 ar)
 (aA (dQ (ae (aa 1) (dC (.non)) c3)
 (aA (bD (dC (.str "cut")))
 ar)
 ar)
 (aA (bD (ao (ag (aa 1) (ag (aa 0) aC)) m_minus))
 ar)))
def m_value_by:ac->ai D:=cM 2 iU
theorem HP:∀{xs:List dS},(∀x∈xs,1<=x.2/\x.2<=60)->∀b:Int,0<b->0<xs.foldl fE b/\xs.foldl fE b<=b*60 ^ xs.length
 |[],_,b,hb=>⟨hb,by simp⟩
 |x::xs,hx,b,hb=>by
  obtain⟨q1,q2⟩:=hx x Qf;have hg:0<(Qn b x.2:Int):=pM (by omega);have hd:(Qn b x.2:Int)∣b:=SD ..;have hq:0<b / (Qn b x.2:Int):=SV hb (by omega) hd;have hle:b / (Qn b x.2:Int)<=b:=Int.ediv_le_self _ (by omega);have h1:0<fE b x:=SI hq (by omega);have h2:fE b x<=b*60:=Int.mul_le_mul hle q2 (by omega) (by omega);obtain⟨k1,k2⟩:=HP (λy hy=>hx y (PV _ hy)) (fE b x) h1;refine⟨k1,RX k2 ?_⟩;rw[Qj,Int.pow_succ,Ti ((60:Int) ^ xs.length) 60,←Uo];exact Rj h2 (Int.le_of_lt (Int.pow_pos (by decide)))
section
variable {w:cG}(W:cH w) (hw:∀t∈w.ts,eS t)
include W hw
theorem Jp:0<lB w/\lB w<=60 ^ 14:=by
 obtain⟨h1,h2⟩:=HP (xs:=w.ts.map (·.l)) (λx hx=>by
  obtain⟨t,ht,rfl⟩:=Qp.mp hx;exact⟨(W.ts t ht).l.q1,(hw t ht).1.q1⟩) 1 (by decide)
 refine⟨h1,RX h2 ?_⟩;rw[Pz,U0];have:=W.t14
 exact_mod_cast QW (n:=60) (by decide) this
theorem Jo(n:Nat):0<=c7 (lz w) n/\c7 (lz w) n<=1000000000000*60 ^ 14:=by
 refine⟨tH (CS W) n,?_⟩;unfold c7 lz;rw[PN];cases e:w.ts[n]? with
 |none=>show(0:Int)<=_;decide
 |some t=>
  have T:=W.ts t (PU e);have A:=(hw t (PU e)).1;have hB:=Jp W hw;show t.l.1*(lB w / t.l.2)<=_;have h2:lB w / t.l.2<=60 ^ 14:=RX (Int.ediv_le_self _ (by omega)) hB.2;exact Int.mul_le_mul A.p1 h2 (To (by omega) (by have:=T.l.q1;omega)) (by decide)
theorem oE:∀(p:bm),0<=fv (lz w) p/\fv (lz w) p<=p.length*(1000000000000*60 ^ 14)
 |[]=>⟨RA _,by show(0:Int)<=_;simp⟩
 |n::p=>by
  have e:fv (lz w) (n::p)=c7 (lz w) n+fv (lz w) p:=by unfold fv;rw[PQ,SG]
  have h1:=Jo W hw n;have h2:=oE p;rw[e,Qj];refine⟨by omega,?_⟩
  push_cast
  rw[Int.add_mul,U0];omega
variable {ks:bm}{F:List de}{m:Int}(R:k9 w ks (lz w) F m)
include R
theorem Dp{e:de}(he:e∈F):e.z.natAbs<2 ^ 130/\(lB w).natAbs<2 ^ 130:=by
 obtain⟨_,h2,_,h4⟩:=R.wy e he;have hl:=R.len W;have hB:=Jp W hw;obtain⟨z0,z1⟩:=oE W hw e.y;rw[←h2]at z0 z1;have h7:(e.y.length:Int)*(1000000000000*60 ^ 14)<=7*(1000000000000*60 ^ 14):=Rj (by omega) (by decide);have c1:(7:Int)*(1000000000000*60 ^ 14)<2 ^ 130:=by decide
 have c2:(60:Int) ^ 14<2 ^ 130:=by decide
 constructor
 .have:e.z<2 ^ 130:=by omega
  omega
 .have:lB w<2 ^ 130:=by omega
  omega
theorem sI{e:de}(he:e∈F):Bd (b6 e.z (lB w)) 130 :=
 K51.low_bd (gE W).1 (Dp W hw R he).1 (Dp W hw R he).2
end
def mi(x y:dS):dS:=b6 (x.1*y.2-y.1*x.2) (x.2*y.2)
def vL{x y:dS}{m n:Nat}(hx:Bd x m)(hy:Bd y n)(h:m+n<=5900):m_minus [fr x,fr y]=.ok (fr (mi x y)):=by
 have b1:=hx.c60 (by omega);have b2:=hy.c60 (by omega);have hy':Bd (-y.1,y.2) n:=⟨hy.q0,by show(-y.1).natAbs<_;rw[Int.natAbs_neg];exact hy.a,hy.b⟩
 have hp:=K51.un_bd hx hy';have hc:=hp.c13 (by omega);have m1:=cz (eI b1.1 b2.2);have m2:=cz (eI b2.1 b1.2);have m3:=cz (eI b1.2 b2.2);have e:x.1*y.2 + -y.1*x.2=x.1*y.2-y.1*x.2:=by rw[Int.neg_mul];omega
 have hlo:m_ratio [.int (x.1*y.2-y.1*x.2),.int (x.2*y.2)]=.ok (fr (mi x y)):=by
  have h1:=hc.1;have h2:=hc.2;unfold un at h1 h2;simp only[e]at h1;exact vd hp.q0 h1 h2
 have i0:∀z:dS,aN (fr z) (.int 0)=.ok (.int z.1):=λ_=>rfl;have i1:∀z:dS,aN (fr z) (.int 1)=.ok (.int z.2):=λ_=>rfl;open_line with[m_minus,zM,i0,i1,m1,m2,m3,nX,hlo]
def bO(w:cG)(F:List de):D:=match get F w.la with
 |none=>.non
 |some e=>fr (b6 e.z (lB w))
def EB(w:cG)(F F':List de):D:=match get F w.la,get F' w.la with
 |none,_=>.str "none"
 |some _,none=>.str "cut"
 |some e,some e'=>fr (mi (b6 e'.z (lB w)) (b6 e.z (lB w)))
def yV{w:cG}{F:List de}:aN (gq w F) (.int 1)=.ok (bO w F):=by
 unfold gq bO;cases get F w.la<;>rfl
def uo{x:dS}:c3 (fr x) .non=.ok (.bl false):=rfl
def m9{w:cG}(W:cH w)(hw:∀t∈w.ts,eS t){ks ks':bm}{F F':List de}{m m':Int}(R:k9 w ks (lz w) F m)(R':k9 w ks' (lz w) F' m'):m_value_by [bO w F,bO w F']=.ok (EB w F F'):=by
 unfold bO EB;cases h:get F w.la with
 |none=>open_line with[m_value_by,iU]
 |some e=>
  cases h':get F' w.la with
  |none=>open_line with[m_value_by,iU,uo]
  |some e'=>
   have:=vL (sI W hw R' (cQ h').1) (sI W hw R (cQ h).1) (by decide);open_line with[m_value_by,iU,uo,this]
end Vlu
namespace Bfd
open PySem L2 DL Com Bor Pth Vlu
open K11 (nums ways pr)
structure BS where
 ks:bi
 Z:PY->Int
def gz(zs:List Int)(s:nM)(S:BS):BS×Bool :=
 if s.a∈S.ks/\(s.b∉S.ks∨S.Z s.a+c7 zs s.n<S.Z s.b) then(⟨if s.b∈S.ks then S.ks else S.ks++[s.b],λp=>if p=s.b then S.Z s.a+c7 zs s.n else S.Z p⟩,true) else(S,false)
def dM(zs:List Int):List nM->BS×Bool->BS×Bool
 |[],r=>r
 |s::L,(S,c)=>dM zs L ((gz zs s S).1,c||(gz zs s S).2)
theorem vm{zs:List Int}:∀{L L':List nM}{r:BS×Bool},dM zs (L++L') r=dM zs L' (dM zs L r)
 |[],_,_=>rfl
 |s::L,L',(S,c)=>by rw[Se,dM,vm,dM]
def uQ:Int:=1000000000000*60 ^ 14
structure eh (w:cG) (tk:bm) (S:BS):Prop where
 nd:S.ks.Nodup
 pl:∀p∈S.ks,p∈w.ps
 fi:w.fi∈S.ks
 z0:S.Z w.fi<=0
 wk:∀p∈S.ks,∃q,nZ w tk w.fi q p/\fv (lz w) q=S.Z p
 bd:∀p∈S.ks,S.Z p<=((S.ks.length:Int)-1)*uQ
def Le(S S':BS):Prop:=(∀p∈S.ks,p∈S'.ks)/\∀p∈S.ks,S'.Z p<=S.Z p
def Le.refl(S:BS):Le S S:=⟨λ_ h=>h,λ_ _=>RA _⟩
def Le.trans{S T U:BS}(h:Le S T)(g:Le T U):Le S U:=⟨λp hp=>g.1 p (h.1 p hp),λp hp=>RX (g.2 p (h.1 p hp)) (h.2 p hp)⟩
section
variable {w:cG}(W:cH w) (hw:∀t∈w.ts,eS t) {tk:bm}
include W hw
theorem u9{S:BS}(K:eh w tk S){s:nM}(hs:s∈aV w tk) :
  eh w tk (gz (lz w) s S).1/\Le S (gz (lz w) s S).1/\(s.a∈S.ks->s.b∈(gz (lz w) s S).1.ks/\(gz (lz w) s S).1.Z s.b<=S.Z s.a+c7 (lz w) s.n)/\((gz (lz w) s S).2=false->(gz (lz w) s S).1=S):=by
 obtain⟨t,ht,hn,hm⟩:=dA.mp hs;have T:=W.ts t (PU ht);have hbp:s.b∈w.ps:=by
  unfold ways at hm;split at hm
  .simp at hm;rw[hm.2];exact T.b
  .simp at hm
   rcases hm with h|h
   .rw[h.2];exact T.b
   .rw[h.2];exact T.a
 obtain⟨z0,z1⟩:=Jo W hw s.n;have z1:c7 (lz w) s.n<=uQ:=z1;have hM:(0:Int)<uQ:=by decide
 unfold gz
 by_cases h:s.a∈S.ks/\(s.b∉S.ks∨S.Z s.a+c7 (lz w) s.n<S.Z s.b)
 .rw[if_pos h]
  obtain⟨ha,hb⟩:=h;obtain⟨qa,qw,qz⟩:=K.wk s.a ha;have hwb:nZ w tk w.fi (qa++[s.n]) s.b:=.snoc qw ⟨t,ht,hn,hm⟩;have hz:fv (lz w) (qa++[s.n])=S.Z s.a+c7 (lz w) s.n:=by rw[gW,qz]
  have nnq:∀q:bm,0<=fv (lz w) q:=λq=>(oE W hw q).1;have sub:∀p,p∈(if s.b∈S.ks then S.ks else S.ks++[s.b])↔p∈S.ks∨p=s.b:=by
   intro p;split
   .rename_i hin
    exact⟨.inl,λh=>h.elim id λe=>e▸hin⟩
   .rw[QJ,QP]
  have len:((if s.b∈S.ks then S.ks else S.ks++[s.b]).length:Int)=if s.b∈S.ks then(S.ks.length:Int) else(S.ks.length:Int)+1:=by
   split
   .rfl
   .simp
  refine⟨⟨?_,?_,?_,?_,?_,?_⟩,⟨λp hp=>(sub p).mpr (.inl hp),λp hp=>?_⟩,λ_=>⟨(sub _).mpr (.inr rfl),?_⟩,λe=>nomatch e⟩
  .show(if s.b∈S.ks then S.ks else S.ks++[s.b]).Nodup
   split
   .exact K.nd
   .rename_i hnin
    rw[Rz];exact⟨K.nd,by simp,λx hx y hy=>by rw[QP]at hy;subst hy;exact λe=>hnin (e▸hx)⟩
  .intro p hp
   rcases(sub p).mp hp with h|h
   .exact K.pl p h
   .rw[h];exact hbp
  .exact(sub _).mpr (.inl K.fi)
  .show(if w.fi=s.b then S.Z s.a+c7 (lz w) s.n else S.Z w.fi)<=0
   split
   .rename_i e
    rcases hb with hb|hb
    .exact absurd (e▸K.fi) hb
    .have:=K.z0;rw[e]at this;omega
   .exact K.z0
  .intro p hp
   show ∃q,nZ w tk w.fi q p/\fv (lz w) q=(if p=s.b then S.Z s.a+c7 (lz w) s.n else S.Z p)
   by_cases e:p=s.b
   .rw[if_pos e,e];exact⟨_,hwb,hz⟩
   .rw[if_neg e]
    rcases(sub p).mp hp with h|h
    .exact K.wk p h
    .exact absurd h e
  .intro p hp
   show(if p=s.b then S.Z s.a+c7 (lz w) s.n else S.Z p)<=(((if s.b∈S.ks then S.ks else S.ks++[s.b]).length:Int)-1)*uQ;rw[len];have hba:=K.bd s.a ha
   by_cases e:p=s.b
   .rw[if_pos e]
    by_cases hin:s.b∈S.ks
    .rw[if_pos hin]
     have:=K.bd s.b hin;rcases hb with hb|hb
     .exact absurd hin hb
     .omega
    .rw[if_neg hin]
     have:((S.ks.length:Int)+1-1)*uQ=((S.ks.length:Int)-1)*uQ+uQ:=by
      rw[show(S.ks.length:Int)+1-1=((S.ks.length:Int)-1)+1 by omega,Int.add_mul,U0]
     omega
   .rw[if_neg e]
    have hp':p∈S.ks:=(sub p).mp hp |>.elim id λh=>absurd h e
    have:=K.bd p hp';split
    .exact this
    .refine RX this (Rj (by omega) (by omega))
  .show(if p=s.b then S.Z s.a+c7 (lz w) s.n else S.Z p)<=S.Z p
   split
   .rename_i e
    subst e;rcases hb with hb|hb
    .exact absurd hp hb
    .omega
   .exact RA _
  .show(if s.b=s.b then S.Z s.a+c7 (lz w) s.n else S.Z s.b)<=_
   rw[if_pos rfl];exact RA _
 .rw[if_neg h]
  refine⟨K,Le.refl S,λha=>?_,λ_=>rfl⟩
  by_cases hin:s.b∈S.ks
  .exact⟨hin,Int.not_lt.mp λhl=>h ⟨ha,.inr hl⟩⟩
  .exact absurd ⟨ha,.inl hin⟩ h
theorem jU:∀(L:List nM),(∀s∈L,s∈aV w tk)->∀{S:BS}{c:Bool},eh w tk S ->
  eh w tk (dM (lz w) L (S,c)).1/\Le S (dM (lz w) L (S,c)).1/\(∀s∈L,s.a∈S.ks->s.b∈(dM (lz w) L (S,c)).1.ks/\(dM (lz w) L (S,c)).1.Z s.b<=S.Z s.a+c7 (lz w) s.n)/\((dM (lz w) L (S,c)).2=false->c=false/\(dM (lz w) L (S,c)).1=S)
 |[],_,S,c,K=>⟨K,Le.refl S,λs h=>(nomatch h),λe=>⟨e,rfl⟩⟩
 |s::L,hL,S,c,K=>by
  obtain⟨k1,k2,k3,k4⟩:=u9 W hw K (hL s Qf);obtain⟨p1,p2,p3,p4⟩:=jU L (λx hx=>hL x (PV _ hx)) (S:=(gz (lz w) s S).1) (c:=c||(gz (lz w) s S).2) k1;rw[dM];refine⟨p1,k2.trans p2,λx hx ha=>?_,λe=>?_⟩
  .rcases P9.mp hx with rfl|hx
   .obtain⟨h1,h2⟩:=k3 ha
    exact⟨p2.1 _ h1,RX (p2.2 _ h1) h2⟩
   .obtain⟨h1,h2⟩:=p3 x hx (k2.1 _ ha)
    exact⟨h1,RX h2 (by have:=k2.2 _ ha;omega)⟩
  .obtain⟨e1,e2⟩:=p4 e
   rw[Bool.or_eq_false_iff]at e1;exact⟨e1.1,e2.trans (k4 e1.2)⟩
def Rd(w:cG)(tk:bm)(r:Nat)(S:BS):Prop:=∀q p,nZ w tk w.fi q p->q.length<=r->p∈S.ks/\S.Z p<=fv (lz w) q
theorem E1{S:BS}(K:eh w tk S):Rd w tk 0 S:=by
 intro q p h hl;cases h with|nil=>exact⟨K.fi,K.z0⟩|snoc=>simp at hl
theorem E2{S:BS}{c:Bool}{r:Nat}(K:eh w tk S)(R:Rd w tk r S):Rd w tk (r+1) (dM (lz w) (aV w tk) (S,c)).1:=by
 obtain⟨p1,p2,p3,p4⟩:=jU W hw (aV w tk) (λs h=>h) (c:=c) K;intro q p h hl;cases h with
 |nil=>exact⟨p1.fi,p1.z0⟩
 |snoc h g=>
  rename_i q' b n;obtain⟨t,t1,t2,t3⟩:=g;have hs:(⟨n,b,p⟩:nM)∈aV w tk:=dA.mpr ⟨t,t1,t2,t3⟩;obtain⟨r1,r2⟩:=R q' b h (by simp at hl;omega);obtain⟨s1,s2⟩:=p3 _ hs r1;refine⟨s1,?_⟩;rw[gW];have s2:(dM (lz w) (aV w tk) (S,c)).1.Z p<=S.Z b+c7 (lz w) n:=s2;omega
theorem E3{S:BS}{c:Bool}(K:eh w tk S)(h:(dM (lz w) (aV w tk) (S,c)).2=false)(r:Nat):Rd w tk r S:=by
 obtain⟨p1,p2,p3,p4⟩:=jU W hw (aV w tk) (λs h=>h) (c:=c) K;obtain⟨_,e⟩:=p4 h;rw[e]at p3;intro q p h _;have key:∀q p,nZ w tk w.fi q p->p∈S.ks/\S.Z p<=fv (lz w) q:=by
  intro q p h
  induction h with
  |nil=>exact⟨K.fi,K.z0⟩
  |snoc h g ih=>
   rename_i q' b c' n;obtain⟨t,t1,t2,t3⟩:=g;have hs:(⟨n,b,c'⟩:nM)∈aV w tk:=dA.mpr ⟨t,t1,t2,t3⟩;obtain⟨r1,r2⟩:=ih;obtain⟨s1,s2⟩:=p3 _ hs r1;refine⟨s1,?_⟩;rw[gW];have s2:S.Z c'<=S.Z b+c7 (lz w) n:=s2;omega
 exact key q p h
theorem IL{S:BS}(K:eh w tk S)(R:Rd w tk w.ps.length S){F:List de}{m:Int}(RF:k9 w tk (lz w) F m)(SF:n8 w tk F)(p:PY):(if p∈S.ks then some (S.Z p) else none)=(get F p).map (·.z):=by
 have key:∀e,get F p=some e->p∈S.ks/\S.Z p<=e.z:=by
  intro e he;obtain⟨h1,h2⟩:=cQ he;obtain⟨w1,w2,_,w4⟩:=RF.wy e h1;have hl:F.length<=w.ps.length:=by
   have:=Cod.nodup_le RF.nd (λz hz=>by
    obtain⟨e,he,rfl⟩:=Qp.mp hz;exact RF.pl e he)
   rw[Pz]at this;exact this
  obtain⟨r1,r2⟩:=R e.y e.p w1 (by omega);rw[h2]at r1 r2;exact⟨r1,by rw[w2];exact r2⟩
 by_cases hp:p∈S.ks
 .rw[if_pos hp]
  obtain⟨q,h1,h2⟩:=K.wk p hp;obtain⟨e,he,hp',hz⟩:=Ey RF SF h1;have hg:=C3 RF.nd he;rw[hp']at hg;rw[hg];have:=(key e hg).2;show some (S.Z p)=some e.z
  congr 1
  omega
 .rw[if_neg hp]
  cases hg:get F p with|none=>rfl|some e=>exact absurd (key e hg).1 hp
end
open K11 (nums ways pr there oS)
open K51 (Bd pl)
abbrev bh:ac->ai D:=K11.bh
abbrev bE:ac->ai D:=K12.bE
abbrev cA:ac->ai D:=K51.cA
abbrev bj:ac->ai D:=Cod.bj
noncomputable def kX:am :=
 (aA (rW 2 (wu (ae (aa 0) (dC (.int 2)) aN) (ao (ag (dC (.int 0)) (ag (dC (.int 1)) aC)) eJ)))
 (aA (kq (ao (ag (ae (aa 0) (dC (.int 0)) aN) aC) (m1 bS)) (bJ 3)
 (aA (bq 4 (dC (.bl true)))
 (aA (kq (ao (ag (ae (aa 0) (dC (.int 1)) aN) aC) (m1 bS)) (bJ 5)
 (aA (bq 6 (ae (ae (aa 0) (dC (.int 1)) aN) (aa 5) aN))
 (aA (kr (Ad (AR (aa 6) fM (fz (dC (.int 2))))) (bJ 7)
 (aA (bq 8 (ao (ag (aa 6) (ag (aa 7) aC)) bh))
 (aA (dQ (gf (ae (aa 5) (aa 1) c9) (gf (ae (aa 8) (dC (.non)) gJ) (ae (aa 7) (aa 2) pZ)))
 (aA (oV 9 (ao (ag (ae (aa 2) (aa 7) eO) (ag (ae (aa 6) (dC (.int 3)) aN) aC)) bE))
 (aA (dQ (gV (ae (aa 8) (aa 2) fq) (ao (ag (aa 9) (ag (ae (aa 2) (aa 8) eO) aC)) cA))
 (aA (ng 2 (aa 9) (aa 8))
 (aA (bq 4 (dC (.bl false)))
 ar))
 ar)
 ar))
 ar)
 ar)))
 ar)))
 (aA (dQ (aa 4)
 (aA (bD (aa 2))
 ar)
 ar)
 ar))))
 (aA (bD (aa 2))
 ar)))
def bL:ac->ai D:=cM 10 kX
def jc:am :=
 (aA (bD (cL 1 [0] (kn (ao (ag (ae (aa 0) (dC (.int 1)) aN) aC) (m1 bS))) (bJ 0) mYes (pY (ao (ag (aa 1) (ag (ao (ag (aa 0) aC) du) aC)) bL) (ae (aa 1) (dC (.int 3)) aN))))
 ar)
def bY:ac->ai D:=cM 1 jc
noncomputable def fQ:am :=
 (aA (dQ (ae (aa 0) (dC (.non)) c3)
 (aA (bD (dC (.str "none")))
 ar)
 ar)
 (aA (dQ (ae (aa 1) (dC (.non)) c3)
 (aA (bD (dC (.str "cut")))
 ar)
 ar)
 (aA (bD (ao (ag (ae (ae (ae (aa 1) (dC (.int 0)) aN) (ae (aa 0) (dC (.int 1)) aN) cg) (ae (ae (aa 0) (dC (.int 0)) aN) (ae (aa 1) (dC (.int 1)) aN) cg) nX) (ag (ae (ae (aa 1) (dC (.int 1)) aN) (ae (aa 0) (dC (.int 1)) aN) cg) aC)) bj))
 ar)))
def bu:ac->ai D:=cM 2 fQ
def d9(w:cG)(S:BS):D:=.dic S.ks (S.ks.map λp=>fr (b6 (S.Z p) (lB w)))
def uE{w:cG}{S:BS}{p:PY}:kZ S.ks (S.ks.map λp=>fr (b6 (S.Z p) (lB w))) p=if p∈S.ks then some (fr (b6 (S.Z p) (lB w))) else none:=yg (g:=λp=>fr (b6 (S.Z p) (lB w)))
def Kz{w:cG}{S:BS}{p:PY}:pZ (.str p) (d9 w S)=.ok (.bl (decide (p∈S.ks))):=by
 show ai.ok (D.bl (kZ S.ks (S.ks.map λp=>fr (b6 (S.Z p) (lB w))) p).isSome)=_;rw[uE]
 by_cases h:p∈S.ks
 .rw[if_pos h,decide_eq_true h];rfl
 .rw[if_neg h,decide_eq_false h];rfl
def AN{w:cG}{S:BS}{p:PY}:fq (.str p) (d9 w S)=.ok (.bl (!(decide (p∈S.ks)))):=by
 show ai.ok (D.bl (!(kZ S.ks (S.ks.map λp=>fr (b6 (S.Z p) (lB w))) p).isSome))=_;rw[uE]
 by_cases h:p∈S.ks
 .rw[if_pos h,decide_eq_true h];rfl
 .rw[if_neg h,decide_eq_false h];rfl
def zK{w:cG}{S:BS}{p:PY}(h:p∈S.ks):eO (d9 w S) (.str p)=.ok (fr (b6 (S.Z p) (lB w))):=by
 show(match kZ S.ks (S.ks.map λp=>fr (b6 (S.Z p) (lB w))) p with|some d=>ai.ok d|none=>.stuck)=_;rw[uE,if_pos h]
theorem yH{g:PY->D}{x:PY}{d:D}:∀{ks:bi},xi ks (ks.map g) x d=ks.map λk=>if k=x then d else g k
 |[]=>rfl
 |k::ks=>by rw[PQ,xi,yH,PQ]
def GY{w:cG}{S:BS}{b:PY}{z:Int}:qU S.ks (S.ks.map λp=>fr (b6 (S.Z p) (lB w))) b (fr (b6 z (lB w)))=d9 w ⟨if b∈S.ks then S.ks else S.ks++[b],λp=>if p=b then z else S.Z p⟩:=by
 unfold qU d9
 by_cases h:b∈S.ks
 .rw[if_pos h]
  simp only[if_pos h];rw[yH]
  congr 1
  refine Sh λk _=>?_
  by_cases e:k=b
  .rw[if_pos e,if_pos e]
  .rw[if_neg e,if_neg e]
 .rw[if_neg h]
  simp only[if_neg h];rw[QB]
  congr 1
  congr 1
  .refine Sh λk hk=>?_
   rw[if_neg (by intro e;exact h (e▸hk))]
  .simp
def uU{x y:dS}(hx:Low x)(hy:Low y)(h:val x=val y):x=y:=by
 have q1:=hx.q1;have q2:=hy.q1;have h1:=uv (x:=x) (y:=y) (by omega) (by omega);have h2:=uv (x:=y) (y:=x) (by omega) (by omega);rw[h,decide_eq_false Rat.lt_irrefl]at h1;rw[h,decide_eq_false Rat.lt_irrefl]at h2;unfold flt at h1 h2;refine pz hx hy ?_;have:=of_decide_eq_false h1;have:=of_decide_eq_false h2;omega
section
variable {w:cG}(W:cH w) (hw:∀t∈w.ts,eS t)
include W hw
theorem IY{z:Int}{n:Nat}{t:jJ}(ht:w.ts[n]?=some t):pl (b6 z (lB w)) t.l=b6 (z+c7 (lz w) n) (lB w):=by
 have hB:=(gE W).1;have T:=(W.ts t (PU ht)).l;have hq:0<t.l.2:=by have:=T.q1;omega
 have hn:n<w.ts.length:=(PH.mp ht).1;have hl:val t.l=(c7 (lz w) n:Rat) / (lB w:Rat):=by
  have:=yq W hn;rw[show K12.lenAt w n=t.l by unfold K12.lenAt;rw[ht];rfl]at this;exact this
 have lq:0<(b6 z (lB w)).2:=by have:=(cU (a:=z) hB).q1;omega
 refine uU (cU (SI lq hq)) (cU hB) ?_;rw[Bm lq hq,fg hB,fg hB,hl,T1];have p1:=cc hB
 grind
theorem FQ{z z':Int}:flt (b6 z (lB w)) (b6 z' (lB w))=decide (z<z'):=by
 have hB:=(gE W).1;have q1:=(cU (a:=z) hB).q1;have q2:=(cU (a:=z') hB).q1;rw[uv (by omega) (by omega),fg hB,fg hB];have p1:=cc hB;have:((z:Rat) / (lB w:Rat)<(z':Rat) / (lB w:Rat))↔z<z':=by
  rw[DH p1 p1];constructor
  .intro h;exact Su.mp ((Tr p1).mp h)
  .intro h;exact(Tr p1).mpr (Su.mpr h)
 by_cases h:z<z'
 .rw[decide_eq_true h,decide_eq_true (this.mpr h)]
 .rw[decide_eq_false h,decide_eq_false λe=>h (this.mp e)]
theorem yp{tk:bm}{S:BS}(K:eh w tk S){p:PY}(hp:p∈S.ks):0<=S.Z p/\S.Z p<=6*uQ:=by
 obtain⟨q,_,hq⟩:=K.wk p hp;have h0:=(oE W hw q).1;have h1:=K.bd p hp;have hl:S.ks.length<=w.ps.length:=Cod.nodup_le K.nd K.pl;have n7:=W.n7;have:((S.ks.length:Int)-1)*uQ<=6*uQ:=Rj (by omega) (by decide);omega
theorem Bc{z:Int}(h0:0<=z)(h1:z<=7*uQ):Bd (b6 z (lB w)) 130:=by
 have hB:=Jp W hw;have c1:(7:Int)*uQ<2 ^ 130:=by decide
 have c2:(60:Int) ^ 14<2 ^ 130:=by decide
 refine K51.low_bd hB.1 ?_ ?_
 .have:z<2 ^ 130:=by omega
  omega
 .have:lB w<2 ^ 130:=by omega
  omega
end
end Bfd
namespace K20
open PySem L2 DL
abbrev bj:ac->ai D:=Cod.bj
abbrev bL:ac->ai D:=Bfd.bL
abbrev bY:ac->ai D:=Bfd.bY
abbrev bu:ac->ai D:=Bfd.bu
end K20
namespace K19
open PySem L2 DL
abbrev b7:ac->ai D:=Bor.b7
abbrev m_common_divisor:ac->ai D:=Com.m_common_divisor
abbrev m_shared_bottom:ac->ai D:=Com.m_shared_bottom
abbrev m_as_whole:ac->ai D:=Com.m_as_whole
abbrev m_on_one_scale:ac->ai D:=Com.m_on_one_scale
abbrev m_scaled_lengths:ac->ai D:=K17.m_scaled_lengths
abbrev m_steps_along:ac->ai D:=K11.m_steps_along
abbrev m_steps_left:ac->ai D:=K51.m_steps_left
abbrev m_nearest_step:ac->ai D:=K17.m_nearest_step
abbrev m_all_reached:ac->ai D:=K17.m_all_reached
abbrev m_is_whole:ac->ai D:=Com.m_is_whole
abbrev m_ratio:ac->ai D:=Com.m_ratio
abbrev m_shortest:ac->ai D:=K17.m_shortest
abbrev m_minus:ac->ai D:=Vlu.m_minus
abbrev m_value_by:ac->ai D:=Vlu.m_value_by
abbrev m_is_name:ac->ai D:=Com.m_is_name
abbrev m_look_at_places:ac->ai D:=Com.m_look_at_places
abbrev m_is_ratio:ac->ai D:=Com.m_is_ratio
abbrev m_is_length:ac->ai D:=Com.m_is_length
abbrev m_is_worth:ac->ai D:=Com.m_is_worth
abbrev m_is_tie:ac->ai D:=Com.m_is_tie
abbrev m_look_at_ties:ac->ai D:=Com.m_look_at_ties
abbrev m_is_place:ac->ai D:=Com.m_is_place
abbrev m_look_at_web:ac->ai D:=Com.m_look_at_web
noncomputable def fu:am :=
 (fL (nh (ao (ag (aa 0) aC) m_look_at_web))
 (fL (bq 1 (ae (ao (ag (aa 0) (ag (ao aC du) aC)) m_shortest) (dC (.int 1)) aN))
 (fL (kI 2 (ao aC du))
 (rV 2 3 4 [0,3] (ao (ag (ae (aa 0) (dC (.int 1)) aN) aC) (m1 bS))
 (ao (ag (aa 0) (ag (ao (ag (aa 3) aC) du) aC)) m_shortest)
 (ao (ag (aa 1) (ag (ae (aa 4) (dC (.int 1)) aN) aC)) m_value_by)))))
noncomputable def cB:ac->ai D:=BR 5 fu
noncomputable def l6:am :=
 (fL (nh (ao (ag (aa 0) aC) m_look_at_web))
 (fL (bq 1 (ae (ao (ag (aa 0) (ag (ao aC du) aC)) m_shortest) (dC (.int 1)) aN))
 (fL (kI 2 (ao aC du))
 (fL (kq (ao (ag (ae (aa 0) (dC (.int 1)) aN) aC) (m1 bS)) (bJ 3)
 (aA (bq 4 (ao (ag (aa 0) (ag (ao (ag (aa 3) aC) du) aC)) m_shortest))
 (aA (ez 2 (ao (ag (ao (ag (aa 1) (ag (ae (aa 4) (dC (.int 1)) aN) aC)) m_value_by) (ag (ae (aa 4) (dC (.int 0)) aN) aC)) eJ))
 ar)))
 (yE 2)))))
def dB:ac->ai D:=nQ 5 l6
abbrev bh:ac->ai D:=K11.bh
abbrev bj:ac->ai D:=Cod.bj
abbrev bE:ac->ai D:=K12.bE
abbrev cA:ac->ai D:=K51.cA
abbrev bL:ac->ai D:=Bfd.bL
abbrev bY:ac->ai D:=Bfd.bY
abbrev bu:ac->ai D:=Bfd.bu
noncomputable def d4:am :=
 (aA (dQ (cu (aa 0) (c4 "str"))
 (aA (bD (dC (.bl true)))
 ar)
 ar)
 (aA (dQ (gV (cJ (cu (aa 0) (c4 "tuple"))) (ae (ao (ag (aa 0) aC) (m1 bS)) (dC (.int 2)) fY))
 (aA (bD (dC (.bl false)))
 ar)
 ar)
 (aA (bD (ae (cL 1 [] (Ad (aa 0)) (bJ 0) (gV (cu (aa 0) (c4 "bool")) (cJ (cu (aa 0) (c4 "int")))) (aa 0)) (ao aC du) mS))
 ar)))
def bF:ac->ai D:=cM 1 d4
abbrev aQ:ac->ai D:=K11.aQ
abbrev cy:ac->ai D:=K11.cy
noncomputable def fb:am :=
 (aA (dQ (gV (ae (aa 2) (dC (.non)) c3) (ae (aa 3) (dC (.non)) c3))
 (aA (bD (gf (ae (aa 2) (dC (.non)) c3) (ae (aa 3) (dC (.non)) c3)))
 ar)
 ar)
 (aA (dQ (ae (ae (ao (ag (aa 0) (ag (ao (ag (aa 1) aC) du) (ag (aa 3) aC))) cy) (dC (.int 0)) aN) (dC (.str "way")) fY)
 (aA (bD (dC (.bl false)))
 ar)
 ar)
 (aA (bq 4 (ao (ag (dC (.int 0)) (ag (dC (.int 1)) aC)) eJ))
 (aA (qT (aa 3) (bJ 5)
 (aA (bq 4 (ao (ag (aa 4) (ag (ae (ae (ae (aa 0) (dC (.int 1)) aN) (aa 5) aN) (dC (.int 3)) aN) aC)) bE))
 ar))
 (aA (bD (ae (aa 4) (aa 2) mS))
 ar)))))
def b4:ac->ai D:=cM 6 fb
noncomputable def l7:am :=
 (aA (dQ (gV (cJ (cu (aa 1) (c4 "list"))) (ae (ao (ag (aa 1) aC) (m1 bS)) (ao (ag (ae (aa 0) (dC (.int 1)) aN) aC) (m1 bS)) fY))
 (aA (bD (dC (.bl false)))
 ar)
 ar)
 (aA (bq 2 (pY (ao (ag (aa 0) (ag (ao aC du) aC)) bL) (ae (aa 0) (dC (.int 3)) aN)))
 (aA (bq 3 (ao (ag (aa 0) aC) bY))
 (aA (kq (ao (ag (aa 1) aC) (m1 bS)) (bJ 4)
 (aA (bq 5 (ae (aa 1) (aa 4) aN))
 (aA (dQ (gV (cJ (cu (aa 5) (c4 "tuple"))) (ae (ao (ag (aa 5) aC) (m1 bS)) (dC (.int 2)) fY))
 (aA (bD (dC (.bl false)))
 ar)
 ar)
 (aA (dQ (gV (ae (ae (aa 5) (dC (.int 0)) aN) (ao (ag (aa 2) (ag (ae (aa 3) (aa 4) aN) aC)) bu) fY) (cJ (ao (ag (ae (aa 5) (dC (.int 0)) aN) aC) bF)))
 (aA (bD (dC (.bl false)))
 ar)
 ar)
 (aA (dQ (cJ (ao (ag (aa 0) (ag (aa 4) (ag (ae (aa 3) (aa 4) aN) (ag (ae (aa 5) (dC (.int 1)) aN) aC)))) b4))
 (aA (bD (dC (.bl false)))
 ar)
 ar)
 ar)))))
 (aA (bD (dC (.bl true)))
 ar)))))
def cP:ac->ai D:=cM 6 l7
abbrev aO:Py->ac->ac->ai (D×ac):=Bor.aO
abbrev dD:Py->ac->ac->ai (D×ac):=Bor.dD
abbrev cR:Py->ac->ac->ai (D×ac):=Bor.cR
abbrev d7:Py->ac->ac->ai (D×ac):=Bor.d7
abbrev dq:Py->ac->ac->ai (D×ac):=Bor.dq
noncomputable def HQ:am :=
 (aA (kq (ao (ag (dC (.int 1)) (ag (ao (ag (ao (ag (aa 0) aC) (m1 bS)) (ag (dC (.int 4)) aC)) (m2 G5)) aC)) (m2 KH)) (bJ 1)
 (kJ 2 (ao (ag (aa 0) (ag (aa 1) aC)) b7) λa=>(bM (e9 3 (cC 2 a (bR (mP (dC (.int 7))) (bR (mP (dC (.int 14))) dE)) dq))
 (bM (eW (bq 4 (ao (ag (aa 3) aC) (m1 eN))))
 (kK 5 [3] (ao (ag (aa 3) aC) cB)
 (Ea 5 (cJ (ao (ag (aa 3) (ag (aa 5) aC)) cP))
 (bM (gD (dC (.bl false)))
 cK)
 (oK 5 6 (ao (ag (aa 5) aC) (m1 eN))
 (oN 5 7 (cL 2 [] (iz (aa 5)) (dN [0,1]) mYes (rJ (ae (aa 1) (dC (.non)) c3) (dC (.int 0)) (ae (dC (.int 1)) (ao (ag (aa 1) aC) (m1 bS)) cj)))
 (Bq 5 8 9 99
 (Ea 5 (ae (aa 7) (cL 2 [] (iz (aa 5)) (dN [0,1]) mYes (rJ (ae (aa 1) (dC (.non)) c3) (dC (.int 0)) (ao (ag (aa 1) aC) (m1 bS)))) fY)
 (bM (gD (dC (.bl false)))
 cK)
 (Br
 (bM (FA (mT (gV (ae (ao (ag (ao (ag (aa 3) aC) dB) aC) (m1 eN)) (aa 6) fY) (ae (ao (ag (aa 3) aC) (m1 eN)) (aa 4) fY)))
 (bM (gD (dC (.bl false)))
 cK)
 cK)
 cK))))))))))))
 (aA (bD (dC (.bl true)))
 ar))
noncomputable def m_law:ac->ai D:=cM 10 HQ
def top(i:Nat):Q1:=PySem.Challenge.pw_farthestcut_k19_values_at_once.main.body.getD i (.Pass ⟨0,0,0,0⟩)
noncomputable def rows:List Rw:=[
 ⟨"_law_begun",top 52,["_law_script","_law_k","_law_cell"],2⟩,
 ⟨"common_divisor",top 5,["one","other","larger","smaller","rest"],2⟩,
 ⟨"shared_bottom",top 41,["some","bottom","one"],1⟩,
 ⟨"as_whole",top 42,["one","bottom"],2⟩,
 ⟨"on_one_scale",top 40,["some","bottom"],1⟩,
 ⟨"scaled_lengths",top 45,["web"],1⟩,
 ⟨"steps_along",top 37,["tie","there"],1⟩,
 ⟨"steps_left",top 38,["web","taken","steps","number","tie","here","there"],2⟩,
 ⟨"nearest_step",top 47,["steps","sizes","found","nearest","number","here","there","size"],3⟩,
 ⟨"all_reached",top 46,["web","taken","sizes","steps","found","nearest"],3⟩,
 ⟨"is_whole",top 9,["thing"],1⟩,
 ⟨"ratio",top 13,["top","bottom","divisor"],2⟩,
 ⟨"shortest",top 44,["web","taken","scaled","found","prices","place"],2⟩,
 ⟨"minus",top 14,["one","other"],2⟩,
 ⟨"value_by",top 49,["length","length_without"],2⟩,
 ⟨"is_name",top 11,["thing"],1⟩,
 ⟨"look_at_places",top 33,["places","number","place"],1⟩,
 ⟨"is_ratio",top 10,["thing"],1⟩,
 ⟨"is_length",top 30,["thing"],1⟩,
 ⟨"is_worth",top 31,["thing"],1⟩,
 ⟨"is_tie",top 29,["thing"],1⟩,
 ⟨"look_at_ties",top 34,["ties","places","number","tie"],2⟩,
 ⟨"is_place",top 35,["thing","places"],2⟩,
 ⟨"look_at_web",top 32,["thing"],1⟩,
 ⟨"values_all",top 50,["web","length","told","number","without"],1⟩,
 ⟨"_law_there",top 62,["_law_tie_here","_law_here"],2⟩,
 ⟨"_law_low",top 54,["_law_top","_law_bottom","_law_one","_law_other"],2⟩,
 ⟨"_law_plus",top 60,["_law_one","_law_other"],2⟩,
 ⟨"_law_less",top 61,["_law_one","_law_other"],2⟩,
 ⟨"_law_far",top 65,["_law_web_here","_law_gone","_law_far_here","_law_turn","_law_still","_law_k","_law_tie_here","_law_here","_law_there_here","_law_more"],2⟩,
 ⟨"_law_withouts",top 66,["_law_web_here"],1⟩,
 ⟨"_law_value",top 67,["_law_least","_law_without"],2⟩,
 ⟨"_law_is_value",top 69,["_law_thing"],1⟩,
 ⟨"_law_is_number",top 63,["_law_web_here","_law_one"],2⟩,
 ⟨"_law_wrong",top 64,["_law_web_here","_law_gone","_law_thing","_law_here","_law_seen","_law_k","_law_one","_law_there_here"],3⟩,
 ⟨"_law_way_right",top 68,["_law_web_here","_law_number","_law_least","_law_way","_law_total","_law_one"],4⟩,
 ⟨"_law_right",top 70,["_law_web_here","_law_told","_law_least","_law_withouts_here","_law_number","_law_one"],2⟩,
 ⟨"_law_take",top 53,["_law_state","_law_many","_law_digit","_law_made","_law_turn"],2⟩,
 ⟨"_law_names",top 56,["_law_state","_law_many","_law_letters","_law_long","_law_at","_law_turn","_law_step","_law_nested","_law_found","_law_k","_law_one"],2⟩,
 ⟨"_law_amount",top 55,["_law_state","_law_least","_law_way","_law_top","_law_many","_law_bottoms"],2⟩,
 ⟨"_law_tie",top 57,["_law_state","_law_names_here","_law_k","_law_many","_law_one","_law_other","_law_word","_law_length","_law_worth"],3⟩,
 ⟨"_law_web",top 58,["_law_state","_law_most","_law_more","_law_names_here","_law_many","_law_ties","_law_k","_law_first","_law_last"],3⟩,
 ⟨"law",top 71,["_law_script","_law_k","_law_state","_law_web_here","_law_kept","_law_told","_law_held","_law_longs","_law_value_here","_law_way"],1⟩]
def sc:NA rows:=by decide +kernel
theorem nd(i:Nat){r:Rw}(h:rows[i]?=some r:=by rfl):r.N.Nodup:=(sc r (PU h)).nd
def bn:∀r∈rows,Lk r:=by
 unfold rows
 repeat refine List.forall_mem_cons.mpr ⟨by first|exact Pp|exact Po|exact Pn|exact Pm|exact bd5,?_⟩
 exact λ_ h=>nomatch h
set_option genInjectivity false in
set_option genSizeOfSpec false in
structure Adr where
 A:Nat->Py
 Q:Nat->QI
set_option genInjectivity false in
set_option genSizeOfSpec false in
structure Txt (K:Px) (mg:PY->Option Pw) (t:Adr):Prop where
 g:TG rows K mg t.A t.Q
 n_abs:mg "abs"=none
 n_all:mg "all"=none
 n_bool:mg "bool"=none
 n_enumerate:mg "enumerate"=none
 n_int:mg "int"=none
 n_isinstance:mg "isinstance"=none
 n_len:mg "len"=none
 n_list:mg "list"=none
 n_max:mg "max"=none
 n_min:mg "min"=none
 n_range:mg "range"=none
 n_repr:mg "repr"=none
 n_str:mg "str"=none
 n_tuple:mg "tuple"=none
 fJ:uO K mg "FEWEST_PLACES" (.int 2)
 l5:uO K mg "FIRST" (.int 2)
 kW:uO K mg "LAST" (.int 3)
 l4:uO K mg "LENGTH" (.int 3)
 mW:uO K mg "LETTERS" (.str "abcdefghijklmnopqrstuvwxyz")
 gj:uO K mg "LONGEST_NAME" (.int 8)
 gR:uO K mg "MOST_PLACES" (.int 7)
 jD:uO K mg "MOST_TIES" (.int 14)
 qm:uO K mg "ONE" (.int 0)
 iS:uO K mg "OTHER" (.int 1)
 gi:uO K mg "PLACES" (.int 0)
 kU:uO K mg "TIES" (.int 1)
 ql:uO K mg "WORD" (.int 2)
 uL:uO K mg "WORDS" (.tup [(.str "one"),(.str "both")])
 uK:uO K mg "WORTH" (.int 4)
 nl:A9 K
section
variable {P:Qw}{w:QK}{K:Px}{mg:PY->Option Pw}{base:Qo}{t:Adr}
def pq(T:Txt K mg t):eU P w K mg base CX0 1 (t.A 0) (t.Q 0) ["_law_script","_law_k"] (Hz K 2 b7) "_law_begun" (top 52) :=
 oF T.g sc (i:=0) rfl λ_ _ _ _ _ _ _ _=>(
 (fX (aY (i:=2) (nd 0) rfl (PR rfl) aj)
 (fX (bK (aR vt (dY λ_ _ _ _=>rb _) (dv 1) (aT bz cp rfl T.n_len PyProof.Rows.Boot.«len» (af (dv 0) aw)) nm)
 (ah (aY (i:=2) (nd 0) rfl (PR rfl) (aq (dv 0) (dv 1)))
 ak)
 ak)
 (AM (kR (af (dv 2) (af (fI (dP (dP (fI (dv 2) aj) (cX (cX aj (dv 1)) (dv 1))) aj) aj) (af (ef CC (dY λ_ _ _ _=>rb _) (dv 2) (xW aj aj) nm) aw))))))))
def eF(T:Txt K mg t):eU P w K mg base CX0 1 (t.A 1) (t.Q 1) ["one","other"] (spD K 2 m_common_divisor) "common_divisor" (top 5) :=
 oD T.g sc (i:=1) rfl λ_ _ _ _ _ _ _ hr=>(
 (ah (aY (i:=2) (nd 1) rfl (PR rfl) (aT qk yc rfl T.n_abs PyProof.Rows.Boot.«abs» (af (dv 0) aw)))
 (ah (aY (i:=3) (nd 1) rfl (PR rfl) (aT qk yc rfl T.n_abs PyProof.Rows.Boot.«abs» (af (dv 1) aw)))
 (ah (pT _ Qt (aR (d6 hr.units) f9 (dv 3) aj nm)
 (ah (aY (i:=4) (nd 1) rfl (PR rfl) (fI (dv 2) (dv 3)))
 (ah (aY (i:=2) (nd 1) rfl (PR rfl) (dv 3))
 (ah (aY (i:=3) (nd 1) rfl (PR rfl) (dv 4))
 ak))))
 (ah (aP (dv 2))
 ak)))))
def mD(T:Txt K mg t):eU P w K mg base CX0 2 (t.A 2) (t.Q 2) ["some"] (spD K 1 m_shared_bottom) "shared_bottom" (top 41) :=
 oD T.g sc (i:=2) rfl λ_ _ _ _ _ _ _ hr=>(
 (ah (aY (i:=1) (nd 2) rfl (PR rfl) aj)
 (ah (pU Qt rfl (dv 0) (cb (i:=2) (nd 2) rfl (PR rfl)) cF
 (ah (aY (i:=1) (nd 2) rfl (PR rfl) (cX (jC (dv 1) (rC (eF T) hr (af (dv 1) (af (aq (dv 2) aj) aw)))) (aq (dv 2) aj)))
 ak))
 (ah (aP (dv 1))
 ak))))
def vC(T:Txt K mg t):eU P w K mg base CX0 1 (t.A 3) (t.Q 3) ["one","bottom"] (spD K 2 m_as_whole) "as_whole" (top 42) :=
 oD T.g sc (i:=3) rfl λ_ _ _ _ _ _ _ _=>(
 (ah (aP (cX (aq (dv 0) aj) (jC (dv 1) (aq (dv 0) aj))))
 ak))
def nR(T:Txt K mg t):eU P w K mg base CX0 3 (t.A 4) (t.Q 4) ["some"] (spD K 1 m_on_one_scale) "on_one_scale" (top 40) :=
 oD T.g sc (i:=4) rfl λ_ _ _ _ H _ _ hr=>(
 (ah (aY (i:=1) (nd 4) rfl (T9 rfl) (rC (mD T) hr (af (nv (uG ["one"] 1 [] rfl (ka (dv 0)) (fw (by decide)) (λs H C fp pn=>⟨λHe η=>(cb (i:=0) (show RG (["one"]:bi) from by decide) rfl (PR rfl)),(zJ (aR og oh (dv 0) b5 nm)),(dv 0)⟩) ⟨rfl,rfl⟩ rfl rfl rfl rfl)) aw)))
 (ah (aP (cW (af (nv (uG ["one","bottom"] 1 [1] rfl (ka (dv 0)) (fw (by decide)) (λs H C fp pn=>⟨λHe η=>(cb (i:=0) (show RG (["one","bottom"]:bi) from by decide) rfl (PR rfl)),iO,(lY (aR eD eG (dv 0) b5 nm) b5 (rC (vC T) hr (af (dv 0) (af (dv 1) aw))))⟩) ⟨rfl,rfl⟩ rfl rfl rfl rfl)) (af (dv 1) aw))))
 ak)))
def lJ(T:Txt K mg t):eU P w K mg base CX0 4 (t.A 5) (t.Q 5) ["web"] (spD K 1 m_scaled_lengths) "scaled_lengths" (top 45) :=
 oD T.g sc (i:=5) rfl λ_ _ _ _ H _ _ hr=>(
 (ah (aP (rC (nR T) hr (af (nv (uG ["tie"] 1 [] rfl (ka (aq (dv 0) (bp T.kU rfl))) (fw (by decide)) (λs H C fp pn=>⟨λHe η=>(cb (i:=0) (show RG (["tie"]:bi) from by decide) rfl (PR rfl)),iO,(aq (dv 0) (bp T.l4 rfl))⟩) ⟨rfl,rfl⟩ rfl rfl rfl rfl)) aw)))
 ak))
def pb(T:Txt K mg t):eU P w K mg base CX0 1 (t.A 6) (t.Q 6) ["tie"] (spD K 1 m_steps_along) "steps_along" (top 37) :=
 oD T.g sc (i:=6) rfl λ_ _ _ _ _ _ _ hr=>(
 (ah (aY (i:=1) (nd 6) rfl (PR rfl) (cW (af (aq (dv 0) (bp T.qm rfl)) (af (aq (dv 0) (bp T.iS rfl)) aw))))
 (ah (bK (aR (eE hr.units) gC (aq (dv 0) (bp T.ql rfl)) ee nm)
 (ah (aP (dy (af (dv 1) aw)))
 ak)
 ak)
 (ah (aP (dy (af (dv 1) (af (cW (af (aq (dv 0) (bp T.iS rfl)) (af (aq (dv 0) (bp T.qm rfl)) aw))) aw))))
 ak))))
def qX(T:Txt K mg t):eU P w K mg base CX0 2 (t.A 7) (t.Q 7) ["web","taken"] (spD K 2 m_steps_left) "steps_left" (top 38) :=
 oD T.g sc (i:=7) rfl λ_ _ _ _ _ _ _ hr=>(
 (ah (jA (i:=2) (nd 7) rfl (PR rfl) (kR aw))
 (ah (ot Qt rfl (uF rfl T.n_enumerate (aq (dv 0) (bp T.kU rfl))) (kQ rfl (cf (i:=3) (nd 7) rfl (PR rfl) (cf (i:=4) (nd 7) rfl (PR rfl) gI))) gY
 (ah (bK (aR (g9 hr.units) ia (dv 3) (dv 1) rfl)
 (ah (pU Qt rfl (rC (pb T) hr (af (dv 4) aw)) (kQ rfl (cf (i:=5) (nd 7) rfl (PR rfl) (cf (i:=6) (nd 7) rfl (PR rfl) gI))) gY
 (ah (j9 (i:=2) rfl (PR rfl) (cW (af (dv 3) (af (dv 5) (af (dv 6) aw)))))
 ak))
 ak)
 ak)
 ak))
 (ah (aP (dv 2))
 ak))))
def iW(T:Txt K mg t):eU P w K mg base CX0 1 (t.A 8) (t.Q 8) ["steps","sizes","found"] (spD K 3 m_nearest_step) "nearest_step" (top 47) :=
 oD T.g sc (i:=8) rfl λ_ _ _ _ _ _ _ hr=>(
 (ah (aY (i:=3) (nd 8) rfl (PR rfl) b5)
 (ah (pU Qt rfl (dv 0) (kQ rfl (cf (i:=4) (nd 8) rfl (PR rfl) (cf (i:=5) (nd 8) rfl (PR rfl) (cf (i:=6) (nd 8) rfl (PR rfl) gI)))) gY
 (ah (bK (DW.dt (mN (aR (xu (uP hr.units)) xv (dv 5) (dv 2) rfl) (iM (aR (mC (uP hr.units)) mG (dv 6) (dv 2) rfl))))
 (ah (aY (i:=7) (nd 8) rfl (PR rfl) (dP (aq (iP (uP hr.units) (dv 2) (dv 5)) aj) (aq (dv 1) (dv 4))))
 (ah (bK (DW.dt (c6 (aR eD eG (dv 3) b5 nm) (bf (aR vt (dY λ_ _ _ _=>rb _) (dv 7) (aq (dv 3) aj) nm))))
 (ah (aY (i:=3) (nd 8) rfl (PR rfl) (cW (af (dv 6) (af (dv 7) (af (dP (aq (iP (uP hr.units) (dv 2) (dv 5)) aj) (dy (af (dv 4) aw))) aw)))))
 ak)
 ak)
 ak))
 ak)
 ak))
 (ah (aP (dv 3))
 ak))))
def pd(T:Txt K mg t):eU P w K mg base CX0 3 (t.A 9) (t.Q 9) ["web","taken","sizes"] (spD K 3 m_all_reached) "all_reached" (top 46) :=
 oD T.g sc (i:=9) rfl λ_ _ _ _ _ _ _ hr=>(
 (ah (aY (i:=3) (nd 9) rfl (PR rfl) (rC (qX T) hr (af (dv 0) (af (dv 1) aw))))
 (ah (uB (i:=4) (nd 9) rfl (PR rfl) (sN (aq (dv 0) (bp T.l5 rfl)) (cW (af aj (af (dy aw) aw)))))
 (ah (uz (i:=5) (nd 9) rfl (PR rfl) (rC (iW T) hr (af (dv 3) (af (dv 2) (af (dv 4) aw)))))
 (ah (pT _ Qt (aR og oh (dv 5) b5 nm)
 (ah (uA (i:=4) (uP hr.units) rfl (PR rfl) (cW (af (aq (dv 5) aj) (af (aq (dv 5) aj) aw))) (aq (dv 5) aj))
 (ah (uz (i:=5) (nd 9) rfl (PR rfl) (rC (iW T) hr (af (dv 3) (af (dv 2) (af (dv 4) aw)))))
 ak)))
 (ah (aP (dv 4))
 ak))))))
def gB(T:Txt K mg t):eU P w K mg base CX0 1 (t.A 10) (t.Q 10) ["thing"] (spD K 1 m_is_whole) "is_whole" (top 9) :=
 oD T.g sc (i:=10) rfl λ_ _ _ _ _ _ _ _=>(
 (ah (aP (kS (bN kM rfl T.n_isinstance rfl T.n_int PyProof.Rows.Boot.«int» (dv 0)) (jB (KC (bN jx rfl T.n_isinstance rfl T.n_bool PyProof.Rows.Boot.«bool» (dv 0))))))
 ak))
def vA(T:Txt K mg t):eU P w K mg base CX0 2 (t.A 11) (t.Q 11) ["top","bottom"] (spD K 2 m_ratio) "ratio" (top 13) :=
 oD T.g sc (i:=11) rfl λ_ _ _ _ _ _ _ hr=>(
 (ah (bK (DW.dt (c6 (bZ (bH (rC (gB T) hr (af (dv 0) aw)))) (bf (bZ (bH (rC (gB T) hr (af (dv 1) aw)))))))
 (ah eM
 ak)
 ak)
 (ah (bK (aR (eE hr.units) gC (dv 1) aj nm)
 (ah eM
 ak)
 ak)
 (ah (aY (i:=2) (nd 11) rfl (PR rfl) (rC (eF T) hr (af (dv 0) (af (dv 1) aw))))
 (ah (bK (aR vt (dY λ_ _ _ _=>rb _) (dv 1) aj nm)
 (ah (aY (i:=2) (nd 11) rfl (PR rfl) (KD (dv 2)))
 ak)
 ak)
 (ah (aP (cW (af (jC (dv 0) (dv 2)) (af (jC (dv 1) (dv 2)) aw))))
 ak))))))
def gA(T:Txt K mg t):eU P w K mg base CX0 5 (t.A 12) (t.Q 12) ["web","taken"] (spD K 2 m_shortest) "shortest" (top 44) :=
 oD T.g sc (i:=12) rfl λ_ _ _ _ _ _ _ hr=>(
 (ah (aY (i:=2) (nd 12) rfl (PR rfl) (rC (lJ T) hr (af (dv 0) aw)))
 (ah (aY (i:=3) (nd 12) rfl (PR rfl) (rC (pd T) hr (af (dv 0) (af (dv 1) (af (aq (dv 2) aj) aw)))))
 (ah (uB (i:=4) (nd 12) rfl (PR rfl) GZ)
 (ah (pU Qt rfl (aq (dv 0) (bp T.gi rfl)) (cb (i:=5) (nd 12) rfl (PR rfl)) cF
 (ah (uA (i:=4) (uP hr.units) rfl (PR rfl) (lY (aR (xu (uP hr.units)) xv (dv 5) (dv 3) rfl) (rC (vA T) hr (af (aq (iP (uP hr.units) (dv 3) (dv 5)) aj) (af (aq (dv 2) aj) aw))) b5) (dv 5))
 ak))
 (ah (bK (aR (mC (uP hr.units)) mG (aq (dv 0) (bp T.kW rfl)) (dv 3) rfl)
 (ah (aP (cW (af b5 (af b5 (af (dv 4) aw)))))
 ak)
 ak)
 (ah (aP (cW (af (aq (iP (uP hr.units) (dv 3) (aq (dv 0) (bp T.kW rfl))) aj) (af (iP (uP hr.units) (dv 4) (aq (dv 0) (bp T.kW rfl))) (af (dv 4) aw)))))
 ak)))))))
def CF(T:Txt K mg t):eU P w K mg base CX0 3 (t.A 13) (t.Q 13) ["one","other"] (spD K 2 m_minus) "minus" (top 14) :=
 oD T.g sc (i:=13) rfl λ_ _ _ _ _ _ _ hr=>(
 (ah (aP (rC (vA T) hr (af (mR (cX (aq (dv 0) aj) (aq (dv 1) aj)) (cX (aq (dv 1) aj) (aq (dv 0) aj))) (af (cX (aq (dv 0) aj) (aq (dv 1) aj)) aw))))
 ak))
def nj(T:Txt K mg t):eU P w K mg base CX0 4 (t.A 14) (t.Q 14) ["length","length_without"] (spD K 2 m_value_by) "value_by" (top 49) :=
 oD T.g sc (i:=14) rfl λ_ _ _ _ _ _ _ hr=>(
 (ah (bK (aR eD eG (dv 0) b5 nm)
 (ah (aP ee)
 ak)
 ak)
 (ah (bK (aR eD eG (dv 1) b5 nm)
 (ah (aP ee)
 ak)
 ak)
 (ah (aP (rC (CF T) hr (af (dv 1) (af (dv 0) aw))))
 ak))))
def iG(T:Txt K mg t):eU P w K mg base CX0 1 (t.A 15) (t.Q 15) ["thing"] (spD K 1 m_is_name) "is_name" (top 11) :=
 oD T.g sc (i:=15) rfl λ_ _ _ _ H _ _ hr=>(
 (ah (bK (DW.dt (c6 (bZ (bH (bN kL rfl T.n_isinstance rfl T.n_str PyProof.Rows.Boot.«str» (dv 0)))) (bf (bZ (wj vv vv (fU λ_ _ _ _=>rb _) (fU λ_ _ _ _=>rb _) fV fV aj (aT bz cp rfl T.n_len PyProof.Rows.Boot.«len» (af (dv 0) aw)) (bp T.gj rfl))))))
 (ah (aP dX)
 ak)
 ak)
 (ah (aP (aT (DZ rfl) KQ rfl T.n_all PyProof.Rows.Boot.«all» (af (nv (uG ["sign"] 1 [] rfl (KA (dv 0)) (fw (by decide)) (λs H C fp pn=>⟨λHe η=>(cb (i:=0) (show RG (["sign"]:bi) from by decide) rfl (PR rfl)),iO,(ef (yX hr.units) za (dv 0) (bp T.mW rfl) rfl)⟩) ⟨rfl,rfl⟩ rfl rfl rfl rfl)) aw)))
 ak)))
def lK(T:Txt K mg t):eU P w K mg base CX0 2 (t.A 16) (t.Q 16) ["places"] (spD K 1 m_look_at_places) "look_at_places" (top 33) :=
 oD T.g sc (i:=16) rfl λ_ _ _ _ _ _ _ hr=>(
 (ah (bK (DW.dt (c6 (bZ (bH (bN gF rfl T.n_isinstance rfl T.n_list PyProof.Rows.Boot.«list» (dv 0)))) (bf (bZ (wj vv vv (fU λ_ _ _ _=>rb _) (fU λ_ _ _ _=>rb _) fV fV (bp T.fJ rfl) (aT bz cp rfl T.n_len PyProof.Rows.Boot.«len» (af (dv 0) aw)) (bp T.gR rfl))))))
 (ah eM
 ak)
 ak)
 (ah (ot Qt rfl (uF rfl T.n_enumerate (dv 0)) (kQ rfl (cf (i:=1) (nd 16) rfl (PR rfl) (cf (i:=2) (nd 16) rfl (PR rfl) gI))) gY
 (ah (bK (DW.dt (c6 (bZ (bH (rC (iG T) hr (af (dv 2) aw)))) (bf (aR (yX hr.units) za (dv 2) (sO (dv 0) oz (oy (dv 1))) rfl))))
 (ah eM
 ak)
 ak)
 ak))
 ak)))
def nk(T:Txt K mg t):eU P w K mg base CX0 2 (t.A 17) (t.Q 17) ["thing"] (spD K 1 m_is_ratio) "is_ratio" (top 10) :=
 oD T.g sc (i:=17) rfl λ_ _ _ _ _ _ _ hr=>(
 (ah (bK (DW.dt (c6 (bZ (bH (bN eK rfl T.n_isinstance rfl T.n_tuple PyProof.Rows.Boot.«tuple» (dv 0)))) (bf (aR (d6 hr.units) f9 (aT bz cp rfl T.n_len PyProof.Rows.Boot.«len» (af (dv 0) aw)) aj nm))))
 (ah (aP dX)
 ak)
 ak)
 (ah (bK (DW.dt (c6 (bZ (bH (rC (gB T) hr (af (aq (dv 0) aj) aw)))) (bf (bZ (bH (rC (gB T) hr (af (aq (dv 0) aj) aw)))))))
 (ah (aP dX)
 ak)
 ak)
 (ah (aP (kS (ef CC (dY λ_ _ _ _=>rb _) (aq (dv 0) aj) aj nm) (jB (ef (eE hr.units) gC (rC (eF T) hr (af (aq (dv 0) aj) (af (aq (dv 0) aj) aw))) aj nm))))
 ak))))
def ua(T:Txt K mg t):eU P w K mg base CX0 3 (t.A 18) (t.Q 18) ["thing"] (spD K 1 m_is_length) "is_length" (top 30) :=
 oD T.g sc (i:=18) rfl λ_ _ _ _ _ _ _ hr=>(
 (ah (aP (kS (rC (nk T) hr (af (dv 0) aw)) (jB (ef CC (dY λ_ _ _ _=>rb _) (aq (dv 0) aj) aj nm))))
 ak))
def vB(T:Txt K mg t):eU P w K mg base CX0 3 (t.A 19) (t.Q 19) ["thing"] (spD K 1 m_is_worth) "is_worth" (top 31) :=
 oD T.g sc (i:=19) rfl λ_ _ _ _ _ _ _ hr=>(
 (ah (aP (M6 (ef eD eG (dv 0) b5 nm) (jB (kS (rC (nk T) hr (af (dv 0) aw)) (jB (ef yY (dY λ_ _ _ _=>rb _) (aq (dv 0) aj) aj nm))))))
 ak))
def As(T:Txt K mg t):eU P w K mg base CX0 4 (t.A 20) (t.Q 20) ["thing"] (spD K 1 m_is_tie) "is_tie" (top 29) :=
 oD T.g sc (i:=20) rfl λ_ _ _ _ _ _ _ hr=>(
 (ah (bK (DW.dt (c6 (bZ (bH (bN eK rfl T.n_isinstance rfl T.n_tuple PyProof.Rows.Boot.«tuple» (dv 0)))) (bf (aR (d6 hr.units) f9 (aT bz cp rfl T.n_len PyProof.Rows.Boot.«len» (af (dv 0) aw)) aj nm))))
 (ah (aP dX)
 ak)
 ak)
 (ah (bK (DW.dt (c6 (bZ (bH (rC (iG T) hr (af (aq (dv 0) (bp T.qm rfl)) aw)))) (c6 (bZ (bH (rC (iG T) hr (af (aq (dv 0) (bp T.iS rfl)) aw)))) (bf (aR (eE hr.units) gC (aq (dv 0) (bp T.qm rfl)) (aq (dv 0) (bp T.iS rfl)) nm)))))
 (ah (aP dX)
 ak)
 ak)
 (ah (bK (DW.dt (c6 (bZ (bH (bN kL rfl T.n_isinstance rfl T.n_str PyProof.Rows.Boot.«str» (aq (dv 0) (bp T.ql rfl))))) (bf (aR (g9 hr.units) ia (aq (dv 0) (bp T.ql rfl)) (bp T.uL rfl) rfl))))
 (ah (aP dX)
 ak)
 ak)
 (ah (aP (kS (rC (ua T) hr (af (aq (dv 0) (bp T.l4 rfl)) aw)) (jB (rC (vB T) hr (af (aq (dv 0) (bp T.uK rfl)) aw)))))
 ak)))))
def nS(T:Txt K mg t):eU P w K mg base CX0 5 (t.A 21) (t.Q 21) ["ties","places"] (spD K 2 m_look_at_ties) "look_at_ties" (top 34) :=
 oD T.g sc (i:=21) rfl λ_ _ _ _ _ _ _ hr=>(
 (ah (bK (DW.dt (c6 (bZ (bH (bN gF rfl T.n_isinstance rfl T.n_list PyProof.Rows.Boot.«list» (dv 0)))) (bf (aR yY (dY λ_ _ _ _=>rb _) (aT bz cp rfl T.n_len PyProof.Rows.Boot.«len» (af (dv 0) aw)) (bp T.jD rfl) nm))))
 (ah eM
 ak)
 ak)
 (ah (ot Qt rfl (uF rfl T.n_enumerate (dv 0)) (kQ rfl (cf (i:=2) (nd 21) rfl (PR rfl) (cf (i:=3) (nd 21) rfl (PR rfl) gI))) gY
 (ah (bK (DW.dt (c6 (bZ (bH (rC (As T) hr (af (dv 3) aw)))) (c6 (aR (g9 hr.units) ia (aq (dv 3) (bp T.qm rfl)) (dv 1) rfl) (bf (aR (g9 hr.units) ia (aq (dv 3) (bp T.iS rfl)) (dv 1) rfl)))))
 (ah eM
 ak)
 ak)
 ak))
 ak)))
def nq(T:Txt K mg t):eU P w K mg base CX0 2 (t.A 22) (t.Q 22) ["thing","places"] (spD K 2 m_is_place) "is_place" (top 35) :=
 oD T.g sc (i:=22) rfl λ_ _ _ _ _ _ _ hr=>(
 (ah (aP (kS (rC (iG T) hr (af (dv 0) aw)) (jB (ef (yX hr.units) za (dv 0) (dv 1) rfl))))
 ak))
def jl(T:Txt K mg t):eU P w K mg base CX0 6 (t.A 23) (t.Q 23) ["thing"] (spD K 1 m_look_at_web) "look_at_web" (top 32) :=
 oD T.g sc (i:=23) rfl λ_ _ _ _ _ _ _ hr=>(
 (ah (bK (DW.dt (c6 (bZ (bH (bN eK rfl T.n_isinstance rfl T.n_tuple PyProof.Rows.Boot.«tuple» (dv 0)))) (bf (aR (d6 hr.units) f9 (aT bz cp rfl T.n_len PyProof.Rows.Boot.«len» (af (dv 0) aw)) aj nm))))
 (ah eM
 ak)
 ak)
 (ah (ou (rC (lK T) hr (af (aq (dv 0) (bp T.gi rfl)) aw)))
 (ah (ou (rC (nS T) hr (af (aq (dv 0) (bp T.kU rfl)) (af (aq (dv 0) (bp T.gi rfl)) aw))))
 (ah (bK (bZ (bH (rC (nq T) hr (af (aq (dv 0) (bp T.l5 rfl)) (af (aq (dv 0) (bp T.gi rfl)) aw)))))
 (ah eM
 ak)
 ak)
 (ah (bK (DW.dt (c6 (bZ (bH (rC (nq T) hr (af (aq (dv 0) (bp T.kW rfl)) (af (aq (dv 0) (bp T.gi rfl)) aw))))) (bf (aR (eE hr.units) gC (aq (dv 0) (bp T.kW rfl)) (aq (dv 0) (bp T.l5 rfl)) nm))))
 (ah eM
 ak)
 ak)
 ak))))))
def ph(T:Txt K mg t):eU P w K mg base CX0 7 (t.A 24) (t.Q 24) ["web"] (Hz K 1 dB) "values_all" (top 50) :=
 oF T.g sc (i:=24) rfl λ_ _ _ _ _ _ _ hr=>(
 (fX (ou (rC (jl T) hr (af (dv 0) aw)))
 (fX (aY (i:=1) (nd 24) rfl (PR rfl) (aq (rC (gA T) hr (af (dv 0) (af (dy aw) aw))) aj))
 (fX (jA (i:=2) (nd 24) rfl (PR rfl) (kR aw))
 (fX (iN Qt rfl rfl T.n_range (aT bz cp rfl T.n_len PyProof.Rows.Boot.«len» (af (aq (dv 0) (bp T.kU rfl)) aw)) (cb (i:=3) (nd 24) rfl (PR rfl)) cF
 (ah (aY (i:=4) (nd 24) rfl (PR rfl) (rC (gA T) hr (af (dv 0) (af (dy (af (dv 3) aw)) aw))))
 (ah (j9 (i:=2) rfl (PR rfl) (cW (af (rC (nj T) hr (af (dv 1) (af (aq (dv 4) aj) aw))) (af (aq (dv 4) aj) aw))))
 ak)))
 (Dw rfl (PR rfl)))))))
def qW(T:Txt K mg t):eU P w K mg base CX0 7 (t.A 24) (t.Q 24) ["web"] (spD K 1 dB) "values_all" (top 50) :=
 (ph T).fD
def pe(T:Txt K mg t):eU P w K mg base CX0 7 (t.A 24) (t.Q 24) ["web"] (Nq K 1 cB) "values_all" (top 50) :=
 oU T.g sc (i:=24) rfl λ_ _ _ _ _ _ _ hr=>(
 (mO (ou (rC (jl T) hr (af (dv 0) aw)))
 (mO (aY (i:=1) (nd 24) rfl (PR rfl) (aq (rC (gA T) hr (af (dv 0) (af (dy aw) aw))) aj))
 (mO (jA (i:=2) (nd 24) rfl (PR rfl) (kR aw))
 (AL [0,3] rfl (by decide) (by decide) (by decide) Qt rfl T.nl rfl T.n_range (nd 24) rfl rfl rfl (PR rfl) (PR rfl) (PR rfl) (PR rfl) (aT bz cp rfl T.n_len PyProof.Rows.Boot.«len» (af (aq (dv 0) (bp T.kU rfl)) aw))
 (rC (gA T) hr (af (dv 0) (af (dy (af (dv 3) aw)) aw)))
 (rC (nj T) hr (af (dv 1) (af (aq (dv 4) aj) aw))))))))
def ku(T:Txt K mg t):eU P w K mg base CX0 1 (t.A 25) (t.Q 25) ["_law_tie_here","_law_here"] (spD K 2 bh) "_law_there" (top 62) :=
 oD T.g sc (i:=25) rfl λ_ _ _ _ _ _ _ hr=>(
 (ah (bK (aR (eE hr.units) gC (aq (dv 0) aj) (dv 1) nm)
 (ah (aP (aq (dv 0) aj))
 ak)
 ak)
 (ah (bK (DW.dt (mN (aR (eE hr.units) gC (aq (dv 0) aj) (dv 1) nm) (iM (aR (eE hr.units) gC (aq (dv 0) aj) ee nm))))
 (ah (aP (aq (dv 0) aj))
 ak)
 ak)
 (ah (aP b5)
 ak))))
def jo(T:Txt K mg t):eU P w K mg base CX0 1 (t.A 26) (t.Q 26) ["_law_top","_law_bottom"] (spD K 2 bj) "_law_low" (top 54) :=
 oD T.g sc (i:=26) rfl λ_ _ _ _ _ _ _ hr=>(
 (ah (aY (i:=2) (nd 26) rfl (PR rfl) (aT qk yc rfl T.n_abs PyProof.Rows.Boot.«abs» (af (dv 0) aw)))
 (ah (aY (i:=3) (nd 26) rfl (PR rfl) (dv 1))
 (ah (pT _ Qt (aR (d6 hr.units) f9 (dv 3) aj nm)
 (ah (Kv (i:=2) (j:=3) rfl (nd 26) rfl rfl (by decide) rfl rfl (af (dv 3) (af (fI (dv 2) (dv 3)) aw)) rfl)
 ak))
 (ah (aP (cW (af (jC (dv 0) (dv 2)) (af (jC (dv 1) (dv 2)) aw))))
 ak)))))
def lM(T:Txt K mg t):eU P w K mg base CX0 2 (t.A 27) (t.Q 27) ["_law_one","_law_other"] (spD K 2 bE) "_law_plus" (top 60) :=
 oD T.g sc (i:=27) rfl λ_ _ _ _ _ _ _ hr=>(
 (ah (aP (rC (jo T) hr (af (dP (cX (aq (dv 0) aj) (aq (dv 1) aj)) (cX (aq (dv 1) aj) (aq (dv 0) aj))) (af (cX (aq (dv 0) aj) (aq (dv 1) aj)) aw))))
 ak))
def ub(T:Txt K mg t):eU P w K mg base CX0 1 (t.A 28) (t.Q 28) ["_law_one","_law_other"] (spD K 2 cA) "_law_less" (top 61) :=
 oD T.g sc (i:=28) rfl λ_ _ _ _ _ _ _ _=>(
 (ah (aP (ef vt (dY λ_ _ _ _=>rb _) (cX (aq (dv 0) aj) (aq (dv 1) aj)) (cX (aq (dv 1) aj) (aq (dv 0) aj)) nm))
 ak))
def nr(T:Txt K mg t):eU P w K mg base CX0 3 (t.A 29) (t.Q 29) ["_law_web_here","_law_gone"] (spD K 2 bL) "_law_far" (top 65) :=
 oD T.g sc (i:=29) rfl λ_ _ _ _ _ _ _ hr=>(
 (ah (uB (i:=2) (nd 29) rfl (PR rfl) (sN (aq (dv 0) aj) (cW (af aj (af aj aw)))))
 (ah (iN Qt rfl rfl T.n_range (aT bz cp rfl T.n_len PyProof.Rows.Boot.«len» (af (aq (dv 0) aj) aw)) (cb (i:=3) (nd 29) rfl (PR rfl)) cF
 (ah (aY (i:=4) (nd 29) rfl (PR rfl) dX)
 (ah (iN Qt rfl rfl T.n_range (aT bz cp rfl T.n_len PyProof.Rows.Boot.«len» (af (aq (dv 0) aj) aw)) (cb (i:=5) (nd 29) rfl (PR rfl)) cF
 (ah (aY (i:=6) (nd 29) rfl (PR rfl) (aq (aq (dv 0) aj) (dv 5)))
 (ah (ot Qt rfl (DN (sO (dv 6) oz (oy aj))) (cb (i:=7) (nd 29) rfl (PR rfl)) cF
 (ah (aY (i:=8) (nd 29) rfl (PR rfl) (rC (ku T) hr (af (dv 6) (af (dv 7) aw))))
 (ah (bK (DW.dt (mN (aR (g9 hr.units) ia (dv 5) (dv 1) rfl) (mN (aR og oh (dv 8) b5 nm) (iM (aR (xu (uP hr.units)) xv (dv 7) (dv 2) rfl)))))
 (ah (uz (i:=9) (nd 29) rfl (PR rfl) (rC (lM T) hr (af (iP (uP hr.units) (dv 2) (dv 7)) (af (aq (dv 6) aj) aw))))
 (ah (bK (DW.dt (c6 (aR (mC (uP hr.units)) mG (dv 8) (dv 2) rfl) (bf (bH (rC (ub T) hr (af (dv 9) (af (iP (uP hr.units) (dv 2) (dv 8)) aw)))))))
 (ah (uA (i:=2) (uP hr.units) rfl (PR rfl) (dv 9) (dv 8))
 (ah (aY (i:=4) (nd 29) rfl (PR rfl) dX)
 ak))
 ak)
 ak))
 ak)
 ak)))
 ak)))
 (ah (bK (bH (dv 4))
 (ah (aP (dv 2))
 ak)
 ak)
 ak))))
 (ah (aP (dv 2))
 ak))))
def mE(T:Txt K mg t):eU P w K mg base CX0 4 (t.A 30) (t.Q 30) ["_law_web_here"] (spD K 1 bY) "_law_withouts" (top 66) :=
 oD T.g sc (i:=30) rfl λ_ _ _ _ H _ _ hr=>(
 (ah (aP (nv (uG ["_law_k","_law_web_here"] 1 [0] rfl (mQ rfl T.n_range (aT bz cp rfl T.n_len PyProof.Rows.Boot.«len» (af (aq (dv 0) aj) aw))) (fw (by decide)) (λs H C fp pn=>⟨λHe η=>(cb (i:=0) (show RG (["_law_k","_law_web_here"]:bi) from by decide) rfl (PR rfl)),iO,(wt (uP hr.units) (rC (nr T) hr (af (dv 1) (af (dy (af (dv 0) aw)) aw))) (aq (dv 1) aj) ⟨rfl,fA rfl,rfl,by rw[dU rfl];rfl⟩)⟩) ⟨rfl,rfl⟩ rfl rfl rfl rfl)))
 ak))
def qZ(T:Txt K mg t):eU P w K mg base CX0 2 (t.A 31) (t.Q 31) ["_law_least","_law_without"] (spD K 2 bu) "_law_value" (top 67) :=
 oD T.g sc (i:=31) rfl λ_ _ _ _ _ _ _ hr=>(
 (ah (bK (aR eD eG (dv 0) b5 nm)
 (ah (aP ee)
 ak)
 ak)
 (ah (bK (aR eD eG (dv 1) b5 nm)
 (ah (aP ee)
 ak)
 ak)
 (ah (aP (rC (jo T) hr (af (mR (cX (aq (dv 1) aj) (aq (dv 0) aj)) (cX (aq (dv 0) aj) (aq (dv 1) aj))) (af (cX (aq (dv 1) aj) (aq (dv 0) aj)) aw))))
 ak))))
def mF(T:Txt K mg t):eU P w K mg base CX0 1 (t.A 32) (t.Q 32) ["_law_thing"] (spD K 1 bF) "_law_is_value" (top 69) :=
 oD T.g sc (i:=32) rfl λ_ _ _ _ H _ _ hr=>(
 (ah (bK (bH (bN kL rfl T.n_isinstance rfl T.n_str PyProof.Rows.Boot.«str» (dv 0)))
 (ah (aP dX)
 ak)
 ak)
 (ah (bK (DW.dt (c6 (bZ (bH (bN eK rfl T.n_isinstance rfl T.n_tuple PyProof.Rows.Boot.«tuple» (dv 0)))) (bf (aR (d6 hr.units) f9 (aT bz cp rfl T.n_len PyProof.Rows.Boot.«len» (af (dv 0) aw)) aj nm))))
 (ah (aP dX)
 ak)
 ak)
 (ah (aP (ef (eE hr.units) gC (nv (uG ["_law_one"] 1 [] rfl (DN (dv 0)) (fw (by decide)) (λs H C fp pn=>⟨λHe η=>(cb (i:=0) (show RG (["_law_one"]:bi) from by decide) rfl (PR rfl)),(zJ (DW.dt (c6 (bH (bN jx rfl T.n_isinstance rfl T.n_bool PyProof.Rows.Boot.«bool» (dv 0))) (bf (bZ (bH (bN kM rfl T.n_isinstance rfl T.n_int PyProof.Rows.Boot.«int» (dv 0)))))))),(dv 0)⟩) ⟨rfl,rfl⟩ rfl rfl rfl rfl)) (dy aw) nm))
 ak))))
def lN(T:Txt K mg t):eU P w K mg base CX0 1 (t.A 33) (t.Q 33) ["_law_web_here","_law_one"] (spD K 2 aQ) "_law_is_number" (top 63) :=
 oD T.g sc (i:=33) rfl λ_ _ _ _ _ _ _ _=>(
 (ah (bK (DW.dt (c6 (bZ (bH (bN kM rfl T.n_isinstance rfl T.n_int PyProof.Rows.Boot.«int» (dv 1)))) (bf (bH (bN jx rfl T.n_isinstance rfl T.n_bool PyProof.Rows.Boot.«bool» (dv 1))))))
 (ah (aP dX)
 ak)
 ak)
 (ah (aP (DR vv vt (fU λ_ _ _ _=>rb _) (fU λ_ _ _ _=>rb _) fV fV aj (dv 1) (aT bz cp rfl T.n_len PyProof.Rows.Boot.«len» (af (aq (dv 0) aj) aw))))
 ak)))
def qY(T:Txt K mg t):eU P w K mg base CX0 2 (t.A 34) (t.Q 34) ["_law_web_here","_law_gone","_law_thing"] (spD K 3 cy) "_law_wrong" (top 64) :=
 oD T.g sc (i:=34) rfl λ_ _ _ _ _ _ _ hr=>(
 (ah (bK (bZ (bH (bN gF rfl T.n_isinstance rfl T.n_list PyProof.Rows.Boot.«list» (dv 2))))
 (ah (aP (cW (af ee (af b5 aw))))
 ak)
 ak)
 (ah (aY (i:=3) (nd 34) rfl (PR rfl) (aq (dv 0) aj))
 (ah (jA (i:=4) (nd 34) rfl (PR rfl) (kR (af (dv 3) aw)))
 (ah (iN Qt rfl rfl T.n_range (aT bz cp rfl T.n_len PyProof.Rows.Boot.«len» (af (dv 2) aw)) (cb (i:=5) (nd 34) rfl (PR rfl)) cF
 (ah (aY (i:=6) (nd 34) rfl (PR rfl) (aq (dv 2) (dv 5)))
 (ah (aY (i:=7) (nd 34) rfl (PR rfl) b5)
 (ah (bK (DW.dt (mN (aR (d6 hr.units) f9 (dv 3) (aq (dv 0) aj) nm) (mN (bH (rC (lN T) hr (af (dv 0) (af (dv 6) aw)))) (iM (aR (g9 hr.units) ia (dv 6) (dv 1) rfl)))))
 (ah (aY (i:=7) (nd 34) rfl (PR rfl) (rC (ku T) hr (af (aq (aq (dv 0) aj) (dv 6)) (af (dv 3) aw))))
 ak)
 ak)
 (ah (bK (DW.dt (c6 (aR eD eG (dv 7) b5 nm) (bf (aR (yX hr.units) za (dv 7) (dv 4) rfl))))
 (ah (aP (cW (af ee (af (dv 5) aw))))
 ak)
 ak)
 (ah (aY (i:=3) (nd 34) rfl (PR rfl) (dv 7))
 (ah (j9 (i:=4) rfl (PR rfl) (dv 3))
 ak)))))))
 (ah (bK (aR (d6 hr.units) f9 (dv 3) (aq (dv 0) aj) nm)
 (ah (aP (cW (af ee (af (aT bz cp rfl T.n_len PyProof.Rows.Boot.«len» (af (dv 2) aw)) aw))))
 ak)
 ak)
 (ah (aP (cW (af ee (af (dv 4) aw))))
 ak)))))))
def lL(T:Txt K mg t):eU P w K mg base CX0 3 (t.A 35) (t.Q 35) ["_law_web_here","_law_number","_law_least","_law_way"] (spD K 4 b4) "_law_way_right" (top 68) :=
 oD T.g sc (i:=35) rfl λ_ _ _ _ _ _ _ hr=>(
 (ah (bK (DW.dt (c6 (aR eD eG (dv 2) b5 nm) (bf (aR eD eG (dv 3) b5 nm))))
 (ah (aP (kS (ef eD eG (dv 2) b5 nm) (jB (ef eD eG (dv 3) b5 nm))))
 ak)
 ak)
 (ah (bK (aR (d6 hr.units) f9 (aq (rC (qY T) hr (af (dv 0) (af (dy (af (dv 1) aw)) (af (dv 3) aw)))) aj) ee nm)
 (ah (aP dX)
 ak)
 ak)
 (ah (aY (i:=4) (nd 35) rfl (PR rfl) (cW (af aj (af aj aw))))
 (ah (pU Qt rfl (dv 3) (cb (i:=5) (nd 35) rfl (PR rfl)) cF
 (ah (aY (i:=4) (nd 35) rfl (PR rfl) (rC (lM T) hr (af (dv 4) (af (aq (aq (aq (dv 0) aj) (dv 5)) aj) aw))))
 ak))
 (ah (aP (ef (eE hr.units) gC (dv 4) (dv 2) nm))
 ak))))))
def rf(T:Txt K mg t):eU P w K mg base CX0 5 (t.A 36) (t.Q 36) ["_law_web_here","_law_told"] (spD K 2 cP) "_law_right" (top 70) :=
 oD T.g sc (i:=36) rfl λ_ _ _ _ _ _ _ hr=>(
 (ah (bK (DW.dt (c6 (bZ (bH (bN gF rfl T.n_isinstance rfl T.n_list PyProof.Rows.Boot.«list» (dv 1)))) (bf (aR (d6 hr.units) f9 (aT bz cp rfl T.n_len PyProof.Rows.Boot.«len» (af (dv 1) aw)) (aT bz cp rfl T.n_len PyProof.Rows.Boot.«len» (af (aq (dv 0) aj) aw)) nm))))
 (ah (aP dX)
 ak)
 ak)
 (ah (aY (i:=2) (nd 36) rfl (PR rfl) (wt (uP hr.units) (rC (nr T) hr (af (dv 0) (af (dy aw) aw))) (aq (dv 0) aj) ⟨rfl,fA rfl,rfl,by rw[dU rfl];rfl⟩))
 (ah (aY (i:=3) (nd 36) rfl (PR rfl) (rC (mE T) hr (af (dv 0) aw)))
 (ah (iN Qt rfl rfl T.n_range (aT bz cp rfl T.n_len PyProof.Rows.Boot.«len» (af (dv 1) aw)) (cb (i:=4) (nd 36) rfl (PR rfl)) cF
 (ah (aY (i:=5) (nd 36) rfl (PR rfl) (aq (dv 1) (dv 4)))
 (ah (bK (DW.dt (c6 (bZ (bH (bN eK rfl T.n_isinstance rfl T.n_tuple PyProof.Rows.Boot.«tuple» (dv 5)))) (bf (aR (d6 hr.units) f9 (aT bz cp rfl T.n_len PyProof.Rows.Boot.«len» (af (dv 5) aw)) aj nm))))
 (ah (aP dX)
 ak)
 ak)
 (ah (bK (DW.dt (c6 (aR (d6 hr.units) f9 (aq (dv 5) aj) (rC (qZ T) hr (af (dv 2) (af (aq (dv 3) (dv 4)) aw))) nm) (bf (bZ (bH (rC (mF T) hr (af (aq (dv 5) aj) aw)))))))
 (ah (aP dX)
 ak)
 ak)
 (ah (bK (bZ (bH (rC (lL T) hr (af (dv 0) (af (dv 4) (af (aq (dv 3) (dv 4)) (af (aq (dv 5) aj) aw)))))))
 (ah (aP dX)
 ak)
 ak)
 ak)))))
 (ah (aP dX)
 ak))))))
def aX(T:Txt K mg t):eU P w K mg base CX0 1 (t.A 37) (t.Q 37) ["_law_state","_law_many"] (EU K 1 aO) "_law_take" (top 53) :=
 oM T.g sc (i:=37) rfl rfl λ_ _ _ _ _ _ _ _ _ _=>(
 (aK (u4 (Dx (i:=0) (E:=E0) (bH (aq (dv 0) aj)))
 (aK (df (i:=2) (nd 37) rfl (PR rfl) (lW (i:=0) (E:=E0) (fI (aq (dv 0) aj) (dv 1))))
 (aK (w8 (i:=0) rfl (PR rfl) (lW (i:=0) (E:=E0) (jC (aq (dv 0) aj) (dv 1))) (aS (E:=E0) aj))
 (aK (w8 (i:=0) rfl (PR rfl) (lW (i:=0) (E:=E0) (ef yY (dY λ_ _ _ _=>rb _) (aq (dv 0) aj) aj nm)) (aS (E:=E0) aj))
 (aK (gu (E:=E0) (dv 2))
 cm))))
 cm)
 (aK (dk (E:=E0) λvs=>(aY (i:=3) (nd 37) rfl (PR rfl) aj))
 (aK (yB (E:=E0) Qt rfl (zf (E:=E0) (mQ rfl T.n_range (dP aj (cX aj (DV AY KP rfl T.n_int PyProof.Rows.Boot.«int» (af (ef yY (dY λ_ _ _ _=>rb _) (dv 1) (xW aj aj) nm) aw)))))) (λvs=>(cb (i:=4) (nd 37) rfl (PR rfl))) cF
 (aK (w8 (i:=0) rfl (PR rfl) (lW (i:=0) (E:=E0) (fI (dP (cX (aq (dv 0) aj) aj) aj) aj)) (aS (E:=E0) aj))
 (aK (df (i:=3) (nd 37) rfl (PR rfl) (lW (i:=0) (E:=E0) (dP (cX (dv 3) aj) (fI (cX (aq (dv 0) aj) (aq (dv 0) aj)) aj))))
 cm)))
 (aK (gu (E:=E0) (fI (jC (dv 3) aj) (dv 1)))
 cm)))))
def rg(T:Txt K mg t):eU P w K mg base CX0 2 (t.A 38) (t.Q 38) ["_law_state","_law_many"] (EU K 1 dD) "_law_names" (top 56) :=
 oM T.g sc (i:=38) rfl rfl λ_ _ _ _ H He _ _ _ hr=>(
 (aK (EW (i:=2) (nd 38) rfl rfl (NZ (E:=E0) ["_law_k","_law_state"] 1 [0] rfl (zf (E:=E0) (mQ rfl T.n_range aj)) (fw (by decide)) (λs H C fp pn=>⟨λHe η=>(cb (i:=0) (show RG (["_law_k","_law_state"]:bi) from by decide) rfl (PR rfl)),λHe η=>(rM 1 (aX T) hr (bg (aS (E:=E0) aj) bQ))⟩) ⟨rfl,rfl⟩ rfl rfl rfl rfl) xZ)
 (aK (df (i:=3) (nd 38) rfl (PR rfl) (pV (aS (E:=E0) aj) (rM 0 (aX T) hr (bg (aS (E:=E0) aj) bQ))))
 (aK (df (i:=4) (nd 38) rfl (PR rfl) (rM 0 (aX T) hr (bg (aS (E:=E0) (dv 3)) bQ)))
 (aK (df (i:=5) (nd 38) rfl (PR rfl) (rM 0 (aX T) hr (bg (aS (E:=E0) aj) bQ)))
 (aK (df (i:=6) (nd 38) rfl (PR rfl) (uD (aS (E:=E0) (dy (af aj (af aj (af aj (af aj (af aj (af aj aw)))))))) (rM 0 (aX T) hr (bg (aS (E:=E0) aj) bQ))))
 (aK (df (i:=7) (nd 38) rfl (PR rfl) (Kx (E:=E0) (eE hr.units) gC (rM 0 (aX T) hr (bg (aS (E:=E0) aj) bQ)) (aS (E:=E0) aj) nm))
 (aK (dk (E:=E0) λvs=>(jA (i:=8) (nd 38) rfl (PR rfl) (kR aw)))
 (aK (dk (E:=E0) λvs=>(iN Qt rfl rfl T.n_range (dv 1) (cb (i:=9) (nd 38) rfl (PR rfl)) cF
 (ah (jA (i:=10) (nd 38) rfl (PR rfl) (wq (dv 2) oz (oy (dv 3))))
 (ah (Ku (i:=10) rfl (PR rfl) (fI (dP (dv 5) (cX (dv 6) (dv 9))) aj) (dv 4))
 (ah (bK (bH (dv 7))
 (ah (jA (i:=10) (nd 38) rfl (PR rfl) (wq (dv 2) oz (oy (dP aj (fI (dP (dv 5) (dv 9)) aj)))))
 ak)
 ak)
 (ah (Kw 10 (j9 (i:=8) rfl (PR rfl) (G1 ee (af (nv (uG ["_law_letter"] 1 [] rfl (ka (dv 10)) (fw (by decide)) (λs H C fp pn=>⟨λHe η=>(cb (i:=0) (show RG (["_law_letter"]:bi) from by decide) rfl (PR rfl)),iO,(aq ee (dv 0))⟩) ⟨rfl,rfl⟩ rfl rfl rfl rfl)) aw))))
 ak))))))
 (aK (gu (E:=E0) (dv 8))
 cm))))))))))
def jq(T:Txt K mg t):eU P w K mg base CX0 2 (t.A 39) (t.Q 39) ["_law_state","_law_least"] (EU K 1 cR) "_law_amount" (top 55) :=
 oM T.g sc (i:=39) rfl rfl λ_ _ _ _ _ _ _ _ _ hr=>(
 (aK (df (i:=2) (nd 39) rfl (PR rfl) (rM 0 (aX T) hr (bg (aS (E:=E0) aj) bQ)))
 (aK (df (i:=3) (nd 39) rfl (PR rfl) (pV (aS (E:=E0) (dv 1)) (rM 0 (aX T) hr (bg (aS (E:=E0) (aq (dy (af aj (af aj (af aj (af aj (af aj (af (xW aj aj) aw))))))) (dv 2))) bQ))))
 (aK (dk (E:=E0) λvs=>(aY (i:=4) (nd 39) rfl (PR rfl) (aq (dy (af aj (af aj (af aj (af aj (af aj (af aj aw))))))) (dv 2))))
 (aK (dk (E:=E0) λvs=>(aY (i:=5) (nd 39) rfl (PR rfl) (dy (af aj (af aj (af aj (af aj (af aj (af aj (af aj (af aj (af aj (af aj (af aj (af aj aw)))))))))))))))
 (aK (Iw (Pf (jo T) hr (bg (aS (E:=E0) (dv 3)) (bg (uD (aS (E:=E0) (dv 5)) (rM 0 (aX T) hr (bg (aS (E:=E0) (dv 4)) bQ))) bQ))))
 cm))))))
def vF(T:Txt K mg t):eU P w K mg base CX0 3 (t.A 40) (t.Q 40) ["_law_state","_law_names_here","_law_k"] (EU K 2 d7) "_law_tie" (top 57) :=
 oM T.g sc (i:=40) rfl rfl λ_ _ _ _ _ _ _ _ _ hr=>(
 (aK (dk (E:=E0) λvs=>(aY (i:=3) (nd 40) rfl (PR rfl) (aT bz cp rfl T.n_len PyProof.Rows.Boot.«len» (af (dv 1) aw))))
 (aK (df (i:=4) (nd 40) rfl (PR rfl) (rM 0 (aX T) hr (bg (aS (E:=E0) (dv 3)) bQ)))
 (aK (df (i:=5) (nd 40) rfl (PR rfl) (Dz (pV (aS (E:=E0) (dP (dv 4) aj)) (rM 0 (aX T) hr (bg (aS (E:=E0) (mR (dv 3) aj)) bQ))) (aS (E:=E0) (dv 3))))
 (aK (u4 (uC (E:=E0) (eE hr.units) gC (rM 0 (aX T) hr (bg (aS (E:=E0) aj) bQ)) (aS (E:=E0) aj) nm)
 (aK (dk (E:=E0) λvs=>(aY (i:=4) (nd 40) rfl (PR rfl) (fI (dv 2) (dv 3))))
 (aK (dk (E:=E0) λvs=>(aY (i:=5) (nd 40) rfl (PR rfl) (fI (dP (dv 2) aj) (dv 3))))
 cm))
 cm)
 (aK (df (i:=6) (nd 40) rfl (PR rfl) (uD (aS (E:=E0) (dy (af ee (af ee aw)))) (rM 0 (aX T) hr (bg (aS (E:=E0) aj) bQ))))
 (aK (df (i:=7) (nd 40) rfl (PR rfl) (rM 0 (jq T) hr (bg (aS (E:=E0) aj) bQ)))
 (aK (df (i:=8) (nd 40) rfl (PR rfl) (rM 0 (jq T) hr (bg (aS (E:=E0) aj) bQ)))
 (aK (u4 (uC (E:=E0) (eE hr.units) gC (rM 0 (aX T) hr (bg (aS (E:=E0) aj) bQ)) (aS (E:=E0) aj) nm)
 (aK (dk (E:=E0) λvs=>(aY (i:=8) (nd 40) rfl (PR rfl) b5))
 cm)
 cm)
 (aK (gu (E:=E0) (cW (af (aq (dv 1) (dv 4)) (af (aq (dv 1) (dv 5)) (af (dv 6) (af (dv 7) (af (dv 8) aw)))))))
 cm))))))))))
def vE(T:Txt K mg t):eU P w K mg base CX0 4 (t.A 41) (t.Q 41) ["_law_state","_law_most","_law_more"] (EU K 2 dq) "_law_web" (top 58) :=
 oM T.g sc (i:=41) rfl rfl λ_ _ _ _ _ _ _ _ _ hr=>(
 (aK (df (i:=3) (nd 41) rfl (PR rfl) (rM 0 (rg T) hr (bg (pV (aS (E:=E0) aj) (rM 0 (aX T) hr (bg (aS (E:=E0) (mR (dv 1) aj)) bQ))) bQ)))
 (aK (dk (E:=E0) λvs=>(aY (i:=4) (nd 41) rfl (PR rfl) (aT bz cp rfl T.n_len PyProof.Rows.Boot.«len» (af (dv 3) aw))))
 (aK (dk (E:=E0) λvs=>(jA (i:=5) (nd 41) rfl (PR rfl) (kR aw)))
 (aK (yB (E:=E0) Qt rfl (Aw rfl T.n_range (rM 0 (aX T) hr (bg (aS (E:=E0) (dP (dv 2) aj)) bQ))) (λvs=>(cb (i:=6) (nd 41) rfl (PR rfl))) cF
 (aK (Ag (i:=5) rfl (PR rfl) (rM 0 (vF T) hr (bg (aS (E:=E0) (dv 3)) (bg (aS (E:=E0) (dv 6)) bQ))))
 cm))
 (aK (dk (E:=E0) λvs=>(aY (i:=7) (nd 41) rfl (PR rfl) aj))
 (aK (dk (E:=E0) λvs=>(aY (i:=8) (nd 41) rfl (PR rfl) (mR (dv 4) aj)))
 (aK (u4 (uC (E:=E0) (eE hr.units) gC (rM 0 (aX T) hr (bg (aS (E:=E0) aj) bQ)) (aS (E:=E0) aj) nm)
 (aK (df (i:=7) (nd 41) rfl (PR rfl) (rM 0 (aX T) hr (bg (aS (E:=E0) (dv 4)) bQ)))
 (aK (df (i:=8) (nd 41) rfl (PR rfl) (Dz (pV (aS (E:=E0) (dP (dv 7) aj)) (rM 0 (aX T) hr (bg (aS (E:=E0) (mR (dv 4) aj)) bQ))) (aS (E:=E0) (dv 4))))
 cm))
 cm)
 (aK (gu (E:=E0) (cW (af (dv 3) (af (dv 5) (af (aq (dv 3) (dv 7)) (af (aq (dv 3) (dv 8)) aw))))))
 cm)))))))))
def ok_law(T:Txt K mg t):eU P w K mg base CX0 8 (t.A 42) (t.Q 42) ["_law_script"] (spD K 1 m_law) "law" (top 71) :=
 oD T.g sc (i:=42) rfl λ_ _ _ _ H _ _ hr=>(
 (ah (iN Qt rfl rfl T.n_range (aT (AX rfl) KO rfl T.n_max PyProof.Rows.Boot.«max» (af aj (af (aT (AW rfl) KN rfl T.n_min PyProof.Rows.Boot.«min» (af (aT bz cp rfl T.n_len PyProof.Rows.Boot.«len» (af (dv 0) aw)) (af aj aw))) aw))) (cb (i:=1) (nd 42) rfl (PR rfl)) cF
 (AK (i:=2) (nd 42) rfl (PR rfl) (rF (pq T) hr (af (dv 0) (af (dv 1) aw))) λa=>(aK (df (i:=3) (nd 42) rfl (PR rfl) (rM 2 (vE T) hr (bg (aS (E:=E0) aj) (bg (aS (E:=E0) aj) bQ))))
 (aK (dk (E:=E0) λvs=>(aY (i:=4) (nd 42) rfl (PR rfl) (aT (ke hr) oA rfl T.n_repr PyProof.Rows.Boot.«repr» (af (dv 3) aw))))
 (Af (E:=E0) [3] (nd 42) rfl (PR rfl) T.nl (λ_ h=>h) (rU (pe T) hr (af (dv 3) aw))
 (Ht (E:=E0) (bZ (bH (rC (rf T) hr (af (dv 3) (af (dv 5) aw)))))
 (aK (gu (E:=E0) dX)
 cm)
 (Ig (E:=E0) (i:=6) (nd 42) rfl (PR rfl) (aT (ke hr) oA rfl T.n_repr PyProof.Rows.Boot.«repr» (af (dv 5) aw))
 (ED (E:=E0) (i:=7) (nd 42) rfl rfl (uG ["_law_value_here","_law_way"] 2 [] rfl (ka (dv 5)) (uW (by decide)) (λs H C fp pn=>⟨λHe η=>(kQ rfl (cf (i:=0) (show RG (["_law_value_here","_law_way"]:bi) from by decide) rfl (PR rfl) (cf (i:=1) (show RG (["_law_value_here","_law_way"]:bi) from by decide) rfl (PR rfl) gI))),iO,(lY (aR eD eG (dv 1) b5 nm) aj (dP aj (aT bz cp rfl T.n_len PyProof.Rows.Boot.«len» (af (dv 1) aw))))⟩) ⟨rfl,rfl⟩ rfl rfl rfl rfl)
 (Ih Qt rfl (nd 42) rfl rfl rfl (PR rfl) (PR rfl) (cf (i:=8) (nd 42) rfl (PR rfl) (cf (i:=9) (nd 42) rfl (PR rfl) gI))
 (Ht (E:=E0) (aR (d6 hr.units) f9 (dv 7) (nv (uG ["_law_value_here","_law_way"] 2 [] rfl (ka (dv 5)) (uW (by decide)) (λs H C fp pn=>⟨λHe η=>(kQ rfl (cf (i:=0) (show RG (["_law_value_here","_law_way"]:bi) from by decide) rfl (PR rfl) (cf (i:=1) (show RG (["_law_value_here","_law_way"]:bi) from by decide) rfl (PR rfl) gI))),iO,(lY (aR eD eG (dv 1) b5 nm) aj (aT bz cp rfl T.n_len PyProof.Rows.Boot.«len» (af (dv 1) aw)))⟩) ⟨rfl,rfl⟩ rfl rfl rfl rfl)) nm)
 (aK (gu (E:=E0) dX)
 cm)
 (Ii rfl (PR rfl)
 (aK (u4 (Dy (E:=E0) (DW.dt (c6 (aR (d6 hr.units) f9 (aT (ke hr) oA rfl T.n_repr PyProof.Rows.Boot.«repr» (af (rC (qW T) hr (af (dv 3) aw)) aw)) (dv 6) nm) (bf (aR (d6 hr.units) f9 (aT (ke hr) oA rfl T.n_repr PyProof.Rows.Boot.«repr» (af (dv 3) aw)) (dv 4) nm)))))
 (aK (gu (E:=E0) dX)
 cm)
 cm)
 cm))))))))))))
 (ah (aP dX)
 ak)))
end
def txt_mk{K:Px}{h:Qo}{mg:PY->Option Pw}(X:K.In h)(G:h.Ns P8 mg){a0 a1 a2 a3 a4 a5 a6 a7 a8 a9 a10 a11 a12 a13 a14 a15 a16 a17 a18 a19 a20 a21 a22 a23 a24 a25 a26 a27 a28 a29 a30 a31 a32 a33 a34 a35 a36 a37 a38 a39 a40 a41 a42:Py}(qs:QAs K rows [a0,a1,a2,a3,a4,a5,a6,a7,a8,a9,a10,a11,a12,a13,a14,a15,a16,a17,a18,a19,a20,a21,a22,a23,a24,a25,a26,a27,a28,a29,a30,a31,a32,a33,a34,a35,a36,a37,a38,a39,a40,a41,a42])
  (z_abs:Q9 K P8 "abs"=some none)
  (z_all:Q9 K P8 "all"=some none)
  (z_bool:Q9 K P8 "bool"=some none)
  (z_enumerate:Q9 K P8 "enumerate"=some none)
  (z_int:Q9 K P8 "int"=some none)
  (z_isinstance:Q9 K P8 "isinstance"=some none)
  (yq:Q9 K P8 "len"=some none)
  (z_list:Q9 K P8 "list"=some none)
  (z_max:Q9 K P8 "max"=some none)
  (z_min:Q9 K P8 "min"=some none)
  (z_range:Q9 K P8 "range"=some none)
  (z_repr:Q9 K P8 "repr"=some none)
  (z_str:Q9 K P8 "str"=some none)
  (z_tuple:Q9 K P8 "tuple"=some none)
  {nP:Tok}(nN:Q9 K P8 "FEWEST_PLACES"=some (some (.int 2 nP)))
  {EK:Tok}(Em:Q9 K P8 "FIRST"=some (some (.int 2 EK)))
  {Io:Tok}(HV:Q9 K P8 "LAST"=some (some (.int 3 Io)))
  {BA:Tok}(Bf:Q9 K P8 "LENGTH"=some (some (.int 3 BA)))
  {Ab:Tok}(zU:Q9 K P8 "LETTERS"=some (some (.str "abcdefghijklmnopqrstuvwxyz" Ab)))
  {oP:Tok}(oG:Q9 K P8 "LONGEST_NAME"=some (some (.int 8 oP)))
  {qQ:Tok}(qP:Q9 K P8 "MOST_PLACES"=some (some (.int 7 qQ)))
  {uX:Tok}(uS:Q9 K P8 "MOST_TIES"=some (some (.int 14 uX)))
  {Lr:Tok}(Ll:Q9 K P8 "ONE"=some (some (.int 0 Lr)))
  {EJ:Tok}(El:Q9 K P8 "OTHER"=some (some (.int 1 EJ)))
  {Bz:Tok}(Be:Q9 K P8 "PLACES"=some (some (.int 0 Bz)))
  {Im:Tok}(HU:Q9 K P8 "TIES"=some (some (.int 1 Im)))
  {Il:Tok}(HS:Q9 K P8 "WORD"=some (some (.int 2 Il)))
  {yJ:Py}{zb:Obj}(Ek:Q9 K P8 "WORDS"=some (some (.ref yJ))) (Ep:K.lookup yJ=some zb) (Ez:∃od its n sl vs,zb=⟨.type "tuple",od,.seq its n,sl⟩/\bG vs its.toList/\its.size<=sizeLine/\∀H,Reps K H [.str "one",.str "both"] vs)
  {EI:Tok}(Ej:Q9 K P8 "WORTH"=some (some (.int 4 EI)))
  (nl:Jl K=true) :
  ∃t:Adr,Txt K mg t/\t.A 42=a42/\∃kV doc pm an cdv ct,t.Q 42=Sq "law" "law" (defArgs (top 71)) (defBody (top 71)) (defScope (top 71)) .none kV doc pm an cdv ct:=by
 obtain⟨Q,hQ⟩:=Hu X G bn qs;have D_law:=(hQ 42 _ rfl).2;refine⟨⟨λi=>[a0,a1,a2,a3,a4,a5,a6,a7,a8,a9,a10,a11,a12,a13,a14,a15,a16,a17,a18,a19,a20,a21,a22,a23,a24,a25,a26,a27,a28,a29,a30,a31,a32,a33,a34,a35,a36,a37,a38,a39,a40,a41,a42].getD i 0,Q⟩,⟨λi r h=>(hQ i r h).1,Q2 X G z_abs,Q2 X G z_all,Q2 X G z_bool,Q2 X G z_enumerate,Q2 X G z_int,Q2 X G z_isinstance,Q2 X G yq,Q2 X G z_list,Q2 X G z_max,Q2 X G z_min,Q2 X G z_range,Q2 X G z_repr,Q2 X G z_str,Q2 X G z_tuple,?fJ,?l5,?kW,?l4,?mW,?gj,?gR,?jD,?qm,?iS,?gi,?kU,?ql,?uL,?uK,zd nl⟩,rfl,D_law⟩
 case fJ=>exact dG (R7 X G nN)
 case l5=>exact dG (R7 X G Em)
 case kW=>exact dG (R7 X G HV)
 case l4=>exact dG (R7 X G Bf)
 case mW=>exact FJ (R7 X G zU)
 case gj=>exact dG (R7 X G oG)
 case gR=>exact dG (R7 X G qP)
 case jD=>exact dG (R7 X G uS)
 case qm=>exact dG (R7 X G Ll)
 case iS=>exact dG (R7 X G El)
 case gi=>exact dG (R7 X G Be)
 case kU=>exact dG (R7 X G HU)
 case ql=>exact dG (R7 X G HS)
 case uL=>
  obtain⟨od,its,n,sl,vs,rfl,h1,h2,h3⟩:=Ez;exact FI (R7 X G Ek) Ep h1 h2 h3
 case uK=>exact dG (R7 X G Ej)
def txt_wr{K:Px}{mg:PY->Option Pw}{a:Py}{R:Adr->Prop}(h:∃t:Adr,Txt K mg t/\t.A 42=a/\R t):∃t:Adr,Txt K mg t/\mg "law"=some (.ref (t.A 42))/\R t:=h.elim λt ⟨T,_,r⟩=>⟨t,T,(T.g 42 _ rfl).g,r⟩
end K19
namespace Bfd
open PySem L2 DL Com Bor Pth Vlu
open K11 (nums ways pr there oS)
open K51 (Bd pl)
noncomputable abbrev hB:am :=
 (aA (bq 8 (ao (ag (aa 6) (ag (aa 7) aC)) bh))
 (aA (dQ (gf (ae (aa 5) (aa 1) c9) (gf (ae (aa 8) (dC (.non)) gJ) (ae (aa 7) (aa 2) pZ)))
 (aA (oV 9 (ao (ag (ae (aa 2) (aa 7) eO) (ag (ae (aa 6) (dC (.int 3)) aN) aC)) bE))
 (aA (dQ (gV (ae (aa 8) (aa 2) fq) (ao (ag (aa 9) (ag (ae (aa 2) (aa 8) eO) aC)) cA))
 (aA (ng 2 (aa 9) (aa 8))
 (aA (bq 4 (dC (.bl false)))
 ar))
 ar)
 ar))
 ar)
 ar))
abbrev tB:am :=
 (aA (bq 6 (ae (ae (aa 0) (dC (.int 1)) aN) (aa 5) aN))
 (aA (kr (Ad (AR (aa 6) fM (fz (dC (.int 2))))) (bJ 7)
 hB)
 ar))
abbrev rB:am :=
 (aA (bq 4 (dC (.bl true)))
 (aA (kq (ao (ag (ae (aa 0) (dC (.int 1)) aN) aC) (m1 bS)) (bJ 5)
 tB)
 (aA (dQ (aa 4)
 (aA (bD (aa 2))
 ar)
 ar)
 ar)))
def Pl(x:Sl):Prop:=x=.no∨∃d,x=.sh d
def je(w:cG)(tk:bm)(S:BS)(c:Bool)(x3 x5 x6 x7 x8 x9:Sl):Ev:=[.sh (aL w),.sh (bT tk),.ow (d9 w S),x3,.sh (.bl (!c)),x5,x6,x7,x8,x9]
def zx(zs:List Int)(tk:bm)(n:Nat)(t:jJ)(z:PY)(r:BS×Bool):BS×Bool:=if n∈tk then r else match there t z with
 |none=>r
 |some b=>((gz zs ⟨n,z,b⟩ r.1).1,r.2||(gz zs ⟨n,z,b⟩ r.1).2)
section
variable {w:cG}(W:cH w) (hw:∀t∈w.ts,eS t) {tk:bm}
include W hw
theorem zv{n:Nat}{t:jJ}(ht:w.ts[n]?=some t){z:PY}{S:BS}{c:Bool}(K:eh w tk S){x3 x8 x9:Sl}(h3:Pl x3)(h9:Pl x9) :
  ∃y8 y9,hB (je w tk S c x3 (.sh (.int (n:Int))) (.sh (bC t)) (.sh (.str z)) x8 x9)=.ok (.nx (je w tk (zx (lz w) tk n t z (S,c)).1 (zx (lz w) tk n t z (S,c)).2 x3 (.sh (.int (n:Int))) (.sh (bC t)) (.sh (.str z)) y8 y9))/\Pl y8/\Pl y9:=by
 have hth:=K11.there_ok (t:=t) (z:=z);have hni:=K11.notIn_nums (ks:=tk) (n:=n);have hni:c9 (.int (n:Int)) (bT tk)=.ok (.bl (!(decide (n∈tk)))):=hni;have i3:aN (bC t) (.int 3)=.ok (fr t.l):=rfl;unfold zx
 by_cases hk:n∈tk
 .rw[decide_eq_true hk]at hni
  refine⟨.sh (oS (there t z)),x9,?_,.inr ⟨_,rfl⟩,h9⟩;rw[if_pos hk];unfold je;open_line with[hth,hni]
 .rw[decide_eq_false hk]at hni
  simp only[if_neg hk];cases hz:there t z with
  |none=>
   rw[hz]at hth;have hth:bh [bC t,.str z]=.ok .non:=hth;refine⟨.sh .non,x9,?_,.inr ⟨_,rfl⟩,h9⟩;unfold je;open_line with[hth,hni]
  |some b=>
   rw[hz]at hth;have hth:bh [bC t,.str z]=.ok (.str b):=hth;have hin:=Kz (w:=w) (S:=S) (p:=z);have hN:gJ (.str b) .non=.ok (.bl true):=rfl;unfold gz;simp only
   by_cases ha:z∈S.ks
   .rw[decide_eq_true ha]at hin
    have hg:=zK (w:=w) ha;obtain⟨z0,z1⟩:=yp W hw K ha;obtain⟨n0,n1⟩:=Jo W hw n;have n1:c7 (lz w) n<=uQ:=n1;have hpl:=K51.lplus_bd (Bc W hw z0 (by omega)) (C7 (W.ts t (PU ht)).l) (by decide);rw[IY W hw ht]at hpl;have hpl:bE [fr (b6 (S.Z z) (lB w)),fr t.l]=.ok (fr (b6 (S.Z z+c7 (lz w) n) (lB w))):=hpl;have hnd:nd (fr (b6 (S.Z z+c7 (lz w) n) (lB w)))=true:=rfl;have hoD:∀d8:D,lI (je w tk S c x3 (.sh (.int (n:Int))) (.sh (bC t)) (.sh (.str z)) (.sh d8) x9)=true:=by
     intro d8;rcases h3 with rfl|⟨_,rfl⟩<;>rcases h9 with rfl|⟨_,rfl⟩<;>rfl
    have hoD:=hoD (.str b);unfold je at hoD;have hnb:=AN (w:=w) (S:=S) (p:=b);have hlen:decide (S.ks.length<=900)=true:=decide_eq_true (by have:=Cod.nodup_le K.nd K.pl;have:=W.n7;omega);have hput:=GY (w:=w) (S:=S) (b:=b) (z:=S.Z z+c7 (lz w) n);have hp1:∀(f k:al) (ρ:Ev),Ca 2 f k ρ (some (.ow (d9 w S)))=(f ρ).bind (B8 2 k ρ S.ks (S.ks.map λp=>fr (b6 (S.Z p) (lB w)))):=λ_ _ _=>lU
    by_cases hb:b∈S.ks
    .rw[decide_eq_true hb]at hnb
     have hgb:=zK (w:=w) hb;obtain⟨b0,b1⟩:=yp W hw K hb;have hls:=K51.lless_bd (Bc W hw (z:=S.Z z+c7 (lz w) n) (by omega) (by omega)) (Bc W hw b0 (by omega)) (by decide) (by decide);rw[FQ W hw]at hls;have hls:cA [fr (b6 (S.Z z+c7 (lz w) n) (lB w)),fr (b6 (S.Z b) (lB w))]=.ok (.bl (decide (S.Z z+c7 (lz w) n<S.Z b))):=hls
     by_cases hlt:S.Z z+c7 (lz w) n<S.Z b
     .rw[decide_eq_true hlt]at hls
      rw[if_pos ⟨ha,.inr hlt⟩];refine⟨.sh (.str b),.sh (fr (b6 (S.Z z+c7 (lz w) n) (lB w))),?_,.inr ⟨_,rfl⟩,.inr ⟨_,rfl⟩⟩;unfold je;open_line with[hth,hni,hN,hin,hg,i3,hpl,kP,iK hnd hoD,hnb,hgb,hls,mM,hp1,j8,j7 hlen,hput,Bool.or_true]
     .rw[decide_eq_false hlt]at hls
      rw[if_neg (by rintro⟨_,h|h⟩;exact h hb;exact hlt h)];refine⟨.sh (.str b),.sh (fr (b6 (S.Z z+c7 (lz w) n) (lB w))),?_,.inr ⟨_,rfl⟩,.inr ⟨_,rfl⟩⟩;unfold je;open_line with[hth,hni,hN,hin,hg,i3,hpl,kP,iK hnd hoD,hnb,hgb,hls,Up]
    .rw[decide_eq_false hb]at hnb
     rw[if_pos ⟨ha,.inl hb⟩];refine⟨.sh (.str b),.sh (fr (b6 (S.Z z+c7 (lz w) n) (lB w))),?_,.inr ⟨_,rfl⟩,.inr ⟨_,rfl⟩⟩;unfold je;open_line with[hth,hni,hN,hin,hg,i3,hpl,kP,iK hnd hoD,hnb,mM,hp1,j8,j7 hlen,hput,Bool.or_true]
   .rw[decide_eq_false ha]at hin
    rw[if_neg (λh=>ha h.1)];refine⟨.sh (.str b),x9,?_,.inr ⟨_,rfl⟩,h9⟩;unfold je;open_line with[hth,hni,hN,hin,Up]
theorem AH{n:Nat}{t:jJ}(ht:w.ts[n]?=some t){z:PY}(hz:z=t.a∨z=t.b){S:BS}{c:Bool}(K:eh w tk S):eh w tk (zx (lz w) tk n t z (S,c)).1:=by
 unfold zx;split
 .exact K
 .rename_i hk
  split
  .exact K
  .rename_i b hb
   have hs:(⟨n,z,b⟩:nM)∈aV w tk:=by
    refine dA.mpr ⟨t,ht,hk,?_⟩;unfold there at hb;show(z,b)∈ways t;unfold ways;have T:=W.ts t (PU ht);split at hb
    .rename_i e
     cases hb;rw[←e];split<;>simp
    .split at hb
     .rename_i e
      cases hb;have:t.w≠"one":=by rw[e.2];decide
      rw[if_neg this,←e.1];simp
     .cases hb
   exact(u9 W hw K hs).1
theorem JA{n:Nat}{t:jJ}(ht:w.ts[n]?=some t){r:BS×Bool}:zx (lz w) tk n t t.b (zx (lz w) tk n t t.a r)=dM (lz w) (ck tk n t) r:=by
 have T:=W.ts t (PU ht);obtain⟨S,c⟩:=r;unfold ck zx
 by_cases hk:n∈tk
 .simp only[if_pos hk];rfl
 .simp only[if_neg hk]
  have h1:there t t.a=some t.b:=by unfold there;rw[if_pos rfl]
  have hne:t.a≠t.b:=T.ne;rw[h1];unfold ways;rcases T.w with e|e
  .have h2:there t t.b=none:=by unfold there;rw[if_neg hne,if_neg (by rw[e];rintro⟨_,h⟩;exact absurd h (by decide))]
   rw[h2,if_pos e];rfl
  .have h2:there t t.b=some t.a:=by unfold there;rw[if_neg hne,if_pos ⟨rfl,e⟩]
   rw[h2,if_neg (by rw[e];decide)];rfl
theorem Ij{n:Nat}{t:jJ}(ht:w.ts[n]?=some t){S:BS}{c:Bool}(K:eh w tk S){x3 x6 x7 x8 x9:Sl}(h3:Pl x3)(h9:Pl x9) :
  ∃y6 y7 y8 y9,tB (je w tk S c x3 (.sh (.int (n:Int))) x6 x7 x8 x9)=.ok (.nx (je w tk (dM (lz w) (ck tk n t) (S,c)).1 (dM (lz w) (ck tk n t) (S,c)).2 x3 (.sh (.int (n:Int))) y6 y7 y8 y9))/\Pl y9:=by
 have i1:aN (aL w) (.int 1)=.ok (.lst (w.ts.map bC)):=rfl;have hix:=wW ht;obtain⟨a8,a9,e1,_,p9⟩:=zv W hw ht (z:=t.a) (c:=c) K (x3:=x3) (x8:=x8) (x9:=x9) h3 h9;have K1:=AH W hw ht (z:=t.a) (.inl rfl) (c:=c) K;obtain⟨b8,b9,e2,_,q9⟩:=zv W hw ht (z:=t.b) (c:=(zx (lz w) tk n t t.a (S,c)).2) K1 (x3:=x3) (x8:=a8) (x9:=a9) h3 p9;have hg:zx (lz w) tk n t t.b ((zx (lz w) tk n t t.a (S,c)).1,(zx (lz w) tk n t t.a (S,c)).2)=dM (lz w) (ck tk n t) (S,c):=JA W hw ht;rw[hg]at e2;refine⟨.sh (bC t),.sh (.str t.b),b8,b9,?_,q9⟩;have hsl:BH (bC t) none (some 2)=.ok (.tup [.str t.a,.str t.b]):=(Dg (by rfl)).trans rfl;have hl:bW (bJ 7) hB [.str t.a,.str t.b] (je w tk S c x3 (.sh (.int (n:Int))) (.sh (bC t)) x7 x8 x9)=.ok (.nx (je w tk (dM (lz w) (ck tk n t) (S,c)).1 (dM (lz w) (ck tk n t) (S,c)).2 x3 (.sh (.int (n:Int))) (.sh (bC t)) (.sh (.str t.b)) b8 b9)):=by
  rw[dZ (ρ1:=je w tk S c x3 (.sh (.int (n:Int))) (.sh (bC t)) (.sh (.str t.a)) x8 x9) rfl e1,dZ (ρ1:=je w tk (zx (lz w) tk n t t.a (S,c)).1 (zx (lz w) tk n t t.a (S,c)).2 x3 (.sh (.int (n:Int))) (.sh (bC t)) (.sh (.str t.b)) a8 a9) rfl e2];rfl
 unfold je at hl ⊢;open_line with[i1,hix,hsl,hl]
theorem n9:∀(ts:List jJ) (n:Nat) {S:BS}{c:Bool},(∀j t,ts[j]?=some t->w.ts[n+j]?=some t)->eh w tk S->∀{x3 x5 x6 x7 x8 x9:Sl},Pl x3->Pl x9 ->
  ∃y5 y6 y7 y8 y9,bW (bJ 5) tB (DL.intsFrom (n:Int) ts.length) (je w tk S c x3 x5 x6 x7 x8 x9)=.ok (.nx (je w tk (dM (lz w) (cN tk n ts) (S,c)).1 (dM (lz w) (cN tk n ts) (S,c)).2 x3 y5 y6 y7 y8 y9))/\Pl y9
 |[],n,S,c,_,K,x3,x5,x6,x7,x8,x9,h3,h9=>⟨x5,x6,x7,x8,x9,rfl,h9⟩
 |t::ts,n,S,c,ht,K,x3,x5,x6,x7,x8,x9,h3,h9=>by
  have h0:w.ts[n]?=some t:=ht 0 t rfl;obtain⟨y6,y7,y8,y9,e1,p9⟩:=Ij W hw h0 (c:=c) K (x6:=x6) (x7:=x7) (x8:=x8) h3 h9;have hsub:∀s∈ck tk n t,s∈aV w tk:=by
   intro s hs;unfold ck at hs;split at hs
   .cases hs
   .rename_i hk
    obtain⟨p,hp,rfl⟩:=Qp.mp hs;exact dA.mpr ⟨t,h0,hk,hp⟩
  have K1:=(jU W hw (ck tk n t) hsub (c:=c) K).1;obtain⟨z5,z6,z7,z8,z9,e2,q9⟩:=n9 ts (n+1) (S:=(dM (lz w) (ck tk n t) (S,c)).1) (c:=(dM (lz w) (ck tk n t) (S,c)).2) (λj u hj=>by
   have:=ht (j+1) u (by simpa using hj);rw[show n+1+j=n+(j+1) by omega];exact this) K1 (x3:=x3) (x5:=.sh (.int (n:Int))) (x6:=y6) (x7:=y7) (x8:=y8) h3 p9
  refine⟨z5,z6,z7,z8,z9,?_,q9⟩;have hI:DL.intsFrom (n:Int) (t::ts).length=.int (n:Int)::DL.intsFrom ((n+1:Nat):Int) ts.length:=by
   unfold DL.intsFrom;rw[Qj,RW,PQ,QH];simp;intro a _;omega
  rw[hI,dZ (ρ1:=je w tk S c x3 (.sh (.int (n:Int))) x6 x7 x8 x9) rfl e1,e2,cN,vm]
theorem B0{S:BS}{c:Bool}(K:eh w tk S){x3 x5 x6 x7 x8 x9:Sl}(h3:Pl x3)(h9:Pl x9) :
  ((dM (lz w) (aV w tk) (S,false)).2=false/\rB (je w tk S c x3 x5 x6 x7 x8 x9)=.ok (.rt (d9 w S))) ∨
  ((dM (lz w) (aV w tk) (S,false)).2=true/\∃y5 y6 y7 y8 y9,rB (je w tk S c x3 x5 x6 x7 x8 x9)=.ok (.nx (je w tk (dM (lz w) (aV w tk) (S,false)).1 true x3 y5 y6 y7 y8 y9))/\Pl y9):=by
 have t14:=W.t14;have i1:aN (aL w) (.int 1)=.ok (.lst (w.ts.map bC)):=rfl;have hlen:bS (.lst (w.ts.map bC))=.ok (.int w.ts.length):=by rw[dm,Pz]
 obtain⟨y5,y6,y7,y8,y9,e,p9⟩:=n9 W hw w.ts 0 (S:=S) (c:=false) (λj t h=>by rw[Te];exact h) K (x3:=x3) (x5:=x5) (x6:=x6) (x7:=x7) (x8:=x8) h3 h9;have hL:cN tk 0 w.ts=aV w tk:=rfl;rw[hL]at e;have hfr:=eL (tg:=bJ 5) (s:=tB) (ρ:=je w tk S false x3 x5 x6 x7 x8 x9) (k:=w.ts.length) (by omega);have e:bW (bJ 5) tB (DL.intsFrom 0 w.ts.length) (je w tk S false x3 x5 x6 x7 x8 x9)=.ok (.nx (je w tk (dM (lz w) (aV w tk) (S,false)).1 (dM (lz w) (aV w tk) (S,false)).2 x3 y5 y6 y7 y8 y9)):=e;cases hc:(dM (lz w) (aV w tk) (S,false)).2 with
 |false=>
  have hS:=((jU W hw (aV w tk) (λs h=>h) (c:=false) K).2.2.2 hc).2;rw[hc,hS]at e;refine .inl ⟨rfl,?_⟩;unfold je at hfr e ⊢;simp only[RQ,R6]at hfr e ⊢;open_line with[i1,hlen,hfr,e]
 |true=>
  rw[hc]at e;refine .inr ⟨rfl,y5,y6,y7,y8,y9,?_,p9⟩;unfold je at hfr e ⊢;simp only[RQ,R6]at hfr e ⊢;open_line with[i1,hlen,hfr,e]
end
open K11 (nums ways pr there oS)
open K51 (Bd pl)
def N0{b:Int}(hb:0<b):b6 0 b=(0,1):=by
 refine pz (cU hb) ⟨by decide,by decide⟩ ?_;show(b6 0 b).1*1=0*(b6 0 b).2;unfold b6;simp
section
variable {w:cG}(W:cH w) (hw:∀t∈w.ts,eS t) {tk:bm}
include W hw
theorem rX:∀(m r:Nat) {S:BS}{c:Bool}(i:Int),eh w tk S->Rd w tk r S->∀{x3 x5 x6 x7 x8 x9:Sl},Pl x9 ->
  (∃S',eh w tk S'/\(∀k,Rd w tk k S')/\bW (bJ 3) rB (DL.intsFrom i m) (je w tk S c x3 x5 x6 x7 x8 x9)=.ok (.rt (d9 w S'))) ∨
  (∃S' c' y3 y5 y6 y7 y8 y9,eh w tk S'/\Rd w tk (r+m) S'/\bW (bJ 3) rB (DL.intsFrom i m) (je w tk S c x3 x5 x6 x7 x8 x9)=.ok (.nx (je w tk S' c' y3 y5 y6 y7 y8 y9)))
 |0,r,S,c,i,K,R,x3,x5,x6,x7,x8,x9,h9=>.inr ⟨S,c,x3,x5,x6,x7,x8,x9,K,R,rfl⟩
 |m+1,r,S,c,i,K,R,x3,x5,x6,x7,x8,x9,h9=>by
  have hI:DL.intsFrom i (m+1)=.int i::DL.intsFrom (i+1) m:=by
   unfold DL.intsFrom;rw[RW,PQ,QH];simp;intro a _;omega
  rw[hI];have hg:bJ 3 (je w tk S c x3 x5 x6 x7 x8 x9) (.int i)=.ok (je w tk S c (.sh (.int i)) x5 x6 x7 x8 x9):=rfl;rcases B0 W hw (c:=c) K (x3:=.sh (.int i)) (x5:=x5) (x6:=x6) (x7:=x7) (x8:=x8) (x9:=x9) (.inr ⟨_,rfl⟩) h9 with⟨hc,e⟩|⟨hc,y5,y6,y7,y8,y9,e,p9⟩
  .refine .inl ⟨S,K,λk=>E3 W hw K hc k,?_⟩
   unfold bW;rw[hg,lS,e,lS]
  .have K1:=(jU W hw (aV w tk) (λs h=>h) (c:=false) K).1
   have R1:=E2 W hw (c:=false) K R;rcases rX m (r+1) (S:=(dM (lz w) (aV w tk) (S,false)).1) (c:=true) (i+1) K1 R1 (x3:=.sh (.int i)) (x5:=y5) (x6:=y6) (x7:=y7) (x8:=y8) p9 with⟨S',a1,a2,a3⟩|⟨S',c',z3,z5,z6,z7,z8,z9,a1,a2,a3⟩
   .exact .inl ⟨S',a1,a2,by rw[dZ hg e];exact a3⟩
   .refine .inr ⟨S',c',z3,z5,z6,z7,z8,z9,a1,?_,by rw[dZ hg e];exact a3⟩
    rw[show r+(m+1)=r+1+m by omega];exact a2
theorem JC:∃S,eh w tk S/\Rd w tk w.ps.length S/\bL [aL w,bT tk]=.ok (d9 w S):=by
 have n7:=W.n7;have i0:aN (aL w) (.int 0)=.ok (.lst (w.ps.map D.str)):=rfl;have i2:aN (aL w) (.int 2)=.ok (.str w.fi):=rfl;have hlen:bS (.lst (w.ps.map D.str))=.ok (.int w.ps.length):=by rw[dm,Pz]
 have K0:eh w tk ⟨[w.fi],λ_=>0⟩:=⟨by simp,λp hp=>by rw[QP]at hp;subst hp;exact W.fi,by simp,RA _,λp hp=>by
  rw[QP]at hp;subst hp;exact⟨[],.nil,rfl⟩,λp _=>by show(0:Int)<=((1:Int)-1)*uQ;simp⟩
 have hd:D.dic [w.fi] [.tup [.int 0,.int 1]]=d9 w ⟨[w.fi],λ_=>0⟩:=by
  unfold d9;rw[PQ,Q3,N0 (gE W).1];rfl
 have hown:∀ρ:Ev,yT 2 ρ (d9 w ⟨[w.fi],λ_=>0⟩)=.ok (.nx (ρ.set 2 (.ow (d9 w ⟨[w.fi],λ_=>0⟩)))):=λ_=>iL;have hfr:=eL (tg:=bJ 3) (s:=rB) (ρ:=[.sh (aL w),.sh (bT tk),.ow (d9 w ⟨[w.fi],λ_=>0⟩),.no,.no,.no,.no,.no,.no,.no]) (k:=w.ps.length) (by omega);have hr:∀(d3:D) (x4 x4':Sl),rB [.sh (aL w),.sh (bT tk),.ow (d9 w ⟨[w.fi],λ_=>0⟩),.sh d3,x4,.no,.no,.no,.no,.no]=rB [.sh (aL w),.sh (bT tk),.ow (d9 w ⟨[w.fi],λ_=>0⟩),.sh d3,x4',.no,.no,.no,.no,.no]:=λ_ _ _=>rfl;have start:∀(d:D) (ds:ac),bW (bJ 3) rB (d::ds) [.sh (aL w),.sh (bT tk),.ow (d9 w ⟨[w.fi],λ_=>0⟩),.no,.no,.no,.no,.no,.no,.no]=bW (bJ 3) rB (d::ds) (je w tk ⟨[w.fi],λ_=>0⟩ false .no .no .no .no .no .no):=by
  intro d ds
  conv=>lhs;unfold bW
  conv=>rhs;unfold bW
  rw[show bJ 3 [.sh (aL w),.sh (bT tk),.ow (d9 w ⟨[w.fi],λ_=>0⟩),.no,.no,.no,.no,.no,.no,.no] d=.ok [.sh (aL w),.sh (bT tk),.ow (d9 w ⟨[w.fi],λ_=>0⟩),.sh d,.no,.no,.no,.no,.no,.no] from rfl,show bJ 3 (je w tk ⟨[w.fi],λ_=>0⟩ false .no .no .no .no .no .no) d=.ok [.sh (aL w),.sh (bT tk),.ow (d9 w ⟨[w.fi],λ_=>0⟩),.sh d,.sh (.bl true),.no,.no,.no,.no,.no] from rfl,lS,lS,hr d .no (.sh (.bl true))]
 obtain⟨m,hm⟩:∃m,w.ps.length=m+1:=⟨w.ps.length-1,by have:=W.n2;omega⟩
 have hI:DL.intsFrom 0 w.ps.length=.int 0::DL.intsFrom (0+1) m:=by
  rw[hm];unfold DL.intsFrom;rw[RW,PQ,QH];simp;intro a _;omega
 rcases rX W hw w.ps.length 0 (c:=false) 0 K0 (E1 W hw K0) (x3:=.no) (x5:=.no) (x6:=.no) (x7:=.no) (x8:=.no) (x9:=.no) (.inl rfl) with⟨S',a1,a2,a3⟩|⟨S',c',z3,z5,z6,z7,z8,z9,a1,a2,a3⟩
 .rw[hI,←start,←hI]at a3
  refine⟨S',a1,a2 _,?_⟩;open_line with[bL,kX,jz,oq,lV,i2,hd,hown,i0,hlen,hfr,a3]
 .rw[hI,←start,←hI]at a3
  rw[Te]at a2;refine⟨S',a1,a2,?_⟩;unfold je at a3;open_line with[bL,kX,jz,oq,lV,i2,hd,hown,i0,hlen,hfr,a3]
theorem FR:∃S,bL [aL w,bT tk]=.ok (d9 w S)/\∀{F:List de}{m:Int},k9 w tk (lz w) F m->n8 w tk F->∀(g:al) (ρ:Ev),g ρ=.ok (.str w.la)->pK g ρ (d9 w S)=.ok (bO w F):=by
 obtain⟨S,K,R,e⟩:=JC W hw (tk:=tk);refine⟨S,e,λRF SF g ρ hg=>?_⟩;have h:=IL W hw K R RF SF w.la;have ha:=uE (w:=w) (S:=S) (p:=w.la);unfold bO;cases hF:get _ w.la with
 |none=>
  rw[hF]at h
  by_cases hp:w.la∈S.ks
  .rw[if_pos hp]at h;cases h
  .rw[if_neg hp]at ha
   unfold pK d9;show(g ρ).bind _=_;rw[hg,lS];unfold uI;simp only[ha];rfl
 |some e=>
  rw[hF]at h
  by_cases hp:w.la∈S.ks
  .rw[if_pos hp]at h ha
   have hz:S.Z w.la=e.z:=QN h;rw[hz]at ha;unfold pK d9;show(g ρ).bind _=_;rw[hg,lS];unfold uI;simp only[ha];rfl
  .rw[if_neg hp]at h;cases h
end
end Bfd
namespace Vlx
open PySem L2 DL Com Bor Pth Vlu Bfd
open K51 (Bd pl)
section
variable {w:cG}(W:cH w)
noncomputable def FF(ks:bm):List de:=Classical.choose (Pth.shortest_ok W (ks:=ks))
theorem jN(ks:bm):∃m,k9 w ks (lz w) (FF W ks) m/\n8 w ks (FF W ks)/\K17.m_shortest [aL w,bT ks]=.ok (gq w (FF W ks)):=Classical.choose_spec (Pth.shortest_ok W (ks:=ks))
noncomputable def dg(ks:bm):Option Int:=(get (FF W ks) w.la).map (·.z)
def pD(w:cG):Option Int->D
 |none=>.non
 |some z=>fr (b6 z (lB w))
def vD(w:cG):Option Int->Option Int->D
 |none,_=>.str "none"
 |some _,none=>.str "cut"
 |some z,some z'=>fr (b6 (z' - z) (lB w))
theorem ve(ks:bm):bO w (FF W ks)=pD w (dg W ks):=by
 unfold bO dg;cases get (FF W ks) w.la<;>rfl
include W in
theorem CM{z z':Int}:mi (b6 z' (lB w)) (b6 z (lB w))=b6 (z' - z) (lB w):=by
 have hB:=(gE W).1;have q1:=(cU (a:=z) hB).q1;have q2:=(cU (a:=z') hB).q1;refine uU (cU (SI (by omega) (by omega))) (cU hB) ?_;have e:mi (b6 z' (lB w)) (b6 z (lB w))=b6 ((b6 z' (lB w)).1*(b6 z (lB w)).2-(b6 z (lB w)).1*(b6 z' (lB w)).2) ((b6 z' (lB w)).2*(b6 z (lB w)).2):=rfl;rw[e,fg (SI (by omega) (by omega)),fg hB];have h1:=fg (a:=z) hB;have h2:=fg (a:=z') hB;unfold val at h1 h2;have p1:=cc (show 0<(b6 z (lB w)).2 by omega);have p2:=cc (show 0<(b6 z' (lB w)).2 by omega);have p3:=cc hB;rw[Rat.intCast_sub,QT,QT,QT,Rat.intCast_sub]
 grind
theorem Bl(k:Nat):EB w (FF W []) (FF W [k])=vD w (dg W []) (dg W [k]):=by
 unfold EB dg;cases get (FF W []) w.la with
 |none=>rfl
 |some e=>
  cases get (FF W [k]) w.la with|none=>rfl|some e'=>show fr (mi _ _)=fr (b6 _ _);rw[CM W]
theorem jZ(hw:∀t∈w.ts,eS t){ks:bm}{z:Int}(h:dg W ks=some z):0<=z/\z<=7*uQ:=by
 obtain⟨m,R,S,_⟩:=jN W ks;unfold dg at h;cases hg:get (FF W ks) w.la with
 |none=>rw[hg]at h;cases h
 |some e=>
  rw[hg]at h;have hz:e.z=z:=QN h;obtain⟨h1,_⟩:=cQ hg;obtain⟨w1,w2,_,w4⟩:=R.wy e h1;have hl:=R.len W;obtain⟨s0,s1⟩:=oE W hw e.y;rw[←w2,hz]at s0 s1;have:(e.y.length:Int)*(1000000000000*60 ^ 14)<=7*(1000000000000*60 ^ 14):=Rj (by omega) (by decide);exact⟨s0,RX s1 this⟩
end
def eq_fr{x y:dS}:mS (fr x) (fr y)=.ok (.bl (decide (x=y))):=by
 obtain⟨a,b⟩:=x;obtain⟨c,d⟩:=y;have h:mS (fr (a,b)) (fr (c,d))=.ok (.bl ((a==c)&&((b==d)&&true))):=by
  unfold mS;rw[if_pos ⟨rfl,rfl⟩];show ai.ok (D.bl (cV (.tup [.int a,.int b]) (.tup [.int c,.int d])))=_;rw[cV,eqDs,eqDs,eqDs,cV,cV]
 rw[h]
 by_cases e:(a,b)=(c,d)
 .cases e;simp
 .rw[decide_eq_false e]
  have:((a==c)&&((b==d)&&true))=false:=by
   rw[Bool.and_true,Sz]
   by_cases h1:a=c
   .right;exact beq_eq_false_iff_ne.mpr λh2=>e (by rw[h1,h2])
   .left;exact beq_eq_false_iff_ne.mpr h1
  rw[this]
end Vlx
namespace K17
open PySem L2 DL Com Bor Pth
def rp_tup{ds:ac}{n k:Nat}(h:Rp (.tup ds) n k)(hn:n<=sizeLine)(hk:k<=100):∃z,eN (.tup ds)=.ok (.str z):=by
 obtain⟨p,h1,h2,h3,h4⟩:=h;refine⟨p.shown,?_⟩;unfold eN;rw[h1];show(if _ then _ else _)=_;have hs:ko p=true:=by
  unfold ko;rw[h2,decide_eq_true (Qh h3 hk),decide_eq_true (Qh h4 hn)];rfl
 rw[if_pos ⟨rfl,hs⟩]
end K17
namespace K20
open PySem L2 DL Com Bor Pth Vlu Bfd Vlx
open K51 (Bd pl)
abbrev rng(n:Nat):bm:=Q5 n
section
variable {w:cG}(W:cH w) (hw:∀t∈w.ts,eS t)
include W hw
theorem Bk(o o':Option Int)(h:∀z,o=some z->0<=z/\z<=7*uQ)(h':∀z,o'=some z->0<=z/\z<=7*uQ):bu [pD w o,pD w o']=.ok (vD w o o'):=by
 cases o with
 |none=>
  show bu [.non,pD w o']=.ok (.str "none");open_line with[Bfd.bu,Bfd.fQ]
 |some z=>
  cases o' with
  |none=>
   show bu [fr (b6 z (lB w)),.non]=.ok (.str "cut");open_line with[Bfd.bu,Bfd.fQ,uo]
  |some z'=>
   obtain⟨a0,a1⟩:=h z rfl;obtain⟨b0,b1⟩:=h' z' rfl;have hx:=Bc W hw b0 b1;have hy:=Bc W hw a0 a1;have b1:=hx.c60 (by decide);have b2:=hy.c60 (by decide);have hy':Bd (-(b6 z (lB w)).1,(b6 z (lB w)).2) 130:=⟨hy.q0,by show(-(b6 z (lB w)).1).natAbs<_;rw[Int.natAbs_neg];exact hy.a,hy.b⟩
   have hp:=K51.un_bd hx hy';have hc:=hp.c13 (by decide);have e:(b6 z' (lB w)).1*(b6 z (lB w)).2 + -(b6 z (lB w)).1*(b6 z' (lB w)).2=(b6 z' (lB w)).1*(b6 z (lB w)).2-(b6 z (lB w)).1*(b6 z' (lB w)).2:=by rw[Int.neg_mul];omega
   have hlo:bj [.int ((b6 z' (lB w)).1*(b6 z (lB w)).2-(b6 z (lB w)).1*(b6 z' (lB w)).2),.int ((b6 z' (lB w)).2*(b6 z (lB w)).2)]=.ok (fr (mi (b6 z' (lB w)) (b6 z (lB w)))):=by
    have h1:=hc.1;have h2:=hc.2;unfold un at h1 h2;simp only[e]at h1;exact Cod.low_ok hp.q0 h1 h2
   rw[CM W]at hlo;have m1:=cz (eI b1.1 b2.2);have m2:=cz (eI b2.1 b1.2);have m3:=cz (eI b1.2 b2.2);have i0:∀z:dS,aN (fr z) (.int 0)=.ok (.int z.1):=λ_=>rfl;have i1:∀z:dS,aN (fr z) (.int 1)=.ok (.int z.2):=λ_=>rfl;show bu [fr (b6 z (lB w)),fr (b6 z' (lB w))]=.ok (fr (b6 (z' - z) (lB w)));open_line with[Bfd.bu,Bfd.fQ,uo,i0,i1,m1,m2,m3,nX,hlo]
theorem C8(tk:bm):∃S,bL [aL w,bT tk]=.ok (d9 w S)/\∀(g:al) (ρ:Ev),g ρ=.ok (.str w.la)->pK g ρ (d9 w S)=.ok (pD w (dg W tk)):=by
 obtain⟨S,e,h⟩:=FR W hw (tk:=tk);obtain⟨m,R,SF,_⟩:=jN W tk;exact⟨S,e,λg ρ hg=>by rw[h R SF g ρ hg,ve W]⟩
theorem uT:bY [aL w]=.ok (.lst ((rng w.ts.length).map λk=>pD w (dg W [k]))):=by
 have t14:=W.t14;have i1:aN (aL w) (.int 1)=.ok (.lst (w.ts.map bC)):=rfl;have hlen:bS (.lst (w.ts.map bC))=.ok (.int w.ts.length):=by rw[dm,Pz]
 have hsrc:=Wex.srcR1_nat (k:=w.ts.length) (by omega);have hc:fN 1 [0] (bJ 0) mYes (pY (ao (ag (aa 1) (ag (ao (ag (aa 0) aC) du) aC)) bL) (ae (aa 1) (dC (.int 3)) aN)) [.sh (aL w)] (DL.intsFrom 0 w.ts.length)=.ok (.lst (((rng w.ts.length).filter λ_=>true).map λk=>pD w (dg W [k]))) :=
  Wex.comp_rng (by omega) λk hk=>by
   obtain⟨S,e,hg⟩:=C8 W hw [k];refine⟨[.sh (.int (k:Int)),.sh (aL w)],rfl,rfl,λ_=>?_⟩;have e:bL [aL w,.lst [.int (k:Int)]]=.ok (d9 w S):=e;have:=hg (ae (aa 1) (dC (.int 3)) aN) [.sh (.int (k:Int)),.sh (aL w)] rfl;have h1:(ao (ag (aa 1) (ag (ao (ag (aa 0) aC) du) aC)) bL) [.sh (.int (k:Int)),.sh (aL w)]=.ok (d9 w S):=by
    open_line with[e]
   unfold pY;rw[h1,lS,this]
 rw[List.filter_eq_self.mpr λ_ _=>rfl]at hc;open_line with[Bfd.bY,Bfd.jc,oo,Wex.ev_srcR1,i1,hlen,hsrc,hc]
omit hw in
theorem tQ{n:Nat}{o o':Option Int}:br (n+1) (vD w o o')=true:=by
 cases o with
 |none=>rfl
 |some z=>cases o'<;>cases n<;>rfl
theorem GV:∃S,bL [aL w,.lst []]=.ok (d9 w S)/\(∀(g:al) (ρ:Ev),g ρ=.ok (.str w.la)->pK g ρ (d9 w S)=.ok (pD w (dg W []))):=C8 W hw []
end
open K51 (Bd pl)
def Kt{f g:al}{ρ:Ev}:pY f g ρ=(f ρ).bind (pK g ρ):=aH rfl
def d5(w:cG)(F:List de):D:=match get F w.la with
 |none=>.non
 |some e=>.lst (K11.nums e.y)
def L6{w:cG}{F:List de}:aN (gq w F) (.int 0)=.ok (d5 w F):=by
 unfold gq d5;cases get F w.la<;>rfl
end K20
namespace K15
open PySem L2 DL Com Bor Pth
open K11 (nums ways pr there oS)
def oO{zs:bi}{t:jJ}(T:nL zs t){a b:PY}:there t a=some b↔(a,b)∈ways t:=by
 have ne:=T.ne;unfold there ways;rcases T.w with e|e
 .rw[if_pos e]
  constructor
  .intro h
   split at h
   .next h1=>cases h;subst h1;exact QP.mpr rfl
   .split at h
    .next h2=>rw[e]at h2;exact absurd h2.2 (by decide)
    .cases h
  .intro h
   have:=QP.mp h;cases this;rw[if_pos rfl]
 .have e1:t.w≠"one":=by rw[e];decide
  rw[if_neg e1];constructor
  .intro h
   split at h
   .next h1=>cases h;subst h1;exact Qf
   .split at h
    .next h2=>cases h;rw[←h2.1];exact PV _ (QP.mpr rfl)
    .cases h
  .intro h
   rcases P9.mp h with h|h
   .cases h;rw[if_pos rfl]
   .have:=QP.mp h
    cases this;rw[if_neg ne,if_pos ⟨rfl,e⟩]
structure Lf where
 y:bm
 s:bi
 z:PY
def Lf.seen(e:Lf):bi:=e.s++[e.z]
inductive Ext (w:cG) (ks:bm):Lf->bm->Prop where
 |here {e:Lf}:e.z=w.la->Ext w ks e e.y
 |step {e:Lf}{n:Nat}{b:PY}{p:bm}:e.z≠w.la->Ho w ks n e.z b->b∉e.seen->Ext w ks ⟨e.y++[n],e.seen,b⟩ p->Ext w ks e p
open K11 (nums ways pr there oS there_ok notIn_nums dO)
def nums_len{p:bm}:(nums p).length=p.length:=by unfold nums;rw[Pz]
end K15
namespace Way
open PySem L2 DL Com Bor Pth
open K15 (Lf Ext oO)
open K11 (nums ways there xN oJ sJ Hq)
def Ms{w:cG}(W:cH w){ks:bm}{z b:PY}{seen:bi}{n:Nat}(hz:z≠w.la)(g:Ho w ks n z b)(hb:b∉seen):xN w ks seen z (.int (n:Int))=some b:=by
 obtain⟨t,t1,t2,t3⟩:=g;have hn:=(PH.mp t1).1;have T:=W.ts t (PU t1);have ht:=(oO T).mpr t3;unfold xN;rw[if_neg hz];have hk:((n:Int)).toNat=n:=by omega
 simp only[hk];rw[if_pos ⟨by omega,by omega,t2⟩,t1];simp only[ht];rw[if_neg hb]
def Dc{w:cG}(W:cH w){ks:bm}{e:Lf}{y:bm}(h:Ext w ks e y):∃r,y=e.y++r/\∀j,∃s,oJ w ks e.s e.z j (nums r)=.inr (s++[w.la]):=by
 induction h with
 |here hz=>exact⟨[],by simp,λj=>⟨_,by rw[show nums []=[] from rfl];unfold oJ;rw[hz]⟩⟩
 |@step e n b p hz g hb h ih=>
  obtain⟨r,e1,e2⟩:=ih;refine⟨n::r,by rw[e1];simp,λj=>?_⟩;obtain⟨s,hs⟩:=e2 (j+1);refine⟨s,?_⟩;have hg:=Ms W hz g hb;rw[show nums (n::r)=.int (n:Int)::nums r from rfl];unfold oJ;rw[show e.s++[e.z]=e.seen from rfl,hg];exact hs
def end_none{w:cG}(W:cH w){ks:bm}{y:bm}(h:Ext w ks ⟨[],[],w.fi⟩ y):sJ w (nums y).length (oJ w ks [] w.fi 0 (nums y))=none:=by
 obtain⟨r,e1,e2⟩:=Dc W h;obtain⟨s,hs⟩:=e2 0;have:y=r:=by simpa using e1
 subst this;have hs:oJ w ks [] w.fi 0 (nums y)=.inr (s++[w.la]):=hs;rw[hs];unfold sJ;simp
end Way
namespace Pth
open PySem L2 DL Com Bor K17
open K11 (nums ways pr dO)
inductive Sw (w:cG) (ks:bm):bm->bi->PY->Prop where
 |nil:Sw w ks [] [] w.fi
 |snoc {y:bm}{s:bi}{z b:PY}{n:Nat}:Sw w ks y s z->Ho w ks n z b->b∉s++[z]->Sw w ks (y++[n]) (s++[z]) b
def Sw.not{w:cG}{ks:bm}{y:bm}{s:bi}{z:PY}(h:Sw w ks y s z):z∉s:=by
 cases h with|nil=>simp|snoc _ _ h=>exact h
def Sw.ext{w:cG}{ks:bm}{y:bm}{s:bi}{z:PY}(h:Sw w ks y s z):∀p,w.la∉s->K15.Ext w ks ⟨y,s,z⟩ p->K15.Ext w ks ⟨[],[],w.fi⟩ p:=by
 induction h with
 |nil=>exact λp _ h=>h
 |@snoc y s z b n _ g hb ih=>
  intro p hl h;have h1:w.la∉s:=λz=>hl (Rl _ z);have h2:z≠w.la:=λq=>hl (by rw[q];simp);exact ih p h1 (.step (e:=⟨y,s,z⟩) h2 g hb h)
def Sm(w:cG)(ks:bm)(F:List de):Prop:=∀e∈F,∃s,Sw w ks e.y s e.p/\∀p∈s,∃d∈F,d.p=p
def Sm.start{w:cG}{ks:bm}:Sm w ks [⟨w.fi,0,[]⟩]:=λe he=>by
 have:e=⟨w.fi,0,[]⟩:=by simpa using he
 subst this;exact⟨[],.nil,λ_ h=>nomatch h⟩
def Sm.step{w:cG}{ks:bm}{zs:List Int}{F:List de}{m:Int}(M:Sm w ks F)(R:k9 w ks zs F m){d:de}(h:ue (aV w ks) zs F=some d):Sm w ks (F++[d]):=by
 obtain⟨j1,_,_⟩:=(jW (zs:=zs) R.nd (aV w ks) none).1 d h;rcases j1 with j1|⟨s,hs,e,⟨hcm,hca,hcb⟩,rfl⟩
 .cases j1
 obtain⟨t,ht1,ht2,ht3⟩:=dA.mp hs;intro x hx;rcases QJ.mp hx with hx|hx
 .obtain⟨u,h1,h2⟩:=M x hx
  exact⟨u,h1,λp hp=>let ⟨d,hd,e⟩:=h2 p hp;⟨d,Rl _ hd,e⟩⟩
 .have:x=⟨s.b,e.z+c7 zs s.n,e.y++[s.n]⟩:=by simpa using hx
  subst this;obtain⟨u,h1,h2⟩:=M e hcm;have old:∀p∈u++[e.p],∃d∈F,d.p=p:=λp hp=>by
   rcases QJ.mp hp with hp|hp
   .exact h2 p hp
   .exact⟨e,hcm,(by simpa using hp:p=e.p).symm⟩
  refine⟨u++[e.p],.snoc h1 ⟨t,ht1,ht2,by rw[hca];exact ht3⟩ λz=>?_,λp hp=>let ⟨d,hd,e⟩:=old p hp;⟨d,Rl _ hd,e⟩⟩;obtain⟨d,hd,e1⟩:=old _ z;exact hcb d hd e1
def Sm.ext{w:cG}{ks:bm}{F:List de}(M:Sm w ks F){e:de}(he:e∈F)(hl:e.p=w.la):K15.Ext w ks ⟨[],[],w.fi⟩ e.y:=by
 obtain⟨s,h1,_⟩:=M e he;exact h1.ext e.y (by rw[←hl];exact h1.not) (.here (e:=⟨e.y,s,e.p⟩) hl)
section
variable {w:cG}(W:cH w) {ks:bm}{zs:List Int}(hl:zs.length=w.ts.length) (hz:∀z∈zs,0<=z)
include W hl hz
theorem E4:∀(f:Nat) (F:List de) (m:Int),k9 w ks zs F m->Sm w ks F->8<=F.length+f ->
  ∃G m',k9 w ks zs G m'/\(n8 w ks G/\Sm w ks G)/\cn rT rB f [.sh (aL w),.sh (bT ks),.sh (.lst (zs.map D.int)),.sh (.lst ((aV w ks).map gM)),.ow (fD F),.sh (cD (ue (aV w ks) zs F))]=.ok (.nx [.sh (aL w),.sh (bT ks),.sh (.lst (zs.map D.int)),.sh (.lst ((aV w ks).map gM)),.ow (fD G),.sh .non]):=by
 intro f
 induction f with
 |zero=>intro F m R _ h;have:=R.len W;omega
 |succ f ih=>
  intro F m R M h;cases hn:ue (aV w ks) zs F with
  |none=>
   refine⟨F,m,R,⟨R.shut hn,M⟩,?_⟩;exact ml (by unfold fD;open_line with[cD])
  |some d=>
   obtain⟨R',hne⟩:=R.step W hz hn;obtain⟨G,m',h1,h2,h3⟩:=ih (F++[d]) d.z R' (M.step R hn) (by rw[Qs,Sy];omega);refine⟨G,m',h1,h2,?_⟩;rw[←h3];refine oH (by unfold fD;open_line with[cD]) ?_;have hr:=tW W hl hz R';have hp:=yM hne;have h9:decide ((F.map (·.p)).length<=900)=true:=decide_eq_true (by rw[Pz];have:=R.len W;omega);have q1:aN (cD (some d)) (.int 1)=.ok (.int d.z):=rfl;have q2:aN (cD (some d)) (.int 2)=.ok (.lst (nums d.y)):=rfl;have q0:aN (cD (some d)) (.int 0)=.ok (.str d.p):=rfl;have he:D.tup [.int d.z,.lst (nums d.y)]=gr d:=rfl;have hoD:∀c,lI [.sh (aL w),.sh (bT ks),.sh (.lst (zs.map D.int)),.sh (.lst ((aV w ks).map gM)),.ow (fD (F++[d])),.sh c]=true:=λ_=>rfl;show rB [.sh (aL w),.sh (bT ks),.sh (.lst (zs.map D.int)),.sh (.lst ((aV w ks).map gM)),.ow (.dic (F.map (·.p)) (F.map gr)),.sh (cD (some d))]=_;open_line with[mM,lU,j8,j7 h9,q0,q1,q2,he,hp,kP,hr,iK (Fw _) (hoD _)]
theorem vb:∃F m,k9 w ks zs F m/\(n8 w ks F/\Sm w ks F)/\m_all_reached [aL w,bT ks,.lst (zs.map D.int)]=.ok (fD F):=by
 have R0:=k9.start W (ks:=ks) hz;obtain⟨G,m',h1,h2,h3⟩:=E4 W hl hz (ks:=ks) 8 [⟨w.fi,0,[]⟩] 0 R0 Sm.start (by simp);refine⟨G,m',h1,h2,?_⟩;have hs:=steps_ok W (ks:=ks);have hn:=tW W hl hz R0;have i2:aN (aL w) (.int 2)=.ok (.str w.fi):=rfl;have hf:fD [⟨w.fi,0,[]⟩]=.dic [w.fi] [.tup [.int 0,.lst []]]:=rfl;rw[hf]at hn h3;have hoD:lI [.sh (aL w),.sh (bT ks),.sh (.lst (zs.map D.int)),.sh (.lst ((aV w ks).map gM)),.ow (.dic [w.fi] [.tup [.int 0,.lst []]]),.no]=true:=rfl;have hw:∀(c:al) (s:am) (ρ:Ev),gN (λ_=>8) c s ρ=cn c s 8 ρ:=λ_ _ _=>rfl;unfold fD at h3 ⊢;open_line with[m_all_reached,gT,hs,i2,jz,oq,lV,iL,kP,hn,iK (Fw _) hoD,hw,h3]
end
def tP{w:cG}(W:cH w){ks:bm}:∃F m,k9 w ks (lz w) F m/\(n8 w ks F/\Sm w ks F)/\m_shortest [aL w,bT ks]=.ok (gq w F):=by
 obtain⟨F,m,R,S,hr⟩:=vb W (ks:=ks) (CT W) (CS W);refine⟨F,m,R,S,?_⟩;have hs:=rS W;obtain⟨y5,hl⟩:=xr W R (A:=bT ks) w.ps [] .no (by rw[QX];exact W.nm.nd) (by rw[QX];exact W.n7);rw[QX,Q3]at hl;have i0:aN (aL w) (.int 0)=.ok (.lst (w.ps.map D.str)):=rfl;have i3:aN (aL w) (.int 3)=.ok (.str w.la):=rfl;have hni:=zA (F:=F) w.la;have hpr:=Ck (w:=w) (F:=F) W.la;unfold gq;cases hg:get F w.la with
 |none=>
  rw[hg]at hni;simp only[RV,RQ]at hni;open_line with[m_shortest,gk,hs,hr,jz,iL,i0,hl,i3,hni]
  rfl
 |some e=>
  rw[hg]at hni;simp only[RU,R6]at hni;have h5:aN (gr e) (.int 1)=.ok (.lst (nums e.y)):=rfl;have hpf:pf w F w.la=some (b6 e.z (lB w)):=by unfold pf;rw[hg];rfl
  rw[hpf]at hpr;unfold IW at hpr ⊢;open_line with[m_shortest,gk,hs,hr,jz,iL,i0,hl,i3,hni,C9 hg,h5,hpr]
  rfl
end Pth
namespace K54
open PySem L2 DL Com Bor Pth
open K51 (Bd pl lplus_bd lless_bd yQ low_bd comp_pick)
open Vlu (mi vL)
open K11 (nums)
open K15 (Ext)
def val_inj{x y:dS}(hx:Low x)(hy:Low y)(h:val x=val y):x=y:=by
 refine pz hx hy ?_;have p1:=cc (a:=x.2) (by have:=hx.q1;omega);have p2:=cc (a:=y.2) (by have:=hy.q1;omega);unfold val at h;have e:(x.1:Rat)*(y.2:Rat)=(y.1:Rat)*(x.2:Rat):=by grind
 rw[←QT,←QT]at e;exact Rat.intCast_inj.mp e
end K54
namespace K51
open PySem L2 DL Com Bor
def yF{i:Int}{n:Nat}(h0:0<n)(hn:n<=1919)(h:i.natAbs<2 ^ n):Rp (.int i) (n+1) 0:=by
 refine⟨.int i,by rw[fG],?_,by rw[SR]<;>simp,?_⟩
 .rw[Sk]
  refine decide_eq_true ?_
  by_cases h0:i.natAbs=0
  .rw[h0];decide
  .exact PK ((UY h0).mpr h) (by omega)
 .rw[SQ,Tp]
  cases i with
  |ofNat m=>
   have:=nat_repr_length_le (n:=m) (k:=n) h0 h;show(UU m).length<=n+1;omega
  |negSucc m=>
   have:=nat_repr_length_le (n:=m+1) (k:=n) h0 h;show("-"++UU (m+1)).length<=n+1;rw[UR];have h1 : "-".length=1:=rfl;omega
def xg{x:dS}{n:Nat}(h:Bd x n)(h0:0<n)(hn:n<=1919):Rp (fr x) (2*n+9) 1 :=
 (Rp.tup (jK.cons (yF h0 hn h.a) (jK.cons (yF h0 hn h.b) jK.nil))).up (by simp;omega) (P4 _)
end K51
namespace K14
open PySem L2 DL Com Bor Pth
open K11 (nums)
theorem o6:∀(ps:bi),plainDs (ps.map D.str)=true
 |[]=>rfl
 |p::ps=>by
  show(plainD (.str p)&&plainDs (ps.map D.str))=true;rw[o6 ps];rfl
def Am(t:jJ):plainD (bC t)=true:=by
 obtain⟨a,b,w,l,o⟩:=t;cases o<;>rfl
theorem o5:∀(ts:List jJ),plainDs (ts.map bC)=true
 |[]=>rfl
 |t::ts=>by
  show(plainD (bC t)&&plainDs (ts.map bC))=true;rw[o5 ts,Am];rfl
def plain_web(w:cG):plainD (aL w)=true:=by
 show(plainD (.lst (w.ps.map D.str))&&(plainD (.lst (w.ts.map bC))&&(plainD (.str w.fi)&&(plainD (.str w.la)&&true))))=true;rw[show plainD (.lst (w.ps.map D.str))=true from o6 _,show plainD (.lst (w.ts.map bC))=true from o5 _];rfl
theorem vW{ns:List Int}:∀(ps:bi),¬hasIs ns (ps.map D.str)
 |[],h=>by rw[Q3,hasIs]at h;exact h
 |p::ps,h=>by
  rw[PQ,hasIs,gO]at h
  .rcases h with h|h
   .exact h
   .exact vW ps h
  .intro _ z;cases z
  .intro _ z;cases z
def zw{ns:List Int}{a b:Int}:¬gO ns (.tup [.int a,.int b]):=λh=>by
 rw[gO,hasIs,hasIs,hasIs]at h;rcases h with h|h|h
 .rw[gO]at h
  .exact h
  .intro _ z;cases z
  .intro _ z;cases z
 .rw[gO]at h
  .exact h
  .intro _ z;cases z
  .intro _ z;cases z
 .exact h
def mK{ns:List Int}{d:D}(h1:∀ds,d≠.tup ds)(h2:∀ds,d≠.lst ds):¬gO ns d:=λh=>by
 rw[gO]at h
 .exact h
 .exact λds z=>h1 ds z
 .exact λds z=>h2 ds z
def FN{ns:List Int}(t:jJ):¬gO ns (bC t):=λh=>by
 obtain⟨a,b,w,l,o⟩:=t;have h:gO ns (.tup [.str a,.str b,.str w,fr l,bx o]):=h;rw[gO,hasIs,hasIs,hasIs,hasIs,hasIs,hasIs]at h;rcases h with h|h|h|h|h|h
 .exact mK (λ_ z=>by cases z) (λ_ z=>by cases z) h
 .exact mK (λ_ z=>by cases z) (λ_ z=>by cases z) h
 .exact mK (λ_ z=>by cases z) (λ_ z=>by cases z) h
 .exact zw h
 .cases o with
  |none=>exact mK (d:=.non) (λ_ z=>by cases z) (λ_ z=>by cases z) h
  |some x=>exact zw h
 .exact h
theorem vV{ns:List Int}:∀(ts:List jJ),¬hasIs ns (ts.map bC)
 |[],h=>by rw[Q3,hasIs]at h;exact h
 |t::ts,h=>by
  rw[PQ,hasIs]at h;rcases h with h|h
  .exact FN t h
  .exact vV ts h
def web_not{w:cG}(W:cH w){n:Int}{ns:List Int}:¬gO (n::ns) (aL w):=λh=>by
 have n2:=W.n2;have h:gO (n::ns) (.tup [.lst (w.ps.map D.str),.lst (w.ts.map bC),.str w.fi,.str w.la]):=h;rw[gO,hasIs,hasIs,hasIs,hasIs,hasIs]at h;rcases h with h|h|h|h|h
 .rw[gO]at h
  rcases h with h|h
  .cases hp:w.ps with
   |nil=>rw[hp]at n2;simp at n2
   |cons p ps=>rw[hp,PQ,PQ]at h;cases h
  .exact vW _ h
 .rw[gO]at h
  rcases h with h|h
  .cases hp:w.ts with
   |nil=>rw[hp]at h;cases h
   |cons t ts=>rw[hp,PQ,PQ]at h;cases h
  .exact vV _ h
 .exact mK (λ_ z=>by cases z) (λ_ z=>by cases z) h
 .exact mK (λ_ z=>by cases z) (λ_ z=>by cases z) h
 .exact h
def walk_nil{w:cG}{ks:bm}{a b:PY}{p:bm}(h:nZ w ks a p b)(hp:p=[]):b=a:=by
 cases h with|nil=>rfl|snoc _ _=>simp at hp
end K14
namespace K19
open PySem L2 DL Com Bor Pth Vlu Bfd Vlx K20
open K51 (Bd pl)
open K11 (nums Hq)
def Bu{y w k:Nat}{js:bm}{f fe:al}{ρ:Ev}{ds dr:ac}{d0 e:D}(h1:f (iY js (ρ.set y (.sh (.int (k:Int)))))=.ok (.tup (d0::dr)))(h2:fe ((ρ.set y (.sh (.int (k:Int)))).set w (.sh (.tup (d0::dr))))=.ok e)
  (hc:Nt js (ρ.set y (.sh (.int (k:Int)))) d0/\mH e=true/\ds.length<line/\kz ρ=true):eg y w js f fe ρ ds k=.ok ((ρ.set y (.sh (.int (k:Int)))).set w (.sh (.tup (d0::dr))),ds++[.tup [e,d0]]):=by
 unfold eg;rw[h1];dsimp only;rw[h2];dsimp only;exact if_pos hc
def BO{x y w:Nat}{js:bm}{fn f fe:al}{ρ:Ev}{n:Nat}{p:Ev×ac}(h0:ρ[x]?=some (.ow (.lst [])))(h1:fn (ρ.set x .no)=.ok (.int (n:Int)))(hc:(n:Int)<1000000/\w<ρ.length)(h3:iX (eg y w js f fe) n 0 (ρ.set x .no) []=.ok p):rV x y w js fn f fe ρ=.ok (.rt (.lst p.2)):=by
 unfold rV;rw[h0];dsimp only;rw[h1];dsimp only;rw[if_pos ⟨TJ n,hc⟩,S9,h3]
def Hr(w:cG)(F:List de):Option (List Int):=(get F w.la).map λe=>e.y.map λ(k:Nat)=>(k:Int)
def HA{w:cG}{F:List de}:B2 (Hr w F)=d5 w F:=by
 unfold Hr d5;cases get F w.la with|none=>rfl|some e=>show D.lst _=D.lst _;unfold nums;rw[QH];rfl
def lH{w:cG}{F:List de}:gq w F=.tup [d5 w F,bO w F,IW w F]:=by
 unfold gq d5 bO;cases get F w.la<;>rfl
def xH{w:cG}{o o':Option Int}:mH (vD w o o')=true:=by
 cases o with
 |none=>unfold vD mH;rfl
 |some z=>
  cases o' with|none=>unfold vD mH;rfl|some z'=>unfold vD fr mH lfrs mH lfrs mH lfrs;rfl
section
variable {w:cG}(W:cH w)
noncomputable def el(k:Nat):WE:=(vD w (dg W []) (dg W [k]),Hr w (FF W [k]))
noncomputable def gP:List WE:=(rng w.ts.length).map (el W)
theorem HB(k:Nat):fT (el W k)=.tup [vD w (dg W []) (dg W [k]),d5 w (FF W [k])]:=by
 unfold fT el;rw[HA]
theorem Lp(k:Nat):Ia (fT (el W k))=some (el W k):=by
 unfold fT el;cases h:Hr w (FF W [k]) with
 |none=>show(if _ then _ else _)=_;rw[if_pos xH]
 |some ns=>show(if _ then _ else _)=_;rw[if_pos xH,mJ];rfl
theorem Bs:∀L:bm,yx ((L.map (el W)).map fT)=some (L.map (el W))
 |[]=>rfl
 |k::L=>by
  show(match Ia (fT (el W k)),yx ((L.map (el W)).map fT) with
   |some e,some es=>some (e::es)
   |_,_=>none)=_
  rw[Lp,Bs L];rfl
theorem Ew(k:Nat){j:Int}{y4:Sl}{d1:D}:Nt [0,3] [.sh (aL w),.sh d1,.no,.sh (.int j),y4] (d5 w (FF W [k])):=by
 obtain⟨m,R,S,e⟩:=jN W [k];refine⟨?_,?_⟩
 .show((plainD (aL w))&&((plainD (.int j))&&true))=true
  rw[K14.plain_web];rfl
 .unfold d5
  cases hg:get (FF W [k]) w.la with
  |none=>exact .inl rfl
  |some e=>
   obtain⟨he,hp⟩:=cQ hg;obtain⟨k1,_,_,k4⟩:=R.wy e he;refine .inr ⟨e.y.map λ(k:Nat)=>(k:Int),by unfold nums;rw[QH];rfl,λj' hj d' ed=>?_⟩;cases hy:e.y with
   |nil=>
    rw[hy]at k1;have:e.p=w.fi:=K14.walk_nil k1 rfl;exact absurd (this.symm.trans hp) W.ne
   |cons n y=>
    have:j'=0∨j'=3:=by simpa using hj
    rcases this with rfl|rfl
    .cases ed;exact K14.web_not W
    .cases ed;intro h;unfold gO at h;exact h
variable (hw:∀t∈w.ts,eS t)
include hw
abbrev fB:al:=ao (ag (aa 0) (ag (ao (ag (aa 3) aC) du) aC)) m_shortest
abbrev eB:al:=ao (ag (aa 1) (ag (ae (aa 4) (dC (.int 1)) aN) aC)) m_value_by
theorem tI{k:Nat}{y3 y4:Sl}{ds:ac}(hn:kz [.sh (aL w),.sh (bO w (FF W [])),.no,y3,y4]=true)(hl:ds.length<=100) :
  eg 3 4 [0,3] fB eB [.sh (aL w),.sh (bO w (FF W [])),.no,y3,y4] ds k=.ok ([.sh (aL w),.sh (bO w (FF W [])),.no,.sh (.int (k:Int)),.sh (gq w (FF W [k]))],ds++[fT (el W k)]):=by
 obtain⟨m,R,S,e0⟩:=jN W [];obtain⟨m',R',S',e1⟩:=jN W [k];have e1:m_shortest [aL w,.lst [.int (k:Int)]]=.ok (gq w (FF W [k])):=e1;have hv:=m9 W hw R R';rw[Bl W]at hv;have hv:m_value_by [bO w (FF W []),bO w (FF W [k])]=.ok (vD w (dg W []) (dg W [k])):=hv;have h1:fB (iY [0,3] ([.sh (aL w),.sh (bO w (FF W [])),.no,y3,y4].set 3 (.sh (.int (k:Int)))))=.ok (.tup [d5 w (FF W [k]),bO w (FF W [k]),IW w (FF W [k])]):=by
  rw[←lH];show fB [.sh (aL w),.no,.no,.sh (.int (k:Int)),.no]=_;open_line with[e1]
 have h2:eB [.sh (aL w),.sh (bO w (FF W [])),.no,.sh (.int (k:Int)),.sh (gq w (FF W [k]))]=.ok (vD w (dg W []) (dg W [k])):=by
  open_line with[yV,hv]
 rw[lH]at h2;rw[Bu h1 h2 ⟨Ew W k,xH,Qu hl (by decide),hn⟩,HB,lH];rfl
theorem zi:∀(m k:Nat) (y3 y4:Sl),k+m=w.ts.length->kz [.sh (aL w),.sh (bO w (FF W [])),.no,y3,y4]=true ->
  ∃ρ',iX (eg 3 4 [0,3] fB eB) m k [.sh (aL w),.sh (bO w (FF W [])),.no,y3,y4] (((rng k).map (el W)).map fT)=.ok (ρ',((gP W).map fT))
 |0,k,y3,y4,hk,hn=>by
  have:k=w.ts.length:=by omega
  subst this;exact⟨_,rfl⟩
 |m+1,k,y3,y4,hk,hn=>by
  have t14:=W.t14;unfold iX;rw[tI W hw hn (by rw[Pz,Pz];unfold rng;rw[SY];omega)];have hr:((rng k).map (el W)).map fT++[fT (el W k)]=((rng (k+1)).map (el W)).map fT:=by
   unfold rng;rw[T3,QB,QB];rfl
  rw[hr];exact zi m (k+1) _ _ (by omega) rfl
theorem Nb:cB [aL w]=.ok (.lst ((gP W).map fT)):=by
 have t14:=W.t14;have hW:m_look_at_web [aL w]=.ok .non:=Bj W;have i1:aN (aL w) (.int 1)=.ok (.lst (w.ts.map bC)):=rfl;have hlen:bS (.lst (w.ts.map bC))=.ok (.int w.ts.length):=by rw[dm,Pz]
 obtain⟨m,R,S,e0⟩:=jN W [];have e0:m_shortest [aL w,.lst []]=.ok (gq w (FF W [])):=e0;obtain⟨ρ',hl⟩:=zi W hw w.ts.length 0 .no .no (by omega) rfl;have hfn:ao (ag (ae (aa 0) (dC (.int 1)) aN) aC) (m1 bS) [.sh (aL w),.sh (bO w (FF W [])),.no,.no,.no]=.ok (.int w.ts.length):=by
  open_line with[i1,hlen]
 have hv:rV 2 3 4 [0,3] (ao (ag (ae (aa 0) (dC (.int 1)) aN) aC) (m1 bS)) fB eB [.sh (aL w),.sh (bO w (FF W [])),.ow (.lst []),.no,.no]=.ok (.rt (.lst ((gP W).map fT))):=by
  exact BO (x:=2) (y:=3) (w:=4) (js:=[0,3]) (f:=fB) (fe:=eB) (p:=(ρ',(gP W).map fT)) (n:=w.ts.length) (ρ:=[.sh (aL w),.sh (bO w (FF W [])),.ow (.lst []),.no,.no]) rfl hfn ⟨by omega,by show 4<5;decide⟩ hl
 have hb:fu [.sh (aL w),.no,.no,.no,.no]=.ok (.rt (.lst ((gP W).map fT))):=by
  open_line with[fu,K12.ef_seq,K12.ef_seq1,hW,e0,yV,hv]
 unfold cB BR;show(fu [.sh (aL w),.no,.no,.no,.no]).bind L7=_;rw[hb];rfl
end
open K51 (Bd lplus_bd yQ un_bd pl xg)
open K11 (nums Hq)
def C1{w:cG}{o o':Option Int}:bF [vD w o o']=.ok (.bl true):=by
 cases o with
 |none=>
  show bF [.str "none"]=_;have h1:c4 "str" (.str "none")=.ok (.bl true):=rfl;open_line with[bF,d4,h1]
 |some z=>
  cases o' with
  |none=>
   show bF [.str "cut"]=_;have h1:c4 "str" (.str "cut")=.ok (.bl true):=rfl;open_line with[bF,d4,h1]
  |some z'=>
   show bF [fr (b6 (z' - z) (lB w))]=_;obtain⟨a,b⟩:=b6 (z' - z) (lB w);have h1:c4 "str" (fr (a,b))=.ok (.bl false):=rfl;have h2:c4 "tuple" (fr (a,b))=.ok (.bl true):=rfl;have h3:bS (fr (a,b))=.ok (.int 2):=rfl;have hc1:BE (fr (a,b))=.ok [.int a,.int b]:=rfl;have hc2:fN 1 [] (bJ 0) (gV (cu (aa 0) (c4 "bool")) (cJ (cu (aa 0) (c4 "int")))) (aa 0) [.sh (fr (a,b))] [.int a,.int b]=.ok (.lst []):=rfl;have h4:mS (.lst []) (.lst [])=.ok (.bl true):=rfl;open_line with[bF,d4,h1,h2,h3,hc1,hc2,h4]
abbrev sB:am :=
 (aA (bq 4 (ao (ag (aa 4) (ag (ae (ae (ae (aa 0) (dC (.int 1)) aN) (aa 5) aN) (dC (.int 3)) aN) aC)) bE))
 ar)
section
variable {w:cG}(W:cH w) {ks:bm}{F:List de}{m:Int}(R:k9 w ks (lz w) F m) (S:n8 w ks F) (M:Sm w ks F)
include W
theorem IE{y:bm}(hy:∀n∈y,n<w.ts.length)(h7:y.length<=7){d1 d2 d3:D}:∃(x:dS) (y5:Sl),bW (bJ 5) sB (nums y) [.sh (aL w),.sh d1,.sh d2,.sh d3,.sh (.tup [.int 0,.int 1]),.no]=.ok (.nx [.sh (aL w),.sh d1,.sh d2,.sh d3,.sh (fr x),y5])/\Low x/\val x=pF w y:=by
 have i1:aN (aL w) (.int 1)=.ok (.lst (w.ts.map bC)):=rfl;obtain⟨ρ',e,x,y5,rfl,lo,b,hv⟩:=uu (tg:=bJ 5) (body:=sB) (ds:=nums y) (λk ρ=>∃(x:dS) (y5:Sl),ρ=[.sh (aL w),.sh d1,.sh d2,.sh d3,.sh (fr x),y5]/\Low x/\Bd x (1+201*k)/\val x=pF w (y.take k)) (by
  rintro k d hd ρ ⟨x,y5,rfl,lo,b,hv⟩;unfold nums at hd;rw[PN]at hd;cases hn:y[k]? with
  |none=>rw[hn]at hd;cases hd
  |some n=>
   rw[hn]at hd;cases hd;have hk:k<y.length:=(PH.mp hn).1;have hnl:=hy n (PU hn);have ht:=PL hnl;have hix:=wW ht;have i3:aN (bC w.ts[n]) (.int 3)=.ok (fr w.ts[n].l):=rfl;have bl:=C7 (W.ts _ (Sb hnl)).l;have hp:bE [fr x,fr w.ts[n].l]=.ok (fr (pl x w.ts[n].l)):=lplus_bd b bl (by omega);refine⟨_,[.sh (aL w),.sh d1,.sh d2,.sh d3,.sh (fr (pl x w.ts[n].l)),.sh (.int (n:Int))],rfl,?_,_,_,rfl,cU (un_bd b bl).q0,(yQ b bl).up (by omega),?_⟩
   .show sB [.sh (aL w),.sh d1,.sh d2,.sh d3,.sh (fr x),.sh (.int (n:Int))]=_
    open_line with[i1,hix,i3,hp]
   .rw[Bm b.q0 bl.q0,hv,List.take_add_one,hn]
    show _=pF w (y.take k++[n]);rw[Az,K12.lenAt_of ht]) (ρ:=[.sh (aL w),.sh d1,.sh d2,.sh d3,.sh (fr (0,1)),.no]) ⟨(0,1),_,rfl,⟨by decide,by decide⟩,⟨by decide,by decide,by decide⟩,by
   rw[List.take_zero];show((0:Int):Rat) / ((1:Int):Rat)=0
   grind⟩
 refine⟨x,y5,e,lo,?_⟩;rw[hv,K15.nums_len,List.take_length]
include R S M
theorem zV{k:Nat}(hk:ks=[k]):b4 [aL w,.int (k:Int),bO w F,d5 w F]=.ok (.bl true):=by
 unfold bO d5;cases hg:get F w.la with
 |none=>
  have h1:c3 .non .non=.ok (.bl true):=rfl;open_line with[b4,fb,h1]
 |some e=>
  obtain⟨he,hp⟩:=cQ hg;obtain⟨k1,k2,k3,k4⟩:=R.wy e he;have hle:=R.len W;have hel:∀d∈nums e.y,Hq d:=λd hd=>by
   obtain⟨n,_,rfl⟩:=Qp.mp hd;exact .inl rfl
  obtain⟨seen,hw⟩:=K11.wrong_list (w:=w) (ks:=ks) hel (by rw[K15.nums_len];omega);rw[Way.end_none W (M.ext he hp)]at hw;subst hk;have hw:cy [aL w,.lst [.int (k:Int)],.lst (nums e.y)]=.ok (.tup [.str "way",.lst (seen.map D.str)]):=hw;obtain⟨x,y5,hs,lo,hv⟩:=IE W (y:=e.y) (λn hn=>(oI k1 n hn).1) (by omega) (d1:=.int (k:Int)) (d2:=fr (b6 e.z (lB w))) (d3:=.lst (nums e.y));have hx:x=b6 e.z (lB w):=K54.val_inj lo (cU (gE W).1) (by rw[hv,(GA W R he).2]);subst hx;have heq:mS (fr (b6 e.z (lB w))) (fr (b6 e.z (lB w)))=.ok (.bl true):=by rw[Vlx.eq_fr,decide_eq_true rfl]
  have hn1:c3 (fr (b6 e.z (lB w))) .non=.ok (.bl false):=rfl;have hn2:c3 (.lst (nums e.y)) .non=.ok (.bl false):=rfl;have i0:aN (.tup [.str "way",.lst (seen.map D.str)]) (.int 0)=.ok (.str "way"):=rfl;have hne:fY (.str "way") (.str "way")=.ok (.bl false):=rfl;open_line with[b4,fb,hw,i0,hn1,hn2,hne,hs,heq]
end
section
variable {w:cG}(W:cH w) (hw:∀t∈w.ts,eS t)
include W hw
theorem Ln(k:Nat):b4 [aL w,.int (k:Int),pD w (dg W [k]),d5 w (FF W [k])]=.ok (.bl true):=by
 obtain⟨F,m,R,⟨S,M⟩,e1⟩:=tP W (ks:=[k]);obtain⟨m',R',S',e2⟩:=jN W [k];have e2:m_shortest [aL w,bT [k]]=.ok (gq w (FF W [k])):=e2;have e1:m_shortest [aL w,bT [k]]=.ok (gq w F):=e1;have e:gq w (FF W [k])=gq w F:=by rw[e1]at e2;exact(ai.ok.inj e2).symm
 rw[lH,lH]at e;injection e with e;injection e with h1 e;injection e with h2 e;rw[←ve,h1,h2];exact zV W R S M rfl
theorem NY{o o':Option Int}:fY (vD w o o') (vD w o o')=.ok (.bl false):=by
 unfold fY;rw[if_pos ⟨tQ W,tQ W⟩,ie 40 _ (tQ W)];rfl
noncomputable abbrev rB:am :=
 (aA (bq 5 (ae (aa 1) (aa 4) aN))
 (aA (dQ (gV (cJ (cu (aa 5) (c4 "tuple"))) (ae (ao (ag (aa 5) aC) (m1 bS)) (dC (.int 2)) fY))
 (aA (bD (dC (.bl false)))
 ar)
 ar)
 (aA (dQ (gV (ae (ae (aa 5) (dC (.int 0)) aN) (ao (ag (aa 2) (ag (ae (aa 3) (aa 4) aN) aC)) bu) fY) (cJ (ao (ag (ae (aa 5) (dC (.int 0)) aN) aC) bF)))
 (aA (bD (dC (.bl false)))
 ar)
 ar)
 (aA (dQ (cJ (ao (ag (aa 0) (ag (aa 4) (ag (ae (aa 3) (aa 4) aN) (ag (ae (aa 5) (dC (.int 1)) aN) aC)))) b4))
 (aA (bD (dC (.bl false)))
 ar)
 ar)
 ar))))
noncomputable abbrev tL{w:cG}(W:cH w):ac:=(rng w.ts.length).map λk=>D.tup [vD w (dg W []) (dg W [k]),d5 w (FF W [k])]
theorem B1:cP [aL w,.lst (tL W)]=.ok (.bl true):=by
 have t14:=W.t14;have i1:aN (aL w) (.int 1)=.ok (.lst (w.ts.map bC)):=rfl;have i3:aN (aL w) (.int 3)=.ok (.str w.la):=rfl;have hl1:bS (.lst (tL W))=.ok (.int w.ts.length):=by rw[dm,Pz];unfold rng;rw[SY]
 have hl2:bS (.lst (w.ts.map bC))=.ok (.int w.ts.length):=by rw[dm,Pz]
 have hn:fY (.int (w.ts.length:Int)) (.int w.ts.length)=.ok (.bl false):=by rw[uf];simp
 obtain⟨S,hfar,hget⟩:=GV W hw;have hget:=hget (ae (aa 0) (dC (.int 3)) aN) [.sh (aL w),.sh (.lst (tL W)),.no,.no,.no,.no] rfl;have hwi:=uT W hw;have hs:c4 "list" (.lst (tL W))=.ok (.bl true):=rfl;obtain⟨ρ',hf,y4,y5,rfl⟩:=oj (i:=4) (body:=rB) (λk ρ=>∃y4 y5,ρ=[.sh (aL w),.sh (.lst (tL W)),.sh (pD w (dg W [])),.sh (.lst ((rng w.ts.length).map λk=>pD w (dg W [k]))),y4,y5]) (n:=w.ts.length) (by
  rintro k hk ρ ⟨y4,y5,rfl⟩;have h1:aN (.lst (tL W)) (.int (k:Int))=.ok (D.tup [vD w (dg W []) (dg W [k]),d5 w (FF W [k])]):=kN (by rw[PN];unfold rng;rw[SK hk];rfl);have h2:aN (.lst ((rng w.ts.length).map λk=>pD w (dg W [k]))) (.int (k:Int))=.ok (pD w (dg W [k])):=kN (by rw[PN];unfold rng;rw[SK hk];rfl);have h3:c4 "tuple" (D.tup [vD w (dg W []) (dg W [k]),d5 w (FF W [k])])=.ok (.bl true):=rfl;have h4:bS (D.tup [vD w (dg W []) (dg W [k]),d5 w (FF W [k])])=.ok (.int 2):=rfl;have h5:fY (.int 2) (.int 2)=.ok (.bl false):=rfl;have h6:aN (D.tup [vD w (dg W []) (dg W [k]),d5 w (FF W [k])]) (.int 0)=.ok (vD w (dg W []) (dg W [k])):=rfl;have h7:aN (D.tup [vD w (dg W []) (dg W [k]),d5 w (FF W [k])]) (.int 1)=.ok (d5 w (FF W [k])):=rfl;have h8:=Bk W hw (dg W []) (dg W [k]) (λz h=>jZ W hw h) (λz h=>jZ W hw h);have h8:bu [pD w (dg W []),pD w (dg W [k])]=.ok (vD w (dg W []) (dg W [k])):=h8;have h9:=NY W hw (o:=dg W []) (o':=dg W [k]);have h10:=C1 (w:=w) (o:=dg W []) (o':=dg W [k]);have h11:=Ln W hw k;refine⟨[.sh (aL w),.sh (.lst (tL W)),.sh (pD w (dg W [])),.sh (.lst ((rng w.ts.length).map λk=>pD w (dg W [k]))),.sh (.int (k:Int)),.sh (D.tup [vD w (dg W []) (dg W [k]),d5 w (FF W [k])])],?_,_,_,rfl⟩;open_line with[h1,h2,h3,h4,h5,h6,h7,h8,h9,h10,h11]) (ρ:=[.sh (aL w),.sh (.lst (tL W)),.sh (pD w (dg W [])),.sh (.lst ((rng w.ts.length).map λk=>pD w (dg W [k]))),.no,.no]) ⟨_,_,rfl⟩
 have hfr:=λs:am=>eL (tg:=bJ 4) (s:=s) (ρ:=[.sh (aL w),.sh (.lst (tL W)),.sh (pD w (dg W [])),.sh (.lst ((rng w.ts.length).map λk=>pD w (dg W [k]))),.no,.no]) (k:=w.ts.length) (by omega);open_line with[cP,l7,Kt,hfar,hget,i1,i3,hl1,hl2,hn,hwi,hs,hfr,hf]
end
open K51 (Bd lplus_bd yQ un_bd pl xg)
open K11 (nums Hq)
section
variable {w:cG}(W:cH w) (hw:∀t∈w.ts,eS t)
include W hw
theorem KU:dB [aL w]=.ok (.lst (tL W)):=by
 have t14:=W.t14;have hW:m_look_at_web [aL w]=.ok .non:=Bj W;have i1:aN (aL w) (.int 1)=.ok (.lst (w.ts.map bC)):=rfl;have hlen:bS (.lst (w.ts.map bC))=.ok (.int w.ts.length):=by rw[dm,Pz]
 obtain⟨m,R,S,e0⟩:=jN W [];have e0:m_shortest [aL w,.lst []]=.ok (gq w (FF W [])):=e0;obtain⟨ρ',hf,y3,y4,rfl⟩:=oj (i:=3) (body:=(aA (bq 4 (ao (ag (aa 0) (ag (ao (ag (aa 3) aC) du) aC)) m_shortest))
 (aA (ez 2 (ao (ag (ao (ag (aa 1) (ag (ae (aa 4) (dC (.int 1)) aN) aC)) m_value_by) (ag (ae (aa 4) (dC (.int 0)) aN) aC)) eJ))
 ar))) (λk ρ=>∃y3 y4,ρ=[.sh (aL w),.sh (bO w (FF W [])),.ow (.lst ((rng k).map λk=>D.tup [vD w (dg W []) (dg W [k]),d5 w (FF W [k])])),y3,y4]) (n:=w.ts.length) (by
  rintro k hk ρ ⟨y3,y4,rfl⟩;obtain⟨m',R',S',e1⟩:=jN W [k];have e1:m_shortest [aL w,.lst [.int (k:Int)]]=.ok (gq w (FF W [k])):=e1;have hv:=m9 W hw R R';rw[Bl W]at hv;have hv:m_value_by [bO w (FF W []),bO w (FF W [k])]=.ok (vD w (dg W []) (dg W [k])):=hv;have hap:decide (((rng k).map λk=>D.tup [vD w (dg W []) (dg W [k]),d5 w (FF W [k])]).length<=999)=true:=decide_eq_true (by simp;omega);refine⟨[.sh (aL w),.sh (bO w (FF W [])),.ow (.lst ((rng (k+1)).map λk=>D.tup [vD w (dg W []) (dg W [k]),d5 w (FF W [k])])),.sh (.int (k:Int)),.sh (gq w (FF W [k]))],?_,_,_,rfl⟩;have hr:(rng (k+1)).map (λk=>D.tup [vD w (dg W []) (dg W [k]),d5 w (FF W [k])])=(rng k).map (λk=>D.tup [vD w (dg W []) (dg W [k]),d5 w (FF W [k])])++[D.tup [vD w (dg W []) (dg W [k]),d5 w (FF W [k])]]:=by
   unfold rng;rw[T3,QB];rfl
  rw[hr];open_line with[e1,L6,yV,hv,j6 hap]) (ρ:=[.sh (aL w),.sh (bO w (FF W [])),.ow (.lst []),.no,.no]) ⟨_,_,rfl⟩
 have hfr:=λs:am=>eL (tg:=bJ 3) (s:=s) (ρ:=[.sh (aL w),.sh (bO w (FF W [])),.ow (.lst []),.no,.no]) (k:=w.ts.length) (by omega);open_line with[dB,l6,K12.ef_run,K12.ef_seq,K12.ef_seq1,K12.ef_retO,K12.ef_retO1,K12.ef_out,hW,e0,yV,i1,hlen,hfr,hf]
theorem yt{k:Nat}{ns:List Int}(h:Hr w (FF W [k])=some ns):ns.length<=7/\∃y:bm,ns=y.map (λ(k:Nat)=>(k:Int))/\y.length<=7/\(∀n∈y,n<14)/\d5 w (FF W [k])=.lst (nums y):=by
 obtain⟨m',R,S',e1⟩:=jN W [k];unfold Hr at h;unfold d5;cases hg:get (FF W [k]) w.la with
 |none=>rw[hg]at h;cases h
 |some e=>
  rw[hg]at h;cases h;obtain⟨he,hp⟩:=cQ hg;obtain⟨k1,k2,k3,k4⟩:=R.wy e he;have hle:=R.len W;have t14:=W.t14;exact⟨by rw[Pz];omega,e.y,rfl,by omega,λn hn=>by have:=(oI k1 n hn).1;omega,rfl⟩
theorem NT{k:Nat}:Rp (vD w (dg W []) (dg W [k])) 400 1:=by
 cases h:dg W [] with
 |none=>exact(Rp.str (z:="none") (n:=4) (by decide) (by decide)).up (by decide) (by decide)
 |some z=>
  cases h':dg W [k] with
  |none=>exact(Rp.str (z:="cut") (n:=3) (by decide) (by decide)).up (by decide) (by decide)
  |some z'=>
   have b1:=jZ W hw h;have b2:=jZ W hw h';obtain⟨m',R,S',e1⟩:=jN W [];have hb:Bd (b6 (z' - z) (lB w)) 130:=by
    unfold dg at h;cases hg:get (FF W []) w.la with
    |none=>rw[hg]at h;cases h
    |some e=>
     exact K51.low_bd (gE W).1 (Qu (show(z' - z).natAbs<=(7*uQ).natAbs by omega) (by decide)) (Dp W hw R (cQ hg).1).2
   exact(xg hb (by decide) (by decide)).up (by decide) (by decide)
theorem EY:∃z,eN (.lst (tL W))=.ok (.str z):=by
 have t14:=W.t14;have hlen:(tL W).length=w.ts.length:=by rw[Pz];unfold rng;rw[SY]
 refine Rp.repr (Rp.lst (jK.all (a:=3000) (k:=4) λd hd=>?_)) (Qh (show 3000*(tL W).length+2*(tL W).length+3<=50000 by omega) (by decide)) (by decide);obtain⟨k,hk,rfl⟩:=Qp.mp hd;have hwy:Rp (d5 w (FF W [k])) 2000 2:=by
  cases h:Hr w (FF W [k]) with
  |none=>
   have:d5 w (FF W [k])=.non:=by rw[←HA,h];rfl
   rw[this];exact Rp.non.up (by decide) (by decide)
  |some ns=>
   obtain⟨_,y,_,h7,hn,e⟩:=yt W hw h;rw[e];exact(EZ (ks:=y) (n:=7) h7 (λn hn'=>PK (hn n hn') (by decide))).up (by decide) (by decide)
 exact(Rp.tup (jK.cons ((NT W hw).up (by decide:400<=400) (by decide:1<=2)) (jK.cons hwy jK.nil))).up (by show 400+(2000+0)+2*2+3<=3000;decide) (by decide)
end
def By{x:Nat}{js:bm}{f:al}{g:List WE->Ev->ac->ai cw}{ρ:Ev}{st ds:ac}{es:List WE}(h1:f (iY js ρ)=.ok (.lst ds))(h2:yx ds=some es)(h3:Jj js ρ=true/\kz ρ=true/\ds.length<line/\x<ρ.length):kK x js f g ρ st=g es (ρ.set x .no) st:=by
 unfold kK;rw[h1];dsimp only;rw[h2];exact if_pos h3
def Bp{x:Nat}{f:al}{s:Ev->ac->ai cw}{g:List WE->Ev->ac->ai cw}{es:List WE}{ρ:Ev}{st:ac}(h:f (vx x (.lst (es.map fT)) ρ)=.ok (.bl false)):Ea x f s g es ρ st=g es ρ st:=by
 unfold Ea;rw[h];rfl
def Bn{x i:Nat}{f:al}{g:List WE->Ev->ac->ai cw}{es:List WE}{ρ:Ev}{st:ac}{z:PY}(h:f (vx x (.lst (es.map fT)) ρ)=.ok (.str z))(hx:x≠i):oK x i f g es ρ st=g es (ρ.set i (.sh (.str z))) st:=by
 unfold oK;rw[h];exact if_pos hx
def Bo{x i:Nat}{f:al}{g:List WE->Ev->ac->ai cw}{es:List WE}{ρ:Ev}{st:ac}{ns:List Int}(h:f (vx x (.lst (es.map fT)) ρ)=.ok (.lst (ns.map D.int)))(hx:x≠i):oN x i f g es ρ st=g es (ρ.set i (.sh (.lst (ns.map D.int)))) st:=by
 unfold oN;rw[h];show(match nV (ns.map D.int) with
  |some ns=>if x≠i then g es (ρ.set i (.sh (.lst (ns.map D.int)))) st else .stuck
  |none=>.stuck)=_
 rw[mJ];exact if_pos hx
def lw(e:WE):Int:=match e.2 with
 |none=>0
 |some ns=>1+(ns.length:Int)
def xG{ρ:Ev}{es:List WE}(hl:es.length<=1000):fN 2 [] (dN [0,1]) mYes (rJ (ae (aa 1) (dC (.non)) c3) (dC (.int 0)) (ae (dC (.int 1)) (ao (ag (aa 1) aC) (m1 bS)) cj)) ρ (es.map fT)=.ok (.lst ((es.map lw).map D.int)):=by
 have:=K51.comp_pick (n:=2) (fr':=[]) (ρ:=ρ) (tg:=dN [0,1]) (tt:=mYes) (fe:=rJ (ae (aa 1) (dC (.non)) c3) (dC (.int 0)) (ae (dC (.int 1)) (ao (ag (aa 1) aC) (m1 bS)) cj)) fT (λe=>some (D.int (lw e))) (L:=es) (by omega) λe _=>by
  obtain⟨d,o⟩:=e;refine⟨[.sh d,.sh (B2 o)],we rfl,.inr ⟨_,rfl,rfl,?_⟩⟩;cases o with
  |none=>rfl
  |some ns=>
   have h1:c3 (.lst (ns.map D.int)) .non=.ok (.bl false):=rfl;have h2:bS (.lst (ns.map D.int))=.ok (.int ns.length):=by rw[dm,Pz]
   have h3:cj (.int 1) (.int ns.length)=.ok (.int (1+(ns.length:Int))):=rfl;show _=ai.ok (D.int (1+(ns.length:Int)));unfold B2;open_line with[h1,h2,h3]
 rw[this,UE,QH];rfl
def yh{ρ:Ev}{es:List WE}(hl:es.length<=1000):fN 2 [] (dN [0,1]) mYes (rJ (ae (aa 1) (dC (.non)) c3) (dC (.int 0)) (ao (ag (aa 1) aC) (m1 bS))) ρ ((es.map (gs 99)).map fT)=.ok (.lst ((es.map lw).map D.int)):=by
 have:=K51.comp_pick (n:=2) (fr':=[]) (ρ:=ρ) (tg:=dN [0,1]) (tt:=mYes) (fe:=rJ (ae (aa 1) (dC (.non)) c3) (dC (.int 0)) (ao (ag (aa 1) aC) (m1 bS))) (λe=>fT (gs 99 e)) (λe=>some (D.int (lw e))) (L:=es) (by omega) λe _=>by
  obtain⟨d,o⟩:=e;refine⟨[.sh d,.sh (B2 (o.map (·++[99])))],we rfl,.inr ⟨_,rfl,rfl,?_⟩⟩;cases o with
  |none=>rfl
  |some ns=>
   have h1:c3 (.lst ((ns++[99]).map D.int)) .non=.ok (.bl false):=rfl;have h2:bS (.lst ((ns++[99]).map D.int))=.ok (.int (1+(ns.length:Int))):=by rw[dm,Pz,Qs,Int.add_comm];rfl
   show _=ai.ok (D.int (1+(ns.length:Int)));show _=_;unfold Option.map B2;open_line with[h1,h2]
 rw[QH];rw[show(fT∘gs 99)=(λe=>fT (gs 99 e)) from rfl,this,UE,QH];rfl
noncomputable abbrev zc(a:Py):Ev->ac->ai cw:=(bM (e9 3 (cC 2 a (bR (mP (dC (.int 7))) (bR (mP (dC (.int 14))) dE)) dq))
 (bM (eW (bq 4 (ao (ag (aa 3) aC) (m1 eN))))
 (kK 5 [3] (ao (ag (aa 3) aC) cB)
 (Ea 5 (cJ (ao (ag (aa 3) (ag (aa 5) aC)) cP))
 (bM (gD (dC (.bl false)))
 cK)
 (oK 5 6 (ao (ag (aa 5) aC) (m1 eN))
 (oN 5 7 (cL 2 [] (iz (aa 5)) (dN [0,1]) mYes (rJ (ae (aa 1) (dC (.non)) c3) (dC (.int 0)) (ae (dC (.int 1)) (ao (ag (aa 1) aC) (m1 bS)) cj)))
 (Bq 5 8 9 99
 (Ea 5 (ae (aa 7) (cL 2 [] (iz (aa 5)) (dN [0,1]) mYes (rJ (ae (aa 1) (dC (.non)) c3) (dC (.int 0)) (ao (ag (aa 1) aC) (m1 bS)))) fY)
 (bM (gD (dC (.bl false)))
 cK)
 (Br
 (bM (FA (mT (gV (ae (ao (ag (ao (ag (aa 3) aC) dB) aC) (m1 eN)) (aa 6) fY) (ae (ao (ag (aa 3) aC) (m1 eN)) (aa 4) fY)))
 (bM (gD (dC (.bl false)))
 cK)
 cK)
 cK))))))))))
def Fv{ns:List Int}:fY (.lst (ns.map D.int)) (.lst (ns.map D.int))=.ok (.bl false):=by
 have h:br 40 (.lst (ns.map D.int))=true:=P7.mpr λd hd=>by
  obtain⟨n,_,rfl⟩:=Qp.mp hd;rfl
 unfold fY;rw[if_pos ⟨h,h⟩,ie 40 _ h];rfl
def Bt(a:Py){d0 d1:D}{st:ac}(S:St st):∃y3 y4 y6 y7 st',zc a [.sh d0,.sh d1,.pt a,.no,.no,.no,.no,.no,.no,.no] st=.ok (.nx [.sh d0,.sh d1,.pt a,y3,y4,.no,y6,y7,.no,.no] st'):=by
 obtain⟨w,st1,t1,W,hw,S1⟩:=Es a (p:=7) (q:=14) ⟨by decide,by decide⟩ (by decide) S;have t1:dq a st [.int 7,.int 14]=.ok (aL w,st1):=t1;have t14:=W.t14;obtain⟨z,hz⟩:∃z,eN (aL w)=.ok (.str z):=K17.rp_tup (II W) (by decide) (by decide);obtain⟨z',hz'⟩:=EY W hw;have hU:=Nb W hw;have hA:=KU W hw;have hR:=B1 W hw;have hel:(gP W).length=w.ts.length:=by unfold gP rng;rw[Pz,SY]
 have htl:(gP W).map fT=tL W:=by
  unfold gP;rw[QH];exact Sh λk _=>HB W k
 have hez:∀z:PY,fY (.str z) (.str z)=.ok (.bl false):=λz=>by rw[K11.ne_str,decide_eq_true rfl];rfl
 have hun:yx ((gP W).map fT)=some (gP W):=Bs W (rng w.ts.length);have hlens:CU (gP W)=true:=P7.mpr λe he=>by
  obtain⟨k,_,rfl⟩:=Qp.mp he;unfold el;cases h:Hr w (FF W [k]) with|none=>rfl|some ns=>exact decide_eq_true (Qu (yt W hw h).1 (by decide))
 have hc1:=λρ=>xG (ρ:=ρ) (es:=gP W) (by omega);have hc2:=λρ=>yh (ρ:=ρ) (es:=gP W) (by omega);rw[htl]at hc1;have hni:=Fv (ns:=(gP W).map lw);have e1:(ao (ag (aa 3) aC) cB) (iY [3] [.sh d0,.sh d1,.pt a,.sh (aL w),.sh (.str z),.no,.no,.no,.no,.no])=.ok (.lst ((gP W).map fT)):=by
  show(ao (ag (aa 3) aC) cB) [.no,.no,.no,.sh (aL w),.no,.no,.no,.no,.no,.no]=_;open_line with[hU]
 have k1:Jj [3] [.sh d0,.sh d1,.pt a,.sh (aL w),.sh (.str z),.no,.no,.no,.no,.no]=true:=by
  show(plainD (aL w)&&true)=true;rw[K14.plain_web];rfl
 have e2:(cJ (ao (ag (aa 3) (ag (aa 5) aC)) cP)) (vx 5 (.lst ((gP W).map fT)) [.sh d0,.sh d1,.pt a,.sh (aL w),.sh (.str z),.no,.no,.no,.no,.no])=.ok (.bl false):=by
  rw[htl];show(cJ (ao (ag (aa 3) (ag (aa 5) aC)) cP)) [.sh d0,.sh d1,.pt a,.sh (aL w),.sh (.str z),.sh (.lst (tL W)),.no,.no,.no,.no]=_;open_line with[hR]
 have e3:(ao (ag (aa 5) aC) (m1 eN)) (vx 5 (.lst ((gP W).map fT)) [.sh d0,.sh d1,.pt a,.sh (aL w),.sh (.str z),.no,.no,.no,.no,.no])=.ok (.str z'):=by
  rw[htl];show(ao (ag (aa 5) aC) (m1 eN)) [.sh d0,.sh d1,.pt a,.sh (aL w),.sh (.str z),.sh (.lst (tL W)),.no,.no,.no,.no]=_;open_line with[hz']
 have e4:(cL 2 [] (iz (aa 5)) (dN [0,1]) mYes (rJ (ae (aa 1) (dC (.non)) c3) (dC (.int 0)) (ae (dC (.int 1)) (ao (ag (aa 1) aC) (m1 bS)) cj))) (vx 5 (.lst ((gP W).map fT)) [.sh d0,.sh d1,.pt a,.sh (aL w),.sh (.str z),.no,.sh (.str z'),.no,.no,.no])=.ok (.lst (((gP W).map lw).map D.int)):=by
  rw[htl];show(cL 2 [] (iz (aa 5)) (dN [0,1]) mYes (rJ (ae (aa 1) (dC (.non)) c3) (dC (.int 0)) (ae (dC (.int 1)) (ao (ag (aa 1) aC) (m1 bS)) cj))) [.sh d0,.sh d1,.pt a,.sh (aL w),.sh (.str z),.sh (.lst (tL W)),.sh (.str z'),.no,.no,.no]=_;open_line with[oo,hc1]
 have e5:(ae (aa 7) (cL 2 [] (iz (aa 5)) (dN [0,1]) mYes (rJ (ae (aa 1) (dC (.non)) c3) (dC (.int 0)) (ao (ag (aa 1) aC) (m1 bS)))) fY) (vx 5 (.lst (((gP W).map (gs 99)).map fT)) [.sh d0,.sh d1,.pt a,.sh (aL w),.sh (.str z),.no,.sh (.str z'),.sh (.lst (((gP W).map lw).map D.int)),.no,.no])=.ok (.bl false):=by
  show(ae (aa 7) (cL 2 [] (iz (aa 5)) (dN [0,1]) mYes (rJ (ae (aa 1) (dC (.non)) c3) (dC (.int 0)) (ao (ag (aa 1) aC) (m1 bS)))) fY) [.sh d0,.sh d1,.pt a,.sh (aL w),.sh (.str z),.sh (.lst (((gP W).map (gs 99)).map fT)),.sh (.str z'),.sh (.lst (((gP W).map lw).map D.int)),.no,.no]=_;open_line with[oo,hc2,hni]
 have g1:∀g:List WE->Ev->ac->ai cw,kK 5 [3] (ao (ag (aa 3) aC) cB) g [.sh d0,.sh d1,.pt a,.sh (aL w),.sh (.str z),.no,.no,.no,.no,.no] st1=g (gP W) [.sh d0,.sh d1,.pt a,.sh (aL w),.sh (.str z),.no,.no,.no,.no,.no] st1:=λg=>
  By e1 hun ⟨k1,rfl,by rw[Pz,hel];exact Qu t14 (by decide),by show 5<10;decide⟩
 have g2:∀(s:Ev->ac->ai cw) (g:List WE->Ev->ac->ai cw),Ea 5 (cJ (ao (ag (aa 3) (ag (aa 5) aC)) cP)) s g (gP W) [.sh d0,.sh d1,.pt a,.sh (aL w),.sh (.str z),.no,.no,.no,.no,.no] st1=g (gP W) [.sh d0,.sh d1,.pt a,.sh (aL w),.sh (.str z),.no,.no,.no,.no,.no] st1:=λs g=>Bp e2;have g3:∀g:List WE->Ev->ac->ai cw,oK 5 6 (ao (ag (aa 5) aC) (m1 eN)) g (gP W) [.sh d0,.sh d1,.pt a,.sh (aL w),.sh (.str z),.no,.no,.no,.no,.no] st1=g (gP W) [.sh d0,.sh d1,.pt a,.sh (aL w),.sh (.str z),.no,.sh (.str z'),.no,.no,.no] st1:=λg=>Bn e3 (by decide);have g4:∀g:List WE->Ev->ac->ai cw,oN 5 7 (cL 2 [] (iz (aa 5)) (dN [0,1]) mYes (rJ (ae (aa 1) (dC (.non)) c3) (dC (.int 0)) (ae (dC (.int 1)) (ao (ag (aa 1) aC) (m1 bS)) cj))) g (gP W) [.sh d0,.sh d1,.pt a,.sh (aL w),.sh (.str z),.no,.sh (.str z'),.no,.no,.no] st1=g (gP W) [.sh d0,.sh d1,.pt a,.sh (aL w),.sh (.str z),.no,.sh (.str z'),.sh (.lst (((gP W).map lw).map D.int)),.no,.no] st1:=λg=>Bo e4 (by decide);have g5:∀g:List WE->Ev->ac->ai cw,Bq 5 8 9 99 g (gP W) [.sh d0,.sh d1,.pt a,.sh (aL w),.sh (.str z),.no,.sh (.str z'),.sh (.lst (((gP W).map lw).map D.int)),.no,.no] st1=g ((gP W).map (gs 99)) [.sh d0,.sh d1,.pt a,.sh (aL w),.sh (.str z),.no,.sh (.str z'),.sh (.lst (((gP W).map lw).map D.int)),.no,.no] st1:=λg=>if_pos ⟨rfl,hlens,by decide,by decide,by decide,by show 9<10;decide⟩;have g6:∀(s:Ev->ac->ai cw) (g:List WE->Ev->ac->ai cw),Ea 5 (ae (aa 7) (cL 2 [] (iz (aa 5)) (dN [0,1]) mYes (rJ (ae (aa 1) (dC (.non)) c3) (dC (.int 0)) (ao (ag (aa 1) aC) (m1 bS)))) fY) s g ((gP W).map (gs 99)) [.sh d0,.sh d1,.pt a,.sh (aL w),.sh (.str z),.no,.sh (.str z'),.sh (.lst (((gP W).map lw).map D.int)),.no,.no] st1=g ((gP W).map (gs 99)) [.sh d0,.sh d1,.pt a,.sh (aL w),.sh (.str z),.no,.sh (.str z'),.sh (.lst (((gP W).map lw).map D.int)),.no,.no] st1:=λs g=>Bp e5;have g7:∀(r:Ev->ac->ai cw) (es:List WE),Br r es [.sh d0,.sh d1,.pt a,.sh (aL w),.sh (.str z),.no,.sh (.str z'),.sh (.lst (((gP W).map lw).map D.int)),.no,.no] st1=r [.sh d0,.sh d1,.pt a,.sh (aL w),.sh (.str z),.no,.sh (.str z'),.sh (.lst (((gP W).map lw).map D.int)),.no,.no] st1:=λr es=>if_pos rfl;refine⟨.sh (aL w),.sh (.str z),.sh (.str z'),.sh (.lst (((gP W).map lw).map D.int)),st1,?_⟩;open_line with[t1,hz,g1,g2,g3,g4,g5,g6,g7,hA,hz',hez]
def CV(ns:List Int)(hn:ns.length<=63):m_law [.lst (ns.map D.int)]=.ok (.bl true):=by
 obtain⟨q,m,hm,h1,hq⟩:∃(q:Int) (m:Nat),m<=4/\G5 (.int ns.length) (.int 4)=.ok (.int q)/\(if q > 1 then q else 1)=(m:Int):=by
  have h1:G5 (.int ns.length) (.int 4)=.ok (.int (if(4:Int)<ns.length then 4 else ns.length)):=rfl;refine⟨_,(if(if(4:Int)<ns.length then 4 else(ns.length:Int)) > 1 then(if(4:Int)<ns.length then 4 else(ns.length:Int)) else 1).toNat,?_,h1,?_⟩
  .split<;>split<;>omega
  .split<;>split<;>omega
 have hstep:∀k,k<m->∀ρ:Ev,(∃s,ρ=[.sh (.lst (ns.map D.int)),s,.no,.no,.no,.no,.no,.no,.no,.no]) ->
   ∃ρ2,(kJ 2 (ao (ag (aa 0) (ag (aa 1) aC)) b7) λa=>zc a) (ρ.set 1 (.sh (.int (k:Int))))=.ok (.nx ρ2)/\∃s,ρ2=[.sh (.lst (ns.map D.int)),s,.no,.no,.no,.no,.no,.no,.no,.no]:=by
  rintro k hk ρ ⟨s,rfl⟩;obtain⟨st,hb,S⟩:=D3 ns k (by omega) hn;refine⟨[.sh (.lst (ns.map D.int)),.sh (.int (k:Int)),.no,.no,.no,.no,.no,.no,.no,.no],?_,_,rfl⟩;have h1:(ao (ag (aa 0) (ag (aa 1) aC)) b7) [.sh (.lst (ns.map D.int)),.sh (.int (k:Int)),.no,.no,.no,.no,.no,.no,.no,.no]=.ok (.lst st):=by
   open_line with[hb]
  show kJ 2 _ _ [.sh (.lst (ns.map D.int)),.sh (.int (k:Int)),.no,.no,.no,.no,.no,.no,.no,.no]=_;unfold kJ;rw[h1,lS];unfold uy;show(if _ then _ else _)=_;rw[if_pos ⟨rfl,(by show 2<10;decide)⟩];refine FD λa=>?_;obtain⟨y3,y4,y6,y7,st',e⟩:=Bt a (d0:=.lst (ns.map D.int)) (d1:=.int (k:Int)) S;show zB 2 (zc a [.sh (.lst (ns.map D.int)),.sh (.int (k:Int)),.pt a,.no,.no,.no,.no,.no,.no,.no] st)=_;rw[e];rfl
 obtain⟨ρ',hf,s,rfl⟩:=oj (i:=1) (body:=(kJ 2 (ao (ag (aa 0) (ag (aa 1) aC)) b7) λa=>zc a)) (λ_ ρ=>∃s,ρ=[.sh (.lst (ns.map D.int)),s,.no,.no,.no,.no,.no,.no,.no,.no]) (n:=m) hstep (ρ:=[.sh (.lst (ns.map D.int)),.no,.no,.no,.no,.no,.no,.no,.no,.no]) ⟨.no,rfl⟩;have hfr:=λs:am=>eL (tg:=bJ 1) (s:=s) (ρ:=[.sh (.lst (ns.map D.int)),.no,.no,.no,.no,.no,.no,.no,.no,.no]) (k:=m) (by omega);unfold m_law HQ;open_line with[Pz,h1,hq,hfr,hf]
end K19
namespace K19
open PySem L2 DL
def sp_law(K:Px)(H:Hp)(a:Py)(ns:List Int)(hl:ns.length<=63)(hS:dR K H a (ns.map V.int)):spD K 1 m_law [.ref a] H (λv _=>v=.bl true) λ_ _ _=>False:=by
 refine⟨rfl,H,[.lst (ns.map D.int)],aB.refl _,Reps.cons (aF.mpr ⟨a,_,rfl,hS,Reps.ints ns⟩) Reps.nil,?_⟩;rw[CV ns hl];exact λv H' Ha' _ r=>aI.mp r
end K19
structure PySem.W.Fast:Prop where(tw12998501645134365765 tw2475725371952390746 tw17928886018186244429 tw10719829541339526627 tw140803650986922485 tw14842261841672549670 tw7935154604002572430 tw10739676371666236808 tw4099472137306920658 tw6755449400850331413 tw7477970286011351778 tw6722147622461182649 tw1315166803683631597 tw16142293242016860644 tw13173842765241655522 tw9177375389791093153 tw10911272795822303612 tw8078899081515970864 tw15397453111318481781 tw10773529402170308137 tw16776267791757478722 tw318006535445420278 tw12577288933834161720 tw12318033655476840747 tw7805609115955596372 tw8994459483872510771 tw3306133521615232907 tw6822946754937409453 tw3374848480872533148 tw5072260623226146708 tw16530026147187937261 tw13698173680239039973 tw3859800969608500637 tw1256219435307086020 tw8819752004213706037 tw7447351472645257970 tw1173640825256130192 tw2627328762911665228 tw1925058433620648313 tw2951538003960569364 tw15271472340646709021 tw11086549071280721265 tw13660775358180224240 tw3517987333736698452 tw18237658981393766291 tw11678083526620338095 tw1491274904887820417 tw5887569727186588367 tw10837255011362580881 tw2113316756431583904 tw5438440179495372022 tw11995972781377081626 tw3140053023173374244 tw2716931829190488631 tw14418361540847543892 tw10731708742301229823 tw14902963267341129109 tw6871986972714241852 tw5750291115484136287 tw8053296865743346765 tw12579706233712034070 tw6772036576167456805 tw10284233144946828446 tw12590947599414374561 tw2824017654390417972 tw15623570807717460813 tw11238068332830800018 tw11247458716145085814 tw12447499518882529485 tw8133513206989520601 tw6123452386357319199 tw12814979326764904282 tw8809400612153857481 tw4571047328501891922 tw4243144683212848711 tw6990265052281211924 tw16137973408131959578 tw14869831061780890420 tw10066281051135998362 tw2243839458977968293 tw2447142330206851013 tw5698527554179733174 tw6955067530326540073 tw12913563135750084140 tw1352287755971528637 tw10027441602141734469 tw14449608971431149868 tw2826178665272143312 tw17697077805884340703 tw4026286004571407769 tw13984341916323469022 tw8673280466025081735 tw2719272281698032022 tw14751185418980167509 tw6530566447553464289 tw4321148515203253402 tw7979079947273907546 tw16054263600036309978 tw4552563445546137482 tw17729866254916012909 tw2205581489040937430 tw15615302591742117990 tw12345048864986943884 tw3552351500498071143 tw8522441993249590619 tw4211207840901313357 tw5095602832425190478 tw1590869332999127496:True)
open PySem PySem.W PyProof.Rows
set_option maxRecDepth 100000 in
set_option maxHeartbeats 0 in
theorem PySem.Challenge.cw_farthestcut_k19_values_at_once_holds : PySem.Challenge.rw_farthestcut_k19_values_at_once.Holds := by
 w_on;o_law;k_head;(case hw=>w_witness2)
 k_fill
 refine L2.walk_ofK (l:=PySem.Challenge.rw_farthestcut_k19_values_at_once) (n:=63) (k:=8) (x:="_law_script") (CX:=L2.CX0) (sp:=fun K=>DL.spD K 1 K19.m_law) ?I rfl (by decide) rfl ⟨rfl,by decide,by decide,rfl⟩ (fun w h Y=>W.kIn_of Y) ?F ?S ?C
 case S=>exact fun K H a ns hl _ hS=>K19.sp_law K H a ns hl hS
 case C=>exact fun _ _ _ _ h=>h
 case I=>rfl
 case F =>
  intro w mg fa h KX G hmg;have T:∃ t:K19.Adr,K19.Txt (L2.KOf KX) mg t/\mg "law"=some (.ref (t.A 42))/\∃ kV doc pm an cdv ct,t.Q 42=Sq "law" "law" (L2.defArgs (K19.top 71)) (L2.defBody (K19.top 71)) (L2.defScope (K19.top 71)) .none kV doc pm an cdv ct:=by
   dsimp only[L2.KOf];refine' K19.txt_wr (K19.txt_mk KX G ?QS ?_ ?_ ?_ ?_ ?_ ?_ ?_ ?_ ?_ ?_ ?_ ?_ ?_ ?_ ?_ ?_ ?_ ?_ ?_ ?_ ?_ ?_ ?_ ?_ ?_ ?_ ?_ ?_ ?_ ?_ ?_ ?_)
   case' QS=>iterate 43 refine DL.QAs.cons ⟨by k_is,by k_is,_,_,_,_,_,_,_,_,_,by k_is,by k_is⟩ ?_
   case QS=>trivial
   all_goals try first |k_is |k_exc |rfl
   exact⟨_,_,_,_,[.str "one",.str "both"],rfl,.cons ⟨_,rfl⟩ (.cons ⟨_,rfl⟩ (.nil)),by decide,fun H=>DL.Reps.cons (DL.Rep.str_iff.mpr rfl) (DL.Reps.cons (DL.Rep.str_iff.mpr rfl) (DL.Reps.nil))⟩
  obtain⟨t,T,e0,kV,doc,pm,an,cdv,ct,ed⟩:=T;have e1:=hmg.symm.trans e0;cases e1;refine⟨t.Q 42,fun s u=>?_,fun base kb nb=>(K19.ok_law T).F⟩;rw[ed];exact .of_eq rfl
